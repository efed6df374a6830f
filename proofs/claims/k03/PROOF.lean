import PyProof.Rows.All
import Wide.All
import OpenK.AllK
import Wide.FinOn
import Lean
import PyProof.EqAt
import PyProof.EqKinds
import PyProof.TupleCall
import PyProof.NeKinds
import KE.LcSums
import KE.KRevSl
import OpenK.KTop
import PyProof.Draws
import PyProof.EnumMake
import KE.KIntText
import KE.KxText
import PyProof.StrLawsTight
import PyProof.StrLawsChain
import PyProof.StrLawsIn
import PyProof.StrLawsJoin
import PyProof.CallStr
import PyProof.MeetsStr
import PyProof.MeetsStr2
import PyProof.StrCalls2
import PyProof.StrLoop
import PyProof.ConsumeWalk
import PyProof.ExcBaseAll.ValueError
import PyProof.NsDelKeeps
import KE.KIsAll
import PyProof.ExcAttrAll.ValueError
import PyProof.ExcInit
import PyProof.InstStoreFacts
import PyProof.StrBlockI
import PyProof.StrOps2
import KE.RegKIsAll
import PySem.Challenge.RW_asitruns_k03_bad_row
set_option Elab.async false
set_option linter.all false
set_option maxRecDepth 100000
set_option hygiene false
local macro_rules|`(tactic|k_dat 0"r0")=>`(tactic|(obtain⟨φ,st,ρ,P,pre,ht,hq⟩:=h))
local macro_rules|`(tactic|k_dat 0"r1")=>`(tactic|(intro pins s σ H Q I h))
local macro_rules|`(tactic|k_dat 0"r2")=>`(tactic|(obtain⟨φ,st,ρ,P,pre,ht,n,b,c,r⟩:=h))
local macro_rules|`(tactic|k_dat 0"r3")=>`(tactic|(intro pins s σ H x y v u Q I rx ry h))
local macro_rules|`(tactic|k_dat 0"r4")=>`(tactic|(simp only [DL] at h))
local macro_rules|`(tactic|k_dat 0"r5")=>`(tactic|(intro pins s σ H v w u1 u2 Q I r1 r2 h))
local macro_rules|`(tactic|k_dat 0"r6")=>`(tactic|(obtain⟨φ,st,x,y,P,R,dx,dy,hr,hq⟩:=h))
local macro_rules|`(tactic|k_dat 0"r7")=>`(tactic|(intro X hP hw hK hc i pins s σ H E I hf st hg))
local macro_rules|`(tactic|k_dat 0"r8")=>`(tactic|(obtain⟨t,rfl⟩:=rx))
local macro_rules|`(tactic|k_dat 0"r9")=>`(tactic|(intro pins s σ H D I h))
local macro_rules|`(tactic|k_dat 0"r10")=>`(tactic|(obtain⟨x,H1,I1,r1,q1⟩:=hqz))
local macro_rules|`(tactic|k_dat 0"r11")=>`(tactic|(obtain⟨t',rfl⟩:=ry))
local macro_rules|`(tactic|k_dat 0"r12")=>`(tactic|(refine⟨φ,st,ρ,_,pre,ht,fun x st1 h1 φ1 H1 v b1 dx=>?_⟩))
local macro_rules|`(tactic|k_dat 0"r13")=>`(tactic|(have q:=of_decide_eq_true q))
local macro_rules|`(tactic|k_dat 0"r14")=>`(tactic|(obtain⟨f0,f1,f2,f3,f4,f5⟩:=hf it (by simp)))
local macro_rules|`(tactic|k_dat 0"r15")=>`(tactic|(intro pins s σ H vs us Q I rv h))
local macro_rules|`(tactic|k_dat 0"r16")=>`(tactic|(obtain⟨φ,st,ds,P,R,dl,hr,hq⟩:=h))
local macro_rules|`(tactic|k_dat 0"r17")=>`(tactic|(rcases List.mem_cons.mp hb with rfl | hb))
local macro_rules|`(tactic|k_dat 0"r18")=>`(tactic|(rcases ds with _ | ⟨x,_ | ⟨y,r⟩⟩))
local macro_rules|`(tactic|k_dat 0"r19")=>`(tactic|(obtain⟨v,rfl,dx⟩:=dl.one))
local macro_rules|`(tactic|k_dat 0"r20")=>`(tactic|(refine wpAny_bind (wpAny_pure ?_)))
local macro_rules|`(tactic|k_dat 0"r21")=>`(tactic|(have:b=it:=by simpa using hb))
local macro_rules|`(tactic|k_dat 0"r22")=>`(tactic|(obtain⟨⟨old,he⟩,hit⟩:=st))
local macro_rules|`(tactic|k_dat 0"r23")=>`(tactic|(obtain⟨o',e1⟩:=I.base.there b o e hx))
local macro_rules|`(tactic|k_dat 0"r24")=>`(tactic|(intro pins s σ H x vs v us Q I rx rv h))
local macro_rules|`(tactic|k_dat 0"r25")=>`(tactic|(refine⟨φ,st,ρ,_,pre,ht,fun d st1 h1 φ1 H1 v b1 dx=>?_⟩))
local macro_rules|`(tactic|k_dat 0"r26")=>`(tactic|(refine⟨φ,st,ρ,_,pre,ht,fun k st1 h1 φ1 H1 b1=>?_⟩))
local macro_rules|`(tactic|k_dat 0"r27")=>`(tactic|(rcases ds with _ | ⟨d,_ | ⟨d2,r⟩⟩))
local macro_rules|`(tactic|k_dat 0"r28")=>`(tactic|(refine qz (qW (qF rfl) qH (by decide) (by decide) _ ?_)))
local macro_rules|`(tactic|k_dat 0"r29")=>`(tactic|(obtain⟨sl,e1⟩:=I.base.slot b o e n hb hx))
local macro_rules|`(tactic|k_dat 0"r30")=>`(tactic|(exact I1.qIe (Nat.le_refl _) (I1.hok.fresh (Nat.le_refl _))))
local macro_rules|`(tactic|k_dat 0"r31")=>`(tactic|(intro pins s σ H x v vl vu lo hi sl Q I rx hs pl pu h))
local macro_rules|`(tactic|k_dat 0"r32")=>`(tactic|(rw [show its.toArray.any (eqU x)=its.any (eqU x) by simp,qCY r fs]))
local macro_rules|`(tactic|k_dat 0"r33")=>`(tactic|(obtain⟨vs,(h | ⟨ob,h⟩) | h⟩:=h))
local macro_rules|`(tactic|k_dat 0"r34")=>`(tactic|(obtain⟨φ,st,ds,Pd,R,dl,hs,hq⟩:=h))
local macro_rules|`(tactic|k_dat 0"r35")=>`(tactic|(obtain⟨i0,i1,i2,i3,i4,i5⟩:=hf it (by simp)))
local macro_rules|`(tactic|k_dat 0"r36")=>`(tactic|(rw [z,q1] at q4;cases q4;rw [q2] at q5;injection q5 with q7;exact absurd q7 (by decide)))
local macro_rules|`(tactic|k_dat 0"r37")=>`(tactic|(have:=congrArg (fun x:Option SO=>x.map fun o=>o.items.length) e2))
local macro_rules|`(tactic|k_dat 0"r38")=>`(tactic|(intro value slice pins s σ H x y v u Q I rx ry h hs))
local macro_rules|`(tactic|k_dat 0"r39")=>`(tactic|(obtain⟨oc,od,kV,doc,pm,an,cdv,ct,osl,rfl,lk,hcd⟩:=F.ex))
local macro_rules|`(tactic|k_dat 0"r40")=>`(tactic|(exact (no h1 h2 (fun _ z=>by cases z) (fun _ _ z=>by cases z)).elim))
local macro_rules|`(tactic|k_dat 0"r41")=>`(tactic|(have l1:its.toArray.size=a.length:=rv.length.symm.trans hd.length.symm))
local macro_rules|`(tactic|k_dat 0"r42")=>`(tactic|(have l2:its2.toArray.size=b.length:=rv2.length.symm.trans hd2.length.symm))
local macro_rules|`(tactic|k_dat 0"r43")=>`(tactic|(refine⟨φ,st,ρ,_,pre,ht,fun items ok st1 h1 φ1 H1 J b1 hJ=>?_⟩))
local macro_rules|`(tactic|k_dat 0"r44")=>`(tactic|(have hk:Value.isStrOf y e.key=(k==y):=by rw [h1];rfl))
local macro_rules|`(tactic|k_dat 0"r45")=>`(tactic|(rw [beq_eq_false_iff_ne.mpr q,beq_eq_false_iff_ne.mpr (Ne.symm q)]))
local macro_rules|`(tactic|k_dat 0"r46")=>`(tactic|(obtain⟨nm,qn,N,bs,hdct,sn,sub,ab,col,dc,k0,k1,k2,k3,k5,lC,nO,nI⟩:=b.obj))
local macro_rules|`(tactic|k_dat 0"r47")=>`(tactic|(rcases k with _ | _ | _ | _ | _ | _ | _ | _ | _ | _ | _ | _ | _ | _ | _ | _ | k<;>first | decide +kernel | lia))
local macro_rules|`(tactic|k_dat 0"r48")=>`(tactic|(have:zs.length=ys.length:=by simpa [SO.items] using this))
local macro_rules|`(tactic|k_dat 0"r49")=>`(tactic|(refine (I.hok b ob e).stay (fun c w' hc q=>(hs.2 c ?_).trans q) (fun _ q=>q) fun _ _ q=>q))
local macro_rules|`(tactic|k_dat 0"r50")=>`(tactic|(have I1:Inv X pins σ H { s with heap:=h' }:=I.turned (t':=s.toks) (fun b o hb e=>(sb.2 b hb).trans e) f0 f1 f3 f4 f5))
local macro_rules|`(tactic|k_dat 0"r51")=>`(tactic|(exact thn (hr pos pins s1 σ H1 _ I1 q1) fun us s2 ⟨xs,H2,I2,r2,q2⟩=>⟨x::xs,H2,I2,.cons r1 r2,q2⟩))
local macro_rules|`(tactic|k_dat 0"r52")=>`(tactic|(show wpAny _ _ (if (((sIx items.size 0 lo:Nat):Int)==0&&(1:Int)==1&&(sIx items.size items.size hi - sIx items.size 0 lo)==items.size)=true then _ else _) _ _ s))
local macro_rules|`(tactic|k_dat 0"r53")=>`(tactic|(exact⟨φ1,st1,ρ,P,pre.on b1,h1,fun k st2 h2 φ2 H2 b2=>hq k st2 h2 φ2 H2 (b1.trans b2)⟩))
local macro_rules|`(tactic|k_dat 0"r54")=>`(tactic|(refine⟨φ,st,ρ,_,pre,ht,fun ds st1 h1 φ1 H1 vs b1 dx=>⟨by rw [← dx.length];exact h1.1,fun p hp=>?_⟩⟩))
local macro_rules|`(tactic|k_dat 0"r55")=>`(tactic|(have hu9:X.A.units+8+1<cLine:=Nat.lt_of_le_of_lt (Nat.add_le_add_left (by decide:9≤16) _) hu))
local macro_rules|`(tactic|k_dat 0"r56")=>`(tactic|(refine⟨φ,st,ρ,{ P with nx:=u P },pre,ht,fun ρ' st' hu φ' H' σ' bh dr=>?_,b,c,r⟩))
local macro_rules|`(tactic|k_dat 0"r57")=>`(tactic|(have I1:Inv X pins σ H { s with heap:=h' }:=I.kept (t':=s.toks) fun b o e=>hx b o (Nat.ne_of_lt (Heap.lt_size e)) e))
local macro_rules|`(tactic|k_dat 0"r58")=>`(tactic|(refine⟨φ',st',ρ',items[i],_,pre'.on b2,dy,step i _ ρ' st' ed hI,fun ρ3 st3 h3 φ3 H3 σ3 b3 d3=>?_⟩))
local macro_rules|`(tactic|k_dat 0"r59")=>`(tactic|(unfold Builtin.SmallTypes.nextOf;refine wpAny_bind (wpAny_callSpecial?_slot (name:=Str.ofString "__next__") hit.typeIs slot_tupleiter_next (wpAny_call_entry slot_tupleiter_next hit.typeIs entry_tupleiter_next ?_ (args_tupleiter_next _)))))
local macro_rules|`(tactic|k_dat 0"r60")=>`(tactic|(show wpAny _ _ (field (.ref it) 0 >>= _) _ _ s;refine wpAny_bind (wpAny_field ho hd (x:=.ref t) rfl ?_)))
local macro_rules|`(tactic|k_dat 0"r61")=>`(tactic|(show wpAny _ _ (if (Value.ref t==Value.none)=true then _ else _) _ _ s;rw [if_neg (show ¬ ((Value.ref t==Value.none)=true) from Bool.false_ne_true)]))
local macro_rules|`(tactic|k_dat 0"r62")=>`(tactic|(show wpAny _ _ (field (.ref it) 1 >>= _) _ _ s;refine wpAny_bind (wpAny_field ho hd (x:=.int i 0) rfl ?_)))
local macro_rules|`(tactic|k_dat 0"r63")=>`(tactic|(show wpAny _ _ (seqItems? (.ref t) >>= _) _ _ s;refine wpAny_bind (wpAny_seqItems hol hdl ?_);simp only [Int.toNat_natCast,hx]))
local macro_rules|`(tactic|k_dat 0"r64")=>`(tactic|(exact⟨⟨_,he,rfl⟩,h _ he ⟨_,Heap.get?_push_of_some _ (Heap.get?_push_size _ rfl),rfl,rfl⟩ (by rw [Heap.size_push,hz]) fun b o x=>Heap.get?_push_of_some _ (Heap.get?_push_of_some _ x)⟩))
local macro_rules|`(tactic|k_dat 0"r65")=>`(tactic|(refine wpAny_bind (wpAny_attempt (wpAny_callSpecial?_slot (name:=Str.ofString "__next__") hT F.slot_enumerate_next (wpAny_call_entry F.slot_enumerate_next hT F.entry_enumerate_next ?_ (F.args_enumerate_next_1 _))))))
local macro_rules|`(tactic|k_dat 0"r66")=>`(tactic|(exact wpAny_bind (wpAny_isInstance (T:= "StopIteration") (b:=true) ⟨o,ho,hc⟩ isSubtype_stop (wpAny_pure (hQ _ he')))))
local macro_rules|`(tactic|k_dat 0"r67")=>`(tactic|(refine⟨_,rfl,wpAny_letOwnedTupleGo_enum (s:={ s with heap:=h',toks:=tk+1 }) ho fun h2 he2 hs2=>?_⟩))
local macro_rules|`(tactic|k_dat 0"r68")=>`(tactic|(have hT2:h2.get? s.heap.objs.size=some { cls:=.type "tuple",data:=.seq #[.int ((i+1:Nat):Int) tk,x0] }:=(hs2.2 _ (Ne.symm (qBL (Heap.lt_size he) (Nat.le_refl _)))).trans hT))
local macro_rules|`(tactic|k_dat 0"r69")=>`(tactic|(have hk2:∀ b o,b≠e→b≠it→s.heap.get? b=some o→h2.get? b=some o:=fun b o hb hb2 q=>(hs2.2 b hb).trans (hk b o hb hb2 q)))
local macro_rules|`(tactic|k_dat 0"r70")=>`(tactic|(have nt:∀ b v,H b=some v→b≠e∧b≠it:=fun b v q=>⟨fun z=>(by rw [z,e0] at q;cases q),fun z=>(by rw [z,i0] at q;cases q)⟩))
local macro_rules|`(tactic|k_dat 0"r71")=>`(tactic|(refine⟨by show 2≤sizeLine;decide,[.int ((i+1:Nat):Int) tk,x0],.cons ⟨_,rfl⟩ (.cons ru .nil),⟨_,hT2,⟨rfl,rfl⟩,0,rfl⟩⟩))
local macro_rules|`(tactic|k_dat 0"r72")=>`(tactic|(refine (I.hok b v q).stay (fun c o hc y=>?_) (fun c y=>by rw [qL (qS y hp)];exact y) fun c ys y=>by rw [qL (qS y hp)];exact y))
local macro_rules|`(tactic|k_dat 0"r73")=>`(tactic|(have hsplit:splitId "BaseException.__getattribute__" = some ("BaseException", "__getattribute__"):=by decide +kernel))
local macro_rules|`(tactic|k_dat 0"r74")=>`(tactic|(rw [show (Value.builtin "BaseException.__getattribute__" == Value.builtin "object.__getattribute__")=false from by decide +kernel,Bool.and_false]))
local macro_rules|`(tactic|k_dat 0"r75")=>`(tactic|(rcases k with _ | _ | _ | _ | _ | _ | _ | _ | _ | _ | _ | _ | _ | _ | _ | _ | k<;>first | exact T.of (by decide +kernel) (by decide +kernel) | lia))
local macro_rules|`(tactic|k_dat 0"r76")=>`(tactic|(obtain⟨k,hk,h16⟩:∃ k:Nat,c / 3%16=(k:Int)∧k<16:=⟨(c / 3%16).toNat,by lia,by lia⟩))
local macro_rules|`(tactic|k_dat 0"r77")=>`(tactic|(simp only [tseq,qZ,qo,qD,qE,qC,qR,qI,qA,qG,qIf,qj,qCE,qO4,qEw,qAw,qBa,qBG,qN,qi,qLG,qM,qDi,qDE,qGp,qCD,qJn,qw,qy,qAj,qAO,qBs,qAB,qA3,qX,qk,qBb,L3.qa,qm,qc,qEQ,qAe,qe,qFO,qCc,qCu,qGX,qMT,List.map_cons,List.map_nil,List.length_cons,List.length_nil,List.cons_append,List.nil_append,List.replicate,List.set,List.getElem?_cons_zero,List.getElem?_cons_succ,Option.map_some,SO.items]))
local macro_rules|`(tactic|k_dat 0"r78")=>`(tactic|(refine hp _ _ ⟨_,qU,fun z hz=>ts z (List.mem_of_mem_drop (List.mem_of_mem_take hz)),?_⟩ (.app _ _)))
local macro_rules|`(tactic|k_dat 0"r79")=>`(tactic|(have b_x:∀ {te:TD} {ρ:Rho} {s:Sto} {P:Bool→Sto→Prop} {b:Bool},EvX te ρ s (.bl b)→(∀ s',qP s s'→P (!b) s')→qAw (qN te) ρ s P:=fun h q=>h _ q))
set_option hygiene true
namespace L2
open PySem PySem.Spec PyProof.Rows
noncomputable abbrev Key:=Sum Int Str
noncomputable def qMb:Key→Value→Bool
  | .inl k,v=>Value.isInt k v
  | .inr x,v=>Value.isStrOf x v
noncomputable def qQT (w:World):Key→Int
  | .inl k=>hashInt k
  | .inr x=>hashStr w x
theorem qp:∀ {k:Key} {v:Value},qMb k v=true→(∃ i t,k=Sum.inl i∧v=Value.int i t)∨(∃ x t,k=Sum.inr x∧v=Value.str x t)
  | .inl i,v,h=>by
    obtain⟨t,e⟩:=Value.isInt_shape (k:=i) (v:=v) h
    exact .inl ⟨i,t,rfl,e⟩
  | .inr x,v,h=>by
    obtain⟨t,e⟩:=Value.isStrOf_shape (x:=x) (v:=v) h
    exact .inr ⟨x,t,rfl,e⟩
theorem qOb (a b:Int):decide ((Sum.inl a:Key)=Sum.inl b)=(a==b):=by
  by_cases e:a=b
  · subst e;simp
  · have h:¬ (Sum.inl a:Key)=Sum.inl b:=fun q=>e (Sum.inl.inj q)
    rw [decide_eq_false h]
    exact (beq_eq_false_iff_ne.mpr e).symm
theorem qOh (a b:Str):decide ((Sum.inr a:Key)=Sum.inr b)=decide (a=b):=by
  by_cases e:a=b
  · subst e;simp
  · have h:¬ (Sum.inr a:Key)=Sum.inr b:=fun q=>e (Sum.inr.inj q)
    rw [decide_eq_false h,decide_eq_false e]
theorem qM1 (a:Int) (b:Str):decide ((Sum.inl a:Key)=Sum.inr b)=false:=decide_eq_false (fun q=>nomatch q)
theorem qOd (a:Str) (b:Int):decide ((Sum.inr a:Key)=Sum.inl b)=false:=decide_eq_false (fun q=>nomatch q)
noncomputable def qHX (prog:Program) (w:World):PySem.KeyKind prog w Key where
  is:=qMb
  hash:=qQT w
  inj :=fun v a b ha hb=>by
    rcases qp ha with ⟨i,t,rfl,rfl⟩ | ⟨x,t,rfl,rfl⟩
    · rcases qp hb with ⟨j,u,rfl,e⟩ | ⟨y,u,rfl,e⟩
      · injection e with e1 _;rw [e1]
      · exact nomatch e
    · rcases qp hb with ⟨j,u,rfl,e⟩ | ⟨y,u,rfl,e⟩
      · exact nomatch e
      · injection e with e1 _;rw [e1]
  byValue:=fun k v h=>by
    rcases qp h with ⟨i,t,rfl,rfl⟩ | ⟨x,t,rfl,rfl⟩<;>rfl
  pyHash:=fun hv h=>by
    rcases qp hv with ⟨i,t,rfl,rfl⟩ | ⟨x,t,rfl,rfl⟩
    · exact wpAny_pyHash_int h
    · exact wpAny_pyHash_str h
  eqBool:=fun hu hv h=>by
    rcases qp hu with ⟨i,t,rfl,rfl⟩ | ⟨x,t,rfl,rfl⟩
    · rcases qp hv with ⟨j,u,rfl,rfl⟩ | ⟨y,u,rfl,rfl⟩
      · rw [qOb] at h;exact wpAny_eqBool_int h
      · rw [qM1] at h;exact SeqAt.EqAt.int_str i t y u _ _ _ _ h
    · rcases qp hv with ⟨j,u,rfl,rfl⟩ | ⟨y,u,rfl,rfl⟩
      · rw [qOd] at h;exact SeqAt.EqAt.str_int x t j u _ _ _ _ h
      · rw [qOh] at h;exact wpAny_eqBool_str h
  «strs»:=fun k x t v h=>by
    rcases qp h with ⟨i,u,rfl,e⟩ | ⟨y,u,rfl,e⟩
    · exact nomatch e
    · injection e with e1 _
      subst e1
      cases v<;>rfl
end L2
namespace L2
open PySem PySem.Spec PyProof.Rows
inductive V where
  | non | bl (b:Bool) | int (i:Int) | str (x:Str) | byt (b:Array UInt8) | flt (b:UInt64) | ref (a:Addr) | ty (n:String)
  deriving DecidableEq
noncomputable def RelV:V→Value→Prop
  | .non,u=>u=Value.none
  | .bl b,u=>u=Value.bool b
  | .int i,u=>∃ t,u=Value.int i t
  | .str x,u=>∃ t,u=Value.str x t
  | .byt b,u=>∃ t,u=Value.bytes b t
  | .flt b,u=>∃ t,u=Value.float b t
  | .ref a,u=>u=Value.ref a
  | .ty n,u=>u=Value.type n
noncomputable abbrev Vals:List V→List Value→Prop:=Paired RelV
theorem Vals.length {xs:List V} {us:List Value} (r:Vals xs us):xs.length=us.length:=Paired.length r
theorem Vals.get:∀ {xs:List V} {us:List Value} {i:Nat} {x:V},Vals xs us→xs[i]? = some x→∃ u,us[i]? = some u∧RelV x u
  | _,_,_,_,.nil,e=>by simp at e
  | _,_,0,_,.cons r _,e=>by simp at e;subst e;exact⟨_,rfl,r⟩
  | _,_,i+1,x,.cons _ t,e=>by
    obtain⟨u,h1,h2⟩:=Vals.get (i:=i) (x:=x) t (by simpa using e)
    exact⟨u,by simpa using h1,h2⟩
theorem Vals.set {x:V} {u:Value} (r:RelV x u):∀ {xs:List V} {us:List Value} (i:Nat),Vals xs us→Vals (xs.set i x) (us.set i u)
  | _,_,_,.nil=>.nil
  | _,_,0,.cons _ t=>.cons r t
  | _,_,i+1,.cons q t=>.cons q (Vals.set r i t)
theorem Vals.append:∀ {xs ys:List V} {us ws:List Value},Vals xs us→Vals ys ws→Vals (xs++ys) (us++ws)
  | _,_,_,_,.nil,s=>s
  | _,_,_,_,.cons r t,s=>.cons r (Vals.append t s)
theorem Vals.take:∀ {xs:List V} {us:List Value} (n:Nat),Vals xs us→Vals (xs.take n) (us.take n)
  | _,_,0,_=>.nil
  | _,_,_+1,.nil=>.nil
  | _,_,n+1,.cons r t=>.cons r (Vals.take n t)
theorem Vals.drop:∀ {xs:List V} {us:List Value} (n:Nat),Vals xs us→Vals (xs.drop n) (us.drop n)
  | _,_,0,r=>r
  | _,_,_+1,.nil=>.nil
  | _,_,n+1,.cons _ t=>Vals.drop n t
noncomputable def qGm:Option V→Option Value→Prop
  | some v,some u=>RelV v u
  | none,none=>True
  | _,_=>False
noncomputable def KV {κ:Type}:List (κ×V)→List (κ×Value)→Prop:=Paired fun (p:κ×V) (q:κ×Value)=>p.1=q.1∧RelV p.2 q.2
noncomputable def kV:Key→V
  | .inl i=>.int i
  | .inr x=>.str x
inductive HO where
  /-- a list -/
  | lst (xs:List V)
  /-- a tuple (never changes) -/
  | tup (xs:List V)
  /-- a dict whose keys are ints and texts;one whose keys are tuples of ints and texts (the empty one is both) -/
  | dK (kvs:List (Key×V)) | dT (kvs:List (List Key×V))
  /-- a set of ints: its members,its size -/
  | set (S:Int→Bool) (n:Nat)
  /-- an instance of the class at C,its dict at dx,its attributes -/
  | ins (C dx:Addr) (fs:List (Str×V))
  /-- the dict of the instance at x -/
  | own (x:Addr)
  /-- the dict of an exception -/
  | xd (fs:List (Str×V))
  /-- a bound method,f of x -/
  | met (f x:Addr)
  /-- a range object lo,lo+1,.. below hi -/
  | rng (lo hi:Int)
  /-- a thing that is known to the object (the script;a dict while a loop walks it): read,never written while it is so -/
  | frz (o:Obj) (u:HO)
  /-- a code object's table -/
  | tbl (ps:Array Value)
  /-- any other thing,by what is true of its one object (a def of one's own: SetO a S n:=HO.ext fun h=>..) -/
  | ext (φ:Heap→Prop)
noncomputable abbrev Hp:=Addr→Option HO
noncomputable def upd (H:Hp) (a:Addr) (o:HO):Hp:=fun b=>if b=a then some o else H b
theorem qQ {H:Hp} {a:Addr} {o:HO}:upd H a o a=some o:=by unfold upd;rw [if_pos rfl]
theorem qL {H:Hp} {a b:Addr} {o:HO} (h:b≠a):upd H a o b=H b:=by unfold upd;rw [if_neg h]
theorem qFs {H:Hp} {a b:Addr} {o u:HO} (h:H a=some o) (h':H b=some u) (d:o≠u):a≠b:=by
  intro e;subst e;rw [h] at h';exact d (Option.some.inj h')
theorem qS {H:Hp} {a b:Addr} {o:HO} (h:H a=some o) (h':H b=none):a≠b:=by
  intro e;subst e;rw [h] at h';cases h'
def qAs (h:Heap) (a:Addr) (items:Array Value):Prop:=∃ o,h.get? a=some o∧(o.cls = .type "tuple" ∧ o.dict=none)∧∃ n,o.data = .seq items n
theorem qAs.tup {h:Heap} {a:Addr} {items:Array Value} (x:qAs h a items):IsTup h a items:=let ⟨o,e,c,n,d⟩:=x;⟨o,e,c.1,n,d⟩
theorem qAs.lt {h:Heap} {a:Addr} {items:Array Value} (x:qAs h a items):a<h.objs.size:=x.tup.lt
theorem qAs.new (h:Heap) (items:Array Value):qAs (h.push { cls:=.type "tuple",data:=.seq items }) h.objs.size items:=⟨_,Heap.get?_push_size _ rfl,⟨rfl,rfl⟩,_,rfl⟩
def SqT (K:W.Frag) (H:Hp) (a:Addr) (xs:List V):Prop :=
  H a=some (.tup xs) ∨
    ∃ (o:Obj) (its:Array Value) (n:Nat),K.lookup a=some o∧(o.cls = .type "tuple" ∧ o.dict=none)∧o.data = .seq its n∧its.size≤sizeLine∧Vals xs its.toList
section
variable (K:W.Frag) (P:Program) (w:World)
noncomputable def qAX (H:Hp) (h:Heap) (a:Addr):HO→Prop
  | .lst xs=>xs.length≤sizeLine∧∃ (its:List Value) (n:Nat),Vals xs its∧h.get? a=some { cls:=.type "list",data:=.seq its.toArray n }
  | .tup xs=>xs.length≤sizeLine∧∃ its:List Value,Vals xs its∧qAs h a its.toArray
  | .dK kvs=>kvs.length≤sizeLine∧(a==sysModules)=false∧∃ vs,KV kvs vs∧h.DictOf (qHX P w) a vs
  | .dT kvs=>kvs.length≤sizeLine∧(a==sysModules)=false∧∃ xs:List (List Key×Addr×Value),
      Paired (fun (p:List Key×V) (q:List Key×Addr×Value)=>p.1=q.1∧SqT K H q.2.1 (p.1.map kV)∧RelV p.2 q.2.2) kvs xs ∧
      ∃ o es ep,h.get? a=some o∧o.ExactDict∧o.data = .dict es ep∧es.toList=xs.map (entryOfKey (tupleKind (qHX P w)))∧(xs.map (·.1)).Nodup
  | .set S n=>h.SetOf (intKind P w) a S n
  | .ins C dx fs=>H dx=some (.own a)∧fs.length≤1000∧dx≠a∧h.get? a=some (W.instObj C dx) ∧
      ∃ mA,h.Ns1 dx mA∧(∀ f,qGm (fs.lookup f) (mA f))∧PySem.Within mA (fs.map (·.1))
  | .own _=>∃ o,h.get? a=some o
  | .xd fs=>∃ mA,h.Ns1 a mA∧∀ f,qGm (fs.lookup f) (mA f)
  | .rng lo hi=>∃ t u v,h.get? a=some { cls:=.type "range",data:=.fields #[.int lo t,.int hi u,.int 1 v] }
  | .frz o u=>h.get? a=some o∧qAX H h a u
  | .tbl ps=>h.get? a=some { cls:=.none,data:=.fields ps }
  | .met f x=>h.get? a=some (W.methodObj (.ref f) (.ref x))
  | .ext φ=>φ h∧(∃ o,h.get? a=some o)∧∀ h1 h2:Heap,φ h1→(∀ o,h1.get? a=some o→h2.get? a=some o)→φ h2
def HOk (H:Hp) (h:Heap):Prop:=∀ a o,H a=some o→qAX K P w H h a o
end
section
variable {K:W.Frag} {P:Program} {w:World} {H H':Hp} {h h':Heap} {a:Addr} {o:HO}
theorem qAX.lt (x:qAX K P w H h a o):a<h.objs.size:=by
  cases o with
  | lst xs=>obtain⟨_,_,_,_,e⟩:=x;exact Heap.lt_size e
  | tup xs=>obtain⟨_,_,_,p⟩:=x;exact p.lt
  | dK kvs=>obtain⟨_,_,_,_,o,_,_,e,_⟩:=x;exact Heap.lt_size e
  | dT kvs=>obtain⟨_,_,_,_,o,_,_,e,_⟩:=x;exact Heap.lt_size e
  | set S n=>obtain⟨o,_,_,_,e,_⟩:=x;exact Heap.lt_size e
  | ins C dx fs=>obtain⟨_,_,_,e,_⟩:=x;exact Heap.lt_size e
  | own y=>obtain⟨_,e⟩:=x;exact Heap.lt_size e
  | xd fs=>obtain⟨_,⟨_,_,_,e,_⟩,_⟩:=x;exact Heap.lt_size e
  | rng lo hi=>obtain⟨_,_,_,e⟩:=x;exact Heap.lt_size e
  | frz ob u=>obtain⟨e,_⟩:=x;exact Heap.lt_size e
  | tbl ps=>exact Heap.lt_size (show h.get? a=some _ from x)
  | met f y=>exact Heap.lt_size (show h.get? a=some _ from x)
  | ext φ=>obtain⟨_,⟨_,e⟩,_⟩:=x;exact Heap.lt_size e
theorem Paired.qNk {α β:Type} {F G:α→β→Prop}:∀ {l₁:List α} {l₂:List β},Paired F l₁ l₂→(∀ a b,F a b→G a b)→Paired G l₁ l₂
  | _,_,.nil,_=>.nil
  | _,_,.cons r t,f=>.cons (f _ _ r) (Paired.qNk t f)
theorem qAX.stay (x:qAX K P w H h a o) (k:∀ b u,(b=a∨H b=some (.own a))→h.get? b=some u→h'.get? b=some u)
    (ho:∀ b,H b=some (.own a)→H' b=some (.own a)) (ht:∀ b xs,H b=some (.tup xs)→H' b=some (.tup xs)):qAX K P w H' h' a o:=by
  induction o with
  | lst xs=>obtain⟨z,its,n,r,e⟩:=x;exact⟨z,its,n,r,k _ _ (.inl rfl) e⟩
  | tup xs=>obtain⟨z,its,r,ob,e,c⟩:=x;exact⟨z,its,r,ob,k _ _ (.inl rfl) e,c⟩
  | dK kvs=>obtain⟨z,y,vs,r,ob,es,ep,e,c⟩:=x;exact⟨z,y,vs,r,ob,es,ep,k _ _ (.inl rfl) e,c⟩
  | dT kvs =>
    obtain⟨z,y,xs,r,ob,es,ep,e,c⟩:=x
    exact⟨z,y,xs,Paired.qNk r fun p q z=>⟨z.1,z.2.1.elim (fun y=>.inl (ht _ _ y)) .inr,z.2.2⟩,ob,es,ep,k _ _ (.inl rfl) e,c⟩
  | set S n=>obtain⟨ob,es,ep,t,e,c⟩:=x;exact⟨ob,es,ep,t,k _ _ (.inl rfl) e,c⟩
  | ins C dx fs =>
    obtain⟨d,z,ne,e,mA,⟨od,es,ep,e2,c⟩,r⟩:=x
    exact⟨ho _ d,z,ne,k _ _ (.inl rfl) e,mA,⟨od,es,ep,k _ _ (.inr d) e2,c⟩,r⟩
  | own y=>obtain⟨ob,e⟩:=x;exact⟨ob,k _ _ (.inl rfl) e⟩
  | xd fs=>obtain⟨mA,⟨od,es,ep,e,c⟩,r⟩:=x;exact⟨mA,⟨od,es,ep,k _ _ (.inl rfl) e,c⟩,r⟩
  | rng lo hi=>obtain⟨t,u,v,e⟩:=x;exact⟨t,u,v,k _ _ (.inl rfl) e⟩
  | frz ob u ih=>obtain⟨e,q⟩:=x;exact⟨k _ _ (.inl rfl) e,ih q⟩
  | tbl ps =>
    have e:h.get? a=some { cls:=.none,data:=.fields ps }:=x
    show h'.get? a=some { cls:=.none,data:=.fields ps }
    exact k a _ (.inl rfl) e
  | met f y =>
    have e:h.get? a=some (W.methodObj (.ref f) (.ref y)):=x
    show h'.get? a=some (W.methodObj (.ref f) (.ref y))
    exact k a _ (.inl rfl) e
  | ext φ=>obtain⟨p,⟨o,e⟩,st⟩:=x;exact⟨st _ _ p fun o q=>k _ _ (.inl rfl) q,⟨o,k _ _ (.inl rfl) e⟩,st⟩
theorem HOk.lt (x:HOk K P w H h) (e:H a=some o):a<h.objs.size:=(x a o e).lt
theorem HOk.fresh (x:HOk K P w H h) (e:h.objs.size≤a):H a=none:=by
  cases q:H a with
  | none=>rfl
  | some u=>exact absurd (Nat.lt_of_lt_of_le (x.lt q) e) (Nat.lt_irrefl _)
theorem HOk.kept (x:HOk K P w H h) (k:∀ b u,h.get? b=some u→h'.get? b=some u):HOk K P w H h':=fun a o e =>
  (x a o e).stay (fun b u _ q=>k b u q) (fun _ q=>q) fun _ _ q=>q
theorem HOk.laid (x:HOk K P w H h) (k:∀ b u,h.get? b=some u→h'.get? b=some u) (hp:h.objs.size≤a) (new:qAX K P w (upd H a o) h' a o):HOk K P w (upd H a o) h':=fun b u e=>by
  have hn:=x.fresh hp
  by_cases hb:b=a
  · subst hb;rw [qQ] at e;cases e;exact new
  · rw [qL hb] at e
    exact (x b u e).stay (fun c v _ q=>k c v q) (fun c q=>by rw [qL (qS q hn)];exact q) fun c xs q=>by rw [qL (qS q hn)];exact q
end
def Rd (H:Hp) (a:Addr) (u:HO):Prop:=H a=some u∨∃ o,H a=some (.frz o u)
theorem Rd.ok {K:W.Frag} {P:Program} {w:World} {H:Hp} {h:Heap} {a:Addr} {u:HO} (r:Rd H a u) (x:HOk K P w H h):qAX K P w H h a u:=by
  rcases r with r | ⟨o,r⟩
  · exact x a u r
  · obtain⟨_,q⟩:=x a _ r
    exact q
noncomputable def Mut:Option HO→Prop
  | some (.lst _)=>True
  | some (.dK _)=>True
  | some (.dT _)=>True
  | some (.set _ _)=>True
  | some (.ins _ _ _)=>True
  | some (.ext _)=>True
  | _=>False
section
variable {K:W.Frag} {P:Program} {w:World} {H:Hp} {h h':Heap} {x e:Addr} {o':HO}
theorem HOk.write (ok:HOk K P w H h) (mu:Mut (H x)) (he:e=x∨H e=some (.own x)) (k:∀ b u,b≠e→h.get? b=some u→h'.get? b=some u) (heo:∃ u,h'.get? e=some u)
    (new:qAX K P w (upd H x o') h' x o'):HOk K P w (upd H x o') h':=fun b u q=>by
  have nown:∀ c y,H c=some (.own y)→c≠x:=fun c y r z=>by subst z;rw [r] at mu;exact mu
  have ntup:∀ c xs,H c=some (.tup xs)→c≠x:=fun c xs r z=>by subst z;rw [r] at mu;exact mu
  by_cases hb:b=x
  · subst hb;rw [qQ] at q;cases q;exact new
  · rw [qL hb] at q
    by_cases hbe:b=e
    · have q':H b=some (.own x):=by
        rcases he with z | z
        · exact absurd (hbe.trans z) hb
        · rw [hbe];exact z
      rw [q] at q';cases q'
      obtain⟨v,hv⟩:=heo
      exact⟨v,by rw [hbe];exact hv⟩
    · refine (ok b u q).stay (fun c v hc r=>k c v ?_ r) (fun c r=>by rw [qL (nown c b r)];exact r) fun c xs r=>by rw [qL (ntup c xs r)];exact r
      rcases hc with rfl | hc
      · exact hbe
      · rintro rfl
        rcases he with z | z
        · exact nown c b hc z
        · rw [hc] at z;cases z;exact hb rfl
end
structure Un (fs ex:List Addr) (H H':Hp) (h h':Heap):Prop where
  keep:∀ b o,h.get? b=some o→H b=none→b ∉ fs→b ∉ ex→h'.get? b=some o
  slot:∀ b o,h.get? b=some o→H b=none→b∈fs→b ∉ ex→∃ sl,h'.get? b=some { o with slots:=sl }
  free:∀ b o,h.get? b=some o→H b=none→b ∉ ex→H' b=none
  there:∀ b o,h.get? b=some o→b ∉ ex→∃ o',h'.get? b=some o'
  tups:∀ b xs,H b=some (.tup xs)→H' b=some (.tup xs)
  frzs:∀ b o u,H b=some (.frz o u)→H' b=some (.frz o u)
  tbls:∀ b ps,H b=some (.tbl ps)→∃ more,H' b=some (.tbl (ps++more))
section
variable {fs fs' ex ex':List Addr} {H H1 H2:Hp} {h h1 h2 h':Heap} {a x e:Addr} {o:HO}
theorem Un.any (u:Un fs ex H H1 h h1) {b:Addr} {ob:Obj} (q:h.get? b=some ob) (n:H b=none) (hx:b ∉ ex):∃ sl,h1.get? b=some { ob with slots:=sl }:=by
  by_cases hb:b∈fs
  · exact u.slot b ob q n hb hx
  · exact⟨ob.slots,u.keep b ob q n hb hx⟩
theorem Un.kept (k:∀ b u,h.get? b=some u→h'.get? b=some u):Un fs ex H H h h' :=
  ⟨fun b ob q _ _ _=>k b ob q,fun b ob q _ _ _=>⟨ob.slots,k b ob q⟩,fun _ _ _ n _=>n,fun b ob q _=>⟨ob,k b ob q⟩,fun _ _ q=>q,fun _ _ _ q=>q,fun _ ps q=>⟨#[],by rw [q];simp⟩⟩
theorem Un.refl:Un fs ex H H h h:=Un.kept fun _ _ q=>q
theorem Un.laid (k:∀ b u,h.get? b=some u→h'.get? b=some u) (hp:h.objs.size≤a) (hn:H a=none):Un fs ex H (upd H a o) h h' where
  keep:=fun b u q _ _ _=>k b u q
  slot:=fun b u q _ _ _=>⟨u.slots,k b u q⟩
  free:=fun b u q n _=>by rw [qL (Nat.ne_of_lt (Nat.lt_of_lt_of_le (Heap.lt_size q) hp))];exact n
  there:=fun b u q _=>⟨u,k b u q⟩
  tups:=fun b xs q=>by rw [qL (qS q hn)];exact q
  frzs:=fun b u xs q=>by rw [qL (qS q hn)];exact q
  tbls:=fun b ps q=>⟨#[],by rw [qL (qS q hn),q];simp⟩
theorem Un.write (mu:Mut (H x)) (he:e=x∨H e=some (.own x)) (k:∀ b u,b≠e→h.get? b=some u→h'.get? b=some u) (heo:∃ u,h'.get? e=some u):Un fs ex H (upd H x o) h h':=by
  have hx:∀ b,H b=none→b≠x:=fun b n z=>by subst z;rw [n] at mu;exact mu
  have hb:∀ b,H b=none→b≠e:=fun b n z=>by
    subst z
    rcases he with r | r
    · exact hx b n r
    · rw [n] at r;cases r
  have hm:∀ b u,H b=some u→¬ Mut (some u)→b≠x:=fun b u q nm z=>by subst z;rw [q] at mu;exact nm mu
  refine⟨fun b u q n _ _=>k b u (hb b n) q,fun b u q n _ _=>⟨u.slots,k b u (hb b n) q⟩,fun b u q n _=>by rw [qL (hx b n)];exact n,fun b u q _=>?_,
    fun b xs q=>by rw [qL (hm b _ q fun z=>z)];exact q,fun b u xs q=>by rw [qL (hm b _ q fun z=>z)];exact q,fun b ps q=>⟨#[],by rw [qL (hm b _ q fun z=>z),q];simp⟩⟩
  by_cases hbe:b=e
  · subst hbe;exact heo
  · exact⟨u,k b u hbe q⟩
end
noncomputable def trk (h:Heap) (H:Hp):List Addr:=(List.range h.objs.size).filter fun a=>(H a).isSome
noncomputable def qE1 (h:Heap) (H:Hp):Heap:=W.hideAll h (trk h H)
theorem qIU (h:Heap) (H:Hp):(qE1 h H).objs.size=h.objs.size:=W.hideAll_size _ _
theorem qIz {h:Heap} {H:Hp} {b:Addr} {o:Obj} (e:h.get? b=some o) (n:H b=none):(qE1 h H).get? b=some o :=
  W.hideAll_get _ e fun hm=>by
    have q:(H b).isSome=true:=(List.mem_filter.mp hm).2
    rw [n] at q;simp at q
theorem qKz {h:Heap} {H:Hp} {b:Addr} {o:Obj} (e:(qE1 h H).get? b=some o):h.get? b=some o∧H b=none:=by
  have e':h.get? b=some o:=W.of_hideAll (trk h H) e
  refine⟨e',?_⟩
  cases q:H b with
  | none=>rfl
  | some x =>
    have hm:b∈trk h H:=List.mem_filter.mpr ⟨List.mem_range.mpr (Heap.lt_size e'),by simp [q]⟩
    have z:(qE1 h H).get? b=none:=W.hideAll_none (trk h H) hm
    rw [z] at e;cases e
noncomputable def qK4 (g h:Heap) (L:Addr):List (Addr×Obj):=(List.range h.objs.size).filterMap fun a=>if a=L∨(g.get? a).isSome=true then none else (h.get? a).map fun o=>(a,o)
noncomputable def rest (g h:Heap) (L d:Addr):List (Addr×Obj):=(qK4 g h L).filter fun p=>decide (p.1≠d)
end L2
namespace L2
open PySem PySem.Spec PyProof.Rows
structure Mod (K:W.Frag) (mg:Str→Option Value) (base:Heap):Prop where
  kin:K.In base
  glob:base.Ns mainGlobals mg
  blt:∃ mb,base.Ns builtinsNs mb∧∀ x:Str,x ≠ "__name__" → mb x=bootBuiltins x
  nolimit:base.NoLimit
structure Cx where
  prog:Program
  w:World
  K:W.Frag
  mg:Str→Option Value
  base:Heap
  A:Around
  N:List Str
  s₀:Shared
  H₀:Hp
  env:Env
  outer:List Env
  stack:List Env
  ex:List Addr
  fn:Str→Bool
  calm:Bool
  pn:List (Addr×Obj)
  xe:Value→Shared→Prop
noncomputable def frs (l:List Env):List Addr:=l.filterMap (·.frame)
noncomputable abbrev Cx.fs (X:Cx):List Addr:=frs X.outer
def Vis (sc:Scope) (x:Str):Prop:=sc.names.lookup x=some .local∨sc.names.lookup x=some .cell∨sc.names.lookup x=some .free
def Loc (sc:Scope) (x:Str):Prop:=sc.names.lookup x=some .local∨sc.names.lookup x=some .cell
def Look (env:Env) (h:Heap) (m:Str→Option Value) (x:Str) (u:Value):Prop :=
  (env.kindOf x=some .local∧m x=some u)∨((env.kindOf x=some .cell∨env.kindOf x=some .free)∧∃ c,env.cells.lookup x=some c∧h.IsCell c (some u))
structure Cx.Ok (X:Cx):Prop where
  mod:Mod X.K X.mg X.base
  kind:X.env.scope.kind = .function
  glob:X.env.globals=mainGlobals
  blt:X.env.builtins=builtinsNs
  above:X.s₀.heap.objs.size≤X.env.locals
  inj:∀ x y c,X.env.cells.lookup x=some c→X.env.cells.lookup y=some c→x=y
  has:∀ x,(X.env.kindOf x=some .cell∨X.env.kindOf x=some .free)→∃ c,X.env.cells.lookup x=some c
  cab:∀ x c,X.fn x=true→X.env.cells.lookup x=some c→X.s₀.heap.objs.size≤c
  hd:X.calm=true→X.A.handled=none
  frames:X.A.frames=some X.stack
  stk:X.stack=X.outer∨(X.stack=X.env::X.outer∧X.env.frame=some X.env.locals)
  exf:∀ b∈X.ex,b≠X.env.locals∧∀ x c,X.env.cells.lookup x=some c→c≠b
  bs:∀ b o,X.base.get? b=some o→X.s₀.heap.get? b=some o∧X.H₀ b=none
  bsz:X.base.objs.size≤X.s₀.heap.objs.size
  noex:∀ b o,X.base.get? b=some o→b ∉ X.ex
  exfs:∀ b∈X.ex,b ∉ X.fs
  qCa:X.s₀.heap.FunFrames X.base X.outer
  frf:∀ b∈X.fs,X.H₀ b=none
structure Inv (X:Cx) (pins:List (Addr×Obj)) (σ:List (Option V)) (H:Hp) (s:Shared):Prop where
  ok:X.Ok
  os:s.os=X.s₀.os
  bare:AllBare s.gens
  base:Un X.fs X.ex X.H₀ H X.s₀.heap s.heap
  loc:∃ m,s.heap.Ns X.env.locals m∧∀ (i:Nat) (x:Str) (v:V),X.N[i]? = some x→σ[i]? = some (some v)→Vis X.env.scope x→∃ u,RelV v u∧Look X.env s.heap m x u
  cell:∀ x c,X.env.cells.lookup x=some c→∃ v,s.heap.IsCell c v
  free:H X.env.locals=none
  freeC:∀ x c,X.env.cells.lookup x=some c→H c=none
  pin:∀ p∈X.pn++pins,s.heap.get? p.1=some p.2∧H p.1=none∧p.1≠X.env.locals∧p.1 ∉ X.fs∧∀ v,p.2.data≠.cell v
  hok:HOk X.K X.prog X.w H s.heap
  len:σ.length=X.N.length
section
variable {X:Cx} {pins:List (Addr×Obj)} {σ:List (Option V)} {H H':Hp} {s:Shared} {h':Heap}
theorem Cx.Ok.qQW (ok:X.Ok) {b:Addr} {o:Obj} (e:X.base.get? b=some o):b ∉ X.fs:=fun hb=>by
  have:=(ok.qCa.mem hb).1
  rw [e] at this;cases this
theorem Inv.bs (I:Inv X pins σ H s):∀ b o,X.base.get? b=some o→s.heap.get? b=some o∧H b=none:=fun b o e =>
  ⟨I.base.keep b o (I.ok.bs b o e).1 (I.ok.bs b o e).2 (I.ok.qQW e) (I.ok.noex b o e),I.base.free b o (I.ok.bs b o e).1 (I.ok.bs b o e).2 (I.ok.noex b o e)⟩
theorem Inv.bk (I:Inv X pins σ H s):∀ b o,X.base.get? b=some o→s.heap.get? b=some o:=fun b o e=>(I.bs b o e).1
theorem Inv.mod (I:Inv X pins σ H s):Mod X.K X.mg X.base:=I.ok.mod
theorem Inv.kIn (I:Inv X pins σ H s):X.K.In s.heap:=I.ok.mod.kin.keeps I.bk
theorem Inv.nolimit (I:Inv X pins σ H s):s.heap.NoLimit:=I.ok.mod.nolimit.keeps I.bk
theorem Inv.fr (I:Inv X pins σ H s):∃ m,Fr X.base X.env.locals s.heap m :=
  let ⟨m,hn,_⟩:=I.loc
  ⟨m,hn,I.bk,Nat.le_trans I.ok.bsz I.ok.above⟩
theorem Inv.lt (I:Inv X pins σ H s):X.env.locals<s.heap.objs.size:=let ⟨_,hn,_⟩:=I.loc;hn.lt
theorem Inv.sz (I:Inv X pins σ H s):X.s₀.heap.objs.size≤s.heap.objs.size:=Nat.le_trans I.ok.above (Nat.le_of_lt I.lt)
theorem Inv.qPq (I:Inv X pins σ H s) {a:Addr} (h:s.heap.objs.size≤a):a ∉ X.fs:=fun hb=>by
  obtain⟨_,o,ho,_⟩:=I.ok.qCa.mem hb
  exact absurd (Nat.lt_of_lt_of_le (Heap.lt_size ho) (Nat.le_trans I.sz h)) (Nat.lt_irrefl _)
theorem Inv.cne (I:Inv X pins σ H s):∀ x c,X.env.cells.lookup x=some c→c≠X.env.locals:=fun x c e z=>by
  obtain⟨v,o,ho,hd⟩:=I.cell x c e
  obtain⟨m,⟨o',es,ep,ho',hd',_⟩,_⟩:=I.loc
  rw [z,ho'] at ho;cases ho;rw [hd'] at hd;cases hd
theorem Inv.qCa (I:Inv X pins σ H s):s.heap.FunFrames X.base X.outer:=by
  have all:∀ (l:List Env),(∀ b∈frs l,b∈X.fs)→X.s₀.heap.FunFrames X.base l→s.heap.FunFrames X.base l:=by
    intro l
    induction l with
    | nil=>intro _ _;trivial
    | cons env r ih =>
      intro hs hl
      obtain⟨hk,⟨L,o,hf,hn,ho,hd⟩,hr⟩:=hl
      have hL:L∈X.fs:=hs L (by unfold frs;rw [List.filterMap_cons,hf];exact List.mem_cons_self)
      obtain⟨sl,e⟩:=I.base.slot L o ho (I.ok.frf L hL) hL fun z=>I.ok.exfs L z hL
      exact⟨hk,⟨L,_,hf,hn,e,hd⟩,ih (fun b hb=>hs b (by unfold frs;rw [List.filterMap_cons,hf];exact List.mem_cons_of_mem _ hb)) hr⟩
  exact all X.outer (fun _ hb=>hb) I.ok.qCa
theorem Inv.stack (I:Inv X pins σ H s):s.heap.FunFrames X.base X.stack:=by
  rcases I.ok.stk with e | ⟨e,hf⟩
  · rw [e];exact I.qCa
  · rw [e]
    obtain⟨m,hn,_⟩:=I.loc
    refine .cons (by rw [I.ok.kind];decide) hf hn ?_ I.qCa
    exact Heap.get?_none_of_le (Nat.le_trans I.ok.bsz I.ok.above)
theorem Inv.qFq (I:Inv X pins σ H s):∀ b∈frs X.stack,b∈X.env.locals::X.fs:=fun b hb=>by
  rcases I.ok.stk with e | ⟨e,hf⟩
  · rw [e] at hb;exact List.mem_cons_of_mem _ hb
  · rw [e] at hb
    unfold frs at hb
    rw [List.filterMap_cons,hf] at hb
    exact hb
theorem Inv.qFi (I:Inv X pins σ H s):∀ b∈frs X.stack,H b=none:=fun b hb=>by
  rcases List.mem_cons.mp (I.qFq b hb) with e | hb
  · rw [e];exact I.free
  · obtain⟨_,o,ho,_⟩:=I.ok.qCa.mem hb
    exact I.base.free b o ho (I.ok.frf b hb) fun z=>I.ok.exfs b z hb
theorem Inv.step {g':Array GenState} {t':Nat} {d':Drawn} {ch:List Addr} (I:Inv X pins σ H s)
    (hch:∀ b∈ch,(b∈X.ex∨X.s₀.heap.objs.size≤b)∧b≠X.env.locals∧(∀ x c,X.env.cells.lookup x=some c→c≠b)∧∀ p∈X.pn++pins,p.1≠b)
    (keep:∀ b o,b≠X.env.locals→b ∉ X.fs→b ∉ ch→s.heap.get? b=some o→H b=none→h'.get? b=some o)
    (slot:∀ b o,b≠X.env.locals→b∈X.fs→b ∉ ch→s.heap.get? b=some o→H b=none→∃ sl,h'.get? b=some { o with slots:=sl }) (free:∀ b o,b ∉ ch→s.heap.get? b=some o→H b=none→H' b=none)
    (there:∀ b o,b ∉ ch→s.heap.get? b=some o→∃ o',h'.get? b=some o')
    (tups:∀ b xs,H b=some (.tup xs)→H' b=some (.tup xs)) (frzs:∀ b o u,H b=some (.frz o u)→H' b=some (.frz o u)) (tbls:∀ b ps,H b=some (.tbl ps)→∃ more,H' b=some (.tbl (ps++more)))
    (ns:∀ m,s.heap.Ns X.env.locals m→h'.Ns X.env.locals m) (hok:HOk X.K X.prog X.w H' h') (hg:AllBare g') :
    Inv X pins σ H' { s with heap:=h',gens:=g',drawn:=d',toks:=t' }:=by
  have neL:∀ b o,X.s₀.heap.get? b=some o→b≠X.env.locals:=fun b o e=>Nat.ne_of_lt (Nat.lt_of_lt_of_le (Heap.lt_size e) I.ok.above)
  have neC:∀ b o,X.s₀.heap.get? b=some o→b ∉ X.ex→b ∉ ch:=fun b o e hx hb=>by
    rcases (hch b hb).1 with z | z
    · exact hx z
    · exact absurd (Nat.lt_of_lt_of_le (Heap.lt_size e) z) (Nat.lt_irrefl _)
  have cellK:∀ x c,X.env.cells.lookup x=some c→∀ v,s.heap.IsCell c v→h'.IsCell c v:=fun x c e v ⟨o,ho,hd⟩=>by
    have nch:c ∉ ch:=fun z=>(hch c z).2.2.1 x c e rfl
    by_cases hc:c∈X.fs
    · obtain⟨sl,q⟩:=slot c o (I.cne x c e) hc nch ho (I.freeC x c e)
      exact⟨_,q,hd⟩
    · exact⟨o,keep c o (I.cne x c e) hc nch ho (I.freeC x c e),hd⟩
  refine⟨I.ok,I.os,hg,⟨fun b o e n hb hx=>?_,fun b o e n hb hx=>?_,fun b o e n hx=>?_,fun b o e hx=>?_,fun b xs e=>tups b xs (I.base.tups b xs e),fun b o xs e=>frzs b o xs (I.base.frzs b o xs e),fun b ps e=>?_⟩,?_,fun x c e=>?_,?_,fun x c e=>?_,fun p hp=>?_,hok,I.len⟩
  · exact keep b o (neL b o e) hb (neC b o e hx) (I.base.keep b o e n hb hx) (I.base.free b o e n hx)
  · k_dat 0"r29"
    obtain⟨sl',e2⟩:=slot b _ (neL b o e) hb (neC b o e hx) e1 (I.base.free b o e n hx)
    exact⟨sl',e2⟩
  · k_dat 0"r23"
    exact free b o' (neC b o e hx) e1 (I.base.free b o e n hx)
  · k_dat 0"r23"
    exact there b o' (neC b o e hx) e1
  · obtain⟨m1,e1⟩:=I.base.tbls b ps e
    obtain⟨m2,e2⟩:=tbls b _ e1
    exact⟨m1++m2,by rw [e2,Array.append_assoc]⟩
  · obtain⟨m,hn,hl⟩:=I.loc
    refine⟨m,ns m hn,fun i x v e1 e2 e3=>?_⟩
    obtain⟨u,r,l⟩:=hl i x v e1 e2 e3
    refine⟨u,r,?_⟩
    rcases l with l | ⟨k,c,e,z⟩
    · exact .inl l
    · exact .inr ⟨k,c,e,cellK x c e _ z⟩
  · obtain⟨v,z⟩:=I.cell x c e
    exact⟨v,cellK x c e v z⟩
  · obtain⟨m,⟨o,_,_,ho,_⟩,_⟩:=I.loc
    exact free _ o (fun z=>(hch _ z).2.1 rfl) ho I.free
  · obtain⟨v,o,ho,hd⟩:=I.cell x c e
    exact free c o (fun z=>(hch c z).2.2.1 x c e rfl) ho (I.freeC x c e)
  · obtain⟨e,n,ne,nf,d⟩:=I.pin p hp
    have nch:p.1 ∉ ch:=fun z=>(hch p.1 z).2.2.2 p hp rfl
    exact⟨keep p.1 p.2 ne nf nch e n,free p.1 p.2 nch e n,ne,nf,d⟩
theorem Inv.un {t':Nat} (I:Inv X pins σ H s) (u:Un X.fs [] H H' s.heap h') (hok:HOk X.K X.prog X.w H' h'):Inv X pins σ H' { s with heap:=h',toks:=t' }:=by
  obtain⟨m,⟨o,es,ep,ho,r⟩,_⟩:=id I.loc
  obtain⟨sl,hL⟩:=u.any ho I.free (by simp)
  exact I.step (g':=s.gens) (d':=s.drawn) (ch:=[]) (fun _ z=>nomatch z) (fun b o _ hb _ e n=>u.keep b o e n hb (by simp)) (fun b o _ hb _ e n=>u.slot b o e n hb (by simp)) (fun b o _ e n=>u.free b o e n (by simp)) (fun b o _ e=>u.there b o e (by simp)) u.tups u.frzs u.tbls (fun m' hm=>by
    obtain⟨o',es',ep',ho',r'⟩:=hm
    rw [ho] at ho';cases ho'
    exact⟨_,es',ep',hL,r'⟩) hok I.bare
theorem Inv.call {g':Array GenState} {t':Nat} {d':Drawn} {ch:List Addr} (I:Inv X pins σ H s) (u:Un (frs X.stack) ch H H' s.heap h') (hok:HOk X.K X.prog X.w H' h') (hg:AllBare g')
    (hch:∀ b∈ch,(b∈X.ex∨X.s₀.heap.objs.size≤b)∧b≠X.env.locals∧(∀ x c,X.env.cells.lookup x=some c→c≠b)∧∀ p∈X.pn++pins,p.1≠b) :
    Inv X pins σ H' { s with heap:=h',gens:=g',drawn:=d',toks:=t' }:=by
  obtain⟨m,⟨o,es,ep,ho,r⟩,_⟩:=id I.loc
  obtain⟨sl,hL⟩:=u.any ho I.free fun z=>(hch _ z).2.1 rfl
  exact I.step (ch:=ch) hch (fun b o hL hb hc e n=>u.keep b o e n (fun z=>(List.mem_cons.mp (I.qFq b z)).elim hL hb) hc) (fun b o _ _ hc e n=>u.any e n hc) (fun b o hc e n=>u.free b o e n hc) (fun b o hc e=>u.there b o e hc) u.tups u.frzs u.tbls (fun m' hm=>by
    obtain⟨o',es',ep',ho',r'⟩:=hm
    rw [ho] at ho';cases ho'
    exact⟨_,es',ep',hL,r'⟩) hok hg
theorem Inv.turned {t':Nat} {it:Addr} (I:Inv X pins σ H s) (k:∀ b o,b≠it→s.heap.get? b=some o→h'.get? b=some o) (hn:H it=none) (hL:it≠X.env.locals)
    (h1:it∈X.ex∨X.s₀.heap.objs.size≤it) (h2:∀ x c,X.env.cells.lookup x=some c→c≠it) (h3:∀ p∈X.pn++pins,p.1≠it):Inv X pins σ H { s with heap:=h',toks:=t' }:=by
  have nit:∀ b u,H b=some u→b≠it:=fun b u e z=>by rw [z,hn] at e;cases e
  refine I.step (g':=s.gens) (d':=s.drawn) (ch:=[it]) (fun b hb=>?_) (fun b o _ _ hc e _=>k b o (fun z=>hc (by simp [z])) e) (fun b o _ _ hc e _=>⟨o.slots,k b o (fun z=>hc (by simp [z])) e⟩) (fun _ _ _ _ n=>n)
    (fun b o hc e=>⟨o,k b o (fun z=>hc (by simp [z])) e⟩) (fun _ _ e=>e) (fun _ _ _ e=>e) (fun b ps e=>⟨#[],by rw [e];simp⟩) (fun m hm=>?_) (fun b u e=>?_) I.bare
  · have e:b=it:=by simpa using hb
    subst e
    exact⟨h1,hL,h2,h3⟩
  · obtain⟨o,es,ep,ho,r⟩:=hm
    exact⟨o,es,ep,k _ o (Ne.symm hL) ho,r⟩
  · refine (I.hok b u e).stay (fun c v hc q=>k c v ?_ q) (fun _ q=>q) fun _ _ q=>q
    rcases hc with z | z
    · rw [z];exact nit b u e
    · exact nit c _ z
theorem Inv.tok (I:Inv X pins σ H s) (t:Nat):Inv X pins σ H { s with toks:=t }:=I.un (h':=s.heap) (t':=t) Un.refl I.hok
theorem Inv.kept {t':Nat} (I:Inv X pins σ H s) (k:∀ b u,s.heap.get? b=some u→h'.get? b=some u):Inv X pins σ H { s with heap:=h',toks:=t' }:=I.un (Un.kept k) (I.hok.kept k)
theorem Inv.laid {a:Addr} {o:HO} {t':Nat} (I:Inv X pins σ H s) (k:∀ b u,s.heap.get? b=some u→h'.get? b=some u) (hp:s.heap.objs.size≤a) (new:qAX X.K X.prog X.w (upd H a o) h' a o) :
    Inv X pins σ (upd H a o) { s with heap:=h',toks:=t' }:=I.un (Un.laid k hp (I.hok.fresh hp)) (I.hok.laid k hp new)
theorem Inv.write {x e:Addr} {o:HO} {t':Nat} (I:Inv X pins σ H s) (mu:Mut (H x)) (he:e=x∨H e=some (.own x)) (k:∀ b u,b≠e→s.heap.get? b=some u→h'.get? b=some u) (heo:∃ u,h'.get? e=some u)
    (new:qAX X.K X.prog X.w (upd H x o) h' x o):Inv X pins σ (upd H x o) { s with heap:=h',toks:=t' }:=I.un (Un.write mu he k heo) (I.hok.write mu he k heo new)
theorem Inv.qDK {pins':List (Addr×Obj)} (I:Inv X pins σ H s) (h:∀ p∈pins',s.heap.get? p.1=some p.2∧H p.1=none∧p.1≠X.env.locals∧p.1 ∉ X.fs∧∀ v,p.2.data≠.cell v):Inv X pins' σ H s :=
  ⟨I.ok,I.os,I.bare,I.base,I.loc,I.cell,I.free,I.freeC,fun p hp=>(List.mem_append.mp hp).elim (fun z=>I.pin p (List.mem_append_left _ z)) (h p),I.hok,I.len⟩
theorem qDj {N:List Str} (hN:N.Nodup) {i j:Nat} {x:Str} (a:N[i]? = some x) (b:N[j]? = some x):i=j:=by
  obtain⟨h1,e1⟩:=List.getElem?_eq_some_iff.mp a
  obtain⟨h2,e2⟩:=List.getElem?_eq_some_iff.mp b
  exact (List.getElem_inj hN).mp (e1.trans e2.symm)
theorem qCs {M:Model} {A:Around} {E:Value→Shared→Prop} {i:Nat} {x:Str} {v:V} {u:Value} {Q:Unit→Shared→Prop} (I:Inv X pins σ H s) (hN:X.N.Nodup) (hi:X.N[i]? = some x) (hx:Loc X.env.scope x) (r:RelV v u)
    (h:∀ s',Inv X pins (σ.set i (some v)) H s'→(∃ a,Heap.SameBut a s.heap s'.heap∧(a=X.env.locals∨X.env.cells.lookup x=some a))→Q () s') (hf:X.fn x=true∨X.env.scope.names.lookup x=some .local:=by first | exact .inl rfl | exact .inr rfl | assumption):wpAny M A (storeName X.env x u) Q E s:=by
  obtain⟨m,hn,hl⟩:=id I.loc
  have hcls:(X.env.scope.kind == .class || (X.env.scope.kind == .module&&X.env.locals != X.env.globals))=false:=by rw [I.ok.kind];rfl
  have hiσ:i<σ.length:=by rw [I.len];exact (List.getElem?_eq_some_iff.mp hi).1
  have cne:=I.cne
  have tracked:∀ {a:Addr} {h':Heap},(∃ o,s.heap.get? a=some o∧H a=none)→Heap.SameBut a s.heap h'→HOk X.K X.prog X.w H h':=fun {a h'} ha hs b ob e=>by
    obtain⟨_,_,hfree⟩:=ha
    k_dat 0"r49"
    rintro rfl
    rcases hc with rfl | hc
    · rw [hfree] at e;cases e
    · rw [hfree] at hc;cases hc
  rcases hx with hk | hk
  · refine wpAny_storeName_local hk hn (fun h' hn' hs=>?_) hcls
    obtain⟨oL,_,_,hoL,_⟩:=id hn
    refine h _ ⟨I.ok,I.os,I.bare,⟨fun b o e n hb hx=>?_,fun b o e n hb hx=>?_,I.base.free,fun b o e hx=>?_,I.base.tups,I.base.frzs,I.base.tbls⟩,⟨_,hn',fun j y v' e1 e2 e3=>?_⟩,fun y c e=>?_,I.free,I.freeC,fun p hp=>?_,tracked ⟨oL,hoL,I.free⟩ hs,by simpa using I.len⟩ ⟨_,hs,.inl rfl⟩
    · exact (hs.2 b (Nat.ne_of_lt (Nat.lt_of_lt_of_le (Heap.lt_size e) I.ok.above))).trans (I.base.keep b o e n hb hx)
    · k_dat 0"r29"
      exact⟨sl,(hs.2 b (Nat.ne_of_lt (Nat.lt_of_lt_of_le (Heap.lt_size e) I.ok.above))).trans e1⟩
    · k_dat 0"r23"
      exact⟨o',(hs.2 b (Nat.ne_of_lt (Nat.lt_of_lt_of_le (Heap.lt_size e) I.ok.above))).trans e1⟩
    · by_cases hj:j=i
      · subst hj
        rw [hi] at e1;cases e1
        rw [List.getElem?_set_self hiσ] at e2
        cases e2
        exact⟨u,r,.inl ⟨hk,by simp⟩⟩
      · rw [List.getElem?_set_ne (Ne.symm hj)] at e2
        obtain⟨u',r',q⟩:=hl j y v' e1 e2 e3
        refine⟨u',r',?_⟩
        rcases q with ⟨k,e⟩ | ⟨k,c,e,z⟩
        · refine .inl ⟨k,?_⟩
          have:y≠x:=fun e=>hj (qDj hN e1 (e ▸ hi))
          simp [this,e]
        · exact .inr ⟨k,c,e,z.sameBut hs (cne y c e)⟩
    · obtain⟨w',z⟩:=I.cell y c e
      exact⟨w',z.sameBut hs (cne y c e)⟩
    · obtain⟨e,n,ne,nf,d⟩:=I.pin p hp
      exact⟨(hs.2 p.1 ne).trans e,n,ne,nf,d⟩
  · have hfn:X.fn x=true:=by
      rcases hf with z | z
      · exact z
      · rw [z] at hk;cases hk
    obtain⟨c,hc⟩:=I.ok.has x (.inl hk)
    obtain⟨w',z⟩:=I.cell x c hc
    refine wpAny_storeName_cell I.ok.kind hk hc z (fun h' hc' hs=>?_)
    obtain⟨oc,hoc,hocd⟩:=id z
    refine h { s with heap:=h' } ⟨I.ok,I.os,I.bare,⟨fun b o e n hb hx=>?_,fun b o e n hb hx=>?_,I.base.free,fun b o e hx=>?_,I.base.tups,I.base.frzs,I.base.tbls⟩,⟨m,hn.sameBut hs (Ne.symm (cne x c hc)),fun j y v' e1 e2 e3=>?_⟩,fun y c' e=>?_,I.free,I.freeC,fun p hp=>?_,tracked ⟨oc,hoc,I.freeC x c hc⟩ hs,by simpa using I.len⟩ ⟨c,hs,.inr hc⟩
    · exact (hs.2 b (Nat.ne_of_lt (Nat.lt_of_lt_of_le (Heap.lt_size e) (I.ok.cab x c hfn hc)))).trans (I.base.keep b o e n hb hx)
    · k_dat 0"r29"
      exact⟨sl,(hs.2 b (Nat.ne_of_lt (Nat.lt_of_lt_of_le (Heap.lt_size e) (I.ok.cab x c hfn hc)))).trans e1⟩
    · k_dat 0"r23"
      exact⟨o',(hs.2 b (Nat.ne_of_lt (Nat.lt_of_lt_of_le (Heap.lt_size e) (I.ok.cab x c hfn hc)))).trans e1⟩
    · by_cases hj:j=i
      · subst hj
        rw [hi] at e1;cases e1
        rw [List.getElem?_set_self hiσ] at e2
        cases e2
        exact⟨u,r,.inr ⟨.inl hk,c,hc,hc'⟩⟩
      · rw [List.getElem?_set_ne (Ne.symm hj)] at e2
        obtain⟨u',r',q⟩:=hl j y v' e1 e2 e3
        refine⟨u',r',?_⟩
        rcases q with q | ⟨k,c',e,z'⟩
        · exact .inl q
        · refine .inr ⟨k,c',e,z'.sameBut hs ?_⟩
          rintro rfl
          exact hj (qDj hN e1 (I.ok.inj _ _ _ e hc ▸ hi))
    · by_cases hcc:c'=c
      · subst hcc;exact⟨_,hc'⟩
      · obtain⟨w2,z2⟩:=I.cell y c' e
        exact⟨w2,z2.sameBut hs hcc⟩
    · obtain⟨e,n,ne,nf,d⟩:=I.pin p hp
      refine⟨(hs.2 p.1 ?_).trans e,n,ne,nf,d⟩
      intro q
      rw [q,hoc] at e
      have q':oc=p.2:=Option.some.inj e
      exact d w' (by rw [← q'];exact hocd)
theorem qGd {M:Model} {A:Around} {E:Value→Shared→Prop} {i:Nat} {x:Str} {v:V} {u:Value} {Q:Unit→Shared→Prop} (I:Inv X pins σ H s) (hN:X.N.Nodup) (hi:X.N[i]? = some x) (hx:Loc X.env.scope x) (r:RelV v u)
    (h:∀ s',Inv X pins (σ.set i (some v)) H s'→Q () s') (hf:X.fn x=true∨X.env.scope.names.lookup x=some .local:=by first | exact .inl rfl | exact .inr rfl | assumption):wpAny M A (storeName X.env x u) Q E s :=
  qCs I hN hi hx r (fun s' I' _=>h s' I') hf
theorem Inv.qMW {s':Shared} {ch:List Addr} (I:Inv X pins σ H s) (ho:s'.os=s.os) (u:Un (frs X.stack) ch H H' s.heap s'.heap) (hok:HOk X.K X.prog X.w H' s'.heap) (hg:AllBare s'.gens)
    (hch:∀ b∈ch,(b∈X.ex∨X.s₀.heap.objs.size≤b)∧b≠X.env.locals∧(∀ x c,X.env.cells.lookup x=some c→c≠b)∧∀ p∈X.pn++pins,p.1≠b):Inv X pins σ H' s':=by
  obtain⟨h',g',d',t',o'⟩:=s'
  have e:o'=s.os:=ho
  subst e
  exact I.call (g':=g') (t':=t') (d':=d') u hok hg hch
end
noncomputable abbrev XK:=Value→Option Addr→Hp→Prop
noncomputable abbrev St:=List (Option V)
noncomputable abbrev VK:=V→Hp→Prop
noncomputable abbrev TE:=St→Hp→VK→Prop
noncomputable abbrev TT:=St→Hp→(Bool→Hp→Prop)→Prop
noncomputable abbrev TA:=St→Hp→(List V→Hp→Prop)→Prop
structure Ends where
  nx:St→Hp→Prop
  rt:VK
  bk:St→Hp→Prop:=fun _ _=>False
  ct:St→Hp→Prop:=fun _ _=>False
noncomputable abbrev TS:=Ends→St→Hp→Prop
def EP (X:Cx) (pins:List (Addr×Obj)) (σ:St) (Q:VK) (u:Value) (s':Shared):Prop:=∃ v H',Inv X pins σ H' s'∧RelV v u∧Q v H'
def TP (X:Cx) (pins:List (Addr×Obj)) (σ:St) (Q:Bool→Hp→Prop) (b:Bool) (s':Shared):Prop:=∃ H',Inv X pins σ H' s'∧Q b H'
def AP (X:Cx) (pins:List (Addr×Obj)) (σ:St) (Q:List V→Hp→Prop) (us:List Value) (s':Shared):Prop:=∃ vs H',Inv X pins σ H' s'∧Vals vs us∧Q vs H'
def SP (X:Cx) (pins:List (Addr×Obj)) (D:Ends) (f:Flow) (s':Shared):Prop :=
  match f with
  | .next=>∃ σ' H',Inv X pins σ' H' s'∧D.nx σ' H'
  | .brk=>∃ σ' H',Inv X pins σ' H' s'∧D.bk σ' H'
  | .cont=>∃ σ' H',Inv X pins σ' H' s'∧D.ct σ' H'
  | .ret u=>∃ v σ' H',Inv X pins σ' H' s'∧RelV v u∧D.rt v H'
def PE (X:Cx) (e:Expr) (t:TE):Prop :=
  ∀ (pins:List (Addr×Obj)) (s:Shared) (σ:St) (H:Hp) (Q:VK),Inv X pins σ H s→t σ H Q→wpAny (model X.prog X.w) X.A (eval e X.env) (EP X pins σ Q) X.xe s
def PT (X:Cx) (e:Expr) (t:TT):Prop :=
  ∀ (pins:List (Addr×Obj)) (s:Shared) (σ:St) (H:Hp) (Q:Bool→Hp→Prop),Inv X pins σ H s→t σ H Q→wpAny (model X.prog X.w) X.A (isTrue e X.env (eval e X.env)) (TP X pins σ Q) X.xe s
def PW (X:Cx) (e:Expr) (t:TT):Prop :=
  ∀ (whole:Sem Value) (pins:List (Addr×Obj)) (s:Shared) (σ:St) (H:Hp) (Q:Bool→Hp→Prop),Inv X pins σ H s→t σ H Q→wpAny (model X.prog X.w) X.A (isTrue e X.env whole) (TP X pins σ Q) X.xe s
def PA (X:Cx) (es:List Expr) (t:TA):Prop :=
  ∀ (pos:Pos) (pins:List (Addr×Obj)) (s:Shared) (σ:St) (H:Hp) (Q:List V→Hp→Prop),Inv X pins σ H s→t σ H Q→wpAny (model X.prog X.w) X.A (spliced (backTo pos (starEach es X.env))) (AP X pins σ Q) X.xe s
def PS (X:Cx) (st:Stmt) (t:TS):Prop :=
  ∀ (pins:List (Addr×Obj)) (s:Shared) (σ:St) (H:Hp) (D:Ends),Inv X pins σ H s→t D σ H→wpAny (model X.prog X.w) X.A (exec st X.env) (SP X pins D) X.xe s
def PSs (X:Cx) (st:List Stmt) (t:TS):Prop :=
  ∀ (pins:List (Addr×Obj)) (s:Shared) (σ:St) (H:Hp) (D:Ends),Inv X pins σ H s→t D σ H→wpAny (model X.prog X.w) X.A (execs st X.env) (SP X pins D) X.xe s
theorem thn {α:Type} {t:Sem α} {Q Q':α→Shared→Prop} {M:Model} {A:Around} {E:Value→Shared→Prop} {s:Shared} (h:wpAny M A t Q E s) (hQ:∀ a s,Q a s→Q' a s):wpAny M A t Q' E s:=wpAny_mono h hQ fun _ _ x=>x
end L2
namespace L2
open PySem PySem.Spec PyProof.Rows
section
variable {X:Cx}
noncomputable def qQR (i:Nat):TE:=fun σ H Q=>∃ v,σ[i]? = some (some v)∧Q v H
noncomputable def tC (v:V):TE:=fun _ H Q=>Q v H
theorem qEA {i:Nat} {x:Str} {pos:Pos} (hN:X.N[i]? = some x) (hv:Vis X.env.scope x) (hd:(x==("__debug__" : Str))=false:=by decide) (hcd:(x==("__classdict__" : Str))=false:=by decide):PE X (.Name x pos) (qQR i):=by
  k_dat 0"r1"
  obtain⟨v,e,h⟩:=h
  obtain⟨m,hn,hl⟩:=I.loc
  obtain⟨u,r,l⟩:=hl i x v hN e hv
  have fin:EP X pins σ Q u s:=⟨v,H,I,r,h⟩
  rcases l with ⟨hk,hm⟩ | ⟨hk,c,hc,hcell⟩
  · exact wpAny_Name (wpAny_loadName_local I.ok.kind hk hn hm fin) hd
  · rcases hk with hk | hk
    · exact wpAny_Name (wpAny_loadName_cell I.ok.kind hk hc hcell fin) hd
    · exact wpAny_Name (wpAny_loadName_free I.ok.kind hk hc hcell fin hcd) hd
theorem qNF {i j pos}:PE X (.Constant (.int i) j pos) (tC (.int i)):=fun _ _ _ H _ I h=>wpAny_Constant_int ⟨.int i,H,I.tok _,⟨_,rfl⟩,h⟩
theorem qPd {b j pos}:PE X (.Constant (.bool b) j pos) (tC (.bl b)):=fun _ _ _ H _ I h=>Constant_bool ⟨.bl b,H,I,rfl,h⟩
theorem qNC {j pos}:PE X (.Constant .none j pos) (tC .non):=fun _ _ _ H _ I h=>Constant_none ⟨.non,H,I,rfl,h⟩
theorem qGn {x j pos}:PE X (.Constant (.str x) j pos) (tC (.str x)):=fun _ _ _ H _ I h=>Calls.Constant_str ⟨.str x,H,I.tok _,⟨_,rfl⟩,h⟩
def Gl (X:Cx) (x:Str):Prop:=X.env.kindOf x=some .globalImplicit
theorem qBN {E:Value→Shared→Prop} {pins:List (Addr×Obj)} {s:Shared} {σ:St} {H:Hp} {x:Str} {u:Value} {pos:Pos} {Q:Value→Shared→Prop} (I:Inv X pins σ H s) (hg:Gl X x) (hm:X.mg x=some u) (h:Q u s)
    (hd:(x==("__debug__" : Str))=false:=by decide):wpAny (model X.prog X.w) X.A (eval (.Name x pos) X.env) Q E s :=
  Calls.Name_function_global I.ok.kind hg (Calls.loadGlobal_global (by rw [I.ok.glob];exact I.mod.glob.keeps I.bk) hm h) hd
theorem qCO {E:Value→Shared→Prop} {pins:List (Addr×Obj)} {s:Shared} {σ:St} {H:Hp} {x:Str} {u:Value} {pos:Pos} {Q:Value→Shared→Prop} (I:Inv X pins σ H s) (hg:Gl X x) (hm:X.mg x=none) (hv:bootBuiltins x=some u) (h:Q u s)
    (hn:x ≠ "__name__":=by decide) (hd:(x==("__debug__" : Str))=false:=by decide):wpAny (model X.prog X.w) X.A (eval (.Name x pos) X.env) Q E s:=by
  obtain⟨mb,h1,h2⟩:=I.mod.blt
  exact Calls.Name_function_global I.ok.kind hg (Calls.loadGlobal_builtin (by rw [I.ok.glob];exact I.mod.glob.keeps I.bk) hm (by rw [I.ok.blt];exact h1.keeps I.bk) ((h2 x hn).trans hv) h) hd
theorem qA2 {x:Str} {v:V} {u:Value} {pos:Pos} (hg:Gl X x) (hm:X.mg x=some u) (r:RelV v u) (hd:(x==("__debug__" : Str))=false:=by decide):PE X (.Name x pos) (tC v) :=
  fun _ _ _ H _ I h=>qBN I hg hm ⟨v,H,I,r,h⟩ hd
theorem qH7 {x:Str} {v:V} {u:Value} {pos:Pos} (hg:Gl X x) (hm:X.mg x=none) (hv:bootBuiltins x=some u) (r:RelV v u) (hn:x ≠ "__name__":=by decide) (hd:(x==("__debug__" : Str))=false:=by decide):PE X (.Name x pos) (tC v) :=
  fun _ _ _ H _ I h=>qCO I hg hm hv ⟨v,H,I,r,h⟩ hn hd
variable {a b:Expr} {ta tb:TE} {pos:Pos}
noncomputable def tB (t:TE):TT:=fun σ H Q=>t σ H fun x H1=>∃ c,x = .bl c∧Q c H1
theorem qNq {e:Expr} {t:TE} (h:PE X e t) (he:∀ whole,isTrue e X.env whole=(do let v ← whole;standAt e.pos;holding [v] (truthy v)):=by intro _;rfl):PT X e (tB t):=by
  intro pins s σ H Q I hw
  refine isTrue_plain (thn (h pins s σ H _ I hw) fun v s1 hqz=>?_) (he _)
  k_dat 0"r10"
  obtain⟨d,rfl,q⟩:=q1
  cases r1
  exact wpAny_truthy_bool ⟨H1,I1,q⟩
variable {tA tB':TT} {rest:List Expr}
noncomputable def qQZ (t u:TT):TT:=fun σ H Q=>t σ H fun c H1=>if c=true then u σ H1 Q else Q false H1
noncomputable def tOr (t u:TT):TT:=fun σ H Q=>t σ H fun c H1=>if c=true then Q true H1 else u σ H1 Q
noncomputable def qQU (t:TT):TT:=fun σ H Q=>t σ H fun c H1=>Q (!c) H1
theorem qLs (ha:PT X a tA):PW X (.BoolOp .And [a] pos) tA:=by
  intro wh pins s σ H Q I h
  refine isTrue_and (thn (ha pins s σ H Q I h) fun c s1 e=>?_)
  cases c with
  | true=>exact isTrue_and_nil e
  | false=>exact e
theorem qOY (ha:PT X a tA):PW X (.BoolOp .Or [a] pos) tA:=by
  intro wh pins s σ H Q I h
  refine isTrue_or (thn (ha pins s σ H Q I h) fun c s1 e=>?_)
  cases c with
  | false=>exact isTrue_or_nil e
  | true=>exact e
theorem qM7 (ha:PT X a tA) (hb:PW X (.BoolOp .And (b::rest) pos) tB'):PW X (.BoolOp .And (a::b::rest) pos) (qQZ tA tB'):=by
  intro wh pins s σ H Q I h
  refine isTrue_and (thn (ha pins s σ H _ I h) fun c s1 hqz=>?_)
  obtain⟨H1,I1,q1⟩:=hqz
  cases c with
  | true=>exact hb wh pins s1 σ H1 Q I1 q1
  | false=>exact⟨H1,I1,q1⟩
theorem qPb (ha:PT X a tA) (hb:PW X (.BoolOp .Or (b::rest) pos) tB'):PW X (.BoolOp .Or (a::b::rest) pos) (tOr tA tB'):=by
  intro wh pins s σ H Q I h
  refine isTrue_or (thn (ha pins s σ H _ I h) fun c s1 hqz=>?_)
  obtain⟨H1,I1,q1⟩:=hqz
  cases c with
  | true=>exact⟨H1,I1,q1⟩
  | false=>exact hb wh pins s1 σ H1 Q I1 q1
theorem qNW (ha:PT X a tA):PT X (.UnaryOp .Not a pos) (qQU tA):=by
  k_dat 0"r1"
  exact isTrue_not (ha pins s σ H (fun c H1=>Q (!c) H1) I h)
noncomputable def qPR (ta tb:TE):TE:=fun σ H Q=>ta σ H fun x H1=>∃ c,x = .bl c∧if c=true then tb σ H1 Q else Q (.bl false) H1
noncomputable def qPQ (ta:TE):TE:=fun σ H Q=>ta σ H fun x H1=>∃ c,x = .bl c∧Q (.bl (!c)) H1
theorem qON {op} {t:TE} (h:PE X a t):PE X (.BoolOp op [a] pos) t:=fun pins s σ H Q I hw=>BoolOp_one (h pins s σ H Q I hw)
theorem qMx (ha:PE X a ta) (hb:PE X (.BoolOp .And (b::rest) pos) tb):PE X (.BoolOp .And (a::b::rest) pos) (qPR ta tb):=by
  k_dat 0"r1"
  refine BoolOp_and (thn (ha pins s σ H _ I h) fun v s1 hqz=>?_)
  k_dat 0"r10"
  obtain⟨c,rfl,q1⟩:=q1
  cases r1
  refine wpAny_truthy_bool ?_
  cases c with
  | true=>exact hb pins s1 σ H1 Q I1 q1
  | false=>exact⟨.bl false,H1,I1,rfl,q1⟩
theorem qNh (ha:PE X a ta):PE X (.UnaryOp .Not a pos) (qPQ ta):=by
  k_dat 0"r1"
  refine UnaryOp_ (thn (ha pins s σ H _ I h) fun v s1 hqz=>?_)
  k_dat 0"r10"
  obtain⟨c,rfl,q1⟩:=q1
  cases r1
  exact not_of (wpAny_truthy_bool ⟨.bl (!c),H1,I1,rfl,q1⟩)
noncomputable def tIf (t:TT) (ta tb:TE):TE:=fun σ H Q=>t σ H fun c H1=>if c=true then ta σ H1 Q else tb σ H1 Q
theorem qJ3 {c:Expr} (hc:PT X c tA) (ha:PE X a ta) (hb:PE X b tb):PE X (.IfExp c a b pos) (tIf tA ta tb):=by
  k_dat 0"r1"
  refine wpAny_IfExp (thn (hc pins s σ H _ I h) fun d s1 hqz=>?_)
  obtain⟨H1,I1,q1⟩:=hqz
  cases d with
  | true=>exact ha pins s1 σ H1 Q I1 q1
  | false=>exact hb pins s1 σ H1 Q I1 q1
end
end L2
namespace L2
open PySem PySem.Spec PyProof.Rows
def SqL (K:W.Frag) (H:Hp) (a:Addr) (xs:List V):Prop :=
  Rd H a (.lst xs) ∨
    ∃ (o:Obj) (its:Array Value) (n:Nat),K.lookup a=some o∧o.cls = .type "list" ∧ o.dict=none∧o.data = .seq its n∧its.size≤sizeLine∧Vals xs its.toList
noncomputable def qP9:Value→Option V
  | .none=>some .non
  | .bool b=>some (.bl b)
  | .int i _=>some (.int i)
  | .str x _=>some (.str x)
  | .bytes b _=>some (.byt b)
  | .float b _=>some (.flt b)
  | .ref a=>some (.ref a)
  | .type n=>some (.ty n)
  | _=>none
theorem RelV.abs {x:V} {u:Value} (r:RelV x u):qP9 u=some x:=by
  cases x with
  | non=>cases r;rfl
  | bl _=>cases r;rfl
  | int _=>obtain⟨t,rfl⟩:=r;rfl
  | str _=>obtain⟨t,rfl⟩:=r;rfl
  | byt _=>obtain⟨t,rfl⟩:=r;rfl
  | flt _=>obtain⟨t,rfl⟩:=r;rfl
  | ref _=>cases r;rfl
  | ty _=>cases r;rfl
theorem RelV.inj {x y:V} {u:Value} (r:RelV x u) (q:RelV y u):x=y:=Option.some.inj (r.abs.symm.trans q.abs)
theorem Vals.inj:∀ {xs ys:List V} {us:List Value},Vals xs us→Vals ys us→xs=ys
  | _,_,_,.nil,.nil=>rfl
  | _,_,_,.cons r t,.cons r' t'=>by rw [r.inj r',Vals.inj t t']
section
variable {X:Cx} {pins:List (Addr×Obj)} {σ:St} {H:Hp} {s:Shared} {a:Addr} {xs ys:List V}
theorem SqL.of {K:W.Frag} (h:H a=some (.lst xs)):SqL K H a xs:=.inl (.inl h)
theorem SqT.of {K:W.Frag} (h:H a=some (.tup xs)):SqT K H a xs:=.inl h
theorem Inv.list (I:Inv X pins σ H s) (h:SqL X.K H a xs):∃ its:List Value,Vals xs its∧PlainL s.heap a its.toArray∧xs.length≤sizeLine:=by
  rcases h with h | ⟨o,its,n,hk,hc,hd,hs,hz,r⟩
  · obtain⟨z,its,n,r,e⟩:=h.ok I.hok
    exact⟨its,r,⟨_,n,e,rfl,rfl,rfl⟩,z⟩
  · refine⟨its.toList,r,⟨o,n,I.kIn a o hk,hc,hd,by simpa using hs⟩,?_⟩
    have e:=r.length
    simp only [Array.length_toList] at e
    lia
theorem Inv.tuple (I:Inv X pins σ H s) (h:SqT X.K H a xs):∃ its:List Value,Vals xs its∧IsTup s.heap a its.toArray∧xs.length≤sizeLine:=by
  rcases h with h | ⟨o,its,n,hk,hc,hs,hz,r⟩
  · obtain⟨z,its,r,p⟩:=I.hok a _ h
    exact⟨its,r,p.tup,z⟩
  · refine⟨its.toList,r,⟨o,I.kIn a o hk,hc.1,n,by simpa using hs⟩,?_⟩
    have e:=r.length
    simp only [Array.length_toList] at e
    lia
theorem Inv.qFx (I:Inv X pins σ H s) (h:SqL X.K H a xs) (h':SqL X.K H a ys):xs=ys:=by
  obtain⟨its,r,⟨o,n,e,_,_,d⟩,_⟩:=I.list h
  obtain⟨its',r',⟨o',n',e',_,_,d'⟩,_⟩:=I.list h'
  rw [e] at e';cases e'
  rw [d] at d'
  injection d' with d1 _
  have:its=its':=by simpa using congrArg Array.toList d1
  subst this
  exact r.inj r'
theorem Inv.qB2 (I:Inv X pins σ H s) (h:SqT X.K H a xs) (h':SqT X.K H a ys):xs=ys:=by
  obtain⟨its,r,⟨o,e,_,n,d⟩,_⟩:=I.tuple h
  obtain⟨its',r',⟨o',e',_,n',d'⟩,_⟩:=I.tuple h'
  rw [e] at e';cases e'
  rw [d] at d'
  injection d' with d1 _
  have:its=its':=by simpa using congrArg Array.toList d1
  subst this
  exact r.inj r'
end
noncomputable abbrev Cx.qD4 (X:Cx) (E:Value→Shared→Prop):Cx:={ X with xe:=E }
noncomputable abbrev Cx.nox (X:Cx):Cx:=X.qD4 fun _ _=>False
theorem Cx.Ok.qD4 {X:Cx} (ok:X.Ok) (E:Value→Shared→Prop):(X.qD4 E).Ok :=
  ⟨ok.mod,ok.kind,ok.glob,ok.blt,ok.above,ok.inj,ok.has,ok.cab,ok.hd,ok.frames,ok.stk,ok.exf,ok.bs,ok.bsz,ok.noex,ok.exfs,ok.qCa,ok.frf⟩
theorem Cx.Ok.qBW {X:Cx} {E:Value→Shared→Prop} (ok:(X.qD4 E).Ok):X.Ok :=
  ⟨ok.mod,ok.kind,ok.glob,ok.blt,ok.above,ok.inj,ok.has,ok.cab,ok.hd,ok.frames,ok.stk,ok.exf,ok.bs,ok.bsz,ok.noex,ok.exfs,ok.qCa,ok.frf⟩
section
variable {X:Cx} {pins:List (Addr×Obj)} {σ:St} {H:Hp} {s:Shared} {E:Value→Shared→Prop}
theorem Inv.qD4 (I:Inv X pins σ H s) (E:Value→Shared→Prop):Inv (X.qD4 E) pins σ H s:=⟨I.ok.qD4 E,I.os,I.bare,I.base,I.loc,I.cell,I.free,I.freeC,I.pin,I.hok,I.len⟩
theorem Inv.qBW (I:Inv (X.qD4 E) pins σ H s):Inv X pins σ H s:=⟨I.ok.qBW,I.os,I.bare,I.base,I.loc,I.cell,I.free,I.freeC,I.pin,I.hok,I.len⟩
theorem SP.qBW {D:Ends} {f:Flow} {s':Shared} (h:SP (X.qD4 E) pins D f s'):SP X pins D f s':=by
  cases f with
  | next=>obtain⟨σ',H',I,q⟩:=h;exact⟨σ',H',I.qBW,q⟩
  | brk=>obtain⟨σ',H',I,q⟩:=h;exact⟨σ',H',I.qBW,q⟩
  | cont=>obtain⟨σ',H',I,q⟩:=h;exact⟨σ',H',I.qBW,q⟩
  | ret u=>obtain⟨v,σ',H',I,r,q⟩:=h;exact⟨v,σ',H',I.qBW,r,q⟩
theorem PSs.nox {st:List Stmt} {t:TS} (h:PSs X.nox st t):PSs X st t:=fun pins s σ H D I hw =>
  wpAny_mono (h pins s σ H D (I.qD4 _) hw) (fun _ _ q=>q.qBW) fun _ _ z=>False.elim z
end
section
variable {X:Cx} {st:Stmt} {rest:List Stmt} {t u:TS} {e:Expr} {te:TE} {pos:Pos}
noncomputable def qO2:TS:=fun D σ H=>D.nx σ H
noncomputable def qQa (t u:TS):TS:=fun D σ H=>t { D with nx:=u D } σ H
theorem qE5:PSs X [] qO2:=fun _ _ σ H _ I h=>wpAny_execs_nil ⟨σ,H,I,h⟩
theorem qCb (h1:PS X st t) (h2:PSs X rest u):PSs X (st::rest) (qQa t u):=by
  k_dat 0"r9"
  refine wpAny_execs_cons (thn (h1 pins s σ H { D with nx:=u D } I h) fun f s1 q=>?_)
  cases f with
  | next =>
    obtain⟨σ',H',I',q⟩:=q
    exact h2 pins s1 σ' H' D I' q
  | ret v=>exact q
  | brk=>exact q
  | cont=>exact q
theorem Inv.quiet {pins:List (Addr×Obj)} {σ:St} {H:Hp} {s:Shared} (I:Inv X pins σ H s):interactive X.env=false:=by simp [interactive,I.ok.kind]
noncomputable def qPf (te:TE):TS:=fun D σ H=>te σ H fun _ H1=>D.nx σ H1
theorem qH1 (he:PE X e te) (hs:swapsWith e none pos.line X.env=pure false:=by rfl):PS X (.Expr e pos) (qPf te):=by
  k_dat 0"r9"
  exact wpAny_Expr_any (thn (he pins s σ H _ I h) fun v s1 ⟨x,H1,I1,r1,q1⟩=>⟨σ,H1,I1,q1⟩) I.quiet hs
noncomputable def qQG (te:TE):TS:=fun D σ H=>te σ H D.rt
theorem qJI (he:PE X e te):PS X (.Return (some e) pos) (qQG te):=by
  k_dat 0"r9"
  exact wpAny_Return_some (thn (he pins s σ H _ I h) fun v s1 ⟨x,H1,I1,r1,q1⟩=>⟨x,σ,H1,I1,r1,q1⟩)
noncomputable def qQb (c:TT) (t u:TS):TS:=fun D σ H=>c σ H fun b H1=>if b=true then t D σ H1 else u D σ H1
theorem qMS {c:Expr} {a b:List Stmt} {tc:TT} (hc:PT X c tc) (ha:PSs X a t) (hb:PSs X b u):PS X (.If c a b pos) (qQb tc t u):=by
  k_dat 0"r9"
  refine wpAny_If (thn (hc pins s σ H _ I h) fun d s1 hqz=>?_)
  obtain⟨H1,I1,q1⟩:=hqz
  cases d with
  | true=>exact ha pins s1 σ H1 D I1 q1
  | false=>exact hb pins s1 σ H1 D I1 q1
end
noncomputable abbrev TG:=V→St→Hp→(St→Hp→Prop)→Prop
noncomputable abbrev TGs:=List V→St→Hp→(St→Hp→Prop)→Prop
def PG (X:Cx) (target:Expr) (t:TG):Prop :=
  ∀ (pins:List (Addr×Obj)) (s:Shared) (σ:St) (H:Hp) (v:V) (u:Value) (Q:St→Hp→Prop),Inv X pins σ H s→RelV v u→t v σ H Q →
    wpAny (model X.prog X.w) X.A (assign target X.env u) (fun _ s'=>∃ σ' H',Inv X pins σ' H' s'∧Q σ' H') X.xe s
def PGs (X:Cx) (ts:List Expr) (t:TGs):Prop :=
  ∀ (pins:List (Addr×Obj)) (s:Shared) (σ:St) (H:Hp) (vs:List V) (us:List Value) (Q:St→Hp→Prop),Inv X pins σ H s→Vals vs us→t vs σ H Q →
    wpAny (model X.prog X.w) X.A (assignInOrder ((assignEach ts X.env).map (·.2)) us) (fun _ s'=>∃ σ' H',Inv X pins σ' H' s'∧Q σ' H') X.xe s
noncomputable abbrev qOG:=V→V→V→Hp→(Hp→Prop)→Prop
def qPm (X:Cx) (t:qOG):Prop :=
  ∀ (pins:List (Addr×Obj)) (s:Shared) (σ:St) (H:Hp) (o i v:V) (ov iv u:Value) (Q:Hp→Prop),Inv X pins σ H s→RelV o ov→RelV i iv→RelV v u→t o i v H Q →
    wpAny (model X.prog X.w) X.A (setItem ov iv u) (fun _ s'=>∃ H',Inv X pins σ H' s'∧Q H') X.xe s
section
variable {X:Cx} {pos:Pos}
noncomputable def qDc (i:Nat):TG:=fun v σ H Q=>Q (σ.set i (some v)) H
theorem qFN {i:Nat} {x:Str} (hN:X.N.Nodup) (hi:X.N[i]? = some x) (hx:Loc X.env.scope x) (hf:X.fn x=true∨X.env.scope.names.lookup x=some .local:=by first | exact .inl rfl | exact .inr rfl | assumption):PG X (.Name x pos) (qDc i):=by
  intro pins s σ H v u Q I r h
  exact wpAny_assign_Name (qGd I hN hi hx r (fun s' I'=>⟨_,H,I',h⟩) hf)
noncomputable def qQQ:TGs:=fun vs σ H Q=>vs=[]∧Q σ H
noncomputable def qPn (t:TG) (u:TGs):TGs:=fun vs σ H Q=>∃ v r,vs=v::r∧t v σ H fun σ' H'=>u r σ' H' Q
theorem qLp:PGs X [] qQQ:=by
  intro pins s σ H vs us Q I r h
  obtain⟨e,h⟩:=h
  subst e
  cases r
  exact assignInOrder_nil ⟨σ,H,I,h⟩
theorem qKI {e:Expr} {es:List Expr} {t:TG} {u:TGs} (h1:PG X e t) (h2:PGs X es u)
    (hs:(assignEach (e::es) X.env).map (·.2)=assign e X.env::(assignEach es X.env).map (·.2):=by rfl):PGs X (e::es) (qPn t u):=by
  intro pins s σ H vs us Q I r h
  obtain⟨v,vr,e1,h⟩:=h
  subst e1
  cases r with
  | cons r rr =>
    rw [hs]
    refine assignInOrder_cons (thn (h1 pins s σ H _ _ _ I r h) fun _ s1 hqz=>?_)
    obtain⟨σ1,H1,I1,q1⟩:=hqz
    exact h2 pins s1 σ1 H1 _ _ Q I1 rr q1
noncomputable def qP4 (to ti:TE) (t:qOG):TG:=fun v σ H Q=>to σ H fun o H1=>ti σ H1 fun i H2=>t o i v H2 fun H3=>Q σ H3
theorem qNZ {o i:Expr} {to ti:TE} {t:qOG} (ho:PE X o to) (hi:PE X i ti) (hs:qPm X t)
    (ha:∀ v,assign (.Subscript o i pos) X.env v=(do
      let ov ← holding [v] (eval o X.env)
      let iv ← holding [v,ov] (eval i X.env)
      standAt pos
      holding [v,ov,iv] (setItem ov iv v)
      release [v,ov,iv] []):=by intro _;rfl):PG X (.Subscript o i pos) (qP4 to ti t):=by
  intro pins s σ H v u Q I r h
  rw [ha]
  refine wpAny_bind (wpAny_holding (thn (ho pins s σ H _ I h) fun ov s1 hqz=>?_))
  k_dat 0"r10"
  refine wpAny_bind (wpAny_holding (thn (hi pins s1 σ H1 _ I1 q1) fun iv s2 hqz=>?_))
  obtain⟨y,H2,I2,r2,q2⟩:=hqz
  refine wpAny_bind (wpAny_standAt (wpAny_bind (wpAny_holding (thn (hs pins s2 σ H2 x y v ov iv u _ I2 r1 r2 r q2) fun _ s3 hqz=>?_))))
  obtain⟨H3,I3,q3⟩:=hqz
  exact wpAny_release ⟨σ,H3,I3,q3⟩
noncomputable def qLi (te:TE) (g:TG):TS:=fun D σ H=>te σ H fun x H1=>g x σ H1 D.nx
theorem qOa {tg e:Expr} {te:TE} {g:TG} (he:PE X e te) (hg:PG X tg g) (hs:swapsWithSole [tg] e pos.line X.env=pure false:=by rfl) (hw:swappedStores [tg] e X.env=pure none:=by rfl)
    (h1:(assignEach [tg] X.env).map (·.2)=[assign tg X.env]:=by rfl):PS X (.Assign [tg] e pos) (qLi te g):=by
  k_dat 0"r9"
  refine wpAny_Assign_stores (thn (he pins s σ H _ I h) fun v s1 hqz=>?_) hs hw
  k_dat 0"r10"
  rw [h1]
  exact thn (hg pins s1 σ H1 x v _ I1 r1 q1) fun _ s2 q=>q
theorem qNT {i:Nat} {x:Str} {e:Expr} {te:TE} {pos':Pos} (hN:X.N.Nodup) (hi:X.N[i]? = some x) (hx:Loc X.env.scope x) (he:PE X e te) (hs:swapsWith e (some (.Name x pos')) pos.line X.env=pure false:=by rfl) (hf:X.fn x=true∨X.env.scope.names.lookup x=some .local:=by first | exact .inl rfl | exact .inr rfl | assumption) :
    PS X (.Assign [.Name x pos'] e pos) (qLi te (qDc i)):=by
  k_dat 0"r9"
  refine wpAny_Assign_Name (thn (he pins s σ H _ I h) fun v s1 hqz=>?_) hs
  obtain⟨y,H1,I1,r1,q1⟩:=hqz
  exact qGd I1 hN hi hx r1 (fun s2 I2=>⟨_,H1,I2,q1⟩) hf
end
structure It where
  go:Nat→Hp→Prop
  yld:Nat→Hp→V→Hp→Prop
  stop:Nat→Hp→Prop
def qEP (X:Cx) (pins:List (Addr×Obj)) (H:Hp) (b:Addr):Prop :=
  H b=none∧b≠X.env.locals∧b ∉ X.fs∧(b∈X.ex∨X.s₀.heap.objs.size≤b)∧(∀ x c,X.env.cells.lookup x=some c→c≠b)∧∀ p∈X.pn++pins,p.1≠b
theorem Inv.qIe {X:Cx} {pins:List (Addr×Obj)} {σ:St} {H H':Hp} {s:Shared} {b:Addr} (I:Inv X pins σ H s) (hb:s.heap.objs.size≤b) (hn:H' b=none):qEP X pins H' b:=by
  refine⟨hn,Nat.ne_of_gt (Nat.lt_of_lt_of_le I.lt hb),I.qPq hb,.inr (Nat.le_trans I.sz hb),fun x c e z=>?_,fun p hp z=>?_⟩
  · obtain⟨v,q⟩:=I.cell x c e
    exact absurd (Nat.lt_of_lt_of_le q.lt (by rw [z];exact hb)) (Nat.lt_irrefl _)
  · exact absurd (Nat.lt_of_lt_of_le (Heap.lt_size (I.pin p hp).1) (by rw [z];exact hb)) (Nat.lt_irrefl _)
structure Turn (P:Program) (w:World) (K:W.Frag) (tg:Expr) (J:It) (fp:List Addr) (it:Addr) (tn:Nat→Heap→Prop):Prop where
  mem:it∈fp
  obj:∀ i h,tn i h→∀ b∈fp,∃ o,h.get? b=some o∧∀ v,o.data≠.cell v
  keep:∀ i h h',tn i h→(∀ b∈fp,∀ o,h.get? b=some o→h'.get? b=some o)→tn i h'
  item:∀ (X:Cx),X.prog=P→X.w=w→X.K=K→X.calm=true→∀ (i:Nat) (pins:List (Addr×Obj)) (s:Shared) (σ:St) (H:Hp) (E:Value→Shared→Prop),Inv X pins σ H s→(∀ b∈fp,qEP X pins H b)→tn i s.heap→J.go i H →
    wpAny (model P w) X.A (pyNext (.ref it)) (fun r s1=>∃ u,r=some u ∧
      wpAny (model P w) X.A (letOwnedTupleGo tg (.ref it) u) (fun _ s2=>∃ x H',Inv X pins σ H' s2∧RelV x u∧J.yld i H x H'∧tn (i+1) s2.heap∧∀ b∈fp,H' b=none) E s1) E s
  done:∀ (X:Cx),X.prog=P→X.w=w→X.K=K→X.calm=true→∀ (i:Nat) (pins:List (Addr×Obj)) (s:Shared) (σ:St) (H:Hp) (E:Value→Shared→Prop),Inv X pins σ H s→(∀ b∈fp,qEP X pins H b)→tn i s.heap→J.stop i H →
    wpAny (model P w) X.A (pyNext (.ref it)) (fun r s1=>r=none∧Inv X pins σ H s1) E s
  self:∀ (A:Around) (i:Nat) (s:Shared) (Q:Value→Shared→Prop) (E:Value→Shared→Prop),tn i s.heap→Q (.ref it) s→wpAny (model P w) A (pyIter (.ref it)) Q E s
noncomputable abbrev TI:=St→Hp→(It→Hp→Prop)→Prop
def PIE (X:Cx) (pins:List (Addr×Obj)) (σ:St) (tg:Expr) (R:It→Hp→Prop) (itv:Value) (s2:Shared):Prop :=
  ∃ (it:Addr) (fp:List Addr) (tn:Nat→Heap→Prop) (J:It) (H':Hp),itv = .ref it∧Inv X pins σ H' s2∧Turn X.prog X.w X.K tg J fp it tn∧tn 0 s2.heap∧(∀ b∈fp,qEP X pins H' b)∧R J H'
def PI (X:Cx) (tg iter:Expr) (wi:TI):Prop :=
  ∀ (pins:List (Addr×Obj)) (s:Shared) (σ:St) (H:Hp) (R:It→Hp→Prop),Inv X pins σ H s→wi σ H R →
    wpAny (model X.prog X.w) X.A (eval iter X.env) (fun v s1=>wpAny (model X.prog X.w) X.A (pyIter v) (PIE X pins σ tg R) X.xe s1) X.xe s
theorem qH2 {M:Model} {A:Around} {E:Value→Shared→Prop} {s:Shared} {tg:Expr} {it:Addr} {u:Value} {o:Obj} {n:String} {vs:Array Value} {Q:Unit→Shared→Prop} (ho:s.heap.get? it=some o) (hc:o.cls = .type n) (hd:o.data = .fields vs)
    (hn:["enumerate", "zip", "dict_itemiterator", "dict_reverseitemiterator", "odict_iterator", "itertools.zip_longest", "itertools.pairwise"].contains n=false) (hQ:Q () s):wpAny M A (letOwnedTupleGo tg (.ref it) u) Q E s:=by
  unfold letOwnedTupleGo
  cases tg <;> first
    | exact wpAny_pure hQ
    | (cases u<;>first
        | exact wpAny_pure hQ
        | (refine wpAny_bind (wpAny_load ho ?_)
           rw [hc,hd]
           show wpAny M A (if (["enumerate", "zip", "dict_itemiterator", "dict_reverseitemiterator", "odict_iterator", "itertools.zip_longest", "itertools.pairwise"].contains n&&vs[0]? == some (rawInt _))=true then _ else _) Q E s
           rw [if_neg (by intro h;rw [hn,Bool.false_and] at h;cases h)]
           exact wpAny_pure hQ))
noncomputable def Itl (K:W.Frag) (a:Addr):It :=
  ⟨fun i H=>∃ xs x,SqL K H a xs∧xs[i]? = some x,fun i H x H'=>H'=H∧∀ xs,SqL K H a xs→xs[i]? = some x,fun i H=>∃ xs,SqL K H a xs∧xs.length≤i⟩
noncomputable def Itt (K:W.Frag) (a:Addr):It :=
  ⟨fun i H=>∃ xs x,SqT K H a xs∧xs[i]? = some x,fun i H x H'=>H'=H∧∀ xs,SqT K H a xs→xs[i]? = some x,fun i H=>∃ xs,SqT K H a xs∧xs.length≤i⟩
noncomputable def Itr (lo:Int) (n:Nat):It:=⟨fun i _=>i<n,fun i H x H'=>H'=H∧x = .int (lo+i),fun i _=>n≤i⟩
theorem qIA {P:Program} {w:World} {K:W.Frag} {tg:Expr} (a it:Addr):Turn P w K tg (Itl K a) [it] it (fun i h=>h.IsListIter it a i) where
  mem:=by simp
  obj:=fun i h st b hb=>by
    have e:b=it:=by simpa using hb
    subst e
    obtain⟨o,e,c,d⟩:=st
    exact⟨o,e,fun v z=>by rw [d] at z;cases z⟩
  keep:=fun i h h' st k=>st.at fun o e=>k it (by simp) o e
  item:=by
    k_dat 0"r7"
    subst hP hw hK
    obtain⟨xs,x,hq,hx⟩:=hg
    obtain⟨its,rv,p,hz⟩:=I.list hq
    obtain⟨u,hu,ru⟩:=rv.get hx
    k_dat 0"r14"
    refine wpAny_pyNext_list_item st p.isList (x:=u) (by simpa using hu) fun h' st' sb=>?_
    k_dat 0"r50"
    obtain⟨o,e,c,d⟩:=id st'
    exact⟨u,rfl,qH2 (s:={ s with heap:=h' }) e c d (by decide) ⟨x,H,I1,ru,⟨rfl,fun ys hy=>by rw [I.qFx hy hq];exact hx⟩,st',fun b hb=>(hf b hb).1⟩⟩
  done:=by
    k_dat 0"r7"
    subst hP hw hK
    obtain⟨xs,hq,hx⟩:=hg
    obtain⟨its,rv,p,hz⟩:=I.list hq
    k_dat 0"r14"
    have hl:=rv.length
    exact wpAny_pyNext_list_end (I.ok.hd hc) st p.isList (by simp;lia) fun h' eb=>⟨rfl,I.turned (t':=s.toks) (fun b o hb e=>eb b o hb e) f0 f1 f3 f4 f5⟩
  self:=fun _ _ _ _ _ st h=>wpAny_pyIter_listiter st h
theorem qHL {P:Program} {w:World} {K:W.Frag} {tg:Expr} (a it:Addr):Turn P w K tg (Itt K a) [it] it (fun i h=>h.IsTupleIter it a i) where
  mem:=by simp
  obj:=fun i h st b hb=>by
    have e:b=it:=by simpa using hb
    subst e
    obtain⟨o,e,c,d⟩:=st
    exact⟨o,e,fun v z=>by rw [d] at z;cases z⟩
  keep:=fun i h h' st k=>st.at fun o e=>k it (by simp) o e
  item:=by
    k_dat 0"r7"
    subst hP hw hK
    obtain⟨xs,x,hq,hx⟩:=hg
    obtain⟨its,rv,p,hz⟩:=I.tuple hq
    obtain⟨u,hu,ru⟩:=rv.get hx
    k_dat 0"r14"
    refine wpAny_pyNext_tuple_item st (show s.heap.IsTuple a its.toArray from p) (x:=u) (by simpa using hu) fun h' st' sb=>?_
    k_dat 0"r50"
    obtain⟨o,e,c,d⟩:=id st'
    exact⟨u,rfl,qH2 (s:={ s with heap:=h' }) e c d (by decide) ⟨x,H,I1,ru,⟨rfl,fun ys hy=>by rw [I.qB2 hy hq];exact hx⟩,st',fun b hb=>(hf b hb).1⟩⟩
  done:=by
    k_dat 0"r7"
    subst hP hw hK
    obtain⟨xs,hq,hx⟩:=hg
    obtain⟨its,rv,p,hz⟩:=I.tuple hq
    k_dat 0"r14"
    have hl:=rv.length
    exact wpAny_pyNext_tuple_end (I.ok.hd hc) st (show s.heap.IsTuple a its.toArray from p) (by simp;lia) fun h' eb=>⟨rfl,I.turned (t':=s.toks) (fun b o hb e=>eb b o hb e) f0 f1 f3 f4 f5⟩
  self:=fun _ _ _ _ _ st h=>wpAny_pyIter_tupleiter st h
theorem qGy {P:Program} {w:World} {K:W.Frag} {tg:Expr} (it:Addr) (lo:Int) (n:Nat):Turn P w K tg (Itr lo n) [it] it (fun i h=>IsRangeIter h it (lo+(i:Nat) * 1) ((n:Int) - (i:Nat)) 1) where
  mem:=by simp
  obj :=fun i h st b hb=>by
    have e:b=it:=by simpa using hb
    subst e
    exact⟨_,st,fun v z=>by
      have z':Data.fields _=Data.cell v:=z
      cases z'⟩
  keep:=fun i h h' st k=>k it (by simp) _ st
  item:=by
    k_dat 0"r7"
    subst hP hw hK
    k_dat 0"r14"
    have W:=Walks.range (prog:=X.prog) (w:=X.w) (I.ok.hd hc) it lo 1 n
    refine W.item i s _ _ hg st fun v h' tk hv st' kk=>?_
    obtain⟨t,rfl⟩:=hv
    have I1:Inv X pins σ H { s with heap:=h',toks:=tk }:=I.turned (fun b o hb e=>kk b o (by simpa using hb) e) f0 f1 f3 f4 f5
    refine⟨_,rfl,qH2 (s:={ s with heap:=h',toks:=tk }) (n:= "range_iterator") st' rfl rfl (by decide) ⟨.int (lo+i),H,I1,⟨t,?_⟩,⟨rfl,rfl⟩,st',fun b hb=>(hf b hb).1⟩⟩
    rw [Int.mul_one]
  done:=by
    k_dat 0"r7"
    subst hP hw hK
    k_dat 0"r14"
    exact wpAny_pyNext_range_end (I.ok.hd hc) st (by have:n≤i:=hg;lia) fun h' eb=>⟨rfl,I.turned (t':=s.toks) (fun b o hb e=>eb b o hb e) f0 f1 f3 f4 f5⟩
  self:=fun _ _ _ _ _ st h=>wpAny_pyIter_rangeiter st h
end L2
namespace L2
open PySem PySem.Spec PyProof.Rows
section
variable {X:Cx} {tg:Expr}
theorem qJD {pins:List (Addr×Obj)} {σ:St} {H:Hp} {s:Shared} {R:It→Hp→Prop} {E:Value→Shared→Prop} {lo hi:Int} {t u v:Tok} {tk:Nat} (I:Inv X pins σ H s) (h1:-(2 ^ 62)≤lo) (h2:lo<2 ^ 62) (h3:-(2 ^ 62)≤hi) (h4:hi<2 ^ 62)
    (q:R (Itr lo (hi - lo).toNat) H):wpAny (model X.prog X.w) X.A (pyIter (.ref s.heap.objs.size)) (PIE X pins σ tg R) E { s with heap:=s.heap.push { cls:=.type "range",data:=.fields #[.int lo t,.int hi u,.int 1 v] },toks:=tk }:=by
  refine wpAny_pyIter_range (IsRange.new ..) (small_one h1 h2 h3 h4) ?_
  have I1:Inv X pins σ H { s with heap:=s.heap.push { cls:=.type "range",data:=.fields #[.int lo t,.int hi u,.int 1 v] },toks:=tk }:=I.kept fun b o e=>Heap.get?_push_of_some _ e
  refine⟨(s.heap.push { cls:=.type "range",data:=.fields #[.int lo t,.int hi u,.int 1 v] }).objs.size,[(s.heap.push { cls:=.type "range",data:=.fields #[.int lo t,.int hi u,.int 1 v] }).objs.size],_,_,H,rfl,
    I1.kept (t':=tk) fun b o e=>Heap.get?_push_of_some _ e,qGy _ lo (hi - lo).toNat,?_,fun b hb=>?_,q⟩
  · have e1:lo+((0:Nat):Int) * 1=lo:=by simp
    have e2:(((hi - lo).toNat:Nat):Int) - ((0:Nat):Int)=Builtin.Range.rangeSize lo hi 1:=by rw [rangeSize_one];split<;>lia
    show IsRangeIter _ _ (lo+((0:Nat):Int) * 1) ((((hi - lo).toNat:Nat):Int) - ((0:Nat):Int)) 1
    rw [e1,e2]
    exact Heap.get?_push_size _ rfl
  · have e:b=(s.heap.push { cls:=.type "range",data:=.fields #[.int lo t,.int hi u,.int 1 v] }).objs.size:=by simpa using hb
    subst e
    k_dat 0"r30"
noncomputable def qPo (ta:TA):TI:=fun σ H R=>ta σ H fun vs H1=>∃ j:Int,vs=[.int j]∧-(2 ^ 62)≤j∧j<2 ^ 62∧R (Itr 0 j.toNat) H1
theorem qIk {a:Expr} {ta:TA} {p pos:Pos} (hg:Gl X "range") (hm:X.mg "range" = none) (ha:PA X [a] ta) (hs:starEach [a] X.env=[(false,eval a X.env)]:=by rfl):PI X tg (.Call (.Name "range" p) [a] [] pos) (qPo ta):=by
  intro pins s σ H R I h
  refine Call_ (qCO I hg hm boot_range (PyProof.Rows.callWith_type1 (thn (ha pos pins s σ H _ I h) fun us s1 hqz=>?_) hs rfl))
  obtain⟨vs,H1,I1,r1,q1⟩:=hqz
  obtain⟨j,e,q1,q2,q⟩:=q1
  subst e
  cases r1 with
  | cons r rr =>
    cases rr
    obtain⟨t,rfl⟩:=r
    exact call_range_1 (qJD I1 (by lia) (by lia) q1 q2 (by simpa using q))
noncomputable def qQE (wi:TI) (g:TG) (tb:TS):TS:=fun D σ H=>wi σ H fun J H1=>∃ W:Nat→Nat→St→Hp→Prop,(∃ m,W 0 m σ H1)∧∀ i m σ H,W i m σ H →
  (J.stop i H∧D.nx σ H)∨(J.go i H∧∃ N:St→Hp→Prop,(∀ σ' H',N σ' H'→∃ m',m'<m∧W (i+1) m' σ' H')∧∀ x H',J.yld i H x H'→g x σ H' fun σ2 H2=>tb { D with nx:=N,ct:=N,bk:=D.nx } σ2 H2)
noncomputable def qD6 (fp:List Addr) (h:Heap):List (Addr×Obj):=fp.filterMap fun b=>(h.get? b).map fun o=>(b,o)
theorem qBY {fp:List Addr} {h:Heap} {b:Addr} {o:Obj} (hb:b∈fp) (e:h.get? b=some o):(b,o)∈qD6 fp h:=List.mem_filterMap.mpr ⟨b,hb,by rw [e];rfl⟩
theorem qIM {fp:List Addr} {h:Heap} {p:Addr×Obj} (hp:p∈qD6 fp h):p.1∈fp∧h.get? p.1=some p.2:=by
  obtain⟨b,hb,e⟩:=List.mem_filterMap.mp hp
  cases q:h.get? b with
  | none=>rw [q] at e;cases e
  | some o =>
    rw [q] at e
    have e':(b,o)=p:=Option.some.inj e
    subst e'
    exact⟨hb,q⟩
theorem Inv.pinned {pins:List (Addr×Obj)} {σ:St} {H:Hp} {s:Shared} {fp:List Addr} (I:Inv X pins σ H s) (hf:∀ b∈fp,qEP X pins H b) (ho:∀ b∈fp,∃ o,s.heap.get? b=some o∧∀ v,o.data≠.cell v):Inv X (pins++qD6 fp s.heap) σ H s :=
  I.qDK fun p hp=>(List.mem_append.mp hp).elim (fun z=>I.pin p (List.mem_append_right _ z)) fun z=>by
    obtain⟨hb,e⟩:=qIM z
    obtain⟨f0,f1,f2,_⟩:=hf p.1 hb
    obtain⟨o,e',d⟩:=ho p.1 hb
    rw [e] at e';cases e'
    exact⟨e,f0,f1,f2,d⟩
theorem Inv.qCR {pins pl:List (Addr×Obj)} {σ:St} {H:Hp} {s:Shared} (I:Inv X (pins++pl) σ H s):Inv X pins σ H s:=I.qDK fun p hp=>I.pin p (List.mem_append_right _ (List.mem_append_left _ hp))
theorem qJw {iter:Expr} {body:List Stmt} {wi:TI} {g:TG} {tb:TS} {pos:Pos} (hp:PassesOwn (model X.prog X.w) X.A X.env X.xe) (hc:X.calm=true) (hi:PI X tg iter wi) (hg:PG X tg g) (hb:PSs X body tb)
    (hs:∀ x,foldedSetIterable iter X.env x=pure x:=by intro _;rfl):PS X (.For tg iter body [] pos) (qQE wi g tb):=by
  k_dat 0"r9"
  refine wpAny_For (thn (hi pins s σ H _ I h) fun v s1 h1=>thn h1 fun itv s2 h2=>?_) hs
  obtain⟨it,fp,tn,J,H2,e,I2,T,st2,f2,W,⟨m0,w0⟩,turn⟩:=h2
  subst e
  -- what stays true of the iterator's objects through the loop
  have stat:∀ {H':Hp},(∀ b∈fp,H' b=none)→∀ b∈fp,qEP X pins H' b:=fun hn b hb=>⟨hn b hb,(f2 b hb).2⟩
  refine codeAny_forLoop_any (fun n s'=>∃ i σ' H',Inv X pins σ' H' s'∧tn i s'.heap∧(∀ b∈fp,H' b=none)∧W i n σ' H') ?_ m0 ⟨0,σ,H2,I2,st2,fun b hb=>(f2 b hb).1,w0⟩
  rintro n s3 ⟨i,σ3,H3,I3,st3,fr3,w3⟩
  rcases turn i n σ3 H3 w3 with ⟨stop,qn⟩ | ⟨go,N,hN,step⟩
  · refine wpAny_passesOwn hp (thn (T.done X rfl rfl rfl hc i pins s3 σ3 H3 X.xe I3 (stat fr3) st3 stop) fun r s4 hqz=>?_)
    obtain⟨hr,I4⟩:=hqz
    subst hr
    exact wpAny_execs_nil ⟨σ3,H3,I4,qn⟩
  · refine wpAny_passesOwn hp (thn (T.item X rfl rfl rfl hc i pins s3 σ3 H3 X.xe I3 (stat fr3) st3 go) fun r s4 hqz=>?_)
    obtain⟨u,hr,h4⟩:=hqz
    subst hr
    refine wpAny_passesOwn hp (thn h4 fun _ s5 hqz=>?_)
    obtain⟨x,H5,I5,r5,y5,st5,fr5⟩:=hqz
    have I5':=I5.pinned (stat fr5) (T.obj _ _ st5)
    refine wpAny_passesOwn hp (thn (hg _ s5 σ3 H5 x u _ I5' r5 (step x H5 y5)) fun _ s6 hqz=>?_)
    obtain⟨σ6,H6,I6,q6⟩:=hqz
    refine wpAny_passesOwn hp (thn (hb _ s6 σ6 H6 _ I6 q6) fun f s7 q7=>?_)
    have again:∀ {σ7:St} {H7:Hp},Inv X (pins++qD6 fp s5.heap) σ7 H7 s7→N σ7 H7→∃ m,m<n∧∃ i σ' H',Inv X pins σ' H' s7∧tn i s7.heap∧(∀ b∈fp,H' b=none)∧W i m σ' H':=fun {σ7 H7} I7 n7=>by
      obtain⟨m',hm,w7⟩:=hN σ7 H7 n7
      refine⟨m',hm,i+1,σ7,H7,I7.qCR,T.keep _ _ _ st5 fun b hb o e=>(I7.pin (b,o) (List.mem_append_right _ (List.mem_append_right _ (qBY hb e)))).1,fun b hb=>?_,w7⟩
      obtain⟨o,e,d⟩:=T.obj _ _ st5 b hb
      exact (I7.pin (b,o) (List.mem_append_right _ (List.mem_append_right _ (qBY hb e)))).2.1
    cases f with
    | next=>obtain⟨σ7,H7,I7,n7⟩:=q7;exact again I7 n7
    | cont=>obtain⟨σ7,H7,I7,n7⟩:=q7;exact again I7 n7
    | brk=>obtain⟨σ7,H7,I7,q7⟩:=q7;exact⟨σ7,H7,I7.qCR,q7⟩
    | ret v=>obtain⟨x7,σ7,H7,I7,r7,q7⟩:=q7;exact⟨x7,σ7,H7,I7.qCR,r7,q7⟩
end
end L2
namespace L2
open PySem PySem.Spec PyProof.Rows
noncomputable abbrev R2:=V→V→Hp→VK→Prop
def OpR (X:Cx) (f:Value→Value→Sem Value) (r:R2):Prop :=
  ∀ (pins:List (Addr×Obj)) (s:Shared) (σ:St) (H:Hp) (x y:V) (v u:Value) (Q:VK),Inv X pins σ H s→RelV x v→RelV y u→r x y H Q →
    wpAny (model X.prog X.w) X.A (f v u) (EP X pins σ Q) X.xe s
def qDo (X:Cx) (f:Value) (r:List V→Hp→VK→Prop):Prop :=
  ∀ (pins:List (Addr×Obj)) (s:Shared) (σ:St) (H:Hp) (xs:List V) (us:List Value) (Q:VK),Inv X pins σ H s→Vals xs us→r xs H Q →
    wpAny (model X.prog X.w) X.A (call f us) (EP X pins σ Q) X.xe s
noncomputable def tOp (r:R2) (ta tb:TE):TE:=fun σ H Q=>ta σ H fun x H1=>tb σ H1 fun y H2=>r x y H2 Q
noncomputable def rI (C:Int→Int→Prop) (g:Int→Int→V):R2:=fun x y H Q=>∃ i j,x = .int i∧y = .int j∧C i j∧Q (g i j) H
noncomputable def rI0 (g:Int→Int→V):R2:=fun x y H Q=>∃ i j,x = .int i∧y = .int j∧Q (g i j) H
section
variable {X:Cx} {a b c:Expr} {ta tb tc:TE} {pos:Pos}
theorem qNl (ha:PE X a ta) (hb:PE X b tb) {pins:List (Addr×Obj)} {s:Shared} {σ:St} {H:Hp} {R:V→V→Hp→Prop} (I:Inv X pins σ H s)
    (h:ta σ H fun x H1=>tb σ H1 fun y H2=>R x y H2) {Q:Value→Shared→Prop} {f:Value→Value→Sem Value}
    (hf:∀ v u s2 x y H2,Inv X pins σ H2 s2→RelV x v→RelV y u→R x y H2→wpAny (model X.prog X.w) X.A (f v u) Q X.xe s2) :
    wpAny (model X.prog X.w) X.A (eval a X.env) (fun v s₁=>wpAny (model X.prog X.w) X.A (eval b X.env) (fun u s₂=>wpAny (model X.prog X.w) X.A (f v u) Q X.xe s₂) X.xe s₁) X.xe s:=by
  refine thn (ha pins s σ H _ I h) fun v s1 hqz=>?_
  k_dat 0"r10"
  refine thn (hb pins s1 σ H1 _ I1 q1) fun u s2 hqz=>?_
  obtain⟨y,H2,I2,r2,q2⟩:=hqz
  exact hf v u s2 x y H2 I2 r1 r2 q2
theorem qPO {op:Operator} {r:R2} (ho:OpR X (binaryOp op) r) (ha:PE X a ta) (hb:PE X b tb):PE X (.BinOp a op b pos) (tOp r ta tb):=by
  k_dat 0"r1"
  exact wpAny_BinOp (qNl ha hb I h fun v u s2 x y H2 I2 rx ry q=>ho pins s2 σ H2 x y v u Q I2 rx ry q)
theorem opI {f:Value→Value→Sem Value} {C:Int→Int→Prop} {g:Int→Int→Int}
    (rule:∀ (i j:Int) (t u:Tok) (s:Shared) (Q:Value→Shared→Prop) (E:Value→Shared→Prop),C i j→Q (.int (g i j) s.toks) { s with toks:=s.toks+1 }→wpAny (model X.prog X.w) X.A (f (.int i t) (.int j u)) Q E s) :
    OpR X f (rI C fun i j=>.int (g i j)):=by
  k_dat 0"r3"
  obtain⟨i,j,rfl,rfl,hc,q⟩:=h
  k_dat 0"r8"
  k_dat 0"r11"
  exact rule i j t t' s _ _ hc ⟨.int (g i j),H,I.tok _,⟨_,rfl⟩,q⟩
theorem qPu {f:Value→Value→Sem Value} {g:Int→Int→Int}
    (rule:∀ (i j:Int) (t u:Tok) (s:Shared) (Q:Value→Shared→Prop) (E:Value→Shared→Prop),Q (.int (g i j) s.toks) { s with toks:=s.toks+1 }→wpAny (model X.prog X.w) X.A (f (.int i t) (.int j u)) Q E s) :
    OpR X f (rI0 fun i j=>.int (g i j)):=by
  k_dat 0"r3"
  obtain⟨i,j,rfl,rfl,q⟩:=h
  k_dat 0"r8"
  k_dat 0"r11"
  exact rule i j t t' s _ _ ⟨.int (g i j),H,I.tok _,⟨_,rfl⟩,q⟩
theorem qOt {f:Value→Value→Sem Value} {g:Int→Int→Bool}
    (rule:∀ (i j:Int) (t u:Tok) (s:Shared) (Q:Value→Shared→Prop) (E:Value→Shared→Prop),Q (.bool (g i j)) s→wpAny (model X.prog X.w) X.A (f (.int i t) (.int j u)) Q E s) :
    OpR X f (rI0 fun i j=>.bl (g i j)):=by
  k_dat 0"r3"
  obtain⟨i,j,rfl,rfl,q⟩:=h
  k_dat 0"r8"
  k_dat 0"r11"
  exact rule i j t t' s _ _ ⟨.bl (g i j),H,I,rfl,q⟩
def qOK (i j:Int):Prop:=0<j∧j<1073741824
def qPw (i j:Int):Prop:=0≤j∧j≤1000000∧i.natAbs<2 ^ 64
def qFM (i j:Int):Prop:=(-(2 ^ 64)<i∧i<2 ^ 64)∨(-(2 ^ 64)<j∧j<2 ^ 64)
theorem qFM.ok {i j:Int} (h:qFM i j):IntMulOk i j:=by
  rcases h with ⟨h1,h2⟩ | ⟨h1,h2⟩
  · exact .of_left (intBits_le_64 h1 h2)
  · exact .of_right (intBits_le_64 h1 h2)
theorem qM5:OpR X (binaryOp .Add) (rI0 fun i j=>.int (i+j)):=qPu fun _ _ _ _ _ _ _ q=>add_int q
theorem qOI:OpR X (binaryOp .Sub) (rI0 fun i j=>.int (i - j)):=qPu fun _ _ _ _ _ _ _ q=>sub_int q
theorem qOS:OpR X (binaryOp .Mult) (rI qFM fun i j=>.int (i * j)):=opI fun _ _ _ _ _ _ _ hc q=>mul_int q hc.ok
theorem qKn:OpR X (binaryOp .FloorDiv) (rI qOK fun i j=>.int (i / j)):=opI fun i j _ _ _ _ _ hc q=>by
  have h1:(0:Int)<j:=hc.1
  have h2:j<1073741824:=hc.2
  exact floordiv_int (by lia) (by rw [Int.fdiv_eq_ediv_of_nonneg i (by lia)];exact q) (.inl (PyProof.noPylong_small (by lia)))
theorem qNe:OpR X (binaryOp .Mod) (rI (fun _ j=>0<j) fun i j=>.int (i%j)):=opI fun i j _ _ _ _ _ hc q=>by
  have h1:(0:Int)<j:=hc
  exact mod_int' (by lia) (by rw [Int.fmod_eq_emod_of_nonneg i (by lia)];exact q)
theorem qNc:OpR X (binaryOp .Pow) (rI qPw fun i j=>.int (i ^ j.toNat)):=opI fun _ _ _ _ _ _ _ hc q=>pow_int_small hc.1 hc.2.1 hc.2.2 q
end
section
variable {X:Cx} {a b c:Expr} {ta tb tc:TE} {pos:Pos}
theorem qKf {pins:List (Addr×Obj)} {σ:St} {H:Hp} {s:Shared} {Q:VK} {k k':Bool} (I:Inv X pins σ H s) (q:Q (.bl k) H) (e:k=k'):EP X pins σ Q (.bool k') s:=by
  subst e
  exact⟨.bl k,H,I,rfl,q⟩
theorem qO9:OpR X (compareOp .Lt) (rI0 fun i j=>.bl (decide (i<j))):=qOt fun _ _ _ _ _ _ _ q=>lt_int q
theorem qPE:OpR X (compareOp .LtE) (rI0 fun i j=>.bl (decide (i≤j))):=qOt fun _ _ _ _ _ _ _ q=>le_int q
theorem qPi:OpR X (compareOp .Gt) (rI0 fun i j=>.bl (decide (j<i))):=qOt fun _ _ _ _ _ _ _ q=>gt_int q
theorem qIZ:OpR X (compareOp .In) (fun x y H Q=>∃ i j,x = .str i∧y = .str j∧Q (.bl (!(Builtin.Str.occurrences j i 0 j.length 1).isEmpty)) H):=by
  k_dat 0"r3"
  obtain⟨i,j,rfl,rfl,q⟩:=h
  k_dat 0"r8"
  k_dat 0"r11"
  exact in_str (qKf I q rfl)
theorem qJ6:OpR X (compareOp .Is) (fun x y H Q=>y = .non∧Q (.bl (decide (x = .non))) H):=by
  k_dat 0"r3"
  obtain⟨rfl,q⟩:=h
  cases ry
  refine is_none_gen (qKf I q ?_)
  cases x<;>first
    | (cases rx;rfl)
    | (obtain⟨t,rfl⟩:=rx;rfl)
theorem qHJ (b:Expr) {op:CmpOp} (h:op≠.In:=by decide) (h2:op≠.NotIn:=by decide):behindInMarks op b=false:=by
  have e1:(op==CmpOp.In)=false:=by cases op<;>first | rfl | exact absurd rfl h
  have e2:(op==CmpOp.NotIn)=false:=by cases op<;>first | rfl | exact absurd rfl h2
  cases b<;>simp [behindInMarks,e1,e2]
theorem qLl {op:CmpOp} {r:R2} (ho:OpR X (compareOp op) r) (ha:PE X a ta) (hb:PE X b tb) (hm:behindInMarks op b=false):PE X (.Compare a [op] [b] pos) (tOp r ta tb):=by
  k_dat 0"r1"
  exact wpAny_Compare1 (qNl ha hb I h fun v u s2 x y H2 I2 rx ry q=>ho pins s2 σ H2 x y v u Q I2 rx ry q) hm
noncomputable def qPl (t:TE):TT:=fun σ H Q=>t σ H fun x H'=>∃ k,x = .bl k∧Q k H'
theorem qK2 {op:CmpOp} {r:R2} (ho:OpR X (compareOp op) r) (ha:PE X a ta) (hb:PE X b tb) (hm:behindInMarks op b=false):PT X (.Compare a [op] [b] pos) (qPl (tOp r ta tb)):=by
  k_dat 0"r1"
  refine wpAny_isTrue_Compare1 (thn (ha pins s σ H _ I h) fun v s1 ⟨x,H1,I1,r1,q1⟩=>thn (hb pins s1 σ H1 _ I1 q1) fun u s2 ⟨y,H2,I2,r2,q2⟩ =>
    thn (ho pins s2 σ H2 x y v u _ I2 r1 r2 q2) fun c s3 ⟨z,H3,I3,r3,k,e,q3⟩=>?_) hm
  subst e
  cases r3
  exact wpAny_truthy_bool ⟨H3,I3,q3⟩
theorem qCr:(sizeLine:Nat)<2 ^ 63:=by rw [sizeLine_eq];decide
theorem qGq:OpR X (binaryOp .Add) (fun x y H Q=>∃ i j,x = .str i∧y = .str j∧i.length+j.length≤sizeLine∧Q (.str (i++j)) H):=by
  k_dat 0"r3"
  obtain⟨i,j,rfl,rfl,hz,q⟩:=h
  k_dat 0"r8"
  k_dat 0"r11"
  exact add_str (fun t' tk=>⟨.str (i++j),H,I.tok _,⟨_,rfl⟩,q⟩) hz
theorem vals1 {x:V} {us:List Value} (r:Vals [x] us):∃ u,us=[u]∧RelV x u:=by
  cases r with
  | cons r1 r2=>cases r2;exact⟨_,rfl,r1⟩
theorem vals2 {x y:V} {us:List Value} (r:Vals [x,y] us):∃ u w',us=[u,w']∧RelV x u∧RelV y w':=by
  cases r with
  | cons r1 r2 =>
    cases r2 with
    | cons r3 r4=>cases r4;exact⟨_,_,rfl,r1,r3⟩
end
end L2
namespace L2
open PySem PySem.Spec PyProof.Rows
theorem qIE {h:Heap} {dx:Addr} {mA:Str→Option Value} (n:h.Ns1 dx mA):∃ od,h.get? dx=some od∧∀ name,W.lookIn name od=some (mA name):=by
  obtain⟨o,es,ep,ho,hd,hk,_,hm⟩:=n
  refine⟨o,ho,fun name=>?_⟩
  have e:=hm name
  unfold nsFind findBy at e
  rw [← Array.find?_toList] at e
  unfold W.lookIn
  rw [hd]
  dsimp only
  split
  · rename_i y q
    rw [q] at e
    exact congrArg some e
  · rename_i q
    rw [q] at e
    have a:es.toList.any (·.refKey)=false:=by
      rw [List.any_eq_false]
      intro y hy
      obtain⟨z,t,hkey⟩:=hk y (Array.mem_toList_iff.mp hy)
      simp [DictEntry.refKey,hkey]
    have a':¬ es.toList.any (·.refKey)=true:=by rw [a];exact Bool.false_ne_true
    rw [if_neg a']
    exact congrArg some e
section
variable {X:Cx} {pins:List (Addr×Obj)} {σ:St} {H:Hp} {s:Shared} {a C dx:Addr} {fs:List (Str×V)} {f:Str} {v:V} {A:Around} {E:Value→Shared→Prop}
theorem Inv.made (I:Inv X pins σ H s):Inv X pins σ (upd (upd H s.heap.objs.size (.own (s.heap.objs.size+1))) (s.heap.objs.size+1) (.ins C s.heap.objs.size []))
    { s with heap:=(s.heap.push W.emptyDict).push (W.instObj C s.heap.objs.size) }:=by
  have e1:(s.heap.push W.emptyDict).get? s.heap.objs.size=some W.emptyDict:=Heap.get?_push_size s.heap rfl
  have e2:((s.heap.push W.emptyDict).push (W.instObj C s.heap.objs.size)).get? (s.heap.objs.size+1)=some (W.instObj C s.heap.objs.size):=by
    have:=Heap.get?_push_size (s.heap.push W.emptyDict) (o:=W.instObj C s.heap.objs.size) rfl
    rwa [Heap.size_push] at this
  have e3:(s.heap.push W.emptyDict).Ns s.heap.objs.size (fun _=>none):=⟨W.emptyDict,#[],_,e1,rfl,(fun e he=>absurd he (by simp)),fun _=>rfl⟩
  have I1:=I.laid (a:=s.heap.objs.size) (o:=.own (s.heap.objs.size+1)) (h':=s.heap.push W.emptyDict) (t':=s.toks) (fun b u q=>Heap.get?_push_of_some _ q) (Nat.le_refl _) ⟨_,e1⟩
  refine I1.laid (a:=s.heap.objs.size+1) (o:=.ins C s.heap.objs.size []) (t':=s.toks) (fun b u q=>Heap.get?_push_of_some _ q) (Nat.le_of_eq (Heap.size_push _ _)) ?_
  have ne:s.heap.objs.size≠s.heap.objs.size+1:=Nat.ne_of_lt (Nat.lt_succ_self _)
  refine⟨by rw [qL ne,qQ],Nat.zero_le _,ne,e2,fun _=>none,(Heap.Ns1.of_empty e3).at fun o q=>Heap.get?_push_of_some _ q,fun _=>True.intro,fun y hy=>absurd rfl hy⟩
theorem qLh {prog:Program} {w:World} {env:Env} {e:Expr} {f:Str} {pos:Pos} {s:Shared} {Q:Value→Shared→Prop} (hb:attributeBase e f env (eval e env)=eval e env)
    (h:wpAny (model prog w) A (eval e env) (fun o s₁=>wpAny (model prog w) A (getAttr o f true) Q E s₁) E s):wpAny (model prog w) A (eval (.Attribute e f pos) env) Q E s :=
  Attribute_any_ h (by rw [arm_eval_Attribute,hb])
end
end L2
namespace L2
open PySem PySem.Spec PyProof.Rows
structure qAC (k:Nat) (A:Around):Prop where
  hd:A.handled=none
  dp:A.depth+3 * k+5<recursionLimit
  un:A.units+16 * k+200<cLine
theorem qAC.mono {j k:Nat} {A:Around} (r:qAC k A) (h:j≤k):qAC j A:=⟨r.hd,by have:=r.dp;lia,by have:=r.un;lia⟩
theorem qAC.deeper {k:Nat} {A:Around} (r:qAC (k+1) A) (env:Env):qAC k (A.deeper env) :=
  ⟨r.hd,by have:=r.dp;show A.depth+1+3 * k+5<_;lia,by have:=r.un;show A.units+3+16 * k+200<_;lia⟩
theorem qAC.in1 {k:Nat} {A:Around} (r:qAC (k+1) A):qAC k A.in1 :=
  ⟨r.hd,by have:=r.dp;show A.depth+3 * k+5<_;lia,by have:=r.un;show A.units+1+16 * k+200<_;lia⟩
theorem qGl {A:Around} {C:Addr} {us:List Value} {kw:List (Str×Value)}:(A.under (.builtin "type.__call__" ⟨.ref C::us,kw⟩)).depth=A.depth+1:=by
  first | rfl | simp [Around.under,Code.weight,Code.isCreation,Code.isGuard,Code.isCaller,Code.frames,Code.isFrame,guardIds]
theorem qG6 {A:Around} {C:Addr} {us:List Value} {kw:List (Str×Value)}:(A.under (.builtin "type.__call__" ⟨.ref C::us,kw⟩)).units=A.units+1:=by
  first | rfl | simp [Around.under,Code.cUnits,Code.frames,Code.isFrame]
theorem qAC.make {k:Nat} {A:Around} (r:qAC (k+1) A) (C:Addr) (us:List Value) (kw:List (Str×Value)):qAC k (A.under (.builtin "type.__call__" ⟨.ref C::us,kw⟩)) :=
  ⟨r.hd,by have:=r.dp;rw [qGl];lia,by have:=r.un;rw [qG6];lia⟩
theorem qAC.depth {k:Nat} {A:Around} (r:qAC k A):A.depth<recursionLimit:=by have:=r.dp;lia
theorem qAC.units {k:Nat} {A:Around} (r:qAC k A):A.units+64<cLine:=by have:=r.un;lia
noncomputable def qOv:TA:=fun _ H Q=>Q [] H
noncomputable def qMR (ta:TE) (tr:TA):TA:=fun σ H Q=>ta σ H fun x H1=>tr σ H1 fun xs H2=>Q (x::xs) H2
section
variable {X:Cx} {e:Expr} {es:List Expr} {te:TE} {t:TA} {pos:Pos}
theorem qDk:PA X [] qOv:=fun _ _ _ _ H Q I h=>Calls.spliced_nil ⟨[],H,I,.nil,h⟩
theorem qA5 (ha:PE X e te) (hr:PA X es t) (hs:starEach (e::es) X.env=(false,eval e X.env)::starEach es X.env:=by rfl):PA X (e::es) (qMR te t):=by
  intro pos pins s σ H Q I h
  rw [hs]
  show wpAny _ _ (spliced ((false,eval e X.env)::backTo pos (starEach es X.env))) _ _ s
  refine Calls.spliced_cons (thn (ha pins s σ H _ I h) fun u s1 hqz=>?_)
  k_dat 0"r10"
  k_dat 0"r51"
noncomputable def qQO (t:TA):TE:=fun σ H Q=>t σ H fun xs H1=>xs.length≤sizeLine∧∀ p,H1 p=none→Q (.ref p) (upd H1 p (.tup xs))
noncomputable def qQF (t:TA):TE:=fun σ H Q=>t σ H fun xs H1=>xs.length≤sizeLine∧∀ p,H1 p=none→Q (.ref p) (upd H1 p (.lst xs))
theorem qJ0 {x1} (h:PA X es t):PE X (.Tuple es x1 pos) (qQO t):=by
  intro pins s σ H Q I hq
  refine wpAny_Tuple_spliced (thn (h pos pins s σ H _ I hq) fun us s1 ⟨xs,H1,I1,r,z,q⟩=>⟨by rw [← r.length];exact z,?_⟩)
  have hf:H1 s1.heap.objs.size=none:=I1.hok.fresh (Nat.le_refl _)
  refine⟨.ref s1.heap.objs.size,upd H1 s1.heap.objs.size (.tup xs),I1.laid (t':=s1.toks) (fun b u e=>Heap.get?_push_of_some _ e) (Nat.le_refl _) ?_,rfl,q _ hf⟩
  exact⟨z,us,r,⟨_,Heap.get?_push_size _ rfl,⟨rfl,rfl⟩,_,rfl⟩⟩
theorem qNS (h:PA X es t):PE X (.List es pos) (qQF t):=by
  intro pins s σ H Q I hq
  refine wpAny_List_spliced (thn (h pos pins s σ H _ I hq) fun us s1 ⟨xs,H1,I1,r,z,q⟩=>⟨by rw [← r.length];exact z,?_⟩)
  have hf:H1 s1.heap.objs.size=none:=I1.hok.fresh (Nat.le_refl _)
  refine⟨.ref s1.heap.objs.size,upd H1 s1.heap.objs.size (.lst xs),I1.laid (t':=s1.toks) (fun b u e=>Heap.get?_push_of_some _ e) (Nat.le_refl _) ?_,rfl,q _ hf⟩
  exact⟨z,us,0,r,Heap.get?_push_size _ rfl⟩
end
noncomputable abbrev Sp:=List V→Hp→VK→XK→Prop
noncomputable abbrev CXT:=List Env→Hp→Shared→XK→Value→Shared→Prop
structure qEO (P:Program) (w:World) (K:W.Frag) (mg:Str→Option Value) (base:Heap) (A:Around) (outer:List Env) (s:Shared) (H:Hp):Prop where
  frames:A.frames=some outer
  mod:Mod K mg base
  bs:∀ b o,base.get? b=some o→s.heap.get? b=some o∧H b=none
  bsz:base.objs.size≤s.heap.objs.size
  qCa:s.heap.FunFrames base outer
  frf:∀ b∈frs outer,H b=none
  hok:HOk K P w H s.heap
  bare:AllBare s.gens
def CE (K:W.Frag) (outer:List Env) (P:Program) (w:World) (H:Hp) (s:Shared) (Q:VK) (u:Value) (s':Shared):Prop :=
  ∃ v H',s'.os=s.os∧AllBare s'.gens∧Un (frs outer) [] H H' s.heap s'.heap∧HOk K P w H' s'.heap∧RelV v u∧Q v H'
def CR (K:W.Frag) (CX:CXT) (outer:List Env) (P:Program) (w:World) (H:Hp) (s:Shared) (Q:VK) (E:XK) (r:Result) (s':Shared):Prop :=
  match r with
  | .ok (.ret u)=>CE K outer P w H s Q u s'
  | .ok _=>False
  | .error e=>CX outer H s E e s'
structure qAG (P:Program) (w:World) (K:W.Frag) (mg:Str→Option Value) (base:Heap) (CX:CXT) (k:Nat) (f:Addr) (fd:FuncData) (ps:List Str) (sp:Sp):Prop where
  len:∀ vs H Q E,sp vs H Q E→vs.length=ps.length
  run:∀ (A:Around) (outer:List Env) (s:Shared) (H:Hp) (args:Args) (us:List Value) (vs:List V) (Q:VK) (E:XK),qAC k A→qEO P w K mg base A outer s H→BindsTo s fd args (ps.zip us)→Vals vs us→sp vs H Q E →
    codeAny (model P w) A (.call (.ref f) args) (CR K CX outer P w H s Q E) s
theorem qEO.make {P:Program} {w:World} {K:W.Frag} {mg:Str→Option Value} {base:Heap} {A:Around} {outer:List Env} {s:Shared} {H:Hp} (e:qEO P w K mg base A outer s H) (C:Addr) (us:List Value) (kw:List (Str×Value)) :
    qEO P w K mg base (A.under (.builtin "type.__call__" ⟨.ref C::us,kw⟩)) outer s H:=⟨by first | exact e.frames | (simpa [Around.under,Code.envs,Code.isFrame,pushEnvs] using e.frames),e.mod,e.bs,e.bsz,e.qCa,e.frf,e.hok,e.bare⟩
theorem qEO.in1 {P:Program} {w:World} {K:W.Frag} {mg:Str→Option Value} {base:Heap} {A:Around} {outer:List Env} {s:Shared} {H:Hp} (e:qEO P w K mg base A outer s H) :
    qEO P w K mg base A.in1 outer s H:=⟨e.frames,e.mod,e.bs,e.bsz,e.qCa,e.frf,e.hok,e.bare⟩
section
variable {X:Cx} {pins:List (Addr×Obj)} {σ:St} {H:Hp} {s s':Shared}
theorem Inv.qOf (I:Inv X pins σ H s):qEO X.prog X.w X.K X.mg X.base X.A X.stack s H :=
  ⟨I.ok.frames,I.ok.mod,I.bs,Nat.le_trans I.ok.bsz I.sz,I.stack,I.qFi,I.hok,I.bare⟩
theorem Inv.after {Q:VK} {u:Value} (I:Inv X pins σ H s) (h:CE X.K X.stack X.prog X.w H s Q u s'):EP X pins σ Q u s':=by
  obtain⟨v,H',os,bare,un,hok,r,q⟩:=h
  obtain⟨hh,g,d,t,os'⟩:=s'
  obtain rfl:os'=s.os:=os
  exact⟨v,H',I.call (h':=hh) (g':=g) (d':=d) (t':=t) (ch:=[]) un hok bare (fun b z=>absurd z (by simp)),r,q⟩
end
noncomputable def qMG (sp:Sp) (dvs:List V) (E:XK) (t:TA):TE:=fun σ H Q=>t σ H fun vs H1=>sp (vs++dvs) H1 Q E
def Binds (K:W.Frag) (fd:FuncData) (ps:List Str) (ds:List Value):Prop :=
  ∀ (s:Shared) (us:List Value),K.In s.heap→(us++ds).length=ps.length→BindsTo s fd ⟨us,[]⟩ (ps.zip (us++ds))
theorem Binds.all {K:W.Frag} {fd:FuncData} {ps:List Str} (h:∀ us:List Value,us.length=ps.length→bindArgs fd ⟨us,[]⟩=pure (ps.zip us)):Binds K fd ps []:=fun s us _ hl=>by
  rw [List.append_nil] at hl ⊢
  exact .of_eq (h us hl)
def Passes (CX:CXT) (X:Cx) (E:XK):Prop:=∀ (pins:List (Addr×Obj)) (σ:St) (H:Hp) (s:Shared) (e:Value) (s':Shared),Inv X pins σ H s→CX X.stack H s E e s'→X.xe e s'
section
variable {X:Cx} {CX:CXT} {k:Nat} {f C:Addr} {fd:FuncData} {ps:List Str} {sp:Sp} {dvs:List V} {ds:List Value} {E:XK} {x m:Str} {p pos apos:Pos} {e o:Expr} {es:List Expr} {ta:TE} {t:TA}
theorem qKi {pins:List (Addr×Obj)} {σ:St} {H:Hp} {s:Shared} {Q:VK} {us:List Value} {vs:List V} (F:qAG X.prog X.w X.K X.mg X.base CX k f fd ps sp) (hr:qAC k X.A) (hb:Binds X.K fd ps ds) (hd:Vals dvs ds) (hx:Passes CX X E)
    (I:Inv X pins σ H s) (r:Vals vs us) (h:sp (vs++dvs) H Q E):wpAny (model X.prog X.w) X.A (call (.ref f) us) (EP X pins σ Q) X.xe s:=by
  have r2:Vals (vs++dvs) (us++ds):=r.append hd
  have hl:(us++ds).length=ps.length:=by rw [← r2.length];exact F.len _ _ _ _ h
  refine wpAny_call (codeAny_mono (F.run X.A X.stack s H ⟨us,[]⟩ (us++ds) (vs++dvs) Q E hr I.qOf (hb s us I.kIn hl) r2 h) fun r s' hq=>?_)
  cases r with
  | error e=>exact hx pins σ H s e s' I hq
  | ok fl =>
    cases fl with
    | ret u=>exact I.after hq
    | next=>exact False.elim hq
    | brk=>exact False.elim hq
    | cont=>exact False.elim hq
theorem qLI (F:qAG X.prog X.w X.K X.mg X.base CX k f fd ps sp) (hr:qAC k X.A) (hg:Gl X x) (hm:X.mg x=some (.ref f)) (hk:W.keepIn X.K (.ref f)=true) (hb:Binds X.K fd ps ds) (hd:Vals dvs ds) (hx:Passes CX X E)
    (ha:PA X (e::es) t) (hdb:(x==("__debug__" : Str))=false:=by decide) (he:starEach (e::es) X.env=(false,eval e X.env)::starEach es X.env:=by rfl) (hpl:(backTo pos (starEach es X.env)).any (·.1)=false:=by rfl) :
    PE X (.Call (.Name x p) (e::es) [] pos) (qMG sp dvs E t):=by
  k_dat 0"r1"
  refine wpAny_Call_Name_kw (qBN I hg hm ?_ hdb)
  refine W.callWith_K (h₀:=X.base) I.ok.mod.kin hk (thn (ha pos pins s σ H _ I h) fun us s1 ⟨vs,H1,I1,r,q⟩=>⟨I1.kIn,?_⟩) he hpl
  exact qKi F hr hb hd hx I1 r q
theorem qJd (F:qAG X.prog X.w X.K X.mg X.base CX k f fd ps sp) (hr:qAC k X.A) (hg:Gl X x) (hm:X.mg x=some (.ref f)) (hk:W.keepIn X.K (.ref f)=true) (hb:Binds X.K fd ps ds) (hd:Vals dvs ds) (hx:Passes CX X E)
    (hdb:(x==("__debug__" : Str))=false:=by decide):PE X (.Call (.Name x p) [] [] pos) (qMG sp dvs E qOv):=by
  k_dat 0"r1"
  refine wpAny_Call_Name_kw (qBN I hg hm ?_ hdb)
  exact W.callWith_K0 I.kIn hk (qKi (us:=[]) F hr hb hd hx I .nil h)
end
def PK (X:Cx) (kws:List Keyword) (t:TA):Prop :=
  ∀ (pos:Pos) (pins:List (Addr×Obj)) (s:Shared) (σ:St) (H:Hp) (Q:List V→Hp→Prop),Inv X pins σ H s→t σ H Q→wpAny (model X.prog X.w) X.A (evalAll ((backToKw pos (keywordEach kws X.env)).map (·.2))) (AP X pins σ Q) X.xe s
section
variable {X:Cx} {CX:CXT} {k:Nat} {f C:Addr} {fd:FuncData} {ps ks:List Str} {sp:Sp} {E:XK} {x m:Str} {p pos apos kpos:Pos} {e o:Expr} {es:List Expr} {kws:List Keyword} {te ta:TE} {t tk:TA} {nm:Option Str}
theorem qOF:PK X [] qOv:=fun _ _ _ _ H Q I h=>wpAny_evalAll_nil ⟨[],H,I,.nil,h⟩
theorem qLD (ha:PE X e te) (hr:PK X kws t):PK X (⟨nm,e,kpos⟩::kws) (qMR te t):=by
  intro pos pins s σ H Q I h
  show wpAny _ _ (evalAll ((do let v ← eval e X.env;standAt pos;pure v)::(backToKw pos (keywordEach kws X.env)).map (·.2))) _ _ s
  refine wpAny_evalAll_cons (wpAny_bind (thn (ha pins s σ H _ I h) fun u s1 ⟨x,H1,I1,r1,q1⟩=>wpAny_bind (wpAny_standAt (wpAny_pure ?_))))
  k_dat 0"r51"
variable {g:List Value→List Value→List Value} {gV:List V→List V→List V}
end
structure qb (N P:List Str) (sc:Scope):Prop where
  kind:sc.kind = .function
  co:sc.isCoroutine=false
  gen:sc.isGenerator=false
  nd:N.Nodup
  pre:N.take P.length=P
  par:∀ x∈P,sc.names.lookup x=some .local∨sc.names.lookup x=some .cell
  nofree:∀ y∈sc.names,y.2≠.free
theorem qEY {kindOf:Str→Option NameKind} {x:Str}:∀ {binds:List (Str×Value)} {m:Str→Option Value},(∀ v,(x,v) ∉ binds)→bindL kindOf binds m x=m x
  | [],_,_=>rfl
  | (n,v)::r,m,h=>by
    unfold bindL
    rw [qEY fun w hw=>h w (List.mem_cons_of_mem _ hw)]
    split
    · have:x≠n:=by rintro rfl;exact h v List.mem_cons_self
      simp [this]
    · rfl
theorem qEq {kindOf:Str→Option NameKind} {x:Str}:∀ {binds:List (Str×Value)} {m:Str→Option Value},(∀ v,(x,v) ∉ binds)→bindC kindOf binds m x=m x
  | [],_,_=>rfl
  | (n,v)::r,m,h=>by
    unfold bindC
    rw [qEq fun w hw=>h w (List.mem_cons_of_mem _ hw)]
    split
    · rfl
    · have:x≠n:=by rintro rfl;exact h v List.mem_cons_self
      simp [this]
theorem qET {kindOf:Str→Option NameKind} {x:Str} {v:Value}:∀ {P:List Str} {vs:List Value} {i:Nat} {m:Str→Option Value},P.Nodup→P[i]? = some x→vs[i]? = some v→kindOf x=some .local →
    bindL kindOf (P.zip vs) m x=some v
  | [],_,_,_,_,h,_,_=>by simp at h
  | _::_,[],_,_,_,_,h,_=>by simp at h
  | p::P,w::vs,0,m,nd,h1,h2,hk=>by
    simp at h1 h2;subst h1;subst h2
    show bindL kindOf ((p,w)::P.zip vs) m p=_
    unfold bindL
    rw [qEY fun v hv=>(List.nodup_cons.mp nd).1 (List.of_mem_zip hv).1,if_pos hk]
    simp
  | p::P,w::vs,i+1,m,nd,h1,h2,hk=>by
    show bindL kindOf ((p,w)::P.zip vs) m x=_
    unfold bindL
    exact qET (i:=i) (List.nodup_cons.mp nd).2 (by simpa using h1) (by simpa using h2) hk
theorem qEv {kindOf:Str→Option NameKind} {x:Str} {v:Value}:∀ {P:List Str} {vs:List Value} {i:Nat} {m:Str→Option Value},P.Nodup→P[i]? = some x→vs[i]? = some v→kindOf x≠some .local →
    bindC kindOf (P.zip vs) m x=some v
  | [],_,_,_,_,h,_,_=>by simp at h
  | _::_,[],_,_,_,_,h,_=>by simp at h
  | p::P,w::vs,0,m,nd,h1,h2,hk=>by
    simp at h1 h2;subst h1;subst h2
    show bindC kindOf ((p,w)::P.zip vs) m p=_
    unfold bindC
    rw [qEq fun v hv=>(List.nodup_cons.mp nd).1 (List.of_mem_zip hv).1,if_neg hk]
    simp
  | p::P,w::vs,i+1,m,nd,h1,h2,hk=>by
    show bindC kindOf ((p,w)::P.zip vs) m x=_
    unfold bindC
    exact qEv (i:=i) (List.nodup_cons.mp nd).2 (by simpa using h1) (by simpa using h2) hk
noncomputable def start (N:List Str) (vs:List V):St:=vs.map some++List.replicate (N.length - vs.length) none
noncomputable def qE4 (CX:CXT) (P:Program) (w:World) (K:W.Frag) (mg:Str→Option Value) (base:Heap) (N:List Str) (qual:Str) (scope:Scope) (f:Addr) (cd:Value) (A:Around) (outer:List Env) (s:Shared) (H:Hp) (E:XK):Cx where
  prog:=P
  w:=w
  K:=K
  mg:=mg
  base:=base
  A:=A.deeper (envOfC qual scope s.heap.objs.size f cd)
  N:=N
  s₀:=s
  H₀:=H
  env:=envOfC qual scope s.heap.objs.size f cd
  outer:=outer
  stack:=envOfC qual scope s.heap.objs.size f cd::outer
  ex:=[]
  calm:=true
  fn:=fun _=>true
  pn:=[]
  xe:=fun e s'=>wpAny (model P w) (A.deeper (envOfC qual scope s.heap.objs.size f cd)) (leaving (envOfC qual scope s.heap.objs.size f cd) e) (fun _ s''=>CX outer H s E e s'') (fun e' s''=>CX outer H s E e' s'') s'
theorem qGT {sc:Scope} {n:Nat} {x:Str} (h:sc.names.lookup x=some .cell):∃ c,(cellsFrom n sc.names []).lookup x=some c:=by
  have q:=W.cellsFrom_some sc.names n [] (.inl h)
  exact Option.isSome_iff_exists.mp q
theorem qIW {CX:CXT} {P:Program} {w:World} {K:W.Frag} {mg:Str→Option Value} {base:Heap} {N ps:List Str} {qual:Str} {scope:Scope} {f:Addr} {cd:Value} {A:Around} {outer:List Env} {s s1:Shared} {H:Hp} {E:XK} {us:List Value} {vs:List V}
    (S:qb N ps scope) (hd:A.handled=none) (e0:qEO P w K mg base A outer s H) (hl:vs.length=ps.length) (r:Vals vs us)
    (x:InCallC s s.heap.objs.size (bindL (envOfC qual scope s.heap.objs.size f cd).kindOf (ps.zip us) fun _=>none) (cellsFrom (s.heap.objs.size+1) scope.names []) (bindC (envOfC qual scope s.heap.objs.size f cd).kindOf (ps.zip us) fun _=>none) s1) :
    Inv (qE4 CX P w K mg base N qual scope f cd A outer s H E) [] (start N vs) H s1:=by
  have hpl:ps.length≤N.length:=by have:=congrArg List.length S.pre;rw [List.length_take] at this;lia
  obtain⟨h1,tk,rfl,hk⟩:=x.done
  have noA:∀ b:Addr,b ∉ (qE4 CX P w K mg base N qual scope f cd A outer s H E).ex:=fun b z=>absurd (show b∈([]:List Addr) from z) (by simp)
  refine⟨⟨e0.mod,S.kind,rfl,rfl,Nat.le_refl _,fun y z c h1 h2=>?_,fun y hy=>?_,fun y c _ h=>?_,fun _=>hd,Around.frames_deeper e0.frames,.inr ⟨rfl,rfl⟩,fun b z=>absurd z (noA b),e0.bs,e0.bsz,fun b _ _=>noA b,fun b z=>absurd z (noA b),e0.qCa,e0.frf⟩,
    rfl,e0.bare,Un.kept hk,⟨_,x.toInCall.ns,fun i y v h1 h2 h3=>?_⟩,fun y c h=>⟨_,x.cell y c h⟩,e0.hok.fresh (Nat.le_refl _),fun y c h=>?_,fun p hp=>absurd (show p∈([]:List (Addr×Obj)) from hp) (by simp),e0.hok.kept hk,?_⟩
  · exact name_of_addr x.apart (PySem.mem_of_lookup h1) (PySem.mem_of_lookup h2)
  · have hy:scope.names.lookup y=some .cell∨scope.names.lookup y=some .free:=hy
    rcases hy with hy | hy
    · exact qGT hy
    · exact absurd rfl (S.nofree _ (PySem.mem_of_lookup hy))
  · exact Nat.le_of_lt (x.above y c (PySem.mem_of_lookup h))
  · have hi:i<vs.length:=by
      unfold start at h2
      by_cases hi:i<vs.length
      · exact hi
      · rw [List.getElem?_append_right (by simpa using hi)] at h2
        rw [List.getElem?_replicate] at h2
        split at h2<;>cases h2
    have ha:vs[i]? = some v:=by
      unfold start at h2
      rw [List.getElem?_append_left (by simpa using hi),List.getElem?_map] at h2
      cases e:vs[i]? with
      | none=>rw [e] at h2;cases h2
      | some a=>rw [e] at h2;cases h2;rfl
    obtain⟨u,hu,rv⟩:=r.get ha
    have hp:ps[i]? = some y:=by
      rw [← S.pre,List.getElem?_take_of_lt (by lia)];exact h1
    have ndP:ps.Nodup:=by rw [← S.pre];exact S.nd.sublist (List.take_sublist _ _)
    refine⟨u,rv,?_⟩
    rcases S.par y (List.mem_of_getElem? hp) with k | k
    · exact .inl ⟨k,qET ndP hp hu k⟩
    · obtain⟨c,e⟩:=qGT (n:=s.heap.objs.size+1) k
      refine .inr ⟨.inl k,c,e,?_⟩
      have q:=x.cell y c e
      rw [qEv ndP hp hu (by show scope.names.lookup y≠_;rw [k];decide)] at q
      exact q
  · exact e0.hok.fresh (Nat.le_of_lt (x.above y c (PySem.mem_of_lookup h)))
  · unfold start
    show _=N.length
    rw [List.length_append,List.length_map,List.length_replicate]
    lia
theorem qJM {CX:CXT} {P:Program} {w:World} {K:W.Frag} {mg:Str→Option Value} {base:Heap} {k:Nat} {f:Addr} {name qual:Str} {params:Arguments} {body:List Stmt} {scope:Scope} {dV kV doc pm cdv ct oc:Value} {an od:Option Addr}
    {osl:Array (Option Value)} {N ps:List Str} {sp:Sp} (lk:K.lookup f=some ⟨oc,od,.func (W.fnOf name qual params body scope dV kV doc pm an cdv ct),osl⟩) (hcd:W.codeIn K cdv qual=true) (S:qb N ps scope)
    (len:∀ vs H Q E,sp vs H Q E→vs.length=ps.length)
    (hbody:∀ (A:Around) (outer:List Env) (s:Shared) (H:Hp) (vs:List V) (Q:VK) (E:XK),qAC k (A.deeper (envOfC qual scope s.heap.objs.size f cdv))→sp vs H Q E →
      ∃ t,PSs (qE4 CX P w K mg base N qual scope f cdv A outer s H E) body t∧t { nx:=fun _ H'=>Q .non H',rt:=Q } (start N vs) H) :
    qAG P w K mg base CX (k+1) f (W.fnOf name qual params body scope dV kV doc pm an cdv ct) ps sp:=by
  refine⟨len,fun A outer s H args us vs Q E hr e0 hb r hsp=>?_⟩
  have hl:=len _ _ _ _ hsp
  have KX:K.In s.heap:=e0.mod.kin.keeps fun b o e=>(e0.bs b o e).1
  have lim:s.heap.NoLimit:=e0.mod.nolimit.keeps fun b o e=>(e0.bs b o e).1
  have hkind:∀ y∈ps.zip us,scope.names.lookup y.1=some .local∨(scope.names.lookup y.1=some .cell∧((cellsFrom (s.heap.objs.size+1) scope.names []).lookup y.1).isSome=true):=fun ⟨n,v⟩ hy=>by
    rcases S.par n (List.of_mem_zip hy).1 with q | q
    · exact .inl q
    · exact .inr ⟨q,W.cellsFrom_some _ _ _ (.inl q)⟩
  refine codeAny_call_function hr.depth (KX _ _ lk) rfl S.co S.gen rfl (W.codeRec_of KX hcd) (hb _ _ _ _ ?_)
  refine wpAny_newFunctionEnv_cells S.kind hkind fun env he s1 x=>?_
  subst he
  refine⟨lim.keeps x.toInCall.keep,codeAny_func ?_⟩
  obtain⟨t,ht,hq⟩:=hbody A outer s H vs Q E (hr.deeper _) hsp
  have I:Inv (qE4 CX P w K mg base N qual scope f cdv A outer s H E) [] (start N vs) H s1:=qIW S hr.hd e0 hl r x
  refine wpAny_mono (ht [] s1 (start N vs) H _ I hq) (fun fl s' hs=>?_) fun e s' hs=>hs
  have fin:∀ {σ':St} {H':Hp} {v:V} {u:Value},Inv (qE4 CX P w K mg base N qual scope f cdv A outer s H E) [] σ' H' s'→RelV v u→Q v H'→CE K outer P w H s Q u s' :=
    fun {σ' H' v u} J rv q=>⟨v,H',J.os,J.bare,J.base,J.hok,rv,q⟩
  cases fl with
  | ret u =>
    obtain⟨v,σ',H',J,rv,q⟩:=hs
    exact fin J rv q
  | next =>
    obtain⟨σ',H',J,q⟩:=hs
    exact fin (v:=V.non) (u:=Value.none) J rfl q
  | brk =>
    obtain⟨_,_,_,q⟩:=hs
    exact False.elim q
  | cont =>
    obtain⟨_,_,_,q⟩:=hs
    exact False.elim q
end L2
namespace L2
open PySem PySem.Spec PyProof.Rows
section
variable {X:Cx} {x:Str} {p pos:Pos} {e:Expr} {es:List Expr} {t:TA} {id T:String} {r:List V→Hp→VK→Prop}
noncomputable def tCB (r:List V→Hp→VK→Prop) (t:TA):TE:=fun σ H Q=>t σ H fun vs H1=>r vs H1 Q
theorem qKh (hc:qDo X (.builtin id) r) (hg:Gl X x) (hm:X.mg x=none) (hv:bootBuiltins x=some (.builtin id)) (ha:PA X (e::es) t) (hn:x ≠ "__name__":=by decide) (hdb:(x==("__debug__" : Str))=false:=by decide)
    (he:starEach (e::es) X.env=(false,eval e X.env)::starEach es X.env:=by rfl) (hpl:(backTo pos (starEach es X.env)).any (·.1)=false:=by rfl):PE X (.Call (.Name x p) (e::es) [] pos) (tCB r t):=by
  k_dat 0"r1"
  refine wpAny_Call_Name_kw (qCO I hg hm hv ?_ hn hdb)
  exact PyProof.Rows.callWith_builtin1 (thn (ha pos pins s σ H _ I h) fun us s1 ⟨vs,H1,I1,r1,q1⟩=>hc pins s1 σ H1 vs us Q I1 r1 q1) he hpl
theorem qIo (hc:qDo X (.type T) r) (hg:Gl X x) (hm:X.mg x=none) (hv:bootBuiltins x=some (.type T)) (ha:PA X (e::es) t) (hn:x ≠ "__name__":=by decide) (hdb:(x==("__debug__" : Str))=false:=by decide)
    (he:starEach (e::es) X.env=(false,eval e X.env)::starEach es X.env:=by rfl) (hpl:(backTo pos (starEach es X.env)).any (·.1)=false:=by rfl):PE X (.Call (.Name x p) (e::es) [] pos) (tCB r t):=by
  k_dat 0"r1"
  refine wpAny_Call_Name_kw (qCO I hg hm hv ?_ hn hdb)
  exact PyProof.Rows.callWith_type1 (thn (ha pos pins s σ H _ I h) fun us s1 ⟨vs,H1,I1,r1,q1⟩=>hc pins s1 σ H1 vs us Q I1 r1 q1) he hpl
end
end L2
namespace HT
open PySem PyProof.Rows
section
variable {prog:Program} {w:World} {A:Around} {E:Value→Shared→Prop} {s:Shared}
theorem qLu {t b:Addr} {vs ws:List Value} {Q:Value→Shared→Prop} (ht:IsTup s.heap t vs.toArray) (hb:IsTup s.heap b ws.toArray) (hv:vs≠[])
    (h1:ws=[]→Q (.ref t) s) (h2:ws≠[]→Q (.ref s.heap.objs.size) { s with heap:=s.heap.push { cls:=.type "tuple",data:=.seq (vs++ws).toArray } })
    (hsz:vs.length+ws.length≤sizeLine):wpAny (model prog w) A (binaryOp .Add (.ref t) (.ref b)) Q E s:=by
  obtain⟨⟨cls,dd,data,sl⟩,ho,hc,n,hd⟩:=id ht
  obtain⟨⟨cls2,dd2,data2,sl2⟩,ho2,hc2,n2,hd2⟩:=id hb
  simp only at hc hd hc2 hd2
  subst hc hd hc2 hd2
  have e:vs.toArray++ws.toArray=(vs++ws).toArray:=by simp
  by_cases hw:ws=[]
  · exact concat_meets ⟨_,ho,rfl⟩ ⟨_,ho2,rfl⟩ noFill_tuple_add seq_tuple_add PySem.F.slot_tuple_add PySem.F.entry_tuple_add (PySem.F.args_tuple_add_2 _ _)
      (tuple_addW1 t b vs.toArray ws.toArray n n2 dd dd2 sl sl2 (by simpa using hv) (by simp [hw])) ⟨ho,ho2,h1 hw⟩
  · refine concat_meets ⟨_,ho,rfl⟩ ⟨_,ho2,rfl⟩ noFill_tuple_add seq_tuple_add PySem.F.slot_tuple_add PySem.F.entry_tuple_add (PySem.F.args_tuple_add_2 _ _)
      (tuple_addW2 t b vs.toArray ws.toArray n n2 dd dd2 sl sl2 (by simpa using hv) (by simpa using hw) (by rw [List.size_toArray,List.size_toArray];exact hsz)) ⟨ho,ho2,?_⟩
    rw [e]
    exact h2 hw
noncomputable def sIx (n d:Nat):Option Int→Nat
  | none=>d
  | some v=>if v<0 then (v+(n:Int)).toNat else min v.toNat n
theorem qLd (n d k:Nat):sIx n d (some (k:Int))=min k n:=by
  show (if (k:Int)<0 then ((k:Int)+(n:Int)).toNat else min (k:Int).toNat n)=min k n
  rw [if_neg (by lia),Int.toNat_natCast]
theorem qN9 (n d:Nat) (hd:d≤n) (o:Option Int):sIx n d o≤n:=by
  cases o with
  | none=>exact hd
  | some v =>
    show (if v<0 then (v+(n:Int)).toNat else min v.toNat n)≤n
    by_cases hv:v<0
    · rw [if_pos hv];lia
    · rw [if_neg hv];exact Nat.min_le_right _ _
theorem qH4 (v:Int) (n d:Nat):(if v<0 then max (v+(n:Int)) 0 else min v (n:Int))=((sIx n d (some v):Nat):Int):=by
  show (if v<0 then max (v+(n:Int)) 0 else min v (n:Int))=(((if v<0 then (v+(n:Int)).toNat else min v.toNat n):Nat):Int)
  by_cases hv:v<0
  · simp only [if_pos hv];lia
  · simp only [if_neg hv];lia
theorem qGv (lo hi:Option Int) (n:Nat):Builtin.Slice.sliceAdjust lo hi 1 (n:Int)=(((sIx n 0 lo:Nat):Int),((sIx n n hi:Nat):Int)):=by
  have h1:¬ ((1:Int)<0):=by lia
  unfold Builtin.Slice.sliceAdjust
  simp only [h1,if_false]
  refine Prod.ext ?_ ?_
  · cases lo with
    | none=>rfl
    | some v=>exact qH4 v n 0
  · cases hi with
    | none=>rfl
    | some v=>exact qH4 v n n
theorem qGk (i j:Nat):Builtin.Slice.slicePlaces (i:Int) (j:Int) 1=j - i:=by
  unfold Builtin.Slice.slicePlaces
  have h1:(1:Int) > 0:=by lia
  simp only [h1,if_true,Int.ediv_one]
  split<;>lia
theorem qD1 {v:Value} {o:Option Int} {Q:Option Int→Shared→Prop} (p:IsPart v o) (h:Q o s):wpAny (model prog w) A (Builtin.Slice.slicePartIndex v) Q E s:=by
  cases p with
  | none=>exact slicePart_none h
  | int i t=>exact slicePart_int h
theorem qBJ {sl:Addr} {vl vu:Value} {lo hi:Option Int} {n:Nat} {Q:Int×Int×Nat→Shared→Prop} (hs:s.heap.IsSliceOf sl vl vu .none) (pl:IsPart vl lo) (pu:IsPart vu hi)
    (h:Q (((sIx n 0 lo:Nat):Int),1,sIx n n hi - sIx n 0 lo) s):wpAny (model prog w) A (Builtin.Slice.sliceApplied (.ref sl) (pure (n:Int))) Q E s:=by
  obtain⟨os,hos,hcs,hds⟩:=id hs
  unfold Builtin.Slice.sliceApplied Builtin.Slice.sliceFields
  refine wpAny_bind (wpAny_bind (wpAny_field hos hds (x:=vl) rfl (wpAny_bind (wpAny_field hos hds (x:=vu) rfl (wpAny_bind (wpAny_field hos hds (x:=.none) rfl (wpAny_pure ?_)))))))
  refine wpAny_bind (slicePart_none ?_)
  show wpAny _ _ (if ((1:Int)==0)=true then _ else _) _ _ s
  rw [if_neg (by decide)]
  refine wpAny_bind (qD1 pl (wpAny_bind (qD1 pu (wpAny_bind (wpAny_pure ?_)))))
  show wpAny _ _ (match Builtin.Slice.sliceAdjust lo hi 1 (n:Int) with | (lo,hi)=>pure (lo,(1:Int),Builtin.Slice.slicePlaces lo hi 1)) _ _ s
  rw [qGv lo hi n]
  show wpAny _ _ (pure (((sIx n 0 lo:Nat):Int),(1:Int),Builtin.Slice.slicePlaces ((sIx n 0 lo:Nat):Int) ((sIx n n hi:Nat):Int) 1)) _ _ s
  rw [qGk]
  exact wpAny_pure h
theorem qJu (xs:Array Value) (i k:Nat):((List.range k).filterMap fun (m:Nat)=>xs[((i:Int)+(m:Int) * 1).toNat]?).toArray=((xs.toList.drop i).take k).toArray:=by
  have e:(fun (m:Nat)=>xs[((i:Int)+(m:Int) * 1).toNat]?)=fun m=>xs[i+m]?:=by
    funext m
    have:((i:Int)+(m:Int) * 1).toNat=i+m:=by lia
    rw [this]
  rw [e]
  have:=pick_run xs i k
  rw [List.filterMap_map] at this
  have e2:((fun x=>xs[x]?) ∘ fun x=>i+x)=fun m=>xs[i+m]?:=rfl
  rw [e2] at this
  rw [this]
theorem qCd {t sl:Addr} {items:Array Value} {vl vu:Value} {lo hi:Option Int} {Q:Value→Shared→Prop} (ht:IsTup s.heap t items) (hs:s.heap.IsSliceOf sl vl vu .none) (pl:IsPart vl lo) (pu:IsPart vu hi)
    (hw:¬ (sIx items.size 0 lo=0∧sIx items.size items.size hi=items.size))
    (h:Q (.ref s.heap.objs.size) { s with heap:=s.heap.push { cls:=.type "tuple",data:=.seq ((items.toList.drop (sIx items.size 0 lo)).take (sIx items.size items.size hi - sIx items.size 0 lo)).toArray } })
    (hsz:items.size≤sizeLine):wpAny (model prog w) A (getItem (.ref t) (.ref sl)) Q E s:=by
  have htake:sizeOk (.seq ((items.toList.drop (sIx items.size 0 lo)).take (sIx items.size items.size hi - sIx items.size 0 lo)).toArray):=by
    show ((items.toList.drop (sIx items.size 0 lo)).take (sIx items.size items.size hi - sIx items.size 0 lo)).toArray.size≤sizeLine
    rw [List.size_toArray,List.length_take,List.length_drop,Array.length_toList]
    lia
  have hj:sIx items.size items.size hi≤items.size:=qN9 _ _ (Nat.le_refl _) hi
  obtain⟨os,hos,hcs,hds⟩:=id hs
  have hTs:s.TypeIs (.ref sl) "slice":=⟨os,hos,hcs⟩
  unfold getItem
  try with_reducible refine wpAny_holding ?_
  first | refine wpAny_bind (wpAny_pure ?_) | skip
  refine wpAny_bind (wpAny_sequenceKey ht.typeIs (by decide) ?_)
  refine wpAny_bind (wpAny_callSpecial?_slot (name:=Str.ofString "__getitem__") ht.typeIs PyProof.Rows.slot_tuple_getitem
    (wpAny_call_entry PyProof.Rows.slot_tuple_getitem ht.typeIs entry_tuple_getitem ?_ (args_tuple_getitem _ _)))
  show wpAny _ _ (Builtin.Tuple.tupleItemsOf (.ref t) >>= _) _ _ s
  refine wpAny_bind (tupleItemsOf_ ht ?_)
  refine wpAny_bind (wpAny_typeOf hTs ?_)
  rw [if_pos (by decide)]
  refine wpAny_bind (qBJ hs pl pu ?_)
  have hno:¬ ((((sIx items.size 0 lo:Nat):Int)==0&&(1:Int)==1&&(sIx items.size items.size hi - sIx items.size 0 lo)==items.size)=true):=by
    intro q
    rw [Bool.and_eq_true,Bool.and_eq_true] at q
    have q1:((sIx items.size 0 lo:Nat):Int)=0:=eq_of_beq q.1.1
    have q2:sIx items.size items.size hi - sIx items.size 0 lo=items.size:=eq_of_beq q.2
    exact hw ⟨by lia,by lia⟩
  k_dat 0"r52"
  rw [if_neg hno,qJu]
  first
    | exact wpAny_bind (m:=Builtin.Tuple.tupleExact _) (wpAny_newObj_type (wpAny_pure ⟨_,rfl,wpAny_pure h⟩) htake)
    | exact wpAny_bind (m:=Builtin.Tuple.tupleExact _) (wpAny_newObj_type (wpAny_bind (wpAny_pure (wpAny_pure ⟨_,rfl,wpAny_pure h⟩))) htake)
    | exact wpAny_bind (wpAny_bind (m:=Builtin.Tuple.tupleExact _) (wpAny_newObj_type (wpAny_pure (wpAny_pure ⟨_,rfl,wpAny_pure h⟩)) htake))
    | exact wpAny_bind (wpAny_bind (m:=Builtin.Tuple.tupleExact _) (wpAny_newObj_type (wpAny_pure ⟨_,rfl,wpAny_pure h⟩) htake))
end
end HT
namespace L2
open PySem PySem.Spec PyProof.Rows
noncomputable abbrev TO:=St→Hp→(Option Int→Hp→Prop)→Prop
def PO (X:Cx) (e:Option Expr) (t:TO):Prop :=
  ∀ (pins:List (Addr×Obj)) (s:Shared) (σ:St) (H:Hp) (Q:Option Int→Hp→Prop),Inv X pins σ H s→t σ H Q →
    wpAny (model X.prog X.w) X.A (evalPart e X.env) (fun u s'=>∃ o H',Inv X pins σ H' s'∧IsPart u o∧Q o H') X.xe s
noncomputable def qLw:TO:=fun _ H Q=>Q none H
noncomputable def qPU (t:TE):TO:=fun σ H Q=>t σ H fun x H1=>∃ i,x = .int i∧Q (some i) H1
section
variable {X:Cx} {e:Expr} {te:TE} {lo hi:Option Expr} {tl th:TO} {pos p2:Pos}
theorem qK5:PO X none qLw:=by
  k_dat 0"r1"
  rw [evalPart_none]
  exact wpAny_pure ⟨none,H,I,.none,h⟩
theorem qL3 (h:PE X e te):PO X (some e) (qPU te):=by
  intro pins s σ H Q I hw
  rw [evalPart_some]
  refine thn (h pins s σ H _ I hw) fun u s1 hqz=>?_
  k_dat 0"r10"
  obtain⟨i,rfl,q⟩:=q1
  obtain⟨t,rfl⟩:=r1
  exact⟨some i,H1,I1,.int i t,q⟩
def SlR (X:Cx) (r:V→Option Int→Option Int→Hp→VK→Prop):Prop :=
  ∀ (pins:List (Addr×Obj)) (s:Shared) (σ:St) (H:Hp) (x:V) (v vl vu:Value) (lo hi:Option Int) (sl:Addr) (Q:VK),Inv X pins σ H s→RelV x v→s.heap.IsSliceOf sl vl vu .none→IsPart vl lo→IsPart vu hi→r x lo hi H Q →
    ∃ T id,typeLookup (.type T) "__getitem__" = pure (some (.builtin id))∧s.TypeIs v T∧wpAny (model X.prog X.w) X.A (getItem v (.ref sl)) (EP X pins σ Q) X.xe s
theorem SlR.or {r r':V→Option Int→Option Int→Hp→VK→Prop} (h:SlR X r) (h':SlR X r'):SlR X (fun x lo hi H Q=>r x lo hi H Q∨r' x lo hi H Q):=by
  intro pins s σ H x v vl vu lo hi sl Q I rx hs pl pu q
  rcases q with q | q
  · exact h pins s σ H x v vl vu lo hi sl Q I rx hs pl pu q
  · exact h' pins s σ H x v vl vu lo hi sl Q I rx hs pl pu q
noncomputable def tSl (r:V→Option Int→Option Int→Hp→VK→Prop) (te:TE) (tl th:TO):TE:=fun σ H Q=>te σ H fun x H1=>tl σ H1 fun l H2=>th σ H2 fun u H3=>r x l u H3 Q
theorem qFv {r:V→Option Int→Option Int→Hp→VK→Prop} (hr:SlR X r) (he:PE X e te) (hl:PO X lo tl) (hu:PO X hi th):PE X (.Subscript e (.Slice lo hi none p2) pos) (tSl r te tl th):=by
  k_dat 0"r1"
  refine Subscript_ (thn (he pins s σ H _ I h) fun v s1 hqz=>?_)
  k_dat 0"r10"
  refine wpAny_Slice (thn (hl pins s1 σ H1 _ I1 q1) fun vl s2 ⟨l,H2,I2,pl,q2⟩=>thn (hu pins s2 σ H2 _ I2 q2) fun vu s3 hqz=>?_)
  obtain⟨u,H3,I3,pu,q3⟩:=hqz
  rw [evalPart_none]
  refine wpAny_pure ?_
  have I4:Inv X pins σ H3 { s3 with heap:=s3.heap.push { cls:=.type "slice",data:=.fields #[vl,vu,.none] } }:=I3.kept (t':=s3.toks) fun b ob q=>Heap.get?_push_of_some _ q
  obtain⟨T,id,hT,ht,hg⟩:=hr pins { s3 with heap:=s3.heap.push { cls:=.type "slice",data:=.fields #[vl,vu,.none] } } σ H3 x v vl vu l u s3.heap.objs.size Q I4 r1 (Heap.IsSliceOf.new ..) pl pu q3
  show wpAny (model X.prog X.w) X.A (subscriptTail e (.Slice lo hi none p2) v (.ref s3.heap.objs.size)) (EP X pins σ Q) X.xe { s3 with heap:=s3.heap.push { cls:=.type "slice",data:=.fields #[vl,vu,.none] } }
  exact tail_any (ops:=[.ref s3.heap.objs.size,v]) ht hT hg (by with_unfolding_all rfl)
noncomputable def qFg (xs:List V) (lo hi:Option Int):List V:=(xs.drop (HT.sIx xs.length 0 lo)).take (HT.sIx xs.length xs.length hi - HT.sIx xs.length 0 lo)
theorem qC6 (xs:List V) (lo hi:Option Int):(qFg xs lo hi).length≤xs.length:=by
  unfold qFg
  rw [List.length_take,List.length_drop]
  lia
noncomputable def qQY (K:W.Frag):V→Option Int→Option Int→Hp→VK→Prop:=fun x lo hi H Q=>∃ a xs,x = .ref a∧SqT K H a xs ∧
  ¬ (HT.sIx xs.length 0 lo=0∧HT.sIx xs.length xs.length hi=xs.length)∧∀ p,H p=none→Q (.ref p) (upd H p (.tup (qFg xs lo hi)))
theorem qOl:SlR X (qQY X.K):=by
  k_dat 0"r31"
  obtain⟨a,xs,rfl,hx,hw,q⟩:=h
  cases rx
  obtain⟨its,r,ht,hz⟩:=I.tuple hx
  have hlen:its.toArray.size=xs.length:=by rw [List.size_toArray];exact r.length.symm
  refine⟨"tuple",_,PyProof.Rows.slot_tuple_getitem.lookup,ht.typeIs,?_⟩
  refine HT.qCd ht hs pl pu (by rw [hlen];exact hw) ?_ (by rw [hlen];exact hz)
  rw [hlen]
  refine⟨.ref s.heap.objs.size,_,I.laid (t':=s.toks) (o:=.tup (qFg xs lo hi)) (fun b ob q=>Heap.get?_push_of_some _ q) (Nat.le_refl _) ?_,rfl,q _ (I.hok.fresh (Nat.le_refl _))⟩
  exact⟨Nat.le_trans (qC6 xs lo hi) hz,_,(r.drop (HT.sIx xs.length 0 lo)).take (HT.sIx xs.length xs.length hi - HT.sIx xs.length 0 lo),qAs.new _ _⟩
theorem Vals.qCm {xs:List V} {us:List Value} (r:Vals xs us):us=[]↔xs=[]:=by
  cases r with
  | nil=>simp
  | cons _ _=>simp
end
end L2
namespace L2
open PySem PySem.Spec PyProof.Rows
noncomputable def ixN (n:Nat) (i:Int):Option Nat:=if 0≤i then (if i<n then some i.toNat else none) else if -(n:Int)≤i then some (i+n).toNat else none
noncomputable def atI {α:Type} (xs:List α) (i:Int):Option α:=(ixN xs.length i).bind fun j=>xs[j]?
theorem qHS {n:Nat} {i:Int} {j:Nat} (h:ixN n i=some j):seqIndex? i n=some j∧j<n∧-(n:Int)≤i∧i<n:=by
  unfold ixN at h
  by_cases h0:0≤i
  · rw [if_pos h0] at h
    by_cases h1:i<n
    · rw [if_pos h1] at h
      have e:i.toNat=j:=Option.some.inj h
      exact⟨by rw [seqIndex_of h0 h1,e],by lia,by lia,h1⟩
    · rw [if_neg h1] at h;cases h
  · rw [if_neg h0] at h
    by_cases h1:-(n:Int)≤i
    · rw [if_pos h1] at h
      have e:(i+n).toNat=j:=Option.some.inj h
      exact⟨by rw [seqIndex_neg (by lia) h1,e],by lia,h1,by lia⟩
    · rw [if_neg h1] at h;cases h
theorem qFR {α:Type} {xs:List α} {i:Int} {v:α} (h:atI xs i=some v):∃ j,seqIndex? i xs.length=some j∧xs[j]? = some v∧j<xs.length∧-(xs.length:Int)≤i∧i<xs.length:=by
  unfold atI at h
  cases e:ixN xs.length i with
  | none=>rw [e] at h;cases h
  | some j =>
    rw [e] at h
    obtain⟨h1,h2,h3,h4⟩:=qHS e
    exact⟨j,h1,h,h2,h3,h4⟩
theorem qHQ {α:Type} {xs:List α} {j:Nat} {v:α} (h:xs[j]? = some v):atI xs (j:Int)=some v:=by
  have hj:j<xs.length:=(List.getElem?_eq_some_iff.mp h).1
  have e:ixN xs.length (j:Int)=some j:=by
    unfold ixN
    rw [if_pos (by lia),if_pos (by lia)];simp
  unfold atI;rw [e];exact h
def qHc (b:Expr):Prop:=∀ o i,subscripted b false o i=operate [o,i] (getItem o i)
def IxR (X:Cx) (r:R2):Prop :=
  ∀ (value slice:Expr) (pins:List (Addr×Obj)) (s:Shared) (σ:St) (H:Hp) (x y:V) (v u:Value) (Q:VK),Inv X pins σ H s→RelV x v→RelV y u→r x y H Q →
    subscripted slice false v u=operate [v,u] (getItem v u)→wpAny (model X.prog X.w) X.A (subscriptTail value slice v u) (EP X pins σ Q) X.xe s
def MtR (X:Cx) (id:String) (r:V→List V→Hp→VK→Prop):Prop :=
  ∀ (pins:List (Addr×Obj)) (s:Shared) (σ:St) (H:Hp) (x:V) (xs:List V) (v:Value) (us:List Value) (Q:VK),Inv X pins σ H s→RelV x v→Vals xs us→r x xs H Q →
    wpAny (model X.prog X.w) X.A (call (.builtin id) (v::us)) (EP X pins σ Q) X.xe s
section
variable {X:Cx} {a b:Expr} {ta tb:TE} {pos:Pos}
theorem IxR.or {r r':R2} (h:IxR X r) (h':IxR X r'):IxR X (fun x y H Q=>r x y H Q∨r' x y H Q):=by
  intro value slice pins s σ H x y v u Q I rx ry q hs
  rcases q with q | q
  · exact h value slice pins s σ H x y v u Q I rx ry q hs
  · exact h' value slice pins s σ H x y v u Q I rx ry q hs
theorem qPF {r:R2} (hr:IxR X r) (ha:PE X a ta) (hb:PE X b tb) (hs:qHc b):PE X (.Subscript a b pos) (tOp r ta tb):=by
  k_dat 0"r1"
  exact Subscript_ (qNl ha hb I h fun v u s2 x y H2 I2 rx ry q=>hr a b pins s2 σ H2 x y v u Q I2 rx ry q (hs _ _))
noncomputable def qOz (K:W.Frag):R2:=fun x y H Q=>∃ p xs i v,x = .ref p∧y = .int i∧SqL K H p xs∧atI xs i=some v∧Q v H
noncomputable def qPK (K:W.Frag):R2:=fun x y H Q=>∃ p xs i v,x = .ref p∧y = .int i∧SqT K H p xs∧atI xs i=some v∧Q v H
noncomputable def qPM:R2:=fun x y H Q=>∃ z i c,x = .str z∧y = .int i∧z.length≤sizeLine∧atI z.cps.toList i=some c∧Q (.str ⟨#[c]⟩) H
theorem qLV:IxR X (qOz X.K):=by
  k_dat 0"r38"
  obtain⟨p,xs,i,z,rfl,rfl,hq,he,q⟩:=h
  cases rx
  obtain⟨t,rfl⟩:=ry
  obtain⟨its,r,pl,hz⟩:=I.list hq
  obtain⟨j,h1,h2,h3,h4,h5⟩:=qFR he
  obtain⟨w,ew,rw'⟩:=r.get h2
  have hl:=r.length
  have hn:=qCr
  have fin:EP X pins σ Q w s:=⟨z,H,I,rw',q⟩
  by_cases h0:0≤i
  · have hj:i.toNat=j:=by
      rw [seqIndex_of h0 h5] at h1
      exact Option.some.inj h1
    exact item_listR pl.isList h0 (by lia) (by rw [hj];simpa using ew) fin hs
  · have hj:(i+(its.toArray.size:Int)).toNat=j:=by
      rw [seqIndex_neg (by lia) h4] at h1
      rw [List.size_toArray,← hl]
      exact Option.some.inj h1
    exact subscriptTail_builtinR (x:=w) pl.isList.typeIs slot_list_getitem.lookup
      (wpAny_getItem_list_neg (Q:=fun r s'=>r=w∧EP X pins σ Q r s') pl.isList (by lia) (by rw [List.size_toArray]<;>lia) (by lia) (by rw [hj];simpa using ew) ⟨rfl,fin⟩) hs
theorem qNE:IxR X (qPK X.K):=by
  k_dat 0"r38"
  obtain⟨p,xs,i,z,rfl,rfl,hq,he,q⟩:=h
  cases rx
  obtain⟨t,rfl⟩:=ry
  obtain⟨its,r,pl,hz⟩:=I.tuple hq
  obtain⟨j,h1,h2,h3,h4,h5⟩:=qFR he
  obtain⟨w,ew,rw'⟩:=r.get h2
  have hl:=r.length
  have hn:=qCr
  have fin:EP X pins σ Q w s:=⟨z,H,I,rw',q⟩
  exact subscriptTail_builtinR (x:=w) pl.typeIs slot_tuple_getitem.lookup
    (getItem_tuple (j:=j) (Q:=fun r s'=>r=w∧EP X pins σ Q r s') pl (by lia) (by lia) (by rw [List.size_toArray,← hl];exact h1) (by simpa using ew) ⟨rfl,fin⟩) hs
theorem qHN:IxR X qPM:=by
  k_dat 0"r38"
  obtain⟨z,i,c,rfl,rfl,hz,he,q⟩:=h
  k_dat 0"r8"
  k_dat 0"r11"
  obtain⟨j,h1,h2,h3,h4,h5⟩:=qFR he
  have hl:z.cps.toList.length=z.length:=by simp [Str.length]
  rw [hl] at h1 h4 h5
  have hn:=qCr
  exact tail_any (typeIs_str s z t) slot_str_getitem.lookup (getItem_str (c:=c) (by
    have e1:decide (i < -(2 ^ 63:Int))=false:=decide_eq_false (by lia)
    have e2:decide (i ≥ 2 ^ 63)=false:=decide_eq_false (by lia)
    rw [e1,e2,Bool.or_false]) (by rw [h1];simpa using h2) ⟨.str ⟨#[c]⟩,H,I.tok _,⟨_,rfl⟩,q⟩) hs
noncomputable def rIx (K:W.Frag):R2:=fun x y H Q=>qOz K x y H Q∨qPK K x y H Q∨qPM x y H Q
theorem qKW:IxR X (rIx X.K):=qLV.or (qNE.or qHN)
theorem qHE (its:List Value) (n j:Nat) (u:Value):Obj.mapSeq (·.setIfInBounds j u) { cls:=.type "list",data:=.seq its.toArray n }={ cls:=.type "list",data:=.seq (its.set j u).toArray n }:=by
  simp [Obj.mapSeq]
theorem Inv.lst {pins:List (Addr×Obj)} {σ:St} {H:Hp} {s:Shared} {p:Addr} {xs:List V} (I:Inv X pins σ H s) (h:H p=some (.lst xs)) :
    ∃ (its:List Value) (n:Nat),Vals xs its∧s.heap.get? p=some { cls:=.type "list",data:=.seq its.toArray n }∧xs.length≤sizeLine:=by
  obtain⟨z,its,n,r,e⟩:=I.hok p _ h
  exact⟨its,n,r,e,z⟩
theorem Inv.qOL {pins:List (Addr×Obj)} {σ:St} {H:Hp} {s:Shared} {p:Addr} {xs ys:List V} {its its':List Value} {n n':Nat} {f:Obj→Obj} (I:Inv X pins σ H s) (h:H p=some (.lst xs))
    (ho:s.heap.get? p=some { cls:=.type "list",data:=.seq its.toArray n }) (hf:f { cls:=.type "list",data:=.seq its.toArray n }={ cls:=.type "list",data:=.seq its'.toArray n' }) (r:Vals ys its') (hz:ys.length≤sizeLine) (t:Nat) :
    Inv X pins σ (upd H p (.lst ys)) { s with heap:=s.heap.update p f,toks:=t }:=by
  have e:(s.heap.update p f).get? p=some { cls:=.type "list",data:=.seq its'.toArray n' }:=by
    rw [Heap.get?_update_self f ho (by rw [hf]<;>rfl),hf]
  refine I.write (x:=p) (e:=p) (by rw [h];trivial) (.inl rfl) (fun b u hb q=>(Heap.get?_update_other _ _ (Ne.symm hb)).trans q) ⟨_,e⟩ ?_
  exact⟨hz,its',n',r,e⟩
noncomputable def qOy:V→V→V→Hp→(Hp→Prop)→Prop:=fun o i v H Q=>∃ p xs k j,o = .ref p∧i = .int k∧H p=some (.lst xs)∧ixN xs.length k=some j∧Q (upd H p (.lst (xs.set j v)))
theorem set_list:qPm X qOy:=by
  intro pins s σ H o i v ov iv u Q I ro ri rv h
  obtain⟨p,xs,k,j,rfl,rfl,hp,hj,q⟩:=h
  cases ro
  obtain⟨t,rfl⟩:=ri
  obtain⟨its,n,r,ho,hz⟩:=I.lst hp
  obtain⟨h1,h2,h3,h4⟩:=qHS hj
  have hl:=r.length
  have hn:=qCr
  have I':Inv X pins σ (upd H p (.lst (xs.set j v))) { s with heap:=s.heap.update p (Obj.mapSeq (·.setIfInBounds j u)) } :=
    I.qOL hp ho (qHE its n j u) (r.set rv j) (by rw [List.length_set];exact hz) s.toks
  by_cases h0:0≤k
  · have hk:k.toNat=j:=by
      rw [seqIndex_of h0 h4] at h1
      exact Option.some.inj h1
    exact W.ki_setAt ho h0 (by lia) (by rw [List.size_toArray,← hl];exact h4) (by rw [hk];exact⟨_,I',q⟩)
  · have hk:(k+(its.toArray.size:Int)).toNat=j:=by
      rw [seqIndex_neg (by lia) h3] at h1
      rw [List.size_toArray,← hl]
      exact Option.some.inj h1
    exact W.ki_setBack ho (by lia) (by rw [List.size_toArray,← hl];exact h3) (by lia) (by rw [hk];exact⟨_,I',q⟩)
theorem qFe (lo hi:Option Int) (n:Nat):(sliceBounds lo hi none n).1=((HT.sIx n 0 lo:Nat):Int)∧(sliceBounds lo hi none n).2.1=((HT.sIx n n hi:Nat):Int)∧(sliceBounds lo hi none n).2.2=1:=by
  refine⟨?_,?_,rfl⟩
  · cases lo with
    | none=>simp [sliceBounds,HT.sIx]
    | some i =>
      simp only [sliceBounds,HT.sIx,Option.getD_none,show (1:Int) > 0 by decide,if_true]
      by_cases h:i<0
      · simp only [h,if_true]<;>lia
      · simp only [h,if_false]<;>lia
  · cases hi with
    | none=>simp [sliceBounds,HT.sIx]
    | some i =>
      simp only [sliceBounds,HT.sIx,Option.getD_none,show (1:Int) > 0 by decide,if_true]
      by_cases h:i<0
      · simp only [h,if_true]<;>lia
      · simp only [h,if_false]<;>lia
theorem qEN (its:List Value) (lo hi:Option Int):slicePick its.toArray lo hi none=((its.drop (HT.sIx its.length 0 lo)).take (HT.sIx its.length its.length hi - HT.sIx its.length 0 lo)).toArray:=by
  obtain⟨h1,h2,h3⟩:=qFe lo hi its.toArray.size
  unfold slicePick
  rw [h1,h2,h3]
  simp only [sliceRange_one,pick_run,List.size_toArray]<;>rfl
noncomputable def qQJ (K:W.Frag):V→Option Int→Option Int→Hp→VK→Prop:=fun x lo hi H Q=>∃ a xs,x = .ref a∧SqL K H a xs∧∀ p,H p=none→Q (.ref p) (upd H p (.lst (qFg xs lo hi)))
theorem qL1:SlR X (qQJ X.K):=by
  k_dat 0"r31"
  obtain⟨a,xs,rfl,hx,q⟩:=h
  cases rx
  obtain⟨its,r,ht,hz⟩:=I.list hx
  have hlen:=r.length
  refine⟨"list",_,slot_list_getitem.lookup,ht.isList.typeIs,?_⟩
  refine wpAny_getItem_list_slice ht.isList hs pl pu .none (by simp) ?_ (by rw [List.size_toArray]<;>lia)
  rw [qEN,← hlen]
  refine⟨.ref s.heap.objs.size,_,I.laid (t':=s.toks) (o:=.lst (qFg xs lo hi)) (fun b ob q=>Heap.get?_push_of_some _ q) (Nat.le_refl _) ?_,rfl,q _ (I.hok.fresh (Nat.le_refl _))⟩
  exact⟨Nat.le_trans (qC6 xs lo hi) hz,_,0,(r.drop (HT.sIx xs.length 0 lo)).take (HT.sIx xs.length xs.length hi - HT.sIx xs.length 0 lo),Heap.get?_push_size _ rfl⟩
noncomputable def qA1:V→Bool
  | .non=>true
  | .bl _=>true
  | .int _=>true
  | .str _=>true
  | _=>false
noncomputable def eqV:V→V→Bool
  | .non,.non=>true
  | .bl a,.bl b=>a==b
  | .bl a,.int b=>(if a then 1 else 0)==b
  | .int a,.bl b=>a==(if b then 1 else 0)
  | .int a,.int b=>a==b
  | .str a,.str b=>a==b
  | _,_=>false
theorem qOw {A:Around} {s:Shared} {y x:V} {u v:Value} (ry:RelV y u) (rx:RelV x v) (fy:qA1 y=true) (fx:qA1 x=true):SeqAt.EqAt A s u v (eqV y x):=by
  cases y with
  | non =>
    cases ry
    cases x with
    | non=>cases rx;exact SeqAt.EqAt.same _
    | bl b=>cases rx;exact SeqAt.EqAt.none_bool b
    | int b=>obtain⟨t,rfl⟩:=rx;exact SeqAt.EqAt.none_int b t
    | str b=>obtain⟨t,rfl⟩:=rx;exact SeqAt.EqAt.none_str b t
    | _=>exact absurd (show false=true from fx) Bool.false_ne_true
  | bl a =>
    cases ry
    cases x with
    | non=>cases rx;exact SeqAt.EqAt.bool_none a
    | bl b=>cases rx;exact SeqAt.EqAt.bool_bool a b
    | int b=>obtain⟨t,rfl⟩:=rx;exact SeqAt.EqAt.bool_int a b t
    | str b=>obtain⟨t,rfl⟩:=rx;exact SeqAt.EqAt.bool_str a b t
    | _=>exact absurd (show false=true from fx) Bool.false_ne_true
  | int a =>
    k_dat 0"r11"
    cases x with
    | non=>cases rx;exact SeqAt.EqAt.int_none a t'
    | bl b=>cases rx;exact SeqAt.EqAt.int_bool a t' b
    | int b=>obtain⟨t,rfl⟩:=rx;exact SeqAt.EqAt.int_int a t' b t
    | str b=>obtain⟨t,rfl⟩:=rx;exact SeqAt.EqAt.int_str a t' b t
    | _=>exact absurd (show false=true from fx) Bool.false_ne_true
  | str a =>
    k_dat 0"r11"
    cases x with
    | non=>cases rx;exact SeqAt.EqAt.str_none a t'
    | bl b=>cases rx;exact SeqAt.EqAt.str_bool a t' b
    | int b=>obtain⟨t,rfl⟩:=rx;exact SeqAt.EqAt.str_int a t' b t
    | str b=>obtain⟨t,rfl⟩:=rx;exact SeqAt.EqAt.str_str a t' b t
    | _=>exact absurd (show false=true from fx) Bool.false_ne_true
  | _=>exact absurd (show false=true from fy) Bool.false_ne_true
noncomputable def eqU (x:V) (u:Value):Bool:=match u with
  | .none=>eqV .non x
  | .bool b=>eqV (.bl b) x
  | .int i _=>eqV (.int i) x
  | .str z _=>eqV (.str z) x
  | _=>false
theorem qFU {x y:V} {u:Value} (r:RelV y u) (f:qA1 y=true):eqU x u=eqV y x:=by
  cases y with
  | non=>cases r;rfl
  | bl b=>cases r;rfl
  | int i=>obtain⟨t,rfl⟩:=r;rfl
  | str z=>obtain⟨t,rfl⟩:=r;rfl
  | _=>exact absurd (show false=true from f) Bool.false_ne_true
theorem qCY {x:V}:∀ {xs:List V} {us:List Value},Vals xs us→xs.all qA1=true→us.any (eqU x)=xs.any fun y=>eqV y x
  | _,_,.nil,_=>rfl
  | y::xs,u::us,.cons r t,f=>by
    rw [List.all_cons,Bool.and_eq_true] at f
    rw [List.any_cons,List.any_cons,qFU r f.1,qCY t f.2]
theorem qAm {A:Around} {s:Shared} {x:V} {v:Value} (rx:RelV x v) (fx:qA1 x=true):∀ {xs:List V} {us:List Value},Vals xs us→xs.all qA1=true→∀ u∈us,SeqAt.EqAt A s u v (eqU x u)
  | _,_,.nil,_=>fun u hu=>by cases hu
  | y::xs,u::us,.cons r t,f=>fun u' hu=>by
    rw [List.all_cons,Bool.and_eq_true] at f
    rcases List.mem_cons.mp hu with rfl | hu
    · rw [qFU r f.1];exact qOw r rx f.1 fx
    · exact qAm rx fx t f.2 u' hu
noncomputable def inV (x:V) (xs:List V):Bool:=xs.any fun y=>eqV y x
noncomputable def rIn (K:W.Frag) (neg:Bool):R2:=fun x y H Q=>∃ p xs,y = .ref p∧(SqL K H p xs∨SqT K H p xs)∧qA1 x=true∧xs.all qA1=true∧Q (.bl (if neg then !inV x xs else inV x xs)) H
theorem qIq:OpR X (compareOp .In) (rIn X.K false):=by
  k_dat 0"r3"
  obtain⟨p,xs,rfl,hq,fx,fs,q⟩:=h
  cases ry
  rcases hq with hq | hq
  · obtain⟨its,r,pl,hz⟩:=I.list hq
    refine SeqAt.in_listAt (eqU x) pl.isList (fun w hw=>qAm rx fx r fs w (by simpa using hw)) ⟨.bl _,H,I,rfl,?_⟩
    k_dat 0"r32"
    exact q
  · obtain⟨its,r,pl,hz⟩:=I.tuple hq
    refine SeqAt.in_tupleAt (eqU x) pl (fun w hw=>qAm rx fx r fs w (by simpa using hw)) ⟨.bl _,H,I,rfl,?_⟩
    k_dat 0"r32"
    exact q
theorem qFk:OpR X (compareOp .NotIn) (rIn X.K true):=by
  k_dat 0"r3"
  obtain⟨p,xs,rfl,hq,fx,fs,q⟩:=h
  cases ry
  rcases hq with hq | hq
  · obtain⟨its,r,pl,hz⟩:=I.list hq
    refine SeqAt.notIn_listAt (eqU x) pl.isList (fun w hw=>qAm rx fx r fs w (by simpa using hw)) ⟨.bl _,H,I,rfl,?_⟩
    k_dat 0"r32"
    exact q
  · obtain⟨its,r,pl,hz⟩:=I.tuple hq
    refine SeqAt.notIn_tupleAt (eqU x) pl (fun w hw=>qAm rx fx r fs w (by simpa using hw)) ⟨.bl _,H,I,rfl,?_⟩
    k_dat 0"r32"
    exact q
theorem qE9:OpR X (compareOp .NotIn) (fun x y H Q=>∃ i j,x = .str i∧y = .str j∧Q (.bl (!(!(Builtin.Str.occurrences j i 0 j.length 1).isEmpty))) H):=by
  k_dat 0"r3"
  obtain⟨i,j,rfl,rfl,q⟩:=h
  k_dat 0"r8"
  k_dat 0"r11"
  exact notIn_str ⟨.bl _,H,I,rfl,q⟩
theorem qFZ:qDo X (.builtin "len") (fun xs H Q=>∃ p ys,xs=[.ref p]∧(SqL X.K H p ys∨SqT X.K H p ys)∧Q (.int ys.length) H):=by
  intro pins s σ H xs us Q I r h
  obtain⟨p,ys,rfl,hq,q⟩:=h
  obtain⟨u,rfl,rx⟩:=vals1 r
  cases rx
  have hn:=qCr
  rcases hq with hq | hq
  · obtain⟨its,r',pl,hz⟩:=I.list hq
    have hlen:=r'.length
    exact Calls.call_len_list pl.isList (by simp only [List.size_toArray]<;>lia) ⟨.int ys.length,H,I.tok _,⟨s.toks+1,by rw [List.size_toArray,hlen]⟩,q⟩
  · obtain⟨its,r',pl,hz⟩:=I.tuple hq
    have hlen:=r'.length
    exact len_tuple pl (by simp only [List.size_toArray]<;>lia) ⟨.int ys.length,H,I.tok _,⟨s.toks+1,by rw [List.size_toArray,hlen]⟩,q⟩
theorem qFV:qDo X (.builtin "len") (fun xs H Q=>∃ z,xs=[.str z]∧z.length≤sizeLine∧Q (.int z.length) H):=by
  intro pins s σ H xs us Q I r h
  obtain⟨z,rfl,hz,q⟩:=h
  obtain⟨u,rfl,t,rfl⟩:=vals1 r
  have hn:=qCr
  exact len_str (by lia) ⟨.int z.length,H,I.tok _,⟨_,rfl⟩,q⟩
theorem qFF:qDo X (.type "list") (fun xs H Q=>∃ p ys,xs=[.ref p]∧(SqL X.K H p ys∨SqT X.K H p ys)∧∀ l,H l=none→Q (.ref l) (upd H l (.lst ys))):=by
  intro pins s σ H xs us Q I r h
  obtain⟨p,ys,rfl,hq,q⟩:=h
  obtain⟨u,rfl,rx⟩:=vals1 r
  cases rx
  have fin:∀ (its:List Value),Vals ys its→ys.length≤sizeLine→∀ (h':Heap) (c':Nat),(∀ b o',s.heap.get? b=some o'→h'.get? b=some o') →
      h'.get? s.heap.objs.size=some { cls:=.type "list",dict:=none,data:=.seq its.toArray c',slots:=#[] }→EP X pins σ Q (.ref s.heap.objs.size) { s with heap:=h' }:=fun its r' hz h' c' kp e =>
    ⟨.ref s.heap.objs.size,_,I.laid (t':=s.toks) kp (Nat.le_refl _) (show qAX X.K X.prog X.w _ h' _ (.lst ys) from⟨hz,its,c',r',e⟩),rfl,q _ (I.hok.fresh (Nat.le_refl _))⟩
  rcases hq with hq | hq
  · obtain⟨its,r',pl,hz⟩:=I.list hq
    have hlen:=r'.length
    obtain⟨o,ho,hc,n,hd⟩:=pl.isList
    exact call_list_seq p (.inl rfl) ho hc hd (fun h' c' kp e=>fin its r' hz h' c' kp e) (by simp only [List.size_toArray]<;>lia)
  · obtain⟨its,r',pl,hz⟩:=I.tuple hq
    have hlen:=r'.length
    obtain⟨o,ho,hc,n,hd⟩:=pl
    exact call_list_seq p (.inr rfl) ho hc hd (fun h' c' kp e=>fin its r' hz h' c' kp e) (by simp only [List.size_toArray]<;>lia)
theorem qEH:qDo X (.type "tuple") (fun xs H Q=>∃ p ys,xs=[.ref p]∧((SqL X.K H p ys∧∀ l,H l=none→Q (.ref l) (upd H l (.tup ys)))∨(SqT X.K H p ys∧Q (.ref p) H))):=by
  intro pins s σ H xs us Q I r h
  obtain⟨p,ys,rfl,h⟩:=h
  obtain⟨u,rfl,rx⟩:=vals1 r
  cases rx
  rcases h with ⟨hq,q⟩ | ⟨hq,q⟩
  · obtain⟨its,r',pl,hz⟩:=I.list hq
    have hlen:=r'.length
    refine call_tuple_list pl.isList (fun h' kp=>?_) (by simp only [List.size_toArray]<;>lia)
    have I1:Inv X pins σ H { s with heap:=h' }:=I.kept (t':=s.toks) kp
    have I2:Inv X pins σ (upd H h'.objs.size (.tup ys)) { s with heap:=h'.push { cls:=.type "tuple",data:=.seq its.toArray } } :=
      I1.laid (t':=s.toks) (fun b o e=>Heap.get?_push_of_some _ e) (Nat.le_refl _) (show qAX X.K X.prog X.w _ _ _ (.tup ys) from⟨hz,its,r',qAs.new _ _⟩)
    exact⟨.ref h'.objs.size,_,I2,rfl,q _ (I1.hok.fresh (Nat.le_refl _))⟩
  · obtain⟨its,r',pl,hz⟩:=I.tuple hq
    exact call_tuple_same pl ⟨.ref p,H,I,rfl,q⟩
def tyV (K:W.Frag) (T:String) (x:V) (H:Hp):Prop:=match x with
  | .str _=>T = "str"
  | .int _=>T = "int"
  | .ref p=>(T = "list" ∧ ∃ xs,SqL K H p xs)∨(T = "tuple" ∧ ∃ o,K.lookup p=some o∧o.cls = .type "tuple" ∧ o.dict=none) ∨
      (T = "dict" ∧ ((∃ kvs,H p=some (.dK kvs))∨∃ kvs,H p=some (.dT kvs)))∨(T = "set" ∧ ∃ S n,H p=some (.set S n))
  | _=>False
theorem qJA {pins:List (Addr×Obj)} {σ:St} {H:Hp} {s:Shared} {T:String} {x:V} {v:Value} (I:Inv X pins σ H s) (r:RelV x v) (ty:tyV X.K T x H) :
    s.TypeIs v T∧∀ a,v = .ref a→∃ ob,s.heap.get? a=some ob∧ob.dict=none:=by
  cases x with
  | str z =>
    obtain⟨t,rfl⟩:=r
    cases (show T = "str" from ty)
    exact⟨typeIs_str s z t,fun _ e=>nomatch e⟩
  | int i =>
    obtain⟨t,rfl⟩:=r
    cases (show T = "int" from ty)
    exact⟨typeIs_int s i t,fun _ e=>nomatch e⟩
  | ref p =>
    cases r
    rcases ty with ⟨rfl,xs,hq⟩ | ⟨rfl,o,hk,hc,hd⟩ | ⟨rfl,hk⟩ | ⟨rfl,S,n,hk⟩
    · obtain⟨its,_,pl,_⟩:=I.list hq
      refine⟨pl.isList.typeIs,fun a e=>?_⟩
      cases e
      obtain⟨o,n,e,c,hd,_⟩:=pl
      exact⟨o,e,hd⟩
    · refine⟨⟨o,I.kIn p o hk,hc⟩,fun a e=>?_⟩
      cases e
      exact⟨o,I.kIn _ o hk,hd⟩
    · have z:∃ o,s.heap.get? p=some o∧o.ExactDict:=by
        rcases hk with ⟨kvs,hk⟩ | ⟨kvs,hk⟩
        · obtain⟨_,_,_,_,o,_,_,e,ex,_⟩:=I.hok p _ hk
          exact⟨o,e,ex⟩
        · obtain⟨_,_,_,_,o,_,_,e,ex,_⟩:=I.hok p _ hk
          exact⟨o,e,ex⟩
      obtain⟨o,e,ex⟩:=z
      refine⟨⟨o,e,ex.1⟩,fun a e2=>?_⟩
      cases e2
      exact⟨o,e,ex.2.1⟩
    · obtain⟨o,_,_,_,e,ex,_⟩:=I.hok p _ hk
      refine⟨⟨o,e,ex.1⟩,fun a e2=>?_⟩
      cases e2
      exact⟨o,e,ex.2.1⟩
  | _=>exact False.elim ty
noncomputable def qQC (K:W.Frag) (T:String) (r:V→List V→Hp→VK→Prop) (to:TE):TE:=fun σ H Q=>to σ H fun x H1=>tyV K T x H1∧r x [] H1 Q
noncomputable def tBM (K:W.Frag) (T:String) (r:V→List V→Hp→VK→Prop) (to:TE) (t:TA):TE:=fun σ H Q=>to σ H fun x H1=>tyV K T x H1∧t σ H1 fun xs H2=>r x xs H2 Q
variable {o e:Expr} {es:List Expr} {to:TE} {t:TA} {name:Str} {apos cpos:Pos} {T id:String} {r:V→List V→Hp→VK→Prop}
theorem qMr (pa:PlainAttrs T) (slot:Slot T name id) (hty:typeOf (.builtin id)=pure (.type "method_descriptor")) (hm:MtR X id r) (ho:PE X o to)
    (hbase:attributeBase o name X.env (eval o X.env)=eval o X.env:=by rfl) (hline:(apos.endLine==cpos.line)=true:=by rfl):PE X (.Call (.Attribute o name apos) [] [] cpos) (qQC X.K T r to):=by
  k_dat 0"r1"
  refine wpAny_Call_method0_late hbase hline (thn (ho pins s σ H _ I h) fun v s1 hqz=>?_)
  obtain⟨x,H1,I1,r1,ty,q1⟩:=hqz
  obtain⟨h1,h2⟩:=qJA I1 r1 ty
  exact⟨T,id,pa,slot,hty,h1,h2,Calls.callWith_builtin rfl (PySem.evalArgs_none (hm pins s1 σ H1 x [] v [] Q I1 r1 .nil q1))⟩
theorem qEW (pa:PlainAttrs T) (slot:Slot T name id) (hty:typeOf (.builtin id)=pure (.type "method_descriptor")) (hm:MtR X id r) (ho:PE X o to) (ha:PA X (e::es) t)
    (hbase:attributeBase o name X.env (eval o X.env)=eval o X.env:=by rfl)
    (hfew:((backTo cpos (starEach (e::es) X.env)).all (fun x=>!x.1)&&(backToKw cpos (keywordEach [] X.env)).all (fun x=>x.1.isSome)
      && decide ((e::es).length+([]:List Keyword).length+(if ([]:List Keyword).isEmpty then 0 else 1)<30))=true:=by rfl)
    (hline:(apos.endLine==cpos.line)=true:=by rfl) (hs:starEach (e::es) X.env=(false,eval e X.env)::starEach es X.env:=by rfl) (hplain:(backTo cpos (starEach es X.env)).any (·.1)=false:=by rfl) :
    PE X (.Call (.Attribute o name apos) (e::es) [] cpos) (tBM X.K T r to t):=by
  k_dat 0"r1"
  refine wpAny_Call_method_late hbase hfew hline rfl (thn (ho pins s σ H _ I h) fun v s1 hqz=>?_)
  obtain⟨x,H1,I1,r1,ty,q1⟩:=hqz
  obtain⟨h1,h2⟩:=qJA I1 r1 ty
  refine⟨T,id,pa,slot,hty,h1,h2,?_⟩
  have hA:=ha cpos pins s1 σ H1 _ I1 q1
  rw [hs] at hA ⊢
  refine Calls.callWith_builtin (by show (false || (backTo cpos (starEach es X.env)).any (·.1))=false;rw [hplain]<;>rfl) (Calls.evalArgs_plain ?_)
  exact thn hA fun us s2 ⟨vs,H2,I2,r2,q2⟩=>hm pins s2 σ H2 x vs v us Q I2 r1 r2 q2
end
end L2
namespace L2
open PySem PySem.Spec PyProof.Rows
def MtM (X:Cx) (id:String) (r:V→List V→Hp→VK→Prop):Prop :=
  ∀ (pins:List (Addr×Obj)) (s:Shared) (σ:St) (H:Hp) (x:V) (xs:List V) (v:Value) (us:List Value) (Q:VK),Inv X pins σ H s→RelV x v→Vals xs us→r x xs H Q →
    wpAny (model X.prog X.w) X.A (call (.builtin id) (v::us)) (EP X pins σ Q) X.xe s
theorem Vals.one {x:V} {us:List Value} (h:Vals [x] us):∃ u,us=[u]∧RelV x u:=by
  cases h with
  | cons r t=>cases t;exact⟨_,rfl,r⟩
theorem Vals.zero:∀ {us:List Value},Vals [] us→us=[]
  | _,.nil=>rfl
theorem Vals.rep {xs:List V} {us:List Value} (h:Vals xs us):∀ k:Nat,Vals (List.replicate k xs).flatten (List.replicate k us).flatten
  | 0=>.nil
  | k+1=>by
    rw [List.replicate_succ,List.replicate_succ,List.flatten_cons,List.flatten_cons]
    exact Vals.append h (Vals.rep h k)
theorem foldl_rep (its:List Value):∀ (k:Nat) (acc:List Value),
    List.foldl (fun x1 x2=>x1++x2) acc.toArray (List.replicate k its.toArray)=(acc++(List.replicate k its).flatten).toArray
  | 0,acc=>by simp
  | k + 1,acc=>by
    have e:acc.toArray++its.toArray=(acc++its).toArray:=by simp
    have e2:(acc++its)++(List.replicate k its).flatten=acc++(List.replicate (k+1) its).flatten:=by
      rw [List.replicate_succ,List.flatten_cons,List.append_assoc]
    rw [← e2,← foldl_rep its k (acc++its),← e,List.replicate_succ,List.foldl_cons]
section
variable {X:Cx} {pins:List (Addr×Obj)} {σ:St} {H:Hp} {s:Shared} {l b:Addr} {xs ys zs:List V}
theorem Inv.qP8 {its its':List Value} {n:Nat} {f:Array Value→Array Value} {t':Nat} (I:Inv X pins σ H s) (hH:H l=some (.lst xs))
    (e:s.heap.get? l=some { cls:=.type "list",data:=.seq its.toArray n }) (hf:f its.toArray=its'.toArray) (hv:Vals ys its') (hz:ys.length≤sizeLine) :
    Inv X pins σ (upd H l (.lst ys)) { s with heap:=s.heap.update l (Obj.mapSeq f),toks:=t' }:=by
  have q:=PySem.IsL.update e f
  rw [hf] at q
  refine I.write (x:=l) (e:=l) (by rw [hH];exact trivial) (.inl rfl) (fun b' u hb hu=>(Heap.get?_update_other s.heap (Obj.mapSeq f) (Ne.symm hb)).trans hu) ⟨_,q⟩ ?_
  exact⟨hz,its',_,hv,q⟩
theorem Inv.qI0 {its:List Value} {t':Nat} (I:Inv X pins σ H s) (hv:Vals ys its) (hz:ys.length≤sizeLine) :
    Inv X pins σ (upd H s.heap.objs.size (.lst ys)) { s with heap:=s.heap.push { cls:=.type "list",data:=.seq its.toArray },toks:=t' } :=
  I.laid (fun _ _ q=>Heap.get?_push_of_some _ q) (Nat.le_refl _) ⟨hz,its,0,hv,Heap.get?_push_size _ rfl⟩
theorem Inv.fresh (I:Inv X pins σ H s):H s.heap.objs.size=none:=I.hok.fresh (Nat.le_refl _)
theorem Inv.qJQ (I:Inv X pins σ H s) (hH:H l=some (.lst xs)):xs.length≤sizeLine∧∃ (its:List Value) (n:Nat),Vals xs its∧xs.length=its.length∧s.heap.get? l=some { cls:=.type "list",data:=.seq its.toArray n }:=by
  obtain⟨z,its,n,r,e⟩:=I.hok l _ hH
  exact⟨z,its,n,r,r.length,e⟩
theorem qJL {n:Nat} (h:n≤sizeLine):Builtin.List.listTooLong n=false:=by
  unfold Builtin.List.listTooLong
  exact decide_eq_false (by lia)
end
section
variable {X:Cx}
noncomputable def qKo:V→List V→Hp→VK→Prop:=fun x vs H Q=>∃ l xs y,x = .ref l∧vs=[y]∧H l=some (.lst xs)∧xs.length<sizeLine∧Q .non (upd H l (.lst (xs++[y])))
theorem qIg:MtM X "list.append" qKo:=by
  k_dat 0"r24"
  obtain⟨l,xs,y,rfl,rfl,hH,hz,q⟩:=h
  cases rx
  obtain⟨u,rfl,ru⟩:=rv.one
  obtain⟨z,its,n,r,hl,e⟩:=I.qJQ hH
  refine call_meets F.slot_list_append ⟨_,e,rfl⟩ F.entry_list_append (F.args_list_append_2 _ _) (PySem.list_append l its.toArray n u (by rw [List.size_toArray];lia)) ⟨e,?_⟩
  refine⟨.non,_,I.qP8 (its':=its++[u]) hH e (by simp) (r.append (.cons ru .nil)) ?_,rfl,q⟩
  rw [List.length_append,List.length_singleton]
  lia
noncomputable def qQL:R2:=fun x y H Q=>∃ l b xs zs,x = .ref l∧y = .ref b∧H l=some (.lst xs)∧H b=some (.lst zs)∧xs.length+zs.length≤sizeLine∧∀ p,H p=none→Q (.ref p) (upd H p (.lst (xs++zs)))
theorem qOM:OpR X (binaryOp .Add) qQL:=by
  k_dat 0"r3"
  obtain⟨l,b,xs,zs,rfl,rfl,hH,hB,hz,q⟩:=h
  cases rx
  cases ry
  obtain⟨z,its,n,r,hl,e⟩:=I.qJQ hH
  obtain⟨z2,its2,n2,r2,hl2,e2⟩:=I.qJQ hB
  refine PySem.P.add_list e e2 ?_ (by rw [List.size_toArray,List.size_toArray];lia)
  have ea:its.toArray++its2.toArray=(its++its2).toArray:=by simp
  rw [ea]
  exact⟨.ref _,_,I.qI0 (t':=s.toks) (r.append r2) (by rw [List.length_append];lia),rfl,q _ I.fresh⟩
noncomputable def qP6:R2:=fun x y H Q=>∃ l k xs,x = .ref l∧y = .int k∧H l=some (.lst xs)∧-(2 ^ 63)≤k∧k<2 ^ 63∧xs.length * k.toNat≤sizeLine ∧
  ∀ p,H p=none→Q (.ref p) (upd H p (.lst (List.replicate k.toNat xs).flatten))
theorem len_rep {α:Type} (xs:List α) (k:Nat):(List.replicate k xs).flatten.length=k * xs.length:=by
  induction k with
  | zero=>simp
  | succ k ih=>rw [List.replicate_succ,List.flatten_cons,List.length_append,ih,Nat.succ_mul,Nat.add_comm]
theorem qMj:OpR X (binaryOp .Mult) qP6:=by
  k_dat 0"r3"
  obtain⟨l,k,xs,rfl,rfl,hH,h1,h2,hz,q⟩:=h
  cases rx
  obtain⟨t,rfl⟩:=ry
  obtain⟨z,its,n,r,hl,e⟩:=I.qJQ hH
  have hlen:its.toArray.size * k.toNat≤sizeLine:=by rw [List.size_toArray,← hl];exact hz
  have hcap:¬ its.toArray.size * k.toNat > (2 ^ 63 - 1) / 8:=by
    have:(sizeLine:Nat)≤(2 ^ 63 - 1) / 8:=by decide
    lia
  have hfit:¬ (!Builtin.List.listFitsIndex k)=true:=by
    rw [fitsIndex_both h1 h2]
    exact Bool.false_ne_true
  have hlong:¬ Builtin.List.listTooLong (its.toArray.size * k.toNat)=true:=by
    rw [qJL hlen]
    exact Bool.false_ne_true
  have hnew:List.foldl (fun x1 x2=>x1++x2) #[] (List.replicate (if its.toArray.isEmpty=true then 0 else k.toNat) its.toArray)=(List.replicate k.toNat its).flatten.toArray:=by
    have f0:∀ m:Nat,List.foldl (fun x1 x2=>x1++x2) #[] (List.replicate m its.toArray)=(List.replicate m its).flatten.toArray:=fun m=>by
      have:=foldl_rep its m []
      rw [List.nil_append] at this
      exact this
    rw [f0]
    cases its with
    | nil=>simp
    | cons a r'=>rw [if_neg (by simp)]
  refine wpAny_binaryOp_repeat_ref (T:= "list") (U:= "int") (by decide) ⟨_,e,rfl⟩ (fun s'=>typeIs_int s' k t) noFill_list_mul F.fills_int_mul F.slot_int_rmul repeat_list F.slot_int_index.lookup
    (call_meets F.slot_int_rmul (typeIs_int s k t) F.entry_int_rmul (F.args_int_rmul_2 _ _) (int___rmul___int_list k t l its.toArray n)
      ⟨e,rfl,⟨_,e,rfl⟩,call_meets F.slot_list_mul ⟨_,e,rfl⟩ F.entry_list_mul (F.args_list_mul_2 _ _) (AutoListH.list___mul___list_int_3 l its.toArray n k t hfit hcap hlong) ⟨e,?_⟩⟩)
  rw [hnew]
  exact⟨.ref _,_,I.qI0 (t':=s.toks) (r.rep k.toNat) (by rw [len_rep,Nat.mul_comm];exact hz),rfl,q _ I.fresh⟩
end
end L2
namespace Att
open PySem PySem.W PySem.Calls PyProof.Rows
theorem qDI {P:Params} {h:Heap}:∀ (ns:List Int) (vs:List Value),WellAll P h vs (ns.map WData.int)→IntsAre vs ns:=by
  intro ns
  induction ns with
  | nil =>
    intro vs w
    rw [List.map_nil] at w
    cases w
    exact .nil
  | cons n ns ih =>
    intro vs w
    rw [List.map_cons] at w
    cases w with
    | cons a b =>
      cases a
      exact .cons _ _ (ih _ b)
theorem qIB {l:OpenLaw} {n:Nat} (hn:l.most=some n) {P:Params} {h:Heap} {args:List WData} {vals:List Value}
    (hpre:l.row.toRowW.claim.pre args=true) (hwl:WellAll P h vals args) :
    ∃ a vs ns,vals=[Value.ref a]∧args=[WData.list (ns.map WData.int)]∧h.get? a=some { cls:=.type "list",data:=.seq vs.toArray }∧IntsAre vs ns∧ns.length≤n:=by
  have hsh:WShape.hasAll [] args [.list .int]=true:=(pre_splitW hpre).1
  have hc:l.pre.holds [] { args:=args }=true:=(pre_splitW hpre).2
  obtain⟨d,r,rfl,h1,h2⟩:=hasAllW_cons hsh
  obtain rfl:=hasAllW_nil h2
  obtain⟨xs,rfl,h3⟩:=hasW_list h1
  obtain⟨ns,rfl⟩:=items_int h3
  have hlen:ns.length≤n:=by
    unfold OpenLaw.pre at hc
    have h4:(WTm.not (.lt (.lit (.int (n:Int))) (.len (.arg 0)))).holds [] { args:=[.list (ns.map .int)] }=true:=by
      have h4:=(holds_andW hc).1
      rw [hn] at h4
      exact h4
    have h5:=condW_of h4 (w_not (w_lt w_lit (w_len_list (w_arg rfl))))
    rw [List.length_map] at h5
    refine Nat.le_of_not_lt fun q=>?_
    have q':(n:Int)<((ns.length:Nat):Int):=by lia
    first
      | (rw [decide_eq_true q'] at h5;exact absurd h5 (by decide))
      | (simp at h5;lia)
  cases hwl with
  | cons w1 w2 =>
    cases w2
    cases w1 with
    | list ho hall=>exact⟨_,_,ns,rfl,rfl,ho,qDI ns _ hall,hlen⟩
theorem qIC (l:OpenLaw) (args:List WData):l.row.toRowW.claim.post args (.bool true) args=true :=
  postW_of (r:=l.row.toRowW) (X:=(true==true))
    (show WShape.has [] (.bool true) .bool=true by first | rfl | decide | simp [WShape.has,WShape.arms,WShape.armsAll])
    (show (WTm.eq .res (.lit (.bool true))).value [] { args:=args,res:=some (.bool true),after:=args }=some (.bool (true==true)) from w_eq_bool (w_res rfl) w_lit) rfl
theorem qGJ {l:OpenLaw} {n:Nat} {q:Program} {loose:List Str} {XP:(Str→Option Value)→Heap→Prop} {YP:World→Heap→Prop} {d:DefRec}
    (hn:l.most=some n) (hdf:d.params.defaults=[])
    (call:∀ (w:World) (s₀ s₁:Shared) (mg mb:Str→Option Value) (fa:Addr) (o:Obj) (pm cd doc:Value) (a:Addr) (vs:List Value) (ns:List Int),
      Ground q loose [] XP w s₀ mg mb s₁.heap→YP w s₁.heap →
      s₁.heap.get? fa=some o→o.data = .func (docDef d.name d.params d.body d.scope pm cd doc)→s₁.heap.CodeRec cd d.name→mg d.name=some (.ref fa) →
      s₁.heap.get? a=some { cls:=.type "list",data:=.seq vs.toArray }→IntsAre vs ns→ns.length≤n→s₁.gens=#[] →
      codeAny (model l.prog w) callerA (.call (.ref fa) ⟨[.ref a],[]⟩) (fun r s'=>r = .ok (.ret (.bool true))∧OldK s₁.heap s'.heap∧s'.os=s₁.os∧AllBare s'.gens) s₁) :
    WalkO q loose XP YP l.row.toRowW d [] (fun f vs=>PySem.call f vs):=by
  intro w s₀ s₁ mg mb G Y fa o pm cd doc dV kV ho hd hcd hD hmg hg args vals as hpre hlay hrd hwl hlo
  obtain rfl:dV = .none:=Dflts.none hD hdf
  obtain rfl:kV = .none:=Dflts.noKw hD
  obtain⟨a,vs,ns,rfl,rfl,hobj,hints,hlen⟩:=qIB hn hpre hwl
  refine enter_call (codeAny_mono (call w s₀ s₁ mg mb fa o pm cd doc a vs ns G Y ho (fd_plain hd) hcd hmg hobj hints hlen hg) fun r s' hq=>?_)
  obtain⟨rfl,h2,h3,h4⟩:=hq
  exact⟨.inl ⟨.bool true,.bool true,[],rfl,fun _=>rfl,.bool true,qIC l _,fun _=>⟨List.Pairwise.nil,fun _ hm=>(nomatch hm)⟩⟩,h2,h3,h4⟩
end Att
namespace L2
open PySem PySem.Spec PyProof.Rows
theorem qEU:∀ {vs:List Value} {ns:List Int},IntsAre vs ns→Vals (ns.map V.int) vs
  | _,_,.nil=>.nil
  | _,_,.cons n t h=>.cons ⟨t,rfl⟩ (qEU h)
def qNx (H:Hp):Prop:=∀ b,H b=none∨∃ o xs,H b=some (.frz o (.lst xs))
theorem qJk {P:Program} {w:World} {K:W.Frag} {mg mb:Str→Option Value} {CX:CXT} {k:Nat} {fa a:Addr} {fd:FuncData} {x:Str} {sp:Sp} {s₁:Shared} {vs:List Value} {ns:List Int}
    (KX:K.In s₁.heap) (hns:s₁.heap.Ns mainGlobals mg) (hb:s₁.heap.Ns builtinsNs mb) (hbb:∀ x:Str,x ≠ "__name__" → mb x=bootBuiltins x) (hlim:s₁.heap.NoLimit) (hg:s₁.gens=#[])
    (ha:s₁.heap.get? a=some { cls:=.type "list",data:=.seq vs.toArray }) (hi:IntsAre vs ns) (hl:ns.length≤sizeLine) (hr:qAC k callerA)
    (F:∀ base:Heap,K.In base→base.Ns mainGlobals mg→qAG P w K mg base CX k fa fd [x] sp) (hbind:∀ (s:Shared) (u:Value),BindsTo s fd ⟨[u],[]⟩ [(x,u)])
    (hsp:∀ H:Hp,qNx H→SqL K H a (ns.map V.int)→sp [.ref a] H (fun v _=>v = .bl true) fun _ _ _=>False)
    (hCX:∀ H e s',CX [] H s₁ (fun _ _ _=>False) e s'→False) :
    codeAny (model P w) callerA (.call (.ref fa) ⟨[.ref a],[]⟩) (fun r s'=>r = .ok (.ret (.bool true))∧OldK s₁.heap s'.heap∧s'.os=s₁.os∧AllBare s'.gens) s₁:=by
  have rv:=qEU hi
  have lenV:=hi.length
  -- from an abstract heap in which nothing but the script may be tracked
  have core : ∀ H:Hp,qNx H→SqL K H a (ns.map V.int)→HOk K P w H s₁.heap→(∀ b,H b≠none→b=a)→(H a≠none→K.lookup a=none) →
      codeAny (model P w) callerA (.call (.ref fa) ⟨[.ref a],[]⟩) (fun r s'=>r = .ok (.ret (.bool true))∧OldK s₁.heap s'.heap∧s'.os=s₁.os∧AllBare s'.gens) s₁:=by
    intro H hO hS hok hA hK
    have base_of:∀ {b:Addr} {o:Obj},s₁.heap.get? b=some o→H b=none→(qE1 s₁.heap H).get? b=some o:=fun e n=>qIz e n
    have noA:∀ {b:Addr} {o:Obj} {es:Array DictEntry} {ep:Nat},s₁.heap.get? b=some o→o.data = .dict es ep→H b=none:=fun {b o es ep} e d=>by
      cases q:H b with
      | none=>rfl
      | some u =>
        have e':b=a:=hA b (by rw [q];simp)
        subst e'
        rw [ha] at e;cases e
        have d':Data.seq vs.toArray _=Data.dict es ep:=d
        cases d'
    have nsK:∀ {b:Addr} {m:Str→Option Value},s₁.heap.Ns b m→(qE1 s₁.heap H).Ns b m:=fun {b m} ⟨o,es,ep,e,d,r⟩=>⟨o,es,ep,base_of e (noA e d),d,r⟩
    have hKb:K.In (qE1 s₁.heap H):=fun b o e=>base_of (KX b o e) (by
      cases q:H b with
      | none=>rfl
      | some u =>
        have e':b=a:=hA b (by rw [q];simp)
        subst e'
        rw [hK (by rw [q];simp)] at e;cases e)
    have hM:Mod K mg (qE1 s₁.heap H):=⟨hKb,nsK hns,⟨mb,nsK hb,hbb⟩,let ⟨mc,h1,h2⟩:=hlim;⟨mc,nsK h1,h2⟩⟩
    have e0:qEO P w K mg (qE1 s₁.heap H) callerA [] s₁ H:=⟨rfl,hM,fun b o e=>qKz e,Nat.le_of_eq (qIU _ _),trivial,fun b hb=>absurd (show b∈([]:List Addr) from hb) (by simp),hok,.of_eq hg⟩
    refine codeAny_mono ((F _ hKb (nsK hns)).run callerA [] s₁ H ⟨[.ref a],[]⟩ [.ref a] [.ref a] _ _ hr e0 (hbind s₁ (.ref a)) (.cons rfl .nil) (hsp H hO hS)) fun r s' h=>?_
    cases r with
    | error e=>exact (hCX H e s' h).elim
    | ok fl =>
      cases fl with
      | next=>exact False.elim h
      | brk=>exact False.elim h
      | cont=>exact False.elim h
      | ret u =>
        obtain⟨v,H',os,bare,un,hok',r',q⟩:=h
        have q':v = .bl true:=q
        subst q'
        obtain rfl:u=Value.bool true:=r'
        refine⟨rfl,OldK.of_keep fun b o e=>?_,os,bare⟩
        cases q:H b with
        | none=>exact un.keep b o e q (by intro z;exact absurd (show b∈([]:List Addr) from z) (by simp)) (by simp)
        | some u =>
          rcases hO b with z | ⟨ob,xs,z⟩
          · rw [q] at z;cases z
          · have z2:=un.frzs b ob _ z
            obtain⟨e1,_⟩:=hok b _ z
            obtain⟨e2,_⟩:=hok' b _ z2
            rw [e] at e1;cases e1
            exact e2
  cases hk:K.lookup a with
  | some o =>
    -- the script is one of the module's own objects
    have e:=KX a o hk
    rw [ha] at e
    cases e
    refine core (fun _=>none) (fun _=>.inl rfl) (.inr ⟨_,vs.toArray,_,hk,rfl,rfl,rfl,by rw [List.size_toArray,lenV];exact hl,by simpa using rv⟩) (fun b u z=>by have z':(none:Option HO)=some u:=z;cases z') (fun b z=>absurd rfl z) fun z=>absurd rfl z
  | none =>
    refine core (fun b=>if b=a then some (.frz { cls:=.type "list",data:=.seq vs.toArray } (.lst (ns.map V.int))) else none) (fun b=>?_) (.inl (.inr ⟨{ cls:=.type "list",data:=.seq vs.toArray },if_pos rfl⟩)) (fun b u z=>?_) (fun b z=>?_) fun _=>hk
    · by_cases hb:b=a
      · exact .inr ⟨_,_,if_pos hb⟩
      · exact .inl (if_neg hb)
    · by_cases hb:b=a
      · have z':=(if_pos hb).symm.trans z
        cases z'
        subst hb
        exact⟨ha,by rw [List.length_map];exact hl,vs,_,rv,ha⟩
      · have z':=(if_neg hb).symm.trans z
        cases z'
    · by_cases hb:b=a
      · exact hb
      · exact absurd (if_neg hb) z
end L2
namespace L2
open PySem PySem.Spec PyProof.Rows
theorem qLf {l:W.OpenLaw} {n k:Nat} {q:Program} {loose:List Str} {XP:(Str→Option Value)→Heap→Prop} {YP:World→Heap→Prop} {d:DefRec} {K:Params→W.Frag} {CX:World→CXT} {sp:World→Sp} {x:Str}
    (hn:l.most=some n) (hn2:n≤sizeLine) (hdf:d.params.defaults=[]) (hr:qAC k callerA)
    (hY:∀ (w:World) (h:Heap),YP w h→(K w.params).In h)
    (F:∀ (w:World) (mg:Str→Option Value) (fa:Addr) (h:Heap),(K w.params).In h→h.Ns mainGlobals mg→mg d.name=some (.ref fa) →
      ∃ fd:FuncData,(∀ (s:Shared) (u:Value),BindsTo s fd ⟨[u],[]⟩ [(x,u)]) ∧
        ∀ base:Heap,(K w.params).In base→base.Ns mainGlobals mg→qAG l.prog w (K w.params) mg base (CX w) k fa fd [x] (sp w))
    (hsp:∀ (w:World) (H:Hp) (a:Addr) (ns:List Int),ns.length≤n→qNx H→SqL (K w.params) H a (ns.map V.int)→sp w [.ref a] H (fun v _=>v = .bl true) fun _ _ _=>False)
    (hCX:∀ (w:World) (H:Hp) (s:Shared) (e:Value) (s':Shared),CX w [] H s (fun _ _ _=>False) e s'→False) :
    W.WalkO q loose XP YP l.row.toRowW d [] (fun f vs=>PySem.call f vs):=by
  refine Att.qGJ hn hdf fun w s₀ s₁ mg mb fa o pm cd doc a vs ns G Y ho hd hcd hmg hobj hints hlen hg=>?_
  have KX:=hY w _ Y
  obtain⟨fd,hb,hF⟩:=F w mg fa _ KX G.T.g hmg
  exact qJk KX G.T.g G.T.b G.T.builtins G.T.nolimit hg hobj hints (Nat.le_trans hlen hn2) hr hF hb (fun H hO hS=>hsp w H a ns hlen hO hS) fun H e s'=>hCX w H s₁ e s'
end L2
namespace L2
open PySem PySem.Spec PyProof.Rows
noncomputable def inClass (s:Stmt) (j:Nat):Stmt:=match s with
  | .ClassDef _ _ _ body _ _ _ _ _ _ _=>body.getD j (.Pass ⟨0,0,0,0⟩)
  | _=>.Pass ⟨0,0,0,0⟩
noncomputable def qAK (s:Stmt):Arguments:=match s with
  | .FunctionDef _ a _ _ _ _ _ _ _ _=>a
  | _=>{ posonlyargs:=[],args:=[],vararg:=none,kwonlyargs:=[],kw_defaults:=[],kwarg:=none,defaults:=[] }
noncomputable def qq (s:Stmt):List Stmt:=match s with
  | .FunctionDef _ _ b _ _ _ _ _ _ _=>b
  | _=>[]
noncomputable def qO (s:Stmt):Scope:=match s with
  | .FunctionDef _ _ _ _ _ _ sc _ _ _=>sc
  | _=>{ kind:=.function,names:=[],isGenerator:=false,isCoroutine:=false }
noncomputable abbrev CX0:CXT:=fun _ _ _ _ _ _=>False
noncomputable abbrev E0:XK:=fun _ _ _=>False
theorem qMe {X:Cx}:Passes CX0 X E0:=fun _ _ _ _ _ _ _ h=>h.elim
structure Fun (K:W.Frag) (x qual:Str) (st:Stmt) (f:Addr) (fd:FuncData):Prop where
  ex:∃ (oc:Value) (od:Option Addr) (kV doc pm:Value) (an:Option Addr) (cdv ct:Value) (osl:Array (Option Value)),
    fd=W.fnOf x qual (qAK st) (qq st) (qO st) .none kV doc pm an cdv ct∧K.lookup f=some ⟨oc,od,.func fd,osl⟩∧W.codeIn K cdv qual=true
  kp:W.keepIn K (.ref f)=true
section
variable {P:Program} {w:World} {K:W.Frag} {mg:Str→Option Value} {base:Heap}
theorem Fun.ok {x qual:Str} {st:Stmt} {f:Addr} {fd:FuncData} {N ps:List Str} {k:Nat} {sp:Sp} (F:Fun K x qual st f fd) (S:qb N ps (qO st)) (len:∀ vs H Q E,sp vs H Q E→vs.length=ps.length)
    (hbody:∀ (cdv:Value) (A:Around) (outer:List Env) (s:Shared) (H:Hp) (vs:List V) (Q:VK) (E:XK),qAC k (A.deeper (envOfC qual (qO st) s.heap.objs.size f cdv))→sp vs H Q E →
      ∃ t,PSs (qE4 CX0 P w K mg base N qual (qO st) f cdv A outer s H E).nox (qq st) t∧t { nx:=fun _ H'=>Q .non H',rt:=Q } (start N vs) H):qAG P w K mg base CX0 (k+1) f fd ps sp:=by
  k_dat 0"r39"
  refine qJM lk hcd S len fun A outer s H vs Q E hr hsp=>?_
  obtain⟨t,h,q⟩:=hbody cdv A outer s H vs Q E hr hsp
  exact⟨t,h.nox,q⟩
theorem Fun.binds {x qual:Str} {st:Stmt} {f:Addr} {fd:FuncData} {ps:List Str} (F:Fun K x qual st f fd)
    (h:∀ (kV doc pm:Value) (an:Option Addr) (cdv ct:Value) (us:List Value),us.length=ps.length→bindArgs (W.fnOf x qual (qAK st) (qq st) (qO st) .none kV doc pm an cdv ct) ⟨us,[]⟩=pure (ps.zip us)):Binds K fd ps []:=by
  k_dat 0"r39"
  exact .all (h kV doc pm an cdv ct)
theorem qFl {x qual:Str} {st:Stmt} {f:Addr} {oc:Value} {od an:Option Addr} {osl:Array (Option Value)} {kV doc pm cdv ct:Value} (l:K.lookup f=some ⟨oc,od,.func (W.fnOf x qual (qAK st) (qq st) (qO st) .none kV doc pm an cdv ct),osl⟩)
    (c:W.codeIn K cdv qual=true) (k:W.keepIn K (.ref f)=true):Fun K x qual st f (W.fnOf x qual (qAK st) (qq st) (qO st) .none kV doc pm an cdv ct):=⟨⟨oc,od,kV,doc,pm,an,cdv,ct,osl,rfl,l,c⟩,k⟩
end
theorem qB8 {A B:Prop} (h:B):if false=true then A else B:=by
  rw [if_neg Bool.false_ne_true]
  exact h
theorem qBw {A B:Prop} (h:A):if true=true then A else B:=by
  rw [if_pos rfl]
  exact h
def qO0 (H H':Hp):Prop:=∀ b o,H b=some o→H' b=some o
theorem qO0.free {H H':Hp} (e:qO0 H H') {l:Addr} (h:H' l=Option.none):H l=Option.none:=by
  cases q:H l with
  | none=>rfl
  | some o =>
    rw [e l o q] at h
    cases h
end L2
namespace L2
open PySem PySem.Spec PyProof.Rows
section
variable {κ:Type} [DecidableEq κ]
noncomputable def qBn (kvs:List (κ×V)) (k:κ):Option V:=(kvs.find? fun kv=>decide (kv.1=k)).map (·.2)
noncomputable def putK (kvs:List (κ×V)) (k:κ) (v:V):List (κ×V) :=
  if (kvs.any fun kv=>decide (kv.1=k))=true then kvs.map (fun kv=>if kv.1=k then (kv.1,v) else kv) else kvs++[(k,v)]
theorem qF4 {p:κ×V} {r:List (κ×V)} {k:κ} (e:p.1=k):qBn (p::r) k=some p.2:=by simp [qBn,List.find?_cons,e]
theorem qGL {p:κ×V} {r:List (κ×V)} {k:κ} (e:¬ p.1=k):qBn (p::r) k=qBn r k:=by simp [qBn,List.find?_cons,e]
theorem qGm.getD {o:Option V} {u:Option Value} {d:V} {d':Value} (r:qGm o u) (rd:RelV d d'):RelV (o.getD d) (u.getD d'):=by
  cases o with
  | none=>cases u with
    | none=>exact rd
    | some _=>exact (show False from r).elim
  | some _=>cases u with
    | none=>exact (show False from r).elim
    | some _=>exact r
theorem KV.val {kvs:List (κ×V)} {vs:List (κ×Value)} (r:KV kvs vs) (k:κ):qGm (qBn kvs k) (valueAt vs k):=by
  unfold KV at r
  induction r with
  | nil=>exact True.intro
  | @cons p q ps qs h t ih =>
    obtain⟨h1,h2⟩:=h
    by_cases e:p.1=k
    · have e':q.1=k:=h1.symm.trans e
      have b:valueAt (q::qs) k=some q.2:=by simp [valueAt,List.find?_cons,e']
      rw [qF4 e,b];exact h2
    · have e':¬ q.1=k:=fun z=>e (h1.trans z)
      have b:valueAt (q::qs) k=valueAt qs k:=by simp [valueAt,List.find?_cons,e']
      rw [qGL e,b];exact ih
end
noncomputable abbrev KT (K:W.Frag) (H:Hp):List (List Key×V)→List (List Key×Addr×Value)→Prop:=Paired fun p q=>p.1=q.1∧SqT K H q.2.1 (p.1.map kV)∧RelV p.2 q.2.2
theorem KT.val {K:W.Frag} {H:Hp} {kvs:List (List Key×V)} {xs:List (List Key×Addr×Value)} (r:KT K H kvs xs) (k:List Key):qGm (qBn kvs k) ((atKey xs k).map (·.2)):=by
  induction r with
  | nil=>exact True.intro
  | @cons p q ps qs h t ih =>
    obtain⟨h1,_,h2⟩:=h
    by_cases e:p.1=k
    · have e':q.1=k:=h1.symm.trans e
      have b:atKey (q::qs) k=some q.2:=by simp [atKey,List.find?_cons,e']
      rw [qF4 e,b];exact h2
    · have e':¬ q.1=k:=fun z=>e (h1.trans z)
      have b:atKey (q::qs) k=atKey qs k:=by simp [atKey,List.find?_cons,e']
      rw [qGL e,b];exact ih
theorem KT.keeps {K:W.Frag} {H H':Hp} {kvs:List (List Key×V)} {xs:List (List Key×Addr×Value)} (r:KT K H kvs xs) (ht:∀ b ys,H b=some (.tup ys)→H' b=some (.tup ys)):KT K H' kvs xs :=
  Paired.qNk r fun _ _ z=>⟨z.1,z.2.1.elim (fun y=>.inl (ht _ _ y)) .inr,z.2.2⟩
def qLZ (K:W.Frag) (H:Hp) (a:Addr) (y:V) (r:Option V):Prop :=
  (∃ kvs k,Rd H a (.dK kvs)∧y=kV k∧r=qBn kvs k)∨∃ kvs k b,Rd H a (.dT kvs)∧y = .ref b∧SqT K H b (k.map kV)∧r=qBn kvs k
def qL4 (K:W.Frag) (H:Hp) (a:Addr) (y v:V) (H':Hp):Prop :=
  (∃ kvs k,H a=some (.dK kvs)∧y=kV k∧kvs.length<sizeLine∧H'=upd H a (.dK (putK kvs k v))) ∨
  ∃ kvs k b,H a=some (.dT kvs)∧y = .ref b∧SqT K H b (k.map kV)∧kvs.length<sizeLine∧H'=upd H a (.dT (putK kvs k v))
theorem qLZ.k {K:W.Frag} {H:Hp} {a:Addr} {kvs:List (Key×V)} {k:Key} (e:H a=some (.dK kvs)):qLZ K H a (kV k) (qBn kvs k):=.inl ⟨kvs,k,.inl e,rfl,rfl⟩
theorem qLZ.t {K:W.Frag} {H:Hp} {a b:Addr} {kvs:List (List Key×V)} {k:List Key} (e:H a=some (.dT kvs)) (eb:SqT K H b (k.map kV)):qLZ K H a (.ref b) (qBn kvs k):=.inr ⟨kvs,k,b,.inl e,rfl,eb,rfl⟩
theorem qL4.k {K:W.Frag} {H:Hp} {a:Addr} {kvs:List (Key×V)} {k:Key} {v:V} (e:H a=some (.dK kvs)) (hl:kvs.length<sizeLine):qL4 K H a (kV k) v (upd H a (.dK (putK kvs k v))):=.inl ⟨kvs,k,e,rfl,hl,rfl⟩
theorem qL4.t {K:W.Frag} {H:Hp} {a b:Addr} {kvs:List (List Key×V)} {k:List Key} {v:V} (e:H a=some (.dT kvs)) (eb:SqT K H b (k.map kV)) (hl:kvs.length<sizeLine) :
    qL4 K H a (.ref b) v (upd H a (.dT (putK kvs k v))):=.inr ⟨kvs,k,b,e,rfl,eb,hl,rfl⟩
end L2
set_option maxHeartbeats 4000000
namespace L2
open PySem PySem.Spec PyProof.Rows
noncomputable def qCy (cells:List (Str×Addr)):List (Str×NameKind)→List (Str×Addr)→List (Str×Addr)
  | [],acc=>acc
  | (n,k)::r,acc=>qCy cells r (if k = .free then (n,(cells.lookup n).getD 0)::acc else acc)
theorem qDq {env:Env} {f:(Str×NameKind)→List (Str×Addr)→Sem (ForInStep (List (Str×Addr)))}
    (h1:∀ n k acc,k≠.free→f (n,k) acc=pure (.yield acc)) (h2:∀ n acc c,env.cells.lookup n=some c→f (n,.free) acc=pure (.yield ((n,c)::acc))) :
    ∀ (names:List (Str×NameKind)) (acc:List (Str×Addr)),(∀ x∈names,x.2 = .free→∃ c,env.cells.lookup x.1=some c)→forIn names acc f=(pure (qCy env.cells names acc):Sem (List (Str×Addr)))
  | [],acc,_=>by simp [qCy]
  | (n,k)::r,acc,h=>by
    rw [List.forIn_cons]
    by_cases hk:k = .free
    · subst hk
      obtain⟨c,hc⟩:=h (n,.free) List.mem_cons_self rfl
      rw [h2 n acc c hc,pure_bind]
      show forIn r ((n,c)::acc) f=_
      rw [qDq h1 h2 r ((n,c)::acc) fun x hx=>h x (List.mem_cons_of_mem _ hx)]
      show _=pure (qCy env.cells r (if NameKind.free = .free then (n,(env.cells.lookup n).getD 0)::acc else acc))
      rw [if_pos rfl,hc]
      rfl
    · rw [h1 n k acc hk,pure_bind]
      show forIn r acc f=_
      rw [qDq h1 h2 r acc fun x hx=>h x (List.mem_cons_of_mem _ hx)]
      show _=pure (qCy env.cells r (if k = .free then (n,(env.cells.lookup n).getD 0)::acc else acc))
      rw [if_neg hk]
theorem qH9 {env:Env} {sc:Scope} (h:∀ x∈sc.names,x.2 = .free→∃ c,env.cells.lookup x.1=some c):closureFor sc env=pure (qCy env.cells sc.names []):=by
  simp only [closureFor]
  rw [qDq (env:=env) ?h1 ?h2 sc.names [] h,pure_bind]
  case h1 =>
    intro n k acc hk
    have:(k==NameKind.free)=false:=by simpa using hk
    simp only [this,Bool.false_eq_true,if_false]
  case h2 =>
    intro n acc c hc
    simp only [beq_self_eq_true,if_true,cellOf,hc]
    rfl
theorem qGR {cells:List (Str×Addr)} {x:Str} {c:Addr}:∀ (names:List (Str×NameKind)) (acc:List (Str×Addr)),(∀ y∈names,y.2 = .free→∃ c,cells.lookup y.1=some c)→(qCy cells names acc).lookup x=some c→acc.lookup x=some c∨cells.lookup x=some c
  | [],acc,_,h=>.inl h
  | (n, k)::r,acc,hf,h=>by
    rcases qGR r _ (fun y hy=>hf y (List.mem_cons_of_mem _ hy)) h with h | h
    · by_cases hk:k = .free
      · rw [if_pos hk] at h
        obtain⟨c',hc'⟩:=hf (n,k) List.mem_cons_self hk
        have hc2:cells.lookup n=some c':=hc'
        rw [hc2] at h
        by_cases e:x=n
        · subst e
          simp at h
          subst h
          exact .inr hc2
        · have:(x==n)=false:=by simpa using e
          rw [List.lookup_cons,this] at h
          exact .inl h
      · rw [if_neg hk] at h
        exact .inl h
    · exact .inr h
theorem qCo {cells:List (Str×Addr)} {x:Str}:∀ (names:List (Str×NameKind)) (acc:List (Str×Addr)),((∃ c,acc.lookup x=some c)∨(x,NameKind.free)∈names)→∃ c,(qCy cells names acc).lookup x=some c
  | [],acc,h=>by
    rcases h with h | h
    · exact h
    · cases h
  | (n, k)::r,acc,h=>by
    refine qCo r _ ?_
    rcases h with ⟨c,h⟩ | h
    · refine .inl ?_
      by_cases hk:k = .free
      · rw [if_pos hk,List.lookup_cons]
        by_cases e:(x==n)=true
        · rw [e];exact⟨_,rfl⟩
        · have e':(x==n)=false:=by simpa using e
          rw [e'];exact⟨c,h⟩
      · rw [if_neg hk];exact⟨c,h⟩
    · rcases List.mem_cons.mp h with e | h
      · injection e with e1 e2
        subst e1;subst e2
        refine .inl ?_
        rw [if_pos rfl,List.lookup_cons]
        simp
      · exact .inr h
theorem qBv {α:Type}:∀ {l:List (Str×α)} {x:Str} {k:α},l.lookup x=some k→(x,k)∈l
  | [],_,_,h=>by simp at h
  | (n,a)::r,x,k,h=>by
    rw [List.lookup_cons] at h
    by_cases e:x=n
    · subst e
      simp at h
      subst h
      exact List.mem_cons_self
    · have:(x==n)=false:=by simpa using e
      rw [this] at h
      exact List.mem_cons_of_mem _ (qBv h)
theorem qBP {env:Env}:∀ {names:List (Str×NameKind)} {x:Str} {k:NameKind},
    (names.map fun (n,k)=>if (k==NameKind.free&&env.scope.kind == .function&&env.kindOf n==some .cell) then (n,NameKind.cell) else (n,k)).lookup x=some k →
    ∃ k0,names.lookup x=some k0∧(k=k0∨k0 = .free)
  | [],_,_,h=>by simp at h
  | (n, k0)::r,x,k,h=>by
    rw [List.map_cons] at h
    by_cases e:x=n
    · subst e
      refine⟨k0,by simp,?_⟩
      by_cases hc:(k0==NameKind.free&&env.scope.kind == .function&&env.kindOf x==some .cell)=true
      · right
        simp at hc
        exact hc.1.1
      · left
        dsimp only at h
        rw [if_neg hc] at h
        simp at h
        exact h.symm
    · have e':(x==n)=false:=by simpa using e
      rw [List.lookup_cons,e']
      dsimp only at h
      split at h
      · rw [List.lookup_cons,e'] at h
        exact qBP h
      · rw [List.lookup_cons,e'] at h
        exact qBP h
theorem qBX {env:Env} (hk:env.scope.kind = .function):∀ {names:List (Str×NameKind)} {x:Str},names.lookup x=some .free→env.kindOf x=some .cell →
    (names.map fun (n,k)=>if (k==NameKind.free&&env.scope.kind == .function&&env.kindOf n==some .cell) then (n,NameKind.cell) else (n,k)).lookup x=some .cell
  | [],_,h,_=>by simp at h
  | (n,k0)::r,x,h,hx=>by
    rw [List.map_cons]
    by_cases e:x=n
    · subst e
      simp at h
      subst h
      have hc:(NameKind.free==NameKind.free&&env.scope.kind == .function&&env.kindOf x==some .cell)=true:=by simp [hk,hx]
      dsimp only
      rw [if_pos hc]
      simp
    · have e':(x==n)=false:=by simpa using e
      rw [List.lookup_cons,e'] at h
      dsimp only
      split
      · rw [List.lookup_cons,e'];exact qBX hk h hx
      · rw [List.lookup_cons,e'];exact qBX hk h hx
structure q9 (so:Scope) (N:List Str) (caps:List (Nat×Str)) (sc:Scope):Prop where
  kind:sc.kind = .function
  nocell:∀ y∈sc.names,y.2≠.cell
  names:∀ y∈sc.names,y.2 = .local→sc.names.lookup y.1=some .local
  free:∀ y∈sc.names,y.2 = .free→so.names.lookup y.1=some .cell
  caps:∀ p∈caps,N[p.1]? = some p.2∧so.names.lookup p.2=some .cell∧sc.names.lookup p.2=some .free
noncomputable def qFf (caps:List (Nat×Str)) (σ:St):St:=caps.map fun p=>(σ[p.1]?).join
noncomputable abbrev ql (X:Cx) (L:List Str) (caps:List (Nat×Str)) (sc:Scope) (C:Addr) (s:Shared) (H:Hp) (fp:List Addr):Cx :=
  { X with N:=L++caps.map (·.2),s₀:=s,H₀:=H,env:=compEnvC sc (qCy X.env.cells sc.names []) C X.env,outer:=X.stack,stack:=X.stack,ex:=fp,fn:=fun _=>false,pn:=[],xe:=fun _ _=>False }
theorem qBL {a b:Addr} {n:Nat} (h:a<n) (h2:n≤b):a≠b:=Nat.ne_of_lt (Nat.lt_of_lt_of_le h h2)
section
variable {X:Cx} {pins:List (Addr×Obj)} {σ:St} {H:Hp} {s:Shared} {L:List Str} {caps:List (Nat×Str)} {sc:Scope} {C D:Addr} {fp:List Addr}
theorem Inv.qGw (I:Inv X pins σ H s) (S:q9 X.env.scope X.N caps sc):∀ x∈sc.names,x.2 = .free→∃ c,X.env.cells.lookup x.1=some c:=fun x hx hf =>
  I.ok.has x.1 (.inl (S.free x hx hf))
theorem Inv.qDC (I:Inv X pins σ H s) (S:q9 X.env.scope X.N caps sc) {x:Str} {c:Addr} (h:(qCy X.env.cells sc.names []).lookup x=some c):X.env.cells.lookup x=some c:=by
  rcases qGR sc.names [] (I.qGw S) h with h | h
  · simp at h
  · exact h
theorem qGr {h₁:Heap} {tk:Nat} {m:Str→Option Value} {oD:Obj} (I:Inv X pins σ H s) (S:q9 X.env.scope X.N caps sc) (hfp:∀ b∈fp,qEP X pins H b) (hfo:∀ b∈fp,∃ o,s.heap.get? b=some o)
    (hC:s.heap.objs.size≤C) (hn:h₁.Ns C m) (old:∀ b o,s.heap.get? b=some o→h₁.get? b=some o) (hD:s.heap.objs.size≤D) (hDC:D≠C) (eD:h₁.get? D=some oD) (dD:∀ v,oD.data≠.cell v) :
    Inv (ql X L caps sc C s H fp) [(D,oD)] (List.replicate L.length none++qFf caps σ) H { s with heap:=h₁,toks:=tk }:=by
  have hcells:∀ x c,(qCy X.env.cells sc.names []).lookup x=some c→∃ v,s.heap.IsCell c v:=fun x c e=>I.cell x c (I.qDC S e)
  refine⟨⟨I.ok.mod,S.kind,I.ok.glob,I.ok.blt,hC,fun x y c h1 h2=>I.ok.inj x y c (I.qDC S h1) (I.qDC S h2),fun x hx=>?_,fun _ _ h=>(Bool.false_ne_true h).elim,I.ok.hd,I.ok.frames,.inl rfl,fun b hb=>⟨?_,fun x c e=>(hfp b hb).2.2.2.2.1 x c (I.qDC S e)⟩,I.bs,Nat.le_trans I.ok.bsz I.sz,fun b o e hb=>?_,fun b hb hz=>?_,I.stack,I.qFi⟩,
    rfl,I.bare,Un.kept old,⟨m,hn,fun i x v e1 e2 e3=>?_⟩,fun x c e=>?_,I.hok.fresh hC,fun x c e=>I.freeC x c (I.qDC S e),fun p hp=>?_,I.hok.kept old,?_⟩
  · -- has
    have key:∀ k,(relabel sc X.env).names.lookup x=some k→(k = .cell∨k = .free)→(x,NameKind.free)∈sc.names:=fun k e hk=>by
      obtain⟨k0,e0,h0⟩:=qBP e
      have hm:=qBv e0
      rcases h0 with h0 | h0
      · subst h0
        rcases hk with hk | hk
        · exact absurd hk (S.nocell _ hm)
        · rw [hk] at hm;exact hm
      · rw [h0] at hm;exact hm
    have hm:(x,NameKind.free)∈sc.names:=by
      rcases hx with hx | hx
      · exact key _ hx (.inl rfl)
      · exact key _ hx (.inr rfl)
    exact qCo sc.names [] (.inr hm)
  · obtain⟨o,e⟩:=hfo b hb
    exact Nat.ne_of_lt (Nat.lt_of_lt_of_le (Heap.lt_size e) hC)
  · rcases (hfp b hb).2.2.2.1 with z | z
    · exact I.ok.noex b o e z
    · exact absurd (Nat.lt_of_lt_of_le (Heap.lt_size e) (Nat.le_trans I.ok.bsz z)) (Nat.lt_irrefl _)
  · rcases List.mem_cons.mp (I.qFq b hz) with z | z
    · exact (hfp b hb).2.1 z
    · exact (hfp b hb).2.2.1 z
  · -- loc
    have e1':(L++caps.map (·.2))[i]? = some x:=e1
    by_cases hi:i<L.length
    · rw [List.getElem?_append_left (by simpa using hi),List.getElem?_replicate] at e2
      split at e2<;>cases e2
    · rw [List.getElem?_append_right (by simpa using Nat.not_lt.mp hi),List.length_replicate] at e2
      rw [List.getElem?_append_right (Nat.not_lt.mp hi)] at e1'
      unfold qFf at e2
      rw [List.getElem?_map] at e1' e2
      cases hp:caps[i - L.length]? with
      | none=>rw [hp] at e1';cases e1'
      | some p =>
        rw [hp] at e1' e2
        have ex:p.2=x:=Option.some.inj e1'
        have ev:(σ[p.1]?).join=some v:=Option.some.inj e2
        have ev':σ[p.1]? = some (some v):=by
          cases q:σ[p.1]? with
          | none=>rw [q] at ev;cases ev
          | some o=>rw [q] at ev;exact congrArg some ev
        obtain⟨c1,c2,c3⟩:=S.caps p (List.mem_of_getElem? hp)
        obtain⟨m0,hn0,hl⟩:=I.loc
        rw [ex] at c1 c2 c3
        obtain⟨u,r,l⟩:=hl p.1 x v c1 ev' (.inr (.inl c2))
        refine⟨u,r,.inr ⟨.inl (qBX I.ok.kind c3 c2),?_⟩⟩
        rcases l with ⟨hk,_⟩ | ⟨_,c,hc,hcell⟩
        · have:X.env.scope.names.lookup x=some .local:=hk
          rw [c2] at this;cases this
        · obtain⟨c',hc'⟩:=qCo (cells:=X.env.cells) sc.names [] (.inr (qBv c3))
          have:=I.qDC S hc'
          rw [hc] at this
          cases this
          obtain⟨o,ho,hd⟩:=hcell
          exact⟨c,hc',o,old _ _ ho,hd⟩
  · obtain⟨v,o,ho,hd⟩:=hcells x c e
    exact⟨v,o,old _ _ ho,hd⟩
  · have:p∈[(D,oD)]:=hp
    have ep:p=(D,oD):=by simpa using this
    subst ep
    refine⟨eD,I.hok.fresh hD,hDC,fun z=>?_,dD⟩
    have zz:H D=none:=I.hok.fresh hD
    obtain⟨_,o,ho,_⟩:=(I.stack).mem z
    exact absurd (Nat.lt_of_lt_of_le (Heap.lt_size ho) hD) (Nat.lt_irrefl _)
  · show (List.replicate L.length none++qFf caps σ).length=(L++caps.map (·.2)).length
    unfold qFf
    simp
def PIf (X:Cx) (ifs:List Expr) (t:TT):Prop :=
  ∀ (pins:List (Addr×Obj)) (s:Shared) (σ:St) (H:Hp) (Q:Bool→Hp→Prop),Inv X pins σ H s→t σ H Q →
    wpAny (model X.prog X.w) X.A (forIn ifs true fun c r=>if r=true then do let ok ← isTrue c X.env (eval c X.env);pure (ForInStep.yield ok) else pure (ForInStep.yield r)) (TP X pins σ Q) X.xe s
theorem qK3:PIf X [] (fun _ H Q=>Q true H):=fun pins s σ H Q I h=>wpAny_tests_nil ⟨H,I,h⟩
theorem qFI {prog:Program} {w:World} {A:Around} {R:Result→Shared→Prop} {s:Shared} {elt target iter:Expr} {ifs:List Expr} {scope:Scope} {pos:Pos} {it acc:Value} {env:Env} (I:Nat→Shared→Prop)
    (turn : ∀ n s,I n s→wpAny (model prog w) A (pyNext it) (fun r s₁=>match r with
      | none=>R (.ok .next) s₁
      | some v=>wpAny (model prog w) A (letOwnedTupleGo target it v) (fun _ s1'=>wpAny (model prog w) A (assign target env v) (fun _ s₂ =>
          wpAny (model prog w) A (forIn ifs true fun c r=>if r=true then do let ok ← isTrue c env (eval c env);pure (ForInStep.yield ok) else pure (ForInStep.yield r)) (fun ok s₃ =>
            if ok=true then wpAny (model prog w) A (eval elt env) (fun x s₄ =>
              wpAny (model prog w) A (call (.builtin "list.append") [acc,x]) (fun _ s₅=>∃ m,m<n∧I m s₅) (fun _ _=>False) s₄) (fun _ _=>False) s₃
            else ∃ m,m<n∧I m s₃) (fun _ _=>False) s₂) (fun _ _=>False) s1') (fun _ _=>False) s₁) (fun _ _=>False) s)
    (n:Nat) (h:I n s):codeAny (model prog w) A (.compLoop (.ListComp elt [⟨target,iter,ifs,0⟩] scope pos) 0 it acc env) R s:=by
  refine codeAny_loop rfl I (fun n s hI=>?_) n h
  show wpAny _ A ((compTurn (.ListComp elt [⟨target,iter,ifs,0⟩] scope pos) 0 it acc env).onRaise (fun x=>do noteFrame x env;theTreesLotGoes x)) _ _ s
  refine wpAny_noted ?_
  rw [compTurn_list]
  refine wpAny_bind (wpAny_standAt (wpAny_bind (wpAny_mono (turn n s hI) (fun r s₁ h₁=>?_) fun _ _ h'=>h'.elim)))
  cases r with
  | none=>exact wpAny_pure h₁
  | some v =>
    refine wpAny_bind (wpAny_mono h₁ (fun _ s1' h1'=>?_) fun _ _ h'=>h'.elim)
    refine wpAny_bind (wpAny_mono h1' (fun _ s₂ h₂=>wpAny_bind (wpAny_mono h₂ (fun ok s₃ h₃=>?_) fun _ _ h'=>h'.elim)) fun _ _ h'=>h'.elim)
    cases ok with
    | false=>exact wpAny_pure ⟨rfl,h₃⟩
    | true =>
      exact wpAny_bind (wpAny_bind (wpAny_mono h₃ (fun x s₄ h₄=>wpAny_bind (wpAny_mono h₄ (fun _ s₅ h₅=>wpAny_pure (wpAny_pure ⟨rfl,h₅⟩)) fun _ _ h'=>h'.elim)) fun _ _ h'=>h'.elim))
def qKH (J:It) (g:TG) (tc:TT) (te:TE) (σ0:St) (H1:Hp) (Fin:List V→Hp→Prop):Prop :=
  ∃ W : Nat→Nat→St→List V→Hp→Prop,(∃ m,W 0 m σ0 [] H1)∧∀ i m σ ys H,W i m σ ys H →
    (J.stop i H∧Fin ys H)∨(J.go i H∧ys.length<sizeLine∧∀ x H',J.yld i H x H'→g x σ H' fun σ2 H2=>tc σ2 H2 fun b H3 =>
      if b=true then te σ2 H3 fun y H4=>∃ m',m'<m∧W (i+1) m' σ2 (ys++[y]) H4 else ∃ m',m'<m∧W (i+1) m' σ2 ys H3)
theorem qD7 {elt iter tg:Expr} {ifs:List Expr} {pos:Pos} {g:TG} {tc:TT} {te:TE} {J:It} {it:Addr} {tn:Nat→Heap→Prop} {Fin:List V→Hp→Prop} {RR:Value→Addr→Result→Shared→Prop} {E:Value→Shared→Prop} {s₂:Shared}
    (hc:X.calm=true) (S:q9 X.env.scope X.N caps sc) (I:Inv X pins σ H s₂) (T:Turn X.prog X.w X.K tg J fp it tn) (st:tn 0 s₂.heap) (hfp:∀ b∈fp,qEP X pins H b)
    (hg:∀ C,PG (ql X L caps sc C s₂ H fp) tg g) (hif:∀ C,PIf (ql X L caps sc C s₂ H fp) ifs tc) (he:∀ C,PE (ql X L caps sc C s₂ H fp) elt te)
    (hW:qKH J g tc te (List.replicate L.length none++qFf caps σ) H Fin)
    (hRR:∀ C D s' m ys H',Inv X pins σ (upd H' D (.lst ys)) s'→s'.heap.Ns C m→qEP X pins (upd H' D (.lst ys)) C→H' D=none→Fin ys H'→RR (.ref D) C (.ok .next) s') :
    wpAny (model X.prog X.w) X.A (newList []) (fun acc s₃=>wpAny (model X.prog X.w) X.A (newFunctionEnv sc X.env.globals (qCy X.env.cells sc.names []) [] X.env.qual none .none (some X.env)) (fun cenv s₄ =>
      codeAny (model X.prog X.w) X.A (.compStart (.ListComp elt [⟨tg,iter,ifs,0⟩] sc pos) 0 (.ref it) acc { cenv with scope:=relabel sc X.env }) (RR acc cenv.locals) s₄) E s₃) E s₂:=by
  refine wpAny_newObj_type (wpAny_newFunctionEnv S.nocell (by intro y hy;simp at hy) (fun h₁ hns₁ hsb₁=>?_) S.kind)
  dsimp only at hns₁ hsb₁ ⊢
  generalize hH2:s₂.heap.push { cls:=.type "list",dict:=none,data:=.seq ([]:List Value).toArray }=H2 at hns₁ hsb₁ ⊢
  have hCs:H2.objs.size=s₂.heap.objs.size+1:=by rw [← hH2,Heap.size_push]
  have hDC:s₂.heap.objs.size≠H2.objs.size:=by rw [hCs];exact Nat.ne_of_lt (Nat.lt_succ_self _)
  have hCle:s₂.heap.objs.size≤H2.objs.size:=by rw [hCs];exact Nat.le_succ _
  have below:∀ b,b<s₂.heap.objs.size→b≠H2.objs.size∧b≠s₂.heap.objs.size:=fun b hb=>⟨by rw [hCs];exact Nat.ne_of_lt (Nat.lt_succ_of_lt hb),Nat.ne_of_lt hb⟩
  have old:∀ b o,s₂.heap.get? b=some o→h₁.get? b=some o:=fun b o e=>hsb₁.extBut b o (below b (Heap.lt_size e)).1 (Heap.get?_push_of_some _ (hH2 ▸ Heap.get?_push_of_some _ e))
  have hacc:h₁.get? s₂.heap.objs.size=some { cls:=.type "list",data:=.seq ([]:List Value).toArray }:=hsb₁.extBut _ _ hDC (Heap.get?_push_of_some _ (hH2 ▸ Heap.get?_push_size _ rfl))
  generalize hCn:H2.objs.size=C at hns₁ hsb₁ hDC hCle below ⊢
  generalize hDn:s₂.heap.objs.size=D at hacc hDC ⊢
  have hDle:s₂.heap.objs.size≤D:=Nat.le_of_eq hDn
  have fo:∀ b∈fp,∃ o,s₂.heap.get? b=some o:=fun b hb=>let ⟨o,e,_⟩:=T.obj 0 _ st b hb;⟨o,e⟩
  have bD:∀ b∈fp,D≠b:=fun b hb z=>by
    obtain⟨o,e⟩:=fo b hb
    exact qBL (Heap.lt_size e) hDle z.symm
  have cD:∀ x c,X.env.cells.lookup x=some c→c≠D:=fun x c e=>by
    obtain⟨v,o,ho,_⟩:=I.cell x c e
    exact qBL (Heap.lt_size ho) hDle
  have cC:∀ x c,X.env.cells.lookup x=some c→c≠C:=fun x c e=>by
    obtain⟨v,o,ho,_⟩:=I.cell x c e
    exact qBL (Heap.lt_size ho) hCle
  have start:=fun tk=>qGr (L:=L) (fp:=fp) (tk:=tk) I S hfp fo hCle hns₁ old hDle hDC hacc (fun v z=>by
    have z':Data.seq _ _=Data.cell v:=z
    cases z')
  obtain⟨W,⟨m0,w0⟩,turn⟩:=hW
  -- the static facts of the iterator's records in the block
  have stat:∀ {pl:List (Addr×Obj)} {H':Hp},(∀ b∈fp,H' b=none)→(∀ p∈pl,p.1=D)→∀ b∈fp,qEP (ql X L caps sc C s₂ H fp) pl H' b:=fun {pl H'} hn hpl b hb=>by
    obtain⟨f0,f1,f2,f3,f4,f5⟩:=hfp b hb
    obtain⟨o,e⟩:=fo b hb
    refine⟨hn b hb,(below b (Heap.lt_size e)).1,fun z=>?_,.inl hb,fun x c e'=>f4 x c (I.qDC S e'),fun p hp z=>?_⟩
    · rcases List.mem_cons.mp (I.qFq b z) with z | z
      · exact f1 z
      · exact f2 z
    · have hp':p∈pl:=hp
      exact bD b hb ((hpl p hp').symm.trans z)
  have fin:∀ (s':Shared) (σ':St) (H':Hp) (ys:List V) (its:List Value) (n:Nat),Inv (ql X L caps sc C s₂ H fp) [(D,{ cls:=.type "list",data:=.seq its.toArray n })] σ' H' s'→Vals ys its→ys.length≤sizeLine→Fin ys H'→RR (.ref D) C (.ok .next) s':=fun s' σ' H' ys its n I' rv hz hF=>by
    obtain⟨m,hm,_⟩:=I'.loc
    obtain⟨eD,hDn',_,_,_⟩:=I'.pin (D,{ cls:=.type "list",data:=.seq its.toArray n }) (by simp)
    have eD':s'.heap.get? D=some { cls:=.type "list",data:=.seq its.toArray n }:=eD
    have hDnone:H' D=none:=hDn'
    have hCnone:H' C=none:=I'.free
    have neD:∀ b o,s₂.heap.get? b=some o→b≠D:=fun b o e=>qBL (Heap.lt_size e) hDle
    have neH:∀ b u,H b=some u→b≠D:=fun b u e=>qBL (I.hok.lt e) hDle
    have ub:=I'.base
    have hok:HOk X.K X.prog X.w (upd H' D (.lst ys)) s'.heap:=fun b u e=>by
      by_cases hb:b=D
      · subst hb
        rw [qQ] at e
        cases e
        exact⟨hz,its,n,rv,eD'⟩
      · rw [qL hb] at e
        exact (I'.hok b u e).stay (fun c v _ q=>q) (fun c q=>by rw [qL (qS q hDnone)];exact q) fun c xs q=>by rw [qL (qS q hDnone)];exact q
    have un:Un (frs X.stack) fp H (upd H' D (.lst ys)) s₂.heap s'.heap:=⟨ub.keep,ub.slot,fun b o e n hx=>by rw [qL (neD b o e)];exact ub.free b o e n hx,ub.there,fun b xs e=>by rw [qL (neH b _ e)];exact ub.tups b xs e,
      fun b o u e=>by rw [qL (neH b _ e)];exact ub.frzs b o u e,fun b ps e=>by rw [qL (neH b _ e)];exact ub.tbls b ps e⟩
    have IX:Inv X pins σ (upd H' D (.lst ys)) s':=I.qMW (ch:=fp) I'.os un hok I'.bare fun b hb=>by
      obtain⟨f0,f1,f2,f3,f4,f5⟩:=hfp b hb
      exact⟨f3,f1,f4,f5⟩
    refine hRR C D s' m ys H' IX hm ⟨by rw [qL (Ne.symm hDC)];exact hCnone,?_,?_,.inr (Nat.le_trans I.sz hCle),cC,fun p hp=>?_⟩ hDnone hF
    · exact Ne.symm (qBL I.lt hCle)
    · exact I.qPq hCle
    · exact qBL (Heap.lt_size (I.pin p hp).1) hCle
  have loop:∀ s₃:Shared,s₃={ s₂ with heap:=h₁,toks:=s₂.toks+([]:List (Str×Value)).length } →
      codeAny (model X.prog X.w) X.A (.compLoop (.ListComp elt [⟨tg,iter,ifs,0⟩] sc pos) 0 (.ref it) (.ref D) (compEnvC sc (qCy X.env.cells sc.names []) C X.env)) (RR (.ref D) C) s₃:=by
    rintro s₃ rfl
    refine qFI (fun k s'=>∃ i σ' H' ys its n,Inv (ql X L caps sc C s₂ H fp) [(D,{ cls:=.type "list",data:=.seq its.toArray n })] σ' H' s'∧tn i s'.heap∧(∀ b∈fp,H' b=none)∧Vals ys its∧ys.length≤sizeLine∧W i k σ' ys H') ?_ m0
      ⟨0,_,H,[],[],0,start _,T.keep 0 _ _ st (fun b hb o e=>old b o e),fun b hb=>(hfp b hb).1,.nil,Nat.zero_le _,w0⟩
    rintro k s' ⟨i,σ',H',ys,its,n,I',st',fr',rv,hz,w'⟩
    have hpl:∀ p∈[(D,({ cls:=.type "list",data:=.seq its.toArray n }:Obj))],p.1=D:=fun p hp=>by
      rcases List.mem_cons.mp hp with e | e
      · rw [e]
      · cases e
    rcases turn i k σ' ys H' w' with ⟨stop,hF⟩ | ⟨go,hlen,step⟩
    · refine thn (T.done (ql X L caps sc C s₂ H fp) rfl rfl rfl hc i _ s' σ' H' _ I' (stat fr' hpl) st' stop) fun r s4 hqz=>?_
      obtain⟨hr,I4⟩:=hqz
      subst hr
      exact fin s4 σ' H' ys its n I4 rv hz hF
    · refine thn (T.item (ql X L caps sc C s₂ H fp) rfl rfl rfl hc i _ s' σ' H' _ I' (stat fr' hpl) st' go) fun r s4 hqz=>?_
      obtain⟨u,hr,h4⟩:=hqz
      subst hr
      refine thn h4 fun _ s5 hqz=>?_
      obtain⟨x,H5,I5,r5,y5,st5,fr5⟩:=hqz
      have I5':=I5.pinned (stat fr5 hpl) (T.obj _ _ st5)
      refine thn (hg C _ s5 σ' H5 x u _ I5' r5 (step x H5 y5)) fun _ s6 hqz=>?_
      obtain⟨σ6,H6,I6,q6⟩:=hqz
      refine thn (hif C _ s6 σ6 H6 _ I6 q6) fun ok s7 hqz=>?_
      obtain⟨H7,I7,q7⟩:=hqz
      have back:∀ {σ8:St} {H8:Hp} {s8:Shared},Inv (ql X L caps sc C s₂ H fp) ([(D,{ cls:=.type "list",data:=.seq its.toArray n })]++qD6 fp s5.heap) σ8 H8 s8 →
          tn (i+1) s8.heap∧∀ b∈fp,H8 b=none:=fun {σ8 H8 s8} I8=>by
        refine⟨T.keep _ _ _ st5 fun b hb o e=>(I8.pin (b,o) (List.mem_append_right _ (List.mem_append_right _ (qBY hb e)))).1,fun b hb=>?_⟩
        obtain⟨o,e,d⟩:=T.obj _ _ st5 b hb
        exact (I8.pin (b,o) (List.mem_append_right _ (List.mem_append_right _ (qBY hb e)))).2.1
      cases ok with
      | false =>
        rw [if_neg Bool.false_ne_true] at q7
        rw [if_neg Bool.false_ne_true]
        obtain⟨m',hm',w7⟩:=q7
        obtain⟨b1,b2⟩:=back I7
        exact⟨m',hm',i+1,σ6,H7,ys,its,n,I7.qCR,b1,b2,rv,hz,w7⟩
      | true =>
        rw [if_pos rfl] at q7
        rw [if_pos rfl]
        refine thn (he C _ s7 σ6 H7 _ I7 q7) fun yv s8 hqz=>?_
        obtain⟨y,H8,I8,r8,m',hm',w8⟩:=hqz
        obtain⟨b1,b2⟩:=back I8
        obtain⟨eD,hDn8,neL8,nf8,_⟩:=I8.pin (D,{ cls:=.type "list",data:=.seq its.toArray n }) (by simp)
        have hl:=rv.length
        refine append_at (s:=s8) eD (fun h9 sb e9=>?_) (by simp only [List.size_toArray];lia)
        have I8':Inv (ql X L caps sc C s₂ H fp) [] σ6 H8 s8:=I8.qDK fun p hp=>nomatch hp
        have I9:Inv (ql X L caps sc C s₂ H fp) [] σ6 H8 { s8 with heap:=h9 }:=I8'.turned (t':=s8.toks) (it:=D) (fun b o hb e=>(sb.2 b hb).trans e) hDn8 neL8 (.inr hDle) (fun x c e=>cD x c (I.qDC S e)) fun p hp=>nomatch (show p∈([]:List (Addr×Obj)) from hp)
        have ep:its.toArray.push yv=(its++[yv]).toArray:=by simp
        rw [ep] at e9
        refine⟨m',hm',i+1,σ6,H8,ys++[y],its++[yv],n+1,I9.qDK fun p hp=>?_,T.keep _ _ _ b1 fun b hb o e=>(sb.2 b (Ne.symm (bD b hb))).trans e,b2,Vals.append rv (.cons r8 .nil),by rw [List.length_append];exact hlen,w8⟩
        obtain rfl:p=(D,({ cls:=.type "list",data:=.seq (its++[yv]).toArray (n+1) }:Obj)):=by
          rcases List.mem_cons.mp hp with e | e
          · exact e
          · cases e
        exact⟨e9,hDn8,neL8,nf8,fun v z=>by
          have z':Data.seq _ _=Data.cell v:=z
          cases z'⟩
  exact codeAny_compStart_list (loop _ rfl) (T.self X.A 0 _ _ _ (T.keep 0 _ _ st fun b hb o e=>old b o e) (loop _ rfl))
noncomputable def qJ2 (wi:TI) (g:TG) (tc:TT) (te:TE) (nL:Nat) (caps:List (Nat×Str)):TE:=fun σ H Q=>wi σ H fun J H1 =>
  qKH J g tc te (List.replicate nL none++qFf caps σ) H1 fun ys H2=>∀ p,H2 p=none→Q (.ref p) (upd H2 p (.lst ys))
theorem qKx {elt iter tg:Expr} {ifs:List Expr} {pos:Pos} {wi:TI} {g:TG} {tc:TT} {te:TE} (L:List Str) (caps:List (Nat×Str)) (hc:X.calm=true) (S:q9 X.env.scope X.N caps sc) (hi:PI X tg iter wi)
    (hg:∀ C s H fp,PG (ql X L caps sc C s H fp) tg g) (hif:∀ C s H fp,PIf (ql X L caps sc C s H fp) ifs tc) (he:∀ C s H fp,PE (ql X L caps sc C s H fp) elt te)
    (hs:∀ x,foldedSetIterable iter X.env x=pure x:=by intro _;rfl):PE X (.ListComp elt [⟨tg,iter,ifs,0⟩] sc pos) (qJ2 wi g tc te L.length caps):=by
  k_dat 0"r1"
  rw [eval_ListComp]
  refine wpAny_comprehension_free (use:=none) rfl hs (qH9 (I.qGw S)) S.kind S.names (thn (hi pins s σ H _ I h) fun v s1 h1=>thn h1 fun itv s2 h2=>?_)
  obtain⟨it,fp,tn,J,H2,e,I2,T,st2,f2,hW⟩:=h2
  subst e
  refine qD7 (L:=L) (RR:=fun acc C=>compPost (model X.prog X.w) X.A X.xe none (EP X pins σ Q) acc C) hc S I2 T st2 f2 (fun C=>hg C _ _ _) (fun C=>hif C _ _ _) (fun C=>he C _ _ _) hW ?_
  intro C D s' m ys H' I' hn hC hDn hF
  refine⟨m,hn,fun h' sb=>?_⟩
  obtain⟨f0,f1,f2,f3,f4,f5⟩:=hC
  exact⟨.ref D,_,I'.turned (t':=s'.toks) (it:=C) (fun b o hb e=>(sb.2 b hb).trans e) f0 f1 f3 f4 f5,rfl,hF D hDn⟩
theorem qKm {elt iter tg:Expr} {ifs:List Expr} {pos py spos:Pos} {wi:TI} {g:TG} {tc:TT} {te:TE} {i:Nat} {y:Str} (L:List Str) (caps:List (Nat×Str)) (hc:X.calm=true) (hN:X.N.Nodup) (hy:X.N[i]? = some y) (hyl:X.env.scope.names.lookup y=some .local)
    (S:q9 X.env.scope X.N caps sc) (hi:PI X tg iter wi)
    (hg:∀ C s H fp,PG (ql X L caps sc C s H fp) tg g) (hif:∀ C s H fp,PIf (ql X L caps sc C s H fp) ifs tc) (he:∀ C s H fp,PE (ql X L caps sc C s H fp) elt te)
    (hsw:swapsWith (.ListComp elt [⟨tg,iter,ifs,0⟩] sc pos) (some (.Name y py)) spos.line X.env=pure true:=by rfl)
    (hs:∀ x,foldedSetIterable iter X.env x=pure x:=by intro _;rfl):PS X (.Assign [.Name y py] (.ListComp elt [⟨tg,iter,ifs,0⟩] sc pos) spos) (qLi (qJ2 wi g tc te L.length caps) (qDc i)):=by
  k_dat 0"r9"
  rw [exec_Assign_Name_used _ _ _ _ hsw]
  refine wpAny_bind (wpAny_standAt (wpAny_bind ?_))
  show wpAny _ X.A (do let _ ← comprehension (.ListComp elt [⟨tg,iter,ifs,0⟩] sc pos) sc X.env _ (newList []) false (eval iter X.env) (some (assign (.Name y py) X.env))) _ _ s
  refine wpAny_bind (wpAny_mono (wpAny_comprehension_free (use:=some (assign (.Name y py) X.env)) (Q:=fun _ s'=>SP X pins D .next s') rfl hs (qH9 (I.qGw S)) S.kind S.names
    (thn (hi pins s σ H _ I h) fun v s1 h1=>thn h1 fun itv s2 h2=>?_)) (fun _ s' hq=>wpAny_pure (wpAny_pure hq)) fun _ _ e=>e)
  obtain⟨it,fp,tn,J,H2,e,I2,T,st2,f2,hW⟩:=h2
  subst e
  refine qD7 (L:=L) (RR:=fun acc C=>compPost (model X.prog X.w) X.A X.xe (some (assign (.Name y py) X.env)) (fun _ s'=>SP X pins D .next s') acc C) hc S I2 T st2 f2 (fun C=>hg C _ _ _) (fun C=>hif C _ _ _) (fun C=>he C _ _ _) hW ?_
  intro C Dd s' m ys H' I' hn hC hDn hF
  obtain⟨f0,f1,f2,f3,f4,f5⟩:=hC
  show wpAny _ X.A (assign (.Name y py) X.env (.ref Dd)) _ _ _
  refine wpAny_assign_Name (qCs (v:=.ref Dd) I' hN hy (.inl hyl) rfl (fun s'' I'' hsb=>?_) (.inr hyl))
  obtain⟨a,hsb,ha⟩:=hsb
  have hL:a≠C:=by
    rcases ha with z | z
    · rw [z];exact Ne.symm f1
    · exact f4 y a z
  refine⟨m,hn.sameBut hsb (Ne.symm hL),fun h' sb=>?_⟩
  exact⟨_,_,I''.turned (t':=s''.toks) (it:=C) (fun b o hb e=>(sb.2 b hb).trans e) f0 f1 f3 f4 f5,hF Dd hDn⟩
end
end L2
namespace L3
open PySem PySem.Spec PyProof.Rows L2
inductive Dt where
  | non | bl (b:Bool) | int (i:Int) | str (x:Str) | tup (xs:List Dt) | lst (n:Nat) | ty (n:String) | dic (n:Nat) | ins (n:Nat) | exc (n:String) (r:Option Int)
inductive SO where
  | ro (xs:List Dt) | rw (xs:List Dt) | dc (kvs:List (Key×Dt)) | dt (kvs:List (List Key×Dt)) | ob (C:Str) (fs:List (Str×Dt))
noncomputable def SO.items:SO→List Dt
  | .ro xs=>xs
  | .rw xs=>xs
  | .dc _=>[]
  | .dt _=>[]
  | .ob _ _=>[]
def IsL (K:W.Frag) (H:Hp) (a:Addr):Prop:=∃ vs,SqL K H a vs
noncomputable def qQS:HO→Bool
  | .dK _=>true
  | .dT _=>true
  | _=>false
def IsD (H:Hp) (a:Addr):Prop:=∃ u,H a=some u∧qQS u=true
def IsO (H:Hp) (a:Addr):Prop:=∃ C dx fs,H a=some (.ins C dx fs)
noncomputable abbrev Sto:=List SO
noncomputable abbrev Rho:=List (Option Dt)
def qCA (od:Obj) (i:Int):Prop:=∀ (h:Heap) (dx:Addr),h.get? dx=some od→∃ mA t,h.Ns1 dx mA∧mA "row" = some (.int i t)
mutual
noncomputable def D (K:W.Frag) (φ:Nat→Addr) (N:Nat) (H:Hp):Dt→V→Prop
  | .non,v=>v = .non
  | .bl b,v=>v = .bl b
  | .int i,v=>v = .int i
  | .str x,v=>v = .str x
  | .ty n,v=>v = .ty n
  | .tup ds,v=>∃ a vs,v = .ref a∧SqT K H a vs∧DL K φ N H ds vs
  | .lst n,v=>n<N∧v = .ref (φ n)∧IsL K H (φ n)
  | .dic n,v=>n<N∧v = .ref (φ n)∧IsD H (φ n)
  | .ins n,v=>n<N∧v = .ref (φ n)∧IsO H (φ n)
  | .exc n r,v=>∃ a o C,v = .ref a∧H a=some (.frz o (.own 0))∧W.nsIn K mainGlobals (Str.ofString n)=some (some (.ref C))∧o.cls = .ref C∧∀ i,r=some i→∃ dx od,(o.dict=some dx∧∃ vs,o.data = .fields vs)∧H dx=some (.frz od (.own 0))∧qCA od i
noncomputable def DL (K:W.Frag) (φ:Nat→Addr) (N:Nat) (H:Hp):List Dt→List V→Prop
  | [],vs=>vs=[]
  | d::ds,vs=>∃ v r,vs=v::r∧D K φ N H d v∧DL K φ N H ds r
end
structure Evo (K:W.Frag) (φ:Nat→Addr) (N:Nat) (H:Hp) (φ':Nat→Addr) (N':Nat) (H':Hp):Prop where
  le:N≤N'
  ext:∀ i,i<N→φ' i=φ i
  tup:∀ a vs,SqT K H a vs→SqT K H' a vs
  lst:∀ i,i<N→IsL K H (φ i)→IsL K H' (φ i)
  dic:∀ i,i<N→IsD H (φ i)→IsD H' (φ i)
  ins:∀ i,i<N→IsO H (φ i)→IsO H' (φ i)
  frz:∀ a o u,H a=some (.frz o u)→H' a=some (.frz o u)
section
variable {K:W.Frag} {φ φ' φ1 φ2:Nat→Addr} {N N' N1 N2:Nat} {H H' H1 H2:Hp}
theorem Evo.refl:Evo K φ N H φ N H:=⟨Nat.le_refl _,fun _ _=>rfl,fun _ _ h=>h,fun _ _ h=>h,fun _ _ h=>h,fun _ _ h=>h,fun _ _ _ h=>h⟩
theorem Evo.trans (a:Evo K φ N H φ1 N1 H1) (b:Evo K φ1 N1 H1 φ2 N2 H2):Evo K φ N H φ2 N2 H2 :=
  ⟨Nat.le_trans a.le b.le,fun i hi=>(b.ext i (Nat.lt_of_lt_of_le hi a.le)).trans (a.ext i hi),fun x vs h=>b.tup x vs (a.tup x vs h), 
    fun i hi h=>(fun q:IsL K H1 (φ1 i)→IsL K H2 (φ1 i)=>a.ext i hi ▸ q (a.ext i hi ▸ a.lst i hi h)) (b.lst i (Nat.lt_of_lt_of_le hi a.le)),
    fun i hi h=>(fun q:IsD H1 (φ1 i)→IsD H2 (φ1 i)=>a.ext i hi ▸ q (a.ext i hi ▸ a.dic i hi h)) (b.dic i (Nat.lt_of_lt_of_le hi a.le)),
    fun i hi h=>(fun q:IsO H1 (φ1 i)→IsO H2 (φ1 i)=>a.ext i hi ▸ q (a.ext i hi ▸ a.ins i hi h)) (b.ins i (Nat.lt_of_lt_of_le hi a.le)),
    fun x o u h=>b.frz x o u (a.frz x o u h)⟩
mutual
theorem D.evo (e:Evo K φ N H φ' N' H'):∀ {d:Dt} {v:V},D K φ N H d v→D K φ' N' H' d v
  | .non,_,h=>by simpa [D] using h
  | .bl _,_,h=>by simpa [D] using h
  | .int _,_,h=>by simpa [D] using h
  | .str _,_,h=>by simpa [D] using h
  | .ty _,_,h=>by simpa [D] using h
  | .tup ds,v,h=>by
    simp only [D] at h ⊢
    obtain⟨a,vs,h1,h2,h3⟩:=h
    exact⟨a,vs,h1,e.tup a vs h2,DL.evo e h3⟩
  | .lst n,v,h=>by
    simp only [D] at h ⊢
    obtain⟨h1,h2,h3⟩:=h
    exact⟨Nat.lt_of_lt_of_le h1 e.le,by rw [e.ext n h1];exact h2,by rw [e.ext n h1];exact e.lst n h1 h3⟩
  | .dic n,v,h=>by
    simp only [D] at h ⊢
    obtain⟨h1,h2,h3⟩:=h
    exact⟨Nat.lt_of_lt_of_le h1 e.le,by rw [e.ext n h1];exact h2,by rw [e.ext n h1];exact e.dic n h1 h3⟩
  | .ins n,v,h=>by
    simp only [D] at h ⊢
    obtain⟨h1,h2,h3⟩:=h
    exact⟨Nat.lt_of_lt_of_le h1 e.le,by rw [e.ext n h1];exact h2,by rw [e.ext n h1];exact e.ins n h1 h3⟩
  | .exc n r,v,h=>by
    simp only [D] at h ⊢
    obtain⟨a,o,C,h1,h2,h3,h4,h5⟩:=h
    exact⟨a,o,C,h1,e.frz _ _ _ h2,h3,h4,fun i q=>by obtain⟨dx,od,q1,q2,q3⟩:=h5 i q;exact⟨dx,od,q1,e.frz _ _ _ q2,q3⟩⟩
theorem DL.evo (e:Evo K φ N H φ' N' H'):∀ {ds:List Dt} {vs:List V},DL K φ N H ds vs→DL K φ' N' H' ds vs
  | [],vs,h=>by simpa [DL] using h
  | d::ds,vs,h=>by
    simp only [DL] at h ⊢
    obtain⟨v,r,h1,h2,h3⟩:=h
    exact⟨v,r,h1,D.evo e h2,DL.evo e h3⟩
end
theorem DL.length:∀ {ds:List Dt} {vs:List V},DL K φ N H ds vs→ds.length=vs.length
  | [],vs,h=>by simp only [DL] at h;rw [h];rfl
  | d::ds,vs,h=>by
    k_dat 0"r4"
    obtain⟨v,r,h1,_,h3⟩:=h
    rw [h1,List.length_cons,List.length_cons,DL.length h3]
theorem DL.get:∀ {ds:List Dt} {vs:List V} {i:Nat} {d:Dt},DL K φ N H ds vs→ds[i]? = some d→∃ v,vs[i]? = some v∧D K φ N H d v
  | [],_,_,_,_,e=>by simp at e
  | d::ds,vs,0,d',h,e=>by
    k_dat 0"r4"
    obtain⟨v,r,h1,h2,_⟩:=h
    simp at e
    subst e;subst h1
    exact⟨v,rfl,h2⟩
  | d::ds,vs,i+1,d',h,e=>by
    k_dat 0"r4"
    obtain⟨v,r,h1,_,h3⟩:=h
    subst h1
    obtain⟨w,e1,e2⟩:=DL.get (i:=i) h3 (by simpa using e)
    exact⟨w,by simpa using e1,e2⟩
theorem DL.nil:DL K φ N H [] []:=by simp [DL]
theorem DL.cons {d:Dt} {v:V} {ds:List Dt} {vs:List V} (h:D K φ N H d v) (t:DL K φ N H ds vs):DL K φ N H (d::ds) (v::vs):=by
  simp only [DL];exact⟨v,vs,rfl,h,t⟩
theorem DL.qHM {d:Dt} {v:V} {ds:List Dt} {vs:List V} (h:DL K φ N H (d::ds) (v::vs)):D K φ N H d v∧DL K φ N H ds vs:=by
  k_dat 0"r4"
  obtain⟨v',r,h1,h2,h3⟩:=h
  cases h1
  exact⟨h2,h3⟩
theorem DL.append:∀ {ds es:List Dt} {vs ws:List V},DL K φ N H ds vs→DL K φ N H es ws→DL K φ N H (ds++es) (vs++ws)
  | [],_,vs,_,h,h'=>by simp only [DL] at h;rw [h];exact h'
  | d::ds,es,vs,ws,h,h'=>by
    k_dat 0"r4"
    obtain⟨v,r,h1,h2,h3⟩:=h
    subst h1
    exact DL.cons h2 (DL.append h3 h')
theorem DL.drop:∀ {ds:List Dt} {vs:List V} (n:Nat),DL K φ N H ds vs→DL K φ N H (ds.drop n) (vs.drop n)
  | ds,vs,0,h=>h
  | [],vs,n+1,h=>by simp only [DL] at h;rw [h];simpa using DL.nil
  | d::ds,vs,n+1,h=>by
    k_dat 0"r4"
    obtain⟨v,r,h1,h2,h3⟩:=h
    subst h1
    exact DL.drop n h3
theorem DL.take:∀ {ds:List Dt} {vs:List V} (n:Nat),DL K φ N H ds vs→DL K φ N H (ds.take n) (vs.take n)
  | ds,vs,0,h=>by simpa using DL.nil
  | [],vs,n+1,h=>by simp only [DL] at h;rw [h];simpa using DL.nil
  | d::ds,vs,n+1,h=>by
    k_dat 0"r4"
    obtain⟨v,r,h1,h2,h3⟩:=h
    subst h1
    exact DL.cons h2 (DL.take n h3)
theorem DL.set {d:Dt} {v:V} (hd:D K φ N H d v):∀ {ds:List Dt} {vs:List V} (n:Nat),DL K φ N H ds vs→DL K φ N H (ds.set n d) (vs.set n v)
  | [],vs,n,h=>by simp only [DL] at h;rw [h];simpa using DL.nil
  | e::ds,vs,0,h=>by
    k_dat 0"r4"
    obtain⟨w,r,h1,h2,h3⟩:=h
    subst h1
    exact DL.cons hd h3
  | e::ds,vs,n+1,h=>by
    k_dat 0"r4"
    obtain⟨w,r,h1,h2,h3⟩:=h
    subst h1
    exact DL.cons h2 (DL.set hd n h3)
theorem DL.one {d:Dt} {vs:List V} (h:DL K φ N H [d] vs):∃ v,vs=[v]∧D K φ N H d v:=by
  k_dat 0"r4"
  obtain⟨v,r,h1,h2,h3⟩:=h
  subst h3
  exact⟨v,h1,h2⟩
theorem DL.two {d e:Dt} {vs:List V} (h:DL K φ N H [d,e] vs):∃ v w,vs=[v,w]∧D K φ N H d v∧D K φ N H e w:=by
  k_dat 0"r4"
  obtain⟨v,r,h1,h2,w,r',h3,h4,h5⟩:=h
  subst h5;subst h3
  exact⟨v,w,h1,h2,h4⟩
theorem D.int {i:Int} {v:V} (h:D K φ N H (.int i) v):v = .int i:=by simpa [D] using h
theorem D.bl {i:Bool} {v:V} (h:D K φ N H (.bl i) v):v = .bl i:=by simpa [D] using h
theorem D.str {i:Str} {v:V} (h:D K φ N H (.str i) v):v = .str i:=by simpa [D] using h
theorem D.non {v:V} (h:D K φ N H .non v):v = .non:=by simpa [D] using h
theorem D.ty {n:String} {v:V} (h:D K φ N H (.ty n) v):v = .ty n:=by simpa [D] using h
theorem D.tup {ds:List Dt} {v:V} (h:D K φ N H (.tup ds) v):∃ a vs,v = .ref a∧SqT K H a vs∧DL K φ N H ds vs:=by simpa [D] using h
theorem D.lst {n:Nat} {v:V} (h:D K φ N H (.lst n) v):n<N∧v = .ref (φ n):=by simp only [D] at h;exact⟨h.1,h.2.1⟩
theorem D.isL {n:Nat} {v:V} (h:D K φ N H (.lst n) v):IsL K H (φ n):=by simp only [D] at h;exact h.2.2
theorem D.dic {n:Nat} {v:V} (h:D K φ N H (.dic n) v):n<N∧v = .ref (φ n):=by simp only [D] at h;exact⟨h.1,h.2.1⟩
theorem D.ins {n:Nat} {v:V} (h:D K φ N H (.ins n) v):n<N∧v = .ref (φ n):=by simp only [D] at h;exact⟨h.1,h.2.1⟩
theorem D.exc {n:String} {r:Option Int} {v:V} (h:D K φ N H (.exc n r) v):∃ a o C,v = .ref a∧H a=some (.frz o (.own 0))∧W.nsIn K mainGlobals (Str.ofString n)=some (some (.ref C))∧o.cls = .ref C:=by
  simp only [D] at h
  obtain⟨a,o,C,h1,h2,h3,h4,_⟩:=h
  exact⟨a,o,C,h1,h2,h3,h4⟩
theorem D.qNu {n:String} {i:Int} {v:V} (h:D K φ N H (.exc n (some i)) v):∃ a o C dx od,v = .ref a∧H a=some (.frz o (.own 0))∧W.nsIn K mainGlobals (Str.ofString n)=some (some (.ref C))∧o.cls = .ref C∧(o.dict=some dx∧∃ vs,o.data = .fields vs)∧H dx=some (.frz od (.own 0))∧qCA od i:=by
  simp only [D] at h
  obtain⟨a,o,C,h1,h2,h3,h4,h5⟩:=h
  obtain⟨dx,od,q1,q2,q3⟩:=h5 i rfl
  exact⟨a,o,C,dx,od,h1,h2,h3,h4,q1,q2,q3⟩
theorem D.qPh {n:String} {a:Addr} {o:Obj} {C:Addr} (h1:H a=some (.frz o (.own 0))) (h2:W.nsIn K mainGlobals (Str.ofString n)=some (some (.ref C))) (h3:o.cls = .ref C):D K φ N H (.exc n none) (.ref a):=by simp only [D];exact⟨a,o,C,rfl,h1,h2,h3,fun i e=>nomatch e⟩
theorem D.qKA {n:String} {a dx:Addr} {o od:Obj} {C:Addr} {i:Int} (h1:H a=some (.frz o (.own 0))) (h2:W.nsIn K mainGlobals (Str.ofString n)=some (some (.ref C))) (h3:o.cls = .ref C) (h4:o.dict=some dx∧∃ vs,o.data = .fields vs) (h5:H dx=some (.frz od (.own 0))) (h6:qCA od i):D K φ N H (.exc n (some i)) (.ref a):=by
  simp only [D]
  exact⟨a,o,C,rfl,h1,h2,h3,fun j e=>by cases e;exact⟨dx,od,h4,h5,h6⟩⟩
theorem D.mkInt {i:Int}:D K φ N H (.int i) (.int i):=by simp [D]
theorem D.qBl {i:Bool}:D K φ N H (.bl i) (.bl i):=by simp [D]
theorem D.mkStr {i:Str}:D K φ N H (.str i) (.str i):=by simp [D]
theorem D.qHa:D K φ N H .non .non:=by simp [D]
theorem D.qQA {n:String}:D K φ N H (.ty n) (.ty n):=by simp [D]
theorem D.qBk {ds:List Dt} {a:Addr} {vs:List V} (h:SqT K H a vs) (t:DL K φ N H ds vs):D K φ N H (.tup ds) (.ref a):=by simp only [D];exact⟨a,vs,rfl,h,t⟩
theorem D.qMK {n:Nat} (h:n<N) (hl:IsL K H (φ n)):D K φ N H (.lst n) (.ref (φ n)):=by simp only [D];exact⟨h,trivial,hl⟩
end
def SqR (K:W.Frag) (H:Hp) (a:Addr) (xs:List V):Prop :=
  (∃ o,H a=some (.frz o (.lst xs))) ∨
    ∃ (o:Obj) (its:Array Value) (n:Nat),K.lookup a=some o∧o.cls = .type "list" ∧ o.dict=none∧o.data = .seq its n∧its.size≤sizeLine∧Vals xs its.toList
theorem SqR.sq {K:W.Frag} {H:Hp} {a:Addr} {xs:List V} (h:SqR K H a xs):SqL K H a xs:=by
  rcases h with h | h
  · exact .inl (.inr h)
  · exact .inr h
noncomputable def Holds (K:W.Frag) (φ:Nat→Addr) (N:Nat) (H:Hp):SO→Addr→Prop
  | .ro xs,a=>∃ vs,SqR K H a vs∧DL K φ N H xs vs
  | .rw xs,a=>∃ vs,H a=some (.lst vs)∧DL K φ N H xs vs
  | .dc kvs,a=>∃ vs:List (Key×V),H a=some (.dK vs)∧K.lookup a=none∧kvs.map (·.1)=vs.map (·.1)∧DL K φ N H (kvs.map (·.2)) (vs.map (·.2))
  | .dt kvs,a=>∃ vs:List (List Key×V),H a=some (.dT vs)∧K.lookup a=none∧kvs.map (·.1)=vs.map (·.1)∧DL K φ N H (kvs.map (·.2)) (vs.map (·.2))
  | .ob C fs,a=>∃ (c dx:Addr) (vs:List (Str×V)),H a=some (.ins c dx vs)∧K.lookup a=none∧W.nsIn K mainGlobals C=some (some (.ref c))∧fs.map (·.1)=vs.map (·.1)∧DL K φ N H (fs.map (·.2)) (vs.map (·.2))
noncomputable def SO.wr:SO→Bool
  | .ro _=>false
  | _=>true
structure Rep (K:W.Frag) (φ:Nat→Addr) (st:Sto) (H:Hp):Prop where
  injA:∀ (i j:Nat) a b,st[i]? = some a→st[j]? = some b→a.wr=true→b.wr=true→φ i=φ j→i=j
  all:∀ (i:Nat) o,st[i]? = some o→Holds K φ st.length H o (φ i)
section
variable {K:W.Frag} {φ φ':Nat→Addr} {N N':Nat} {st:Sto} {H H':Hp} {p:Addr}
theorem Rep.ro (R:Rep K φ st H):∀ (i:Nat) xs,st[i]? = some (.ro xs)→∃ vs,SqR K H (φ i) vs∧DL K φ st.length H xs vs:=fun i _ e=>R.all i _ e
theorem Rep.rw (R:Rep K φ st H):∀ (i:Nat) xs,st[i]? = some (.rw xs)→∃ vs,H (φ i)=some (.lst vs)∧DL K φ st.length H xs vs:=fun i _ e=>R.all i _ e
theorem Rep.seq (R:Rep K φ st H) {i:Nat} {o:SO} (e:st[i]? = some o) (hl:IsL K H (φ i)):∃ vs,SqL K H (φ i) vs∧DL K φ st.length H o.items vs:=by
  have no:∀ {u:HO},H (φ i)=some u→K.lookup (φ i)=none→(∀ vs,u≠.lst vs)→(∀ ob vs,u≠.frz ob vs)→False:=by
    intro u h hk h1 h2
    obtain⟨vs,(h3 | ⟨ob,h3⟩) | ⟨ob,_,_,h3,_⟩⟩:=hl
    · rw [h] at h3;exact h1 _ (Option.some.inj h3)
    · rw [h] at h3;exact h2 _ _ (Option.some.inj h3)
    · rw [hk] at h3;cases h3
  cases o with
  | ro xs =>
    obtain⟨vs,h1,h2⟩:=R.ro i xs e
    exact⟨vs,h1.sq,h2⟩
  | rw xs =>
    obtain⟨vs,h1,h2⟩:=R.rw i xs e
    exact⟨vs,SqL.of h1,h2⟩
  | dc kvs =>
    obtain⟨vs,h1,h2,_⟩:=R.all i _ e
    k_dat 0"r40"
  | dt kvs =>
    obtain⟨vs,h1,h2,_⟩:=R.all i _ e
    k_dat 0"r40"
  | ob C fs =>
    obtain⟨c,dx,vs,h1,h2,_⟩:=R.all i _ e
    k_dat 0"r40"
theorem qHV {a:Addr} {vs:List V} {o:HO} (h:SqT K H a vs) (hp:H p=none):SqT K (upd H p o) a vs:=by
  rcases h with h | h
  · exact .inl (by rw [qL (qS h hp)];exact h)
  · exact .inr h
theorem qHx {a:Addr} {vs:List V} {o:HO} (h:SqR K H a vs) (hp:H p=none):SqR K (upd H p o) a vs:=by
  rcases h with ⟨ob,h⟩ | h
  · exact .inl ⟨ob,by rw [qL (qS h hp)];exact h⟩
  · exact .inr h
theorem qJU {a:Addr} {vs ws:List V} {o:HO} (h:SqT K H a vs) (hp:H p=some (.lst ws)):SqT K (upd H p o) a vs:=by
  rcases h with h | h
  · exact .inl (by rw [qL (qFs h hp (by intro z;cases z))];exact h)
  · exact .inr h
theorem qLe {a:Addr} {vs:List V} {o:HO} (h:SqL K H a vs) (hp:H p=none):SqL K (upd H p o) a vs:=by
  rcases h with (h | ⟨ob,h⟩) | h
  · exact .inl (.inl (by rw [qL (qS h hp)];exact h))
  · exact .inl (.inr ⟨ob,by rw [qL (qS h hp)];exact h⟩)
  · exact .inr h
theorem qHu {a:Addr} {o:HO} (h:IsL K H a) (hp:H p=none):IsL K (upd H p o) a:=let ⟨vs,h⟩:=h;⟨vs,qLe h hp⟩
theorem qHW {a:Addr} {o:HO} (h:IsD H a) (hp:H p=none):IsD (upd H p o) a:=let ⟨vs,h,q⟩:=h;⟨vs,by rw [qL (qS h hp)];exact h,q⟩
theorem qHp {a:Addr} {o:HO} (h:IsO H a) (hp:H p=none):IsO (upd H p o) a:=let ⟨c,d,f,h⟩:=h;⟨c,d,f,by rw [qL (qS h hp)];exact h⟩
theorem qAD {o:HO} (hp:H p=none):Evo K φ N H φ N (upd H p o):=⟨Nat.le_refl _,fun _ _=>rfl,fun _ _ h=>qHV h hp,fun _ _ h=>qHu h hp,fun _ _ h=>qHW h hp,fun _ _ h=>qHp h hp,fun _ _ _ h=>by rw [qL (qS h hp)];exact h⟩
theorem Holds.stay {o:SO} {a:Addr} (h:Holds K φ N H o a) (e:Evo K φ N H φ' N' H') (hr:∀ vs,SqR K H a vs→SqR K H' a vs) (hw:o.wr=true→H' a=H a):Holds K φ' N' H' o a:=by
  cases o with
  | ro xs=>obtain⟨vs,h1,h2⟩:=h;exact⟨vs,hr vs h1,h2.evo e⟩
  | rw xs=>obtain⟨vs,h1,h2⟩:=h;exact⟨vs,by rw [hw rfl];exact h1,h2.evo e⟩
  | dc kvs=>obtain⟨vs,h1,h2,h3,h4⟩:=h;exact⟨vs,by rw [hw rfl];exact h1,h2,h3,h4.evo e⟩
  | dt kvs=>obtain⟨vs,h1,h2,h3,h4⟩:=h;exact⟨vs,by rw [hw rfl];exact h1,h2,h3,h4.evo e⟩
  | ob C fs=>obtain⟨c,dx,vs,h1,h2,h3,h4,h5⟩:=h;exact⟨c,dx,vs,by rw [hw rfl];exact h1,h2,h3,h4,h5.evo e⟩
theorem Holds.qMd {o:SO} {a:Addr} (h:Holds K φ N H o a) (hw:o.wr=true):∃ u,H a=some u:=by
  cases o with
  | ro xs=>cases hw
  | rw xs=>obtain⟨vs,h1,_⟩:=h;exact⟨_,h1⟩
  | dc kvs=>obtain⟨vs,h1,_⟩:=h;exact⟨_,h1⟩
  | dt kvs=>obtain⟨vs,h1,_⟩:=h;exact⟨_,h1⟩
  | ob C fs=>obtain⟨c,dx,vs,h1,_⟩:=h;exact⟨_,h1⟩
theorem Rep.laid {o:HO} (R:Rep K φ st H) (hp:H p=none):Rep K φ st (upd H p o) :=
  ⟨R.injA,fun i x e=>(R.all i x e).stay (qAD hp) (fun _ h=>qHx h hp) fun w=>by
    obtain⟨u,h⟩:=(R.all i x e).qMd w
    exact qL (qS h hp)⟩
noncomputable def qAc (φ:Nat→Addr) (n:Nat) (p:Addr):Nat→Addr:=fun i=>if i=n then p else φ i
theorem qDe {n:Nat}:qAc φ n p n=p:=by unfold qAc;rw [if_pos rfl]
theorem qCw {n i:Nat} (h:i<n):qAc φ n p i=φ i:=by unfold qAc;rw [if_neg (Nat.ne_of_lt h)]
theorem qFK {o:SO} {u:HO} (hp:H p=none):Evo K φ st.length H (qAc φ st.length p) (st++[o]).length (upd H p u) :=
  ⟨by rw [List.length_append];exact Nat.le_add_right _ _,fun i hi=>qCw hi,fun _ _ h=>qHV h hp,fun _ _ h=>qHu h hp,fun _ _ h=>qHW h hp,fun _ _ h=>qHp h hp,fun _ _ _ h=>by rw [qL (qS h hp)];exact h⟩
theorem qL9 {vs:List V} {xs:List Dt} (hp:H p=none):Evo K φ st.length H (qAc φ st.length p) (st++[SO.rw xs]).length (upd H p (.lst vs)):=qFK hp
theorem qCP {α:Type} {l:List α} {x y:α} {i:Nat} (e:(l++[x])[i]? = some y):(i<l.length∧l[i]? = some y)∨(i=l.length∧y=x):=by
  by_cases h:i<l.length
  · left
    rw [List.getElem?_append_left h] at e
    exact⟨h,e⟩
  · right
    rw [List.getElem?_append_right (Nat.not_lt.mp h)] at e
    have h0:i - l.length=0:=by
      cases q:i - l.length with
      | zero=>rfl
      | succ n=>rw [q] at e;simp at e
    rw [h0] at e
    have:x=y:=by simpa using e
    exact⟨by lia,this.symm⟩
theorem qBI {α:Type} {l:List α} {y:α} {i:Nat} (e:l[i]? = some y):i<l.length:=(List.getElem?_eq_some_iff.mp e).1
theorem Rep.add {o:SO} {u:HO} (R:Rep K φ st H) (hp:H p=none) (hd:Holds K (qAc φ st.length p) (st++[o]).length (upd H p u) o p):Rep K (qAc φ st.length p) (st++[o]) (upd H p u):=by
  have ev:Evo K φ st.length H (qAc φ st.length p) (st++[o]).length (upd H p u):=qFK hp
  have notp:∀ (i:Nat) x,st[i]? = some x→x.wr=true→φ i≠p:=fun i x e w z=>by
    obtain⟨v,h⟩:=(R.all i x e).qMd w
    rw [z,hp] at h;cases h
  refine⟨fun i j a b e1 e2 w1 w2 h=>?_,fun i x e=>?_⟩
  · rcases qCP e1 with ⟨l1,e1⟩ | ⟨l1,e1⟩
    · rcases qCP e2 with ⟨l2,e2⟩ | ⟨l2,e2⟩
      · rw [qCw l1,qCw l2] at h
        exact R.injA i j _ _ e1 e2 w1 w2 h
      · rw [qCw l1,l2,qDe] at h
        exact absurd h (notp i _ e1 w1)
    · rcases qCP e2 with ⟨l2,e2⟩ | ⟨l2,e2⟩
      · rw [qCw l2,l1,qDe] at h
        exact absurd h.symm (notp j _ e2 w2)
      · rw [l1,l2]
  · rcases qCP e with ⟨l1,e1⟩ | ⟨l1,e1⟩
    · rw [qCw l1]
      exact (R.all i x e1).stay ev (fun _ h=>qHx h hp) fun w=>qL (notp i x e1 w)
    · rw [l1,qDe,e1];exact hd
theorem Rep.newL {vs:List V} {xs:List Dt} (R:Rep K φ st H) (hp:H p=none) (hd:DL K φ st.length H xs vs):Rep K (qAc φ st.length p) (st++[.rw xs]) (upd H p (.lst vs)) :=
  R.add hp ⟨vs,qQ,hd.evo (qFK hp)⟩
theorem qJ8 {a:Addr} {vs:List V} {u w:HO} (h:SqT K H a vs) (hp:H p=some u) (h1:∀ xs,u≠.tup xs) (h2:∀ o x,u≠.frz o x):SqT K (upd H p w) a vs:=by
  rcases h with h | h
  · exact .inl (by rw [qL (qFs h hp (fun z=>h1 _ z.symm))];exact h)
  · exact .inr h
theorem qI8 {a:Addr} {vs:List V} {u w:HO} (h:SqR K H a vs) (hp:H p=some u) (h2:∀ o x,u≠.frz o x):SqR K (upd H p w) a vs:=by
  rcases h with ⟨ob,h⟩ | h
  · exact .inl ⟨ob,by rw [qL (qFs h hp (fun z=>h2 _ _ z.symm))];exact h⟩
  · exact .inr h
noncomputable def qEg:HO→HO→Prop
  | .lst _,.lst _=>True
  | .dK _,.dK _=>True
  | .dT _,.dT _=>True
  | .ins _ _ _,.ins _ _ _=>True
  | _,_=>False
theorem qF6 {a:Addr} {u w:HO} (h:IsL K H a) (hp:H p=some u) (hk:qEg u w):IsL K (upd H p w) a:=by
  by_cases e:a=p
  · subst e
    cases u<;>cases w<;>first | exact hk.elim | skip
    · exact⟨_,SqL.of qQ⟩
    · k_dat 0"r33"
      · rw [hp] at h;cases h
      · rw [hp] at h;cases h
      · exact⟨vs,.inr h⟩
    · k_dat 0"r33"
      · rw [hp] at h;cases h
      · rw [hp] at h;cases h
      · exact⟨vs,.inr h⟩
    · k_dat 0"r33"
      · rw [hp] at h;cases h
      · rw [hp] at h;cases h
      · exact⟨vs,.inr h⟩
  · k_dat 0"r33"
    · exact⟨vs,.inl (.inl (by rw [qL e];exact h))⟩
    · exact⟨vs,.inl (.inr ⟨ob,by rw [qL e];exact h⟩)⟩
    · exact⟨vs,.inr h⟩
theorem qGQ {a:Addr} {u w:HO} (h:IsD H a) (hp:H p=some u) (hk:qEg u w):IsD (upd H p w) a:=by
  by_cases e:a=p
  · subst e
    obtain⟨vs,h,q⟩:=h
    rw [hp] at h
    cases h
    cases u<;>cases w<;>first | exact hk.elim | exact⟨_,qQ,rfl⟩ | cases q
  · obtain⟨vs,h,q⟩:=h
    exact⟨vs,by rw [qL e];exact h,q⟩
theorem qFw {a:Addr} {u w:HO} (h:IsO H a) (hp:H p=some u) (hk:qEg u w):IsO (upd H p w) a:=by
  by_cases e:a=p
  · subst e
    obtain⟨c,d,f,h⟩:=h
    rw [hp] at h
    cases h
    cases w<;>first | exact hk.elim | exact⟨_,_,_,qQ⟩
  · obtain⟨c,d,f,h⟩:=h
    exact⟨c,d,f,by rw [qL e];exact h⟩
theorem qCW {u w:HO} (hk:qEg u w):(∀ xs,u≠.tup xs)∧∀ o x,u≠.frz o x:=by
  cases u<;>first | exact hk.elim | exact⟨(fun _ z=>nomatch z),(fun _ _ z=>nomatch z)⟩
theorem qKE {n:Nat} {u w:HO} {o:SO} (hn:n<st.length) (h:H (φ n)=some u) (hk:qEg u w):Evo K φ st.length H φ (st.set n o).length (upd H (φ n) w) :=
  ⟨by rw [List.length_set];exact Nat.le_refl _,fun _ _=>rfl,fun _ _ hh=>qJ8 hh h (qCW hk).1 (qCW hk).2,fun _ _ hh=>qF6 hh h hk,fun _ _ hh=>qGQ hh h hk,fun _ _ hh=>qFw hh h hk,fun _ o x hh=>by rw [qL (qFs hh h fun z=>(qCW hk).2 o x z.symm)];exact hh⟩
theorem qFD {n:Nat} {vs ws:List V} {o:SO} (h:H (φ n)=some (.lst ws)):Evo K φ st.length H φ (st.set n o).length (upd H (φ n) (.lst vs)) :=
  ⟨by rw [List.length_set];exact Nat.le_refl _,fun _ _=>rfl,fun _ _ hh=>qJU hh h,fun _ _ hh=>qF6 hh h trivial,fun _ _ hh=>qGQ hh h trivial,fun _ _ hh=>qFw hh h trivial,fun _ o x hh=>by rw [qL (qFs hh h (by intro z;cases z))];exact hh⟩
theorem Rep.put {n:Nat} {u w:HO} {o q:SO} (R:Rep K φ st H) (hn:st[n]? = some q) (hq:q.wr=true) (ho:o.wr=true) (h:H (φ n)=some u) (hk:qEg u w) (hd:Holds K φ (st.set n o).length (upd H (φ n) w) o (φ n)):Rep K φ (st.set n o) (upd H (φ n) w):=by
  have hlt:=qBI hn
  have ev:Evo K φ st.length H φ (st.set n o).length (upd H (φ n) w):=qKE hlt h hk
  have get:∀ {i:Nat} {x:SO},(st.set n o)[i]? = some x→(i=n∧x=o)∨(i≠n∧st[i]? = some x):=fun {i x} e=>by
    by_cases h:i=n
    · left
      subst h
      rw [List.getElem?_set_self hlt] at e
      exact⟨rfl,(Option.some.inj e).symm⟩
    · right
      rw [List.getElem?_set_ne (Ne.symm h)] at e
      exact⟨h,e⟩
  refine⟨fun i j a b e1 e2 w1 w2 hh=>?_,fun i x e=>?_⟩
  · have g:∀ {i:Nat} {a:SO},(st.set n o)[i]? = some a→a.wr=true→∃ a',st[i]? = some a'∧a'.wr=true:=fun {i a} e w=>by
      rcases get e with ⟨h,_⟩ | ⟨_,h⟩
      · rw [h];exact⟨q,hn,hq⟩
      · exact⟨a,h,w⟩
    obtain⟨z1,g1,y1⟩:=g e1 w1
    obtain⟨z2,g2,y2⟩:=g e2 w2
    exact R.injA i j z1 z2 g1 g2 y1 y2 hh
  · rcases get e with ⟨h1,h2⟩ | ⟨h1,h2⟩
    · rw [h1,h2];exact hd
    · exact (R.all i x h2).stay ev (fun _ hh=>qI8 hh h (qCW hk).2) fun w=>qL fun z=>h1 (R.injA i n x q h2 hn w hq z)
theorem Rep.qPD {n:Nat} {vs:List V} {xs ys:List Dt} (R:Rep K φ st H) (hn:st[n]? = some (.rw ys)) (hd:DL K φ st.length H xs vs):Rep K φ (st.set n (.rw xs)) (upd H (φ n) (.lst vs)):=by
  obtain⟨ws,hw,_⟩:=R.rw n ys hn
  exact R.put hn rfl rfl hw trivial ⟨vs,qQ,hd.evo (qFD hw)⟩
end
noncomputable abbrev VD:=Dt→Sto→Prop
noncomputable abbrev TD:=Rho→Sto→VD→Prop
noncomputable abbrev TBD:=Rho→Sto→(Bool→Sto→Prop)→Prop
noncomputable abbrev TAD:=Rho→Sto→(List Dt→Sto→Prop)→Prop
structure qAZ where
  nx:Rho→Sto→Prop
  rt:VD
  bk:Rho→Sto→Prop:=fun _ _=>False
  ct:Rho→Sto→Prop:=fun _ _=>False
noncomputable abbrev TSD:=qAZ→Rho→Sto→Prop
def DR (K:W.Frag) (φ:Nat→Addr) (N:Nat) (H:Hp) (ρ:Rho) (σ:L2.St):Prop :=
  ρ.length=σ.length∧∀ (i:Nat) d,ρ[i]? = some (some d)→∃ v,σ[i]? = some (some v)∧D K φ N H d v
section
variable {K:W.Frag} {φ φ':Nat→Addr} {N N':Nat} {H H':Hp} {ρ:Rho} {σ:L2.St}
theorem DR.evo (h:DR K φ N H ρ σ) (e:Evo K φ N H φ' N' H'):DR K φ' N' H' ρ σ :=
  ⟨h.1,fun i d q=>let ⟨v,h1,h2⟩:=h.2 i d q;⟨v,h1,h2.evo e⟩⟩
theorem DR.set {d:Dt} {v:V} (h:DR K φ N H ρ σ) (hd:D K φ N H d v) (i:Nat):DR K φ N H (ρ.set i (some d)) (σ.set i (some v)):=by
  refine⟨by rw [List.length_set,List.length_set];exact h.1,fun j e q=>?_⟩
  by_cases hj:j=i
  · subst hj
    have hl:j<ρ.length:=by
      have:=qBI q
      rwa [List.length_set] at this
    rw [List.getElem?_set_self hl] at q
    cases q
    exact⟨v,by rw [List.getElem?_set_self (by rw [← h.1];exact hl)],hd⟩
  · rw [List.getElem?_set_ne (Ne.symm hj)] at q
    rw [List.getElem?_set_ne (Ne.symm hj)]
    exact h.2 j e q
end
def Pre (K:W.Frag) (φ:Nat→Addr) (st:Sto) (H:Hp) (ρ:Rho) (σ:L2.St):Prop:=Rep K φ st H∧DR K φ st.length H ρ σ
def Bhd (K:W.Frag) (φ:Nat→Addr) (st:Sto) (H:Hp) (φ':Nat→Addr) (st':Sto) (H':Hp):Prop:=Rep K φ' st' H'∧Evo K φ st.length H φ' st'.length H'
noncomputable def qBF (K:W.Frag) (t:TD):TE:=fun σ H Q=>∃ φ st ρ P,Pre K φ st H ρ σ∧t ρ st P ∧
  ∀ d st',P d st'→∀ φ' H' v,Bhd K φ st H φ' st' H'→D K φ' st'.length H' d v→Q v H'
noncomputable def liftT (K:W.Frag) (t:TBD):TT:=fun σ H Q=>∃ φ st ρ P,Pre K φ st H ρ σ∧t ρ st P ∧
  ∀ b st',P b st'→∀ φ' H',Bhd K φ st H φ' st' H'→Q b H'
noncomputable def qMM (K:W.Frag) (t:TAD):TA:=fun σ H Q=>∃ φ st ρ P,Pre K φ st H ρ σ∧t ρ st P ∧
  ∀ ds st',P ds st'→∀ φ' H' vs,Bhd K φ st H φ' st' H'→DL K φ' st'.length H' ds vs→Q vs H'
noncomputable def qGN (K:W.Frag) (t:TSD):TS:=fun E σ H=>∃ φ st ρ P,Pre K φ st H ρ σ∧t P ρ st ∧
  (∀ ρ' st',P.nx ρ' st'→∀ φ' H' σ',Bhd K φ st H φ' st' H'→DR K φ' st'.length H' ρ' σ'→E.nx σ' H') ∧
  (∀ ρ' st',P.bk ρ' st'→∀ φ' H' σ',Bhd K φ st H φ' st' H'→DR K φ' st'.length H' ρ' σ'→E.bk σ' H') ∧
  (∀ ρ' st',P.ct ρ' st'→∀ φ' H' σ',Bhd K φ st H φ' st' H'→DR K φ' st'.length H' ρ' σ'→E.ct σ' H') ∧
  (∀ d st',P.rt d st'→∀ φ' H' v,Bhd K φ st H φ' st' H'→D K φ' st'.length H' d v→E.rt v H')
def DE (X:Cx) (e:Expr) (t:TD):Prop:=PE X e (qBF X.K t)
def DT (X:Cx) (e:Expr) (t:TBD):Prop:=PT X e (liftT X.K t)
def DA (X:Cx) (es:List Expr) (t:TAD):Prop:=PA X es (qMM X.K t)
def DS (X:Cx) (s:Stmt) (t:TSD):Prop:=PS X s (qGN X.K t)
def DSs (X:Cx) (s:List Stmt) (t:TSD):Prop:=PSs X s (qGN X.K t)
section
variable {K:W.Frag} {φ φ1 φ2:Nat→Addr} {st st1 st2:Sto} {H H1 H2:Hp} {ρ:Rho} {σ:L2.St}
theorem Bhd.refl (h:Rep K φ st H):Bhd K φ st H φ st H:=⟨h,.refl⟩
theorem Bhd.trans (a:Bhd K φ st H φ1 st1 H1) (b:Bhd K φ1 st1 H1 φ2 st2 H2):Bhd K φ st H φ2 st2 H2:=⟨b.1,a.2.trans b.2⟩
theorem Pre.on (p:Pre K φ st H ρ σ) (b:Bhd K φ st H φ1 st1 H1):Pre K φ1 st1 H1 ρ σ:=⟨b.1,p.2.evo b.2⟩
end
theorem _root_.L2.PE.imp {X:Cx} {e:Expr} {t t':TE} (h:PE X e t) (i:∀ σ H Q,t' σ H Q→t σ H Q):PE X e t':=fun pins s σ H Q I q=>h pins s σ H Q I (i σ H Q q)
theorem _root_.L2.PT.imp {X:Cx} {e:Expr} {t t':TT} (h:PT X e t) (i:∀ σ H Q,t' σ H Q→t σ H Q):PT X e t':=fun pins s σ H Q I q=>h pins s σ H Q I (i σ H Q q)
theorem _root_.L2.PA.imp {X:Cx} {es:List Expr} {t t':TA} (h:PA X es t) (i:∀ σ H Q,t' σ H Q→t σ H Q):PA X es t':=fun pos pins s σ H Q I q=>h pos pins s σ H Q I (i σ H Q q)
theorem _root_.L2.PS.imp {X:Cx} {e:Stmt} {t t':TS} (h:PS X e t) (i:∀ D σ H,t' D σ H→t D σ H):PS X e t':=fun pins s σ H Dn I q=>h pins s σ H Dn I (i Dn σ H q)
theorem _root_.L2.PSs.imp {X:Cx} {e:List Stmt} {t t':TS} (h:PSs X e t) (i:∀ D σ H,t' D σ H→t D σ H):PSs X e t':=fun pins s σ H Dn I q=>h pins s σ H Dn I (i Dn σ H q)
end L3
namespace L3
open PySem PySem.Spec PyProof.Rows L2
open AutoSeq1 (wpAny_loadPart')
section
variable {prog:Program} {w:World} {A:Around} {E:Value→Shared→Prop} {s:Shared}
theorem qJB {t b:Addr} {vs ws:List Value} {Q:Value→Shared→Prop} (ht:IsTup s.heap t vs.toArray) (hb:IsTup s.heap b ws.toArray)
    (h0:vs=[]→Q (.ref b) s) (h1:vs≠[]→ws=[]→Q (.ref t) s) (h2:vs≠[]→ws≠[]→Q (.ref s.heap.objs.size) { s with heap:=s.heap.push { cls:=.type "tuple",data:=.seq (vs++ws).toArray } })
    (hsz:vs.length+ws.length≤sizeLine):wpAny (model prog w) A (binaryOp .Add (.ref t) (.ref b)) Q E s:=by
  by_cases hv:vs=[]
  · obtain⟨⟨cls,dd,data,sl⟩,ho,hc,n,hd⟩:=id ht
    obtain⟨⟨cls2,dd2,data2,sl2⟩,ho2,hc2,n2,hd2⟩:=id hb
    simp only at hc hd hc2 hd2
    subst hc hd hc2 hd2
    exact concat_meets ⟨_,ho,rfl⟩ ⟨_,ho2,rfl⟩ noFill_tuple_add seq_tuple_add PySem.F.slot_tuple_add PySem.F.entry_tuple_add (PySem.F.args_tuple_add_2 _ _)
      (tuple_addW0 t b vs.toArray ws.toArray n n2 dd dd2 sl sl2 (by simp [hv])) ⟨ho,ho2,h0 hv⟩
  · exact HT.qLu ht hb hv (h1 hv) (h2 hv) hsz
end
theorem qCx:fillsNumberSlot (.type "tuple") "mul" = pure false :=
  PySem.fillsNumberSlot_seq (id:= "tuple.__mul__") (r:=some (.builtin "tuple.__rmul__")) F.slot_tuple_mul.lookup (by decide +kernel) F.slot_tuple_rmul.lookup (by decide +kernel)
theorem qFa:seqRepeat? (.type "tuple")=pure (some (.builtin "tuple.__mul__")):=by
  unfold seqRepeat?
  rw [PySem.seqSlot_of (T:= "tuple") (name:= "__mul__") (id:= "tuple.__mul__") F.slot_tuple_mul.lookup (by decide +kernel),PySem.seqSlot_of (T:= "tuple") (name:= "__rmul__") (id:= "tuple.__rmul__") F.slot_tuple_rmul.lookup (by decide +kernel)]
  rfl
theorem qDY (a:Int) (t:Tok) (l:Addr) (items:Array Value) (n:Nat) (d:Option Addr) (sl:Array (Option Value)) :
    Meets (Builtin.«int.__rmul__» ⟨[.int a t,.ref l],[]⟩) (fun _ R s=>s.heap.get? l=some { cls:=.type "tuple",dict:=d,data:=.seq items n,slots:=sl }∧R (.ok (.ret Value.notImplemented)) s) :=
  .of_wp fun prog w A R s h=>by obtain⟨hp,g,d,tk,os⟩:=s;obtain⟨hl,h⟩:=h;wp_walk;exact⟨_,rfl,h⟩
theorem qG1 (l:Addr) (items:Array Value) (n:Nat) (d:Option Addr) (sl:Array (Option Value)) (x:Int) (u:Tok) (h0:items.isEmpty=false) (h1:2≤x) (h2:x<2 ^ 20) (h3:items.size * x.toNat≤sizeLine) :
    Meets (Builtin.«tuple.__mul__» ⟨[.ref l,.int x u],[]⟩) (fun _ R s=>s.heap.get? l=some { cls:=.type "tuple",dict:=d,data:=.seq items n,slots:=sl } ∧
      R (.ok (.ret (Value.ref s.heap.objs.size))) { s with heap:=s.heap.push { cls:=Value.type "tuple",data:=Data.seq (List.foldl (fun x1 x2=>x1++x2) #[] (List.replicate x.toNat items)) },toks:=s.toks }) :=
  .of_wp fun prog w A R s h=>by
    obtain⟨hp,g,d,tk,os⟩:=s;obtain⟨hl,h⟩:=h
    have f1:=AutoSeq1.idx_int
    have e1:(decide (x < -(2 ^ 63)) || decide (x ≥ 2 ^ 63))=false:=by
      rw [decide_eq_false (by lia),decide_eq_false (by lia)];rfl
    have e2:(items.isEmpty || x==1)=false:=by
      rw [h0,Bool.false_or];exact beq_eq_false_iff_ne.mpr (by lia)
    have e3:(decide (x≤0) || items.isEmpty)=false:=by
      rw [h0,Bool.or_false];exact decide_eq_false (by lia)
    have e4:¬ ((items.size:Int) * x > (2 ^ 63 - 1) / 8):=by
      have hb:items.size * x.toNat≤16777216:=by rw [← sizeLine_eq];exact h3
      have:(items.size:Int) * x=((items.size * x.toNat:Nat):Int):=by
        rw [Int.natCast_mul,Int.toNat_of_nonneg (by lia)]
      rw [this]
      lia
    wp_walk using wpAny_loadPart' hl
    rw [if_neg (fun q=>Bool.false_ne_true (e1.symm.trans q))]
    wp_walk using wpAny_loadPart' hl
    rw [if_neg (fun q=>Bool.false_ne_true (e2.symm.trans q))]
    wp_walk using wpAny_loadPart' hl
    rw [if_neg (fun q=>Bool.false_ne_true (e3.symm.trans q))]
    wp_walk using wpAny_loadPart' hl
    rw [if_neg e4]
    wp_walk using wpAny_loadPart' hl
    have hx:(items.size:Int) * x=((items.size * x.toNat:Nat):Int):=by
      rw [Int.natCast_mul,Int.toNat_of_nonneg (by lia)]
    have e5:Builtin.Tuple.tupleTooMany ((items.size:Int) * x)=false:=by
      unfold Builtin.Tuple.tupleTooMany
      rw [hx]
      exact decide_eq_false (by lia)
    rw [if_neg (fun q=>Bool.false_ne_true (e5.symm.trans q))]
    have f0:List.foldl (fun x1 x2=>x1++x2) #[] (List.replicate x.toNat items)=(List.replicate x.toNat items.toList).flatten.toArray:=by
      have:=foldl_rep items.toList x.toNat []
      rw [List.nil_append,Array.toArray_toList] at this
      exact this
    have hsz:sizeOk (.seq (List.foldl (fun x1 x2=>x1++x2) #[] (List.replicate x.toNat items))):=by
      show (List.foldl (fun x1 x2=>x1++x2) #[] (List.replicate x.toNat items)).size≤sizeLine
      rw [f0,List.size_toArray,len_rep,Array.length_toList,Nat.mul_comm]
      exact h3
    unfold Builtin.Tuple.tupleExact
    exact wpAny_bind (wpAny_newObj_type (wpAny_pure ⟨_,rfl,h⟩) hsz)
section
variable {X:Cx}
theorem qK9:OpR X (binaryOp .Add) (fun x y H Q=>∃ a b xs ys,x = .ref a∧y = .ref b∧SqT X.K H a xs∧SqT X.K H b ys∧xs.length+ys.length≤sizeLine ∧
    (xs=[]→Q (.ref b) H)∧(xs≠[]→ys=[]→Q (.ref a) H)∧(xs≠[]→ys≠[]→∀ p,H p=none→Q (.ref p) (upd H p (.tup (xs++ys))))):=by
  k_dat 0"r3"
  obtain⟨a,b,xs,ys,rfl,rfl,ha,hb,hz,q0,q1,q2⟩:=h
  cases rx
  cases ry
  obtain⟨its,r1,p1,_⟩:=I.tuple ha
  obtain⟨its2,r2,p2,_⟩:=I.tuple hb
  refine qJB p1 p2 (fun z=>⟨.ref b,H,I,rfl,q0 (r1.qCm.mp z)⟩) (fun z1 z=>⟨.ref a,H,I,rfl,q1 (fun w=>z1 (r1.qCm.mpr w)) (r2.qCm.mp z)⟩) (fun z1 z=>?_) (by rw [← r1.length,← r2.length];exact hz)
  refine⟨.ref s.heap.objs.size,_,I.laid (t':=s.toks) (o:=.tup (xs++ys)) (fun b ob q=>Heap.get?_push_of_some _ q) (Nat.le_refl _) ?_,rfl,q2 (fun w=>z1 (r1.qCm.mpr w)) (fun w=>z (r2.qCm.mpr w)) _ (I.hok.fresh (Nat.le_refl _))⟩
  exact⟨by rw [List.length_append];exact hz,_,r1.append r2,qAs.new _ _⟩
theorem qLm:OpR X (binaryOp .Mult) (fun x y H Q=>∃ a k xs,x = .ref a∧y = .int k∧SqT X.K H a xs∧xs≠[]∧2≤k∧k<2 ^ 20∧xs.length * k.toNat≤sizeLine ∧
    ∀ p,H p=none→Q (.ref p) (upd H p (.tup (List.replicate k.toNat xs).flatten))):=by
  k_dat 0"r3"
  obtain⟨a,k,xs,rfl,rfl,ha,hne,h2,h3,hz,q⟩:=h
  cases rx
  obtain⟨t,rfl⟩:=ry
  obtain⟨its,r1,p1,_⟩:=I.tuple ha
  have hl:=r1.length
  obtain⟨⟨cls,dd,data,sl⟩,ho,hc,n,hd⟩:=id p1
  simp only at hc hd
  subst hc hd
  have f0:List.foldl (fun x1 x2=>x1++x2) #[] (List.replicate k.toNat its.toArray)=(List.replicate k.toNat its).flatten.toArray:=by
    have:=foldl_rep its k.toNat []
    rw [List.nil_append] at this
    exact this
  have hz':its.toArray.size * k.toNat≤sizeLine:=by rw [List.size_toArray,← hl];exact hz
  have he:its.toArray.isEmpty=false:=by
    cases its with
    | nil=>exact absurd (List.length_eq_zero_iff.mp hl) hne
    | cons _ _=>rfl
  refine wpAny_binaryOp_repeat_ref (T:= "tuple") (U:= "int") (by decide) ⟨_,ho,rfl⟩ (fun s'=>typeIs_int s' k t) qCx F.fills_int_mul F.slot_int_rmul qFa F.slot_int_index.lookup
    (call_meets F.slot_int_rmul (typeIs_int s k t) F.entry_int_rmul (F.args_int_rmul_2 _ _) (qDY k t a its.toArray n dd sl)
      ⟨ho,rfl,⟨_,ho,rfl⟩,call_meets F.slot_tuple_mul ⟨_,ho,rfl⟩ F.entry_tuple_mul (F.args_tuple_mul_2 _ _) (qG1 a its.toArray n dd sl k t he h2 h3 hz') ⟨ho,?_⟩⟩)
  rw [f0]
  refine⟨.ref s.heap.objs.size,_,I.laid (t':=s.toks) (o:=.tup (List.replicate k.toNat xs).flatten) (fun b ob q=>Heap.get?_push_of_some _ q) (Nat.le_refl _) ?_,rfl,q _ (I.hok.fresh (Nat.le_refl _))⟩
  exact⟨by rw [len_rep,Nat.mul_comm];exact hz,_,Vals.rep r1 _,qAs.new _ _⟩
end
theorem qEK (l:Addr) (items:Array Value) (n:Nat) (dd:Option Addr) (sl:Array (Option Value)) (x:Value) (e:Value→Bool) (j:Nat) (hj:j<items.size) (hit:e items[j]=true) (hno:∀ m (hm:m<items.size),m<j→e items[m]=false) :
    Meets (Builtin.«tuple.index» ⟨[.ref l,x],[]⟩)
      (fun A R s=>s.heap.get? l=some { cls:=.type "tuple",dict:=dd,data:=.seq items n,slots:=sl }∧(∀ y,y∈items→SeqAt.EqAt A.in1 s y x (e y))∧R (.ok (.ret (.int j s.toks))) { s with toks:=s.toks+1 }) :=
  .of_wp fun prog w A R s h=>by
    obtain⟨hp,g,d,tk,os⟩:=s;obtain⟨hl,he,h⟩:=h
    unfold Builtin.«tuple.index»
    simp only [Std.Legacy.Range.forIn_eq_forIn_range']
    wp_walk using wpAny_loadPart' hl,wpAny_forIn_list _ (fun rest b s'=>b.1=none∧s'=⟨hp,g,d,tk,os⟩∧∃ i,rest=List.range' i (items.size - i) 1∧i≤j) _
    case turn =>
      rintro k rest b s' ⟨hb',rfl,i,hz,hij⟩
      obtain⟨q,hq⟩:∃ q,items.size - i=q+1:=⟨items.size - i - 1,by lia⟩
      rw [hq,List.range'_succ] at hz
      injection hz with hk hr
      subst hk
      have hlt:k<items.size:=by lia
      have hget:items[k]? = some items[k]:=by simp [hlt]
      rw [hget]
      refine wpAny_bind (he _ (Array.getElem_mem hlt) prog w _ _ ?_)
      by_cases hji:k=j
      · subst hji
        rw [hit]
        wp_walk
        exact⟨_,rfl,h⟩
      · rw [hno k hlt (by lia)]
        wp_walk
        exact⟨rfl,rfl,k+1,by rw [hr];congr 1;lia,by lia⟩
    case fin =>
      rintro b s' ⟨hb',rfl,i,hz,hij⟩
      obtain⟨q,hq⟩:∃ q,items.size - i=q+1:=⟨items.size - i - 1,by lia⟩
      rw [hq,List.range'_succ] at hz
      cases hz
    case h =>
      exact⟨rfl,rfl,0,by simp [Std.Legacy.Range.size],Nat.zero_le _⟩
end L3
namespace L3
open PySem PySem.Spec PyProof.Rows L2
noncomputable def okD:Nat→Dt→Bool
  | 0,.tup _=>false
  | n+1,.tup xs=>xs.all (okD n)
  | _,.lst _=>false
  | _,.ty _=>false
  | _,.dic _=>false
  | _,.ins _=>false
  | _,.exc _ _=>false
  | _,_=>true
noncomputable def eqL (f:Dt→Dt→Bool):List Dt→List Dt→Bool
  | [],[]=>true
  | x::xs,y::ys=>f x y&&eqL f xs ys
  | _,_=>false
noncomputable def eqD:Nat→Dt→Dt→Bool
  | _,.non,.non=>true
  | _,.bl a,.bl b=>a==b
  | _,.bl a,.int b=>(if a then 1 else 0)==b
  | _,.int a,.bl b=>a==(if b then 1 else 0)
  | _,.int a,.int b=>a==b
  | _,.str a,.str b=>a==b
  | n+1,.tup a,.tup b=>eqL (eqD n) a b
  | _,_,_=>false
theorem qDp {f:Dt→Dt→Bool}:∀ {xs:List Dt},(∀ x∈xs,f x x=true)→eqL f xs xs=true
  | [],_=>rfl
  | x::xs,h=>by
    unfold eqL
    rw [h x List.mem_cons_self,qDp fun y hy=>h y (List.mem_cons_of_mem _ hy)]
    rfl
theorem qDb:∀ {n:Nat} {d:Dt},okD n d=true→eqD n d d=true
  | 0,.tup _,h=>by simp [okD] at h
  | n+1,.tup xs,h=>by
    simp only [okD] at h
    simp only [eqD]
    exact qDp fun x hx=>qDb (List.all_eq_true.mp h x hx)
  | n,.non,_=>by cases n<;>rfl
  | n,.bl b,_=>by cases n<;>simp [eqD]
  | n,.int b,_=>by cases n<;>simp [eqD]
  | n,.str b,_=>by cases n<;>simp [eqD]
  | n,.lst _,h=>by cases n<;>simp [okD] at h
  | n,.ty _,h=>by cases n<;>simp [okD] at h
  | n,.dic _,h=>by cases n<;>simp [okD] at h
  | n,.ins _,h=>by cases n<;>simp [okD] at h
  | n,.exc _ _,h=>by cases n<;>simp [okD] at h
theorem qAl {f:Dt→Dt→Bool}:∀ (xs ys:List Dt),eqL f xs ys=((List.range (min xs.length ys.length)).all (fun j=>f (xs.getD j .non) (ys.getD j .non))&&xs.length==ys.length)
  | [],[]=>rfl
  | [],_::_=>by simp [eqL]
  | _::_,[]=>by simp [eqL]
  | x :: xs,y::ys=>by
    unfold eqL
    rw [qAl xs ys]
    have e:min (x::xs).length (y::ys).length=min xs.length ys.length+1:=by simp [Nat.succ_min_succ]
    rw [e,List.range_succ_eq_map,List.all_cons,List.all_map]
    simp only [List.getD_cons_zero,List.length_cons]
    have e2:((xs.length+1==ys.length+1):Bool)=(xs.length==ys.length):=by
      rw [Bool.eq_iff_iff];simp
    rw [e2,Bool.and_assoc]
    rfl
section
variable {X:Cx} {pins:List (Addr×Obj)} {σ:L2.St} {H:Hp} {s:Shared} {φ:Nat→Addr} {N:Nat}
theorem qHv {xs:List Dt} {j:Nat} {d:Dt} (h:xs[j]? = some d):xs.getD j .non=d:=by simp [List.getD,h]
theorem qFA {f:Dt→Bool} (hf:∀ {d e:Dt} {v:V},f d=true→f e=true→D X.K φ N H d v→D X.K φ N H e v→d=e):∀ {a b:List Dt} {vs:List V},DL X.K φ N H a vs→DL X.K φ N H b vs→a.all f=true→b.all f=true→a=b
  | [],[],_,_,_,_,_=>rfl
  | [],y::b,vs,h1,h2,_,_=>by
    have:=h1.length;have:=h2.length;simp at *;lia
  | x::a,[],vs,h1,h2,_,_=>by
    have:=h1.length;have:=h2.length;simp at *;lia
  | x::a,y::b,vs,h1,h2,o1,o2=>by
    rw [List.all_cons,Bool.and_eq_true] at o1 o2
    simp only [DL] at h1 h2
    obtain⟨v,r,rfl,p1,p2⟩:=h1
    obtain⟨v',r',e,q1,q2⟩:=h2
    cases e
    rw [hf o1.1 o2.1 p1 q1,qFA hf p2 q2 o1.2 o2.2]
theorem qPy (I:Inv X pins σ H s):∀ (n:Nat) {d e:Dt} {v:V},okD n d=true→okD n e=true→D X.K φ N H d v→D X.K φ N H e v→d=e:=by
  intro n
  induction n with
  | zero =>
    intro d e v o1 o2 h1 h2
    cases d<;>cases e<;>first
      | (exfalso;revert o1;simp [okD];done)
      | (exfalso;revert o2;simp [okD];done)
      | (simp only [D] at h1 h2;subst h1;first | (cases h2;rfl) | (cases h2))
  | succ n ih =>
    intro d e v o1 o2 h1 h2
    cases d<;>cases e<;>first
      | (exfalso;revert o1;simp [okD];done)
      | (exfalso;revert o2;simp [okD];done)
      | (simp only [D] at h1 h2;subst h1;first | (cases h2;rfl) | (cases h2;done) | (obtain⟨_,_,z,_⟩:=h2;cases z))
      | (simp only [D] at h1 h2;subst h2;obtain⟨_,_,z,_⟩:=h1;cases z)
      | (simp only [okD] at o1 o2
         obtain⟨p,vs,e1,hs,hd⟩:=h1.tup
         obtain⟨q,ws,e2,hs2,hd2⟩:=h2.tup
         rw [e1] at e2
         cases e2
         have:=I.qB2 hs hs2
         subst this
         rw [qFA (f:=okD n) (fun a b c d=>ih a b c d) hd hd2 o1 o2])
theorem qOp (I:Inv X pins σ H s) {n:Nat} {a b:List Dt} {vs:List V} (h1:DL X.K φ N H a vs) (h2:DL X.K φ N H b vs) (o1:a.all (okD n)=true) (o2:b.all (okD n)=true):a=b :=
  qFA (fun a b c d=>qPy I n a b c d) h1 h2 o1 o2
inductive Kd (s:Shared):Dt→Value→Prop
  | non:Kd s .non .none
  | bl (b:Bool):Kd s (.bl b) (.bool b)
  | int (i:Int) (t:Tok):Kd s (.int i) (.int i t)
  | str (x:Str) (t:Tok):Kd s (.str x) (.str x t)
  | tup (xs:List Dt) (p:Addr) (items:Array Value):IsTup s.heap p items→Kd s (.tup xs) (.ref p)
theorem qDA (I:Inv X pins σ H s) {n:Nat} {d:Dt} {v:V} {u:Value} (o:okD n d=true) (h:D X.K φ N H d v) (r:RelV v u):Kd s d u:=by
  cases d with
  | non=>cases h.non;cases r;exact .non
  | bl b=>cases h.bl;cases r;exact .bl b
  | int i=>cases h.int;obtain⟨t,rfl⟩:=r;exact .int i t
  | str x=>cases h.str;obtain⟨t,rfl⟩:=r;exact .str x t
  | tup xs=>obtain⟨p,vs,rfl,hs,_⟩:=h.tup;cases r;obtain⟨its,_,ht,_⟩:=I.tuple hs;exact .tup xs p _ ht
  | _=>cases n<;>simp [okD] at o
noncomputable def Kd2:Dt→Dt→Prop
  | .tup _,.tup _=>False
  | _,_=>True
theorem qMO {A:Around} {d e:Dt} {u1 u2:Value} (n:Nat) (hu:A.units<cLine) (k1:Kd s d u1) (k2:Kd s e u2) (h:Kd2 d e):SeqAt.EqAt A s u1 u2 (eqD n d e):=by
  cases k1 with
  | non=>cases k2 with
    | non=>cases n<;>exact .same _
    | bl b=>cases n<;>exact .none_bool b
    | int b u=>cases n<;>exact .none_int b u
    | str b u=>cases n<;>exact .none_str b u
    | tup ys q j k=>cases n<;>exact .none_tuple k hu
  | bl a=>cases k2 with
    | non=>cases n<;>exact .bool_none a
    | bl b=>cases n<;>exact .bool_bool a b
    | int b u=>cases n<;>exact .bool_int a b u
    | str b u=>cases n<;>exact .bool_str a b u
    | tup ys q j k=>cases n<;>exact .bool_tuple a k hu
  | int a t=>cases k2 with
    | non=>cases n<;>exact .int_none a t
    | bl b=>cases n<;>exact .int_bool a t b
    | int b u=>cases n<;>exact .int_int a t b u
    | str b u=>cases n<;>exact .int_str a t b u
    | tup ys q j k=>cases n<;>exact .int_tuple a t k hu
  | str a t=>cases k2 with
    | non=>cases n<;>exact .str_none a t
    | bl b=>cases n<;>exact .str_bool a t b
    | int b u=>cases n<;>exact .str_int a t b u
    | str b u=>cases n<;>exact .str_str a t b u
    | tup ys q j k=>cases n<;>exact .str_tuple a t k hu
  | tup xs p i k=>cases k2 with
    | non=>cases n<;>exact .tuple_none k hu
    | bl b=>cases n<;>exact .tuple_bool b k hu
    | int b u=>cases n<;>exact .tuple_int b u k hu
    | str b u=>cases n<;>exact .tuple_str b u k hu
    | tup=>exact h.elim
theorem toArr {α:Type} {l:List α} {j:Nat} {u:α} (h:j<l.toArray.size) (e:l[j]? = some u):l.toArray[j]=u:=by
  obtain⟨_,e⟩:=List.getElem?_eq_some_iff.mp e
  exact e
theorem qJz {n:Nat} {A:Around} {a b:List Dt} {vs ws:List V} {its its2:List Value} (hd:DL X.K φ N H a vs) (hd2:DL X.K φ N H b ws) (rv:Vals vs its) (rv2:Vals ws its2)
    (o1:a.all (okD n)=true) (o2:b.all (okD n)=true) (ih:∀ {d e:Dt} {v w:V} {u1 u2:Value},okD n d=true→okD n e=true→D X.K φ N H d v→D X.K φ N H e w→RelV v u1→RelV w u2→SeqAt.EqAt A s u1 u2 (eqD n d e)) {j:Nat} (h1:j<its.toArray.size) (h2:j<its2.toArray.size):SeqAt.EqAt A s its.toArray[j] its2.toArray[j] (eqD n (a.getD j .non) (b.getD j .non)):=by
  have hj1:j<a.length:=by rw [hd.length,rv.length];exact h1
  have hj2:j<b.length:=by rw [hd2.length,rv2.length];exact h2
  have ea:=List.getElem?_eq_getElem hj1
  have eb:=List.getElem?_eq_getElem hj2
  obtain⟨x,ex,dx⟩:=hd.get ea
  obtain⟨y,ey,dy⟩:=hd2.get eb
  obtain⟨ux,eux,rx⟩:=rv.get ex
  obtain⟨uy,euy,ry⟩:=rv2.get ey
  rw [toArr h1 eux,toArr h2 euy,qHv ea,qHv eb]
  exact ih (List.all_eq_true.mp o1 _ (List.getElem_mem hj1)) (List.all_eq_true.mp o2 _ (List.getElem_mem hj2)) dx dy rx ry
theorem qO1 (I:Inv X pins σ H s) (n:Nat) {A:Around} {a b:List Dt} {v w:V} {u1 u2:Value} (hu:A.units+(n+1)<cLine) (o1:a.all (okD n)=true) (o2:b.all (okD n)=true) (h1:D X.K φ N H (.tup a) v) (h2:D X.K φ N H (.tup b) w) (r1:RelV v u1) (r2:RelV w u2)
    (ih:∀ {d e:Dt} {v w:V} {u1 u2:Value},okD n d=true→okD n e=true→D X.K φ N H d v→D X.K φ N H e w→RelV v u1→RelV w u2→SeqAt.EqAt A.in1 s u1 u2 (eqD n d e)):SeqAt.EqAt A s u1 u2 (eqL (eqD n) a b):=by
  obtain⟨p,vs,rfl,hs,hd⟩:=h1.tup
  obtain⟨q,ws,rfl,hs2,hd2⟩:=h2.tup
  cases r1;cases r2
  obtain⟨its,rv,ht,_⟩:=I.tuple hs
  obtain⟨its2,rv2,ht2,_⟩:=I.tuple hs2
  by_cases hpq:p=q
  · subst hpq
    have ev:vs=ws:=I.qB2 hs hs2
    subst ev
    rw [qOp I hd hd2 o1 o2,qDp fun x hx=>qDb (List.all_eq_true.mp o2 x hx)]
    exact .same _
  · refine .of_refs hpq ?_
    k_dat 0"r41"
    k_dat 0"r42"
    rw [qAl,← l1,← l2]
    exact SeqAt.RcAt.tuples ht ht2 (Nat.lt_of_le_of_lt (Nat.le_add_right _ _) hu) fun j h1 h2=>qJz hd hd2 rv rv2 o1 o2 ih h1 h2
theorem qN4 (I:Inv X pins σ H s):∀ (n:Nat) {A:Around} {d e:Dt} {v w:V} {u1 u2:Value},A.units+n<cLine→okD n d=true→okD n e=true→D X.K φ N H d v→D X.K φ N H e w→RelV v u1→RelV w u2→SeqAt.EqAt A s u1 u2 (eqD n d e):=by
  intro n
  induction n with
  | zero =>
    intro A d e v w u1 u2 hu o1 o2 h1 h2 r1 r2
    have k1:=qDA I o1 h1 r1
    refine qMO 0 hu k1 (qDA I o2 h2 r2) ?_
    cases k1 with
    | tup=>cases o1
    | _=>trivial
  | succ n ih =>
    intro A d e v w u1 u2 hu o1 o2 h1 h2 r1 r2
    have k1:=qDA I o1 h1 r1
    have k2:=qDA I o2 h2 r2
    have go:Kd2 d e→SeqAt.EqAt A s u1 u2 (eqD (n+1) d e):=qMO (n+1) (Nat.lt_of_le_of_lt (Nat.le_add_right _ _) hu) k1 k2
    cases k1 with
    | tup a=>cases k2 with
      | tup b=>exact qO1 I n hu o1 o2 h1 h2 r1 r2 (ih (A:=A.in1) (by rw [show A.in1.units=A.units+1 from rfl,Nat.add_assoc,Nat.add_comm 1];exact hu))
      | _=>exact go trivial
    | _=>exact go trivial
end
end L3
namespace L3
open PySem PySem.Spec PyProof.Rows L2
noncomputable abbrev RD2:=Dt→Dt→Sto→VD→Prop
noncomputable abbrev RDL:=List Dt→Sto→VD→Prop
noncomputable def qKY (K:W.Frag) (r:RD2):R2:=fun v w H Q=>∃ φ st x y P,Rep K φ st H∧D K φ st.length H x v∧D K φ st.length H y w∧r x y st P ∧
  ∀ d st',P d st'→∀ φ' H' u,Bhd K φ st H φ' st' H'→D K φ' st'.length H' d u→Q u H'
noncomputable def qI5 (K:W.Frag) (r:RDL):List V→Hp→VK→Prop:=fun vs H Q=>∃ φ st ds P,Rep K φ st H∧DL K φ st.length H ds vs∧r ds st P ∧
  ∀ d st',P d st'→∀ φ' H' u,Bhd K φ st H φ' st' H'→D K φ' st'.length H' d u→Q u H'
def OpD (X:Cx) (f:Value→Value→Sem Value) (r:RD2):Prop:=OpR X f (qKY X.K r)
def qCU (X:Cx) (f:Value) (r:RDL):Prop:=qDo X f (qI5 X.K r)
def qE (i:Nat):TD:=fun ρ st P=>match ρ[i]? with
  | some (some d)=>P d st
  | _=>False
def qC (d:Dt):TD:=fun _ st P=>P d st
def qD (r:RD2) (ta tb:TD):TD:=fun ρ st P=>ta ρ st fun x st1=>tb ρ st1 fun y st2=>r x y st2 P
def qI (r:RDL) (t:TAD):TD:=fun ρ st P=>t ρ st fun ds st1=>r ds st1 P
section
variable {K:W.Frag} {r:RD2} {ta tb:TD} {σ:L2.St} {H:Hp} {Q:VK} {R:RDL} {t:TAD}
theorem qCk (h:qBF K (qD r ta tb) σ H Q):tOp (qKY K r) (qBF K ta) (qBF K tb) σ H Q:=by
  k_dat 0"r0"
  k_dat 0"r12"
  refine⟨φ1,st1,ρ,_,pre.on b1,h1,fun y st2 h2 φ2 H2 w b2 dy=>?_⟩
  exact⟨φ2,st2,x,y,P,b2.1,dx.evo b2.2,dy,h2,fun d st' hp φ' H' u b3 du=>hq d st' hp φ' H' u (b1.trans (b2.trans b3)) du⟩
theorem qB5 (h:qBF K (qI R t) σ H Q):tCB (qI5 K R) (qMM K t) σ H Q:=by
  k_dat 0"r0"
  refine⟨φ,st,ρ,_,pre,ht,fun ds st1 h1 φ1 H1 vs b1 dx=>?_⟩
  exact⟨φ1,st1,ds,P,b1.1,dx,h1,fun d st' hp φ' H' u b3 du=>hq d st' hp φ' H' u (b1.trans b3) du⟩
end
section
variable {X:Cx} {a b c e:Expr} {es:List Expr} {ta tb tc t:TD} {tas:TAD} {pos:Pos}
theorem qMu (i:Nat) {x:Str} (hN:X.N[i]? = some x:=by rfl) (hv:Vis X.env.scope x:=by first | exact Or.inl rfl | exact Or.inr (Or.inl rfl) | exact Or.inr (Or.inr rfl)) (hd:(x==("__debug__" : Str))=false:=by decide)
    (hcd:(x==("__classdict__" : Str))=false:=by decide):DE X (.Name x pos) (qE i):=(qEA hN hv hd hcd).imp fun σ H Q h=>by
  k_dat 0"r0"
  unfold qE at ht
  split at ht
  · rename_i d e
    obtain⟨v,e1,e2⟩:=pre.2.2 i d e
    exact⟨v,e1,hq d st ht φ H v (.refl pre.1) e2⟩
  · exact ht.elim
theorem qBD {d:Dt} {v:V} {K:W.Frag} (h:∀ φ N H,D K φ N H d v):∀ (σ:L2.St) H Q,qBF K (qC d) σ H Q→tC v σ H Q:=fun σ H Q h'=>by
  obtain⟨φ,st,ρ,P,pre,ht,hq⟩:=h'
  exact hq d st ht φ H v (.refl pre.1) (h _ _ _)
theorem qMz {i j pos}:DE X (.Constant (.int i) j pos) (qC (.int i)):=(qNF).imp (qBD fun _ _ _=>D.mkInt)
theorem qPT {i j pos}:DE X (.Constant (.bool i) j pos) (qC (.bl i)):=(qPd).imp (qBD fun _ _ _=>D.qBl)
theorem qOr {j pos}:DE X (.Constant .none j pos) (qC .non):=(qNC).imp (qBD fun _ _ _=>D.qHa)
theorem qNI {i j pos}:DE X (.Constant (.str i) j pos) (qC (.str i)):=(qGn).imp (qBD fun _ _ _=>D.mkStr)
theorem qJf {x:Str} {T:String} (hm:X.mg x=none) (hv:bootBuiltins x=some (.type T)) (hg:Gl X x:=by rfl) (hn:x ≠ "__name__":=by decide) (hd:(x==("__debug__" : Str))=false:=by decide):DE X (.Name x pos) (qC (.ty T)) :=
  (qH7 (v:=.ty T) hg hm hv rfl hn hd).imp (qBD fun _ _ _=>D.qQA)
theorem qLX {x:Str} {d:Dt} {v:V} {u:Value} (hm:X.mg x=some u) (r:RelV v u) (hD:∀ φ N H,D X.K φ N H d v) (hg:Gl X x:=by rfl) (hd:(x==("__debug__" : Str))=false:=by decide):DE X (.Name x pos) (qC d) :=
  (qA2 hg hm r hd).imp (qBD hD)
theorem qD3 {op:Operator} {r:RD2} (ho:OpD X (binaryOp op) r) (ha:DE X a ta) (hb:DE X b tb):DE X (.BinOp a op b pos) (qD r ta tb):=(qPO ho ha hb).imp fun _ _ _=>qCk
theorem qI3 {op:CmpOp} {r:RD2} (ho:OpD X (compareOp op) r) (ha:DE X a ta) (hb:DE X b tb) (hm:behindInMarks op b=false:=by first | exact qHJ _ | with_unfolding_all rfl):DE X (.Compare a [op] [b] pos) (qD r ta tb):=(qLl ho ha hb hm).imp fun _ _ _=>qCk
def qN (t:TD):TBD:=fun ρ st P=>t ρ st fun x st1=>match x with
  | .bl k=>P k st1
  | _=>False
theorem qEn {K:W.Frag} {t:TD} {σ:L2.St} {H:Hp} {Q:Bool→Hp→Prop} (h:liftT K (qN t) σ H Q):qBF K t σ H fun x H'=>∃ k,x = .bl k∧Q k H':=by
  k_dat 0"r0"
  k_dat 0"r25"
  cases d with
  | bl k=>exact⟨k,dx.bl,hq k st1 h1 φ1 H1 b1⟩
  | _=>exact h1.elim
theorem qBq {op:CmpOp} {r:RD2} (ho:OpD X (compareOp op) r) (ha:DE X a ta) (hb:DE X b tb) (hm:behindInMarks op b=false:=by first | exact qHJ _ | with_unfolding_all rfl):DT X (.Compare a [op] [b] pos) (qN (qD r ta tb)) :=
  (qK2 ho ha hb hm).imp fun σ H Q h=>qCk (qEn h)
theorem qMh (h:DE X e t) (he:∀ whole,isTrue e X.env whole=(do let v ← whole;standAt e.pos;holding [v] (truthy v)):=by intro _;rfl):DT X e (qN t):=(qNq h he).imp fun σ H Q h=>qEn h
def qAw (t:TBD):TBD:=fun ρ st P=>t ρ st fun k st1=>P (!k) st1
theorem qOO {t:TBD} (h:DT X a t):DT X (.UnaryOp .Not a pos) (qAw t):=(qNW h).imp fun σ H Q h=>by
  k_dat 0"r0"
  exact⟨φ,st,ρ,_,pre,ht,fun k st1 h1 φ1 H1 b1=>hq _ st1 h1 φ1 H1 b1⟩
def DW (X:Cx) (e:Expr) (t:TBD):Prop:=PW X e (liftT X.K t)
theorem PW.imp {X:Cx} {e:Expr} {t t':TT} (h:PW X e t) (i:∀ σ H Q,t' σ H Q→t σ H Q):PW X e t':=fun wh pins s σ H Q I q=>h wh pins s σ H Q I (i σ H Q q)
def qBa (t u:TBD):TBD:=fun ρ st P=>t ρ st fun k st1=>if k=true then u ρ st1 P else P false st1
def qBG (t u:TBD):TBD:=fun ρ st P=>t ρ st fun k st1=>if k=true then P true st1 else u ρ st1 P
variable {tA tB':TBD} {rest:List Expr}
theorem qLb (h:DT X a tA):DW X (.BoolOp .And [a] pos) tA:=qLs h
theorem qNH (h:DT X a tA):DW X (.BoolOp .Or [a] pos) tA:=qOY h
theorem qKB (ha:DT X a tA) (hb:DW X (.BoolOp .And (b::rest) pos) tB'):DW X (.BoolOp .And (a::b::rest) pos) (qBa tA tB'):=PW.imp (qM7 ha hb) fun σ H Q h=>by
  k_dat 0"r0"
  k_dat 0"r26"
  cases k with
  | true =>
    rw [if_pos rfl] at h1 ⊢
    k_dat 0"r53"
  | false =>
    rw [if_neg Bool.false_ne_true] at h1 ⊢
    exact hq false st1 h1 φ1 H1 b1
theorem qMf (ha:DT X a tA) (hb:DW X (.BoolOp .Or (b::rest) pos) tB'):DW X (.BoolOp .Or (a::b::rest) pos) (qBG tA tB'):=PW.imp (qPb ha hb) fun σ H Q h=>by
  k_dat 0"r0"
  k_dat 0"r26"
  cases k with
  | false =>
    rw [if_neg Bool.false_ne_true] at h1 ⊢
    k_dat 0"r53"
  | true =>
    rw [if_pos rfl] at h1 ⊢
    exact hq true st1 h1 φ1 H1 b1
theorem qMQ {tA:TBD} (h:DW X e tA):DT X e tA:=h _
def qCE (t u:TD):TD:=fun ρ st P=>t ρ st fun x st1=>match x with
  | .bl k=>if k=true then u ρ st1 P else P (.bl false) st1
  | _=>False
def qO4 (t u:TD):TD:=fun ρ st P=>t ρ st fun x st1=>match x with
  | .bl k=>if k=true then P (.bl true) st1 else u ρ st1 P
  | _=>False
def qEw (t:TD):TD:=fun ρ st P=>t ρ st fun x st1=>match x with
  | .bl k=>P (.bl (!k)) st1
  | _=>False
theorem qNN {op} (h:DE X a t):DE X (.BoolOp op [a] pos) t:=qON h
theorem qOU (ha:DE X a ta) (hb:DE X (.BoolOp .And (b::rest) pos) tb):DE X (.BoolOp .And (a::b::rest) pos) (qCE ta tb):=(qMx ha hb).imp fun σ H Q h=>by
  k_dat 0"r0"
  k_dat 0"r25"
  cases d with
  | bl k =>
    refine⟨k,dx.bl,?_⟩
    cases k with
    | true=>exact qBw ⟨φ1,st1,ρ,P,pre.on b1,h1,fun k st2 h2 φ2 H2 v2 b2=>hq k st2 h2 φ2 H2 v2 (b1.trans b2)⟩
    | false=>exact qB8 (hq _ st1 h1 φ1 H1 _ b1 D.qBl)
  | _=>exact h1.elim
theorem qOm (ha:DE X a ta):DE X (.UnaryOp .Not a pos) (qEw ta):=(qNh ha).imp fun σ H Q h=>by
  k_dat 0"r0"
  k_dat 0"r25"
  cases d with
  | bl k=>exact⟨k,dx.bl,hq _ st1 h1 φ1 H1 _ b1 D.qBl⟩
  | _=>exact h1.elim
def qLG (c:TBD) (t u:TD):TD:=fun ρ st P=>c ρ st fun k st1=>if k=true then t ρ st1 P else u ρ st1 P
theorem qPZ {tC:TBD} (hc:DT X c tC) (ha:DE X a ta) (hb:DE X b tb):DE X (.IfExp c a b pos) (qLG tC ta tb):=(qJ3 hc ha hb).imp fun σ H Q h=>by
  k_dat 0"r0"
  k_dat 0"r26"
  cases k with
  | true=>exact qBw ⟨φ1,st1,ρ,P,pre.on b1,(by rw [if_pos rfl] at h1;exact h1),fun k st2 h2 φ2 H2 v2 b2=>hq k st2 h2 φ2 H2 v2 (b1.trans b2)⟩
  | false=>exact qB8 ⟨φ1,st1,ρ,P,pre.on b1,(by rw [if_neg Bool.false_ne_true] at h1;exact h1),fun k st2 h2 φ2 H2 v2 b2=>hq k st2 h2 φ2 H2 v2 (b1.trans b2)⟩
noncomputable def qG:TAD:=fun _ st P=>P [] st
noncomputable def qA (t:TD) (u:TAD):TAD:=fun ρ st P=>t ρ st fun x st1=>u ρ st1 fun xs st2=>P (x::xs) st2
theorem qBR:DA X [] qG:=(qDk).imp fun σ H Q h=>by
  k_dat 0"r0"
  exact hq [] st ht φ H [] (.refl pre.1) .nil
theorem qAk (ha:DE X e t) (hr:DA X es tas) (hs:starEach (e::es) X.env=(false,eval e X.env)::starEach es X.env:=by rfl):DA X (e::es) (qA t tas):=(qA5 ha hr hs).imp fun σ H Q h=>by
  k_dat 0"r0"
  k_dat 0"r12"
  refine⟨φ1,st1,ρ,_,pre.on b1,h1,fun xs st2 h2 φ2 H2 vs b2 dxs=>?_⟩
  exact hq _ st2 h2 φ2 H2 _ (b1.trans b2) (.cons (dx.evo b2.2) dxs)
def qIf (t:TAD):TD:=fun ρ st P=>t ρ st fun ds st1=>ds.length≤sizeLine∧P (.tup ds) st1
def qj (t:TAD):TD:=fun ρ st P=>t ρ st fun ds st1=>ds.length≤sizeLine∧P (.lst st1.length) (st1++[.rw ds])
theorem qA0 {K:W.Frag} {φ:Nat→Addr} {st:Sto} {H:Hp} {p:Addr} {o:HO} (R:Rep K φ st H) (hp:H p=none):Bhd K φ st H φ st (upd H p o):=⟨R.laid hp,qAD hp⟩
theorem qBT {K:W.Frag} {φ:Nat→Addr} {st:Sto} {H:Hp} {p:Addr} {ds:List Dt} {vs:List V} (R:Rep K φ st H) (hp:H p=none) (hd:DL K φ st.length H ds vs) :
    Bhd K φ st H (qAc φ st.length p) (st++[.rw ds]) (upd H p (.lst vs)):=⟨R.newL hp hd,qL9 hp⟩
theorem qDy {K:W.Frag} {φ:Nat→Addr} {st:Sto} {H:Hp} {p:Addr} {ds:List Dt} {vs:List V}:D K (qAc φ st.length p) (st++[SO.rw ds]).length (upd H p (.lst vs)) (.lst st.length) (.ref p):=by
  have:=D.qMK (K:=K) (φ:=qAc φ st.length p) (H:=upd H p (.lst vs)) (n:=st.length) (N:=(st++[SO.rw ds]).length) (by simp) (by rw [qDe];exact⟨vs,SqL.of qQ⟩)
  rw [qDe] at this
  exact this
theorem qM9 {x1} (h:DA X es tas):DE X (.Tuple es x1 pos) (qIf tas):=(qJ0 h).imp fun σ H Q h=>by
  k_dat 0"r0"
  k_dat 0"r54"
  exact hq _ st1 h1.2 φ1 _ _ (b1.trans (qA0 b1.1 hp)) (.qBk (SqT.of qQ) (dx.evo (qAD hp)))
theorem qNw (h:DA X es tas):DE X (.List es pos) (qj tas):=(qNS h).imp fun σ H Q h=>by
  k_dat 0"r0"
  k_dat 0"r54"
  exact hq _ _ h1.2 _ _ _ (b1.trans (qBT b1.1 hp dx)) qDy
end
end L3
namespace L3
open PySem PySem.Spec PyProof.Rows L2
def qa:RD2:=fun x y st P=>match x,y with
  | .int i,.int j=>P (.int (i+j)) st
  | .str i,.str j=>i.length+j.length≤sizeLine∧P (.str (i++j)) st
  | .tup i,.tup j=>i.length+j.length≤sizeLine∧P (.tup (i++j)) st
  | .lst n,.lst m=>match st[n]?,st[m]? with
    | some (.rw xs),some (.rw ys)=>xs.length+ys.length≤sizeLine∧P (.lst st.length) (st++[.rw (xs++ys)])
    | _,_=>False
  | _,_=>False
def qL8:RD2:=fun x y st P=>match x,y with
  | .int i,.int j=>P (.int (i - j)) st
  | _,_=>False
def qBb:RD2:=fun x y st P=>match x,y with
  | .int i,.int j=>qFM i j∧P (.int (i * j)) st
  | .tup xs,.int k=>xs≠[]∧2≤k∧k<2 ^ 20∧xs.length * k.toNat≤sizeLine∧P (.tup (List.replicate k.toNat xs).flatten) st
  | .lst n,.int k=>match st[n]? with
    | some (.rw xs)=>0≤k∧k<2 ^ 20∧xs.length * k.toNat≤sizeLine∧P (.lst st.length) (st++[.rw (List.replicate k.toNat xs).flatten])
    | _=>False
  | _,_=>False
def qm:RD2:=fun x y st P=>match x,y with
  | .int i,.int j=>qOK i j∧P (.int (i / j)) st
  | _,_=>False
def qk:RD2:=fun x y st P=>match x,y with
  | .int i,.int j=>0<j∧P (.int (i%j)) st
  | _,_=>False
def qAe (p:Int→Int→Bool):RD2:=fun x y st P=>match x,y with
  | .int i,.int j=>P (.bl (p i j)) st
  | _,_=>False
def qc (neg:Bool):RD2:=fun x y st P=>match x,y with
  | .lst n,.lst m=>match st[n]?,st[m]? with
    | some a,some b=>a.items.all (okD 8)=true∧b.items.all (okD 8)=true∧P (.bl (eqL (eqD 8) a.items b.items != neg)) st
    | _,_=>False
  | x,y=>okD 8 x=true∧okD 8 y=true∧P (.bl (eqD 8 x y != neg)) st
def qEQ (neg:Bool):RD2:=fun x y st P=>match x,y with
  | .bl a,.bl b=>P (.bl ((a==b) != neg)) st
  | .non,.non=>P (.bl (true != neg)) st
  | .bl _,.non=>P (.bl (false != neg)) st
  | .int _,.non=>P (.bl (false != neg)) st
  | .str _,.non=>P (.bl (false != neg)) st
  | .tup _,.non=>P (.bl (false != neg)) st
  | .lst _,.non=>P (.bl (false != neg)) st
  | .exc _ _,.non=>P (.bl (false != neg)) st
  | _,_=>False
noncomputable def qAB (st:Sto):Dt→Option (List Dt)
  | .tup xs=>some xs
  | .lst n=>(st[n]?).map SO.items
  | _=>none
def qBj (neg:Bool):RD2:=fun x y st P=>match x,y with
  | .str i,.str j=>P (.bl ((!(Builtin.Str.occurrences j i 0 j.length 1).isEmpty) != neg)) st
  | x,y=>match qAB st y with
    | some xs=>okD 0 x=true∧xs.all (okD 0)=true∧P (.bl (xs.any (fun z=>eqD 0 z x) != neg)) st
    | none=>False
section
variable {X:Cx} {K:W.Frag} {φ:Nat→Addr} {st:Sto} {H:Hp} {P:VD} {Q:VK} {d:Dt} {v:V}
abbrev Go (K:W.Frag) (φ:Nat→Addr) (st:Sto) (H:Hp) (P:VD) (Q:VK):Prop:=∀ d st',P d st'→∀ φ' H' u,Bhd K φ st H φ' st' H'→D K φ' st'.length H' d u→Q u H'
theorem Go.here (g:Go K φ st H P Q) (R:Rep K φ st H) (hp:P d st) (hd:D K φ st.length H d v):Q v H:=g d st hp φ H v (.refl R) hd
theorem iiI {F:Int→Int→Prop} {x y:Dt} (h:match x,y with
  | .int i,.int j=>F i j
  | _,_=>False):∃ i j,x = .int i∧y = .int j∧F i j:=by
  cases x with
  | int i=>cases y with
    | int j=>exact⟨i,j,rfl,rfl,h⟩
    | _=>exact h.elim
  | _=>exact h.elim
theorem qK7 {x y:Dt} {st:Sto} {P:Dt→Sto→Prop} (h:qa x y st P):(∃ i j,x = .int i∧y = .int j∧P (.int (i+j)) st)∨(∃ i j,x = .str i∧y = .str j∧i.length+j.length≤sizeLine∧P (.str (i++j)) st)∨(∃ i j,x = .tup i∧y = .tup j∧i.length+j.length≤sizeLine∧P (.tup (i++j)) st)∨∃ n m xs ys,x = .lst n∧y = .lst m∧st[n]? = some (.rw xs)∧st[m]? = some (.rw ys)∧xs.length+ys.length≤sizeLine∧P (.lst st.length) (st++[.rw (xs++ys)]):=by
  cases x with
  | int i=>cases y with
    | int j=>exact .inl ⟨i,j,rfl,rfl,h⟩
    | _=>exact h.elim
  | str i=>cases y with
    | str j=>exact .inr (.inl ⟨i,j,rfl,rfl,h⟩)
    | _=>exact h.elim
  | tup i=>cases y with
    | tup j=>exact .inr (.inr (.inl ⟨i,j,rfl,rfl,h⟩))
    | _=>exact h.elim
  | lst n=>cases y with
    | lst m =>
      have h:match st[n]?,st[m]? with
        | some (.rw xs),some (.rw ys)=>xs.length+ys.length≤sizeLine∧P (.lst st.length) (st++[.rw (xs++ys)])
        | _,_=>False:=h
      split at h
      · rename_i xs ys e1 e2
        exact .inr (.inr (.inr ⟨n,m,xs,ys,rfl,rfl,e1,e2,h⟩))
      · exact h.elim
    | _=>exact h.elim
  | _=>exact h.elim
theorem qK6 {x y:Dt} {st:Sto} {P:Dt→Sto→Prop} (h:qBb x y st P):(∃ i j,x = .int i∧y = .int j∧qFM i j∧P (.int (i * j)) st)∨(∃ xs k,x = .tup xs∧y = .int k∧xs≠[]∧2≤k∧k<2 ^ 20∧xs.length * k.toNat≤sizeLine∧P (.tup (List.replicate k.toNat xs).flatten) st)∨∃ n k xs,x = .lst n∧y = .int k∧st[n]? = some (.rw xs)∧0≤k∧k<2 ^ 20∧xs.length * k.toNat≤sizeLine∧P (.lst st.length) (st++[.rw (List.replicate k.toNat xs).flatten]):=by
  cases x with
  | int i=>cases y with
    | int j=>exact .inl ⟨i,j,rfl,rfl,h⟩
    | _=>exact h.elim
  | tup i=>cases y with
    | int j=>exact .inr (.inl ⟨i,j,rfl,rfl,h⟩)
    | _=>exact h.elim
  | lst n=>cases y with
    | int k =>
      have h:match st[n]? with
        | some (.rw xs)=>0≤k∧k<2 ^ 20∧xs.length * k.toNat≤sizeLine∧P (.lst st.length) (st++[.rw (List.replicate k.toNat xs).flatten])
        | _=>False:=h
      split at h
      · rename_i xs e1
        exact .inr (.inr ⟨n,k,xs,rfl,rfl,e1,h⟩)
      · exact h.elim
    | _=>exact h.elim
  | _=>exact h.elim
theorem qG4 {N:Nat} {xs:List Dt} {vs:List V} (d1:DL K φ N H xs vs):∀ m:Nat,DL K φ N H (List.replicate m xs).flatten (List.replicate m vs).flatten
  | 0=>.nil
  | m+1=>by rw [List.replicate_succ,List.replicate_succ,List.flatten_cons,List.flatten_cons];exact d1.append (qG4 d1 m)
theorem qOn:OpD X (binaryOp .Add) qa:=by
  k_dat 0"r5"
  k_dat 0"r6"
  rcases qK7 hr with ⟨i,j,rfl,rfl,hh⟩ | ⟨i,j,rfl,rfl,hh⟩ | ⟨i,j,rfl,rfl,hh⟩ | ⟨n,m,xs,ys,rfl,rfl,e1,e2,hh⟩
  · exact qM5 pins s σ H v w u1 u2 Q I r1 r2 ⟨i,j,dx.int,dy.int,Go.here hq R hh D.mkInt⟩
  · exact qGq pins s σ H v w u1 u2 Q I r1 r2 ⟨i,j,dx.str,dy.str,hh.1,Go.here hq R hh.2 D.mkStr⟩
  · obtain⟨a,vs,e1,s1,d1⟩:=dx.tup
    obtain⟨b,ws,e2,s2,d2⟩:=dy.tup
    refine qK9 pins s σ H v w u1 u2 Q I r1 r2 ⟨a,b,vs,ws,e1,e2,s1,s2,(by rw [← d1.length,← d2.length];exact hh.1),fun z=>?_,fun z1 z2=>?_,fun z1 z2 p hp=>hq _ st hh.2 φ _ _ (qA0 R hp) (.qBk (SqT.of qQ) ((d1.append d2).evo (qAD hp)))⟩
    · cases List.length_eq_zero_iff.mp (d1.length.trans (congrArg List.length z))
      exact Go.here hq R hh.2 (.qBk s2 d2)
    · cases List.length_eq_zero_iff.mp (d2.length.trans (congrArg List.length z2))
      rw [List.append_nil] at hh
      exact Go.here hq R hh.2 (.qBk s1 d1)
  · obtain⟨vs,h1,d1⟩:=R.rw n xs e1
    obtain⟨ws,h2,d2⟩:=R.rw m ys e2
    exact qOM pins s σ H v w u1 u2 Q I r1 r2 ⟨φ n,φ m,vs,ws,dx.lst.2,dy.lst.2,h1,h2,(by rw [← d1.length,← d2.length];exact hh.1),fun p hp=>hq _ _ hh.2 _ _ _ (qBT R hp (d1.append d2)) qDy⟩
theorem qNs:OpD X (binaryOp .Sub) qL8:=by
  k_dat 0"r5"
  k_dat 0"r6"
  obtain⟨i,j,rfl,rfl,hr⟩:=iiI (F:=fun i j=>P (.int (i - j)) st) hr
  exact qOI pins s σ H v w u1 u2 Q I r1 r2 ⟨i,j,dx.int,dy.int,Go.here hq R hr D.mkInt⟩
theorem qNr:OpD X (binaryOp .Mult) qBb:=by
  k_dat 0"r5"
  k_dat 0"r6"
  rcases qK6 hr with ⟨i,j,rfl,rfl,hr⟩ | ⟨xs,k,rfl,rfl,h1,h2,h3,h4,h5⟩ | ⟨n,k,xs,rfl,rfl,e1,g1,g2,g3,g4⟩
  · exact qOS pins s σ H v w u1 u2 Q I r1 r2 ⟨i,j,dx.int,dy.int,hr.1,Go.here hq R hr.2 D.mkInt⟩
  · obtain⟨a,vs,e1,s1,d1⟩:=dx.tup
    exact qLm pins s σ H v w u1 u2 Q I r1 r2 ⟨a,k,vs,e1,dy.int,s1,(fun z=>h1 (List.length_eq_zero_iff.mp (d1.length.trans (congrArg List.length z)))),h2,h3,by rw [← d1.length];exact h4,fun p hp=>hq _ st h5 φ _ _ (qA0 R hp) (.qBk (SqT.of qQ) ((qG4 d1 _).evo (qAD hp)))⟩
  · obtain⟨vs,h1,d1⟩:=R.rw n xs e1
    exact qMj pins s σ H v w u1 u2 Q I r1 r2 ⟨φ n,k,vs,dx.lst.2,dy.int,h1,by lia,by lia,by rw [← d1.length];exact g3,fun p hp=>hq _ _ g4 _ _ _ (qBT R hp (qG4 d1 _)) qDy⟩
theorem qMl:OpD X (binaryOp .FloorDiv) qm:=by
  k_dat 0"r5"
  k_dat 0"r6"
  obtain⟨i,j,rfl,rfl,hr⟩:=iiI (F:=fun i j=>qOK i j∧P (.int (i / j)) st) hr
  exact qKn pins s σ H v w u1 u2 Q I r1 r2 ⟨i,j,dx.int,dy.int,hr.1,Go.here hq R hr.2 D.mkInt⟩
theorem qOA:OpD X (binaryOp .Mod) qk:=by
  k_dat 0"r5"
  k_dat 0"r6"
  obtain⟨i,j,rfl,rfl,hr⟩:=iiI (F:=fun i j=>0<j∧P (.int (i%j)) st) hr
  exact qNe pins s σ H v w u1 u2 Q I r1 r2 ⟨i,j,dx.int,dy.int,hr.1,Go.here hq R hr.2 D.mkInt⟩
theorem qE6 {op:CmpOp} {p:Int→Int→Bool} (ho:OpR X (compareOp op) (rI0 fun i j=>.bl (p i j))):OpD X (compareOp op) (qAe p):=by
  k_dat 0"r5"
  k_dat 0"r6"
  obtain⟨i,j,rfl,rfl,hr⟩:=iiI (F:=fun i j=>P (.bl (p i j)) st) hr
  exact ho pins s σ H v w u1 u2 Q I r1 r2 ⟨i,j,dx.int,dy.int,Go.here hq R hr D.qBl⟩
theorem qPN:OpD X (compareOp .Lt) (qAe fun i j=>decide (i<j)):=qE6 qO9
theorem qPa:OpD X (compareOp .LtE) (qAe fun i j=>decide (i≤j)):=qE6 qPE
theorem qPp:OpD X (compareOp .Gt) (qAe fun i j=>decide (j<i)):=qE6 qPi
theorem qAq (k:Bool):(k != false)=k:=by cases k<;>rfl
theorem qBx (k:Bool):(k != true) = !k:=by cases k<;>rfl
theorem qAo {pins:List (Addr×Obj)} {σ:L2.St} {s:Shared} (I:Inv X pins σ H s) (g:Go X.K φ st H P Q) (R:Rep X.K φ st H) {k k':Bool} (hp:P (.bl k) st) (e:k=k'):EP X pins σ Q (.bool k') s:=by
  subst e
  exact⟨.bl k,H,I,rfl,Go.here g R hp D.qBl⟩
end
section
variable {X:Cx} {pins:List (Addr×Obj)} {σ:L2.St} {H:Hp} {s:Shared} {φ:Nat→Addr} {N:Nat}
theorem qH0 (I:Inv X pins σ H s) {n:Nat} {A:Around} {a b:List Dt} {vs ws:List V} {its its2:List Value} (hu:A.units+n+1<cLine) (hd:DL X.K φ N H a vs) (hd2:DL X.K φ N H b ws) (rv:Vals vs its) (rv2:Vals ws its2)
    (o1:a.all (okD n)=true) (o2:b.all (okD n)=true) {j:Nat} (h1:j<its.toArray.size) (h2:j<its2.toArray.size):SeqAt.EqAt A.in1 s its.toArray[j] its2.toArray[j] (eqD n (a.getD j .non) (b.getD j .non)) :=
  qJz hd hd2 rv rv2 o1 o2 (qN4 I n (by rw [show A.in1.units=A.units+1 from rfl,Nat.add_assoc,Nat.add_comm 1];exact hu)) h1 h2
theorem qPr {A:Around} {d e:Dt} {u1 u2:Value} {n:Nat} (hu:A.units<cLine) (k1:Kd s d u1) (k2:Kd s e u2) (h:Kd2 d e):SeqAt.RcAt A s u1 u2 (eqD (n+1) d e):=by
  cases k1 with
  | non=>cases k2 with
    | non=>exact .none_none  
    | bl b=>exact .none_bool  b
    | int b u=>exact .none_int  b u
    | str b u=>exact .none_str  b u
    | tup ys q j k=>exact .none_tuple   k hu
  | bl a=>cases k2 with
    | non=>exact .bool_none a 
    | bl b=>exact .bool_bool a b
    | int b u=>exact .bool_int a b u
    | str b u=>exact .bool_str a b u
    | tup ys q j k=>exact .bool_tuple a  k hu
  | int a t=>cases k2 with
    | non=>exact .int_none a t 
    | bl b=>exact .int_bool a t b
    | int b u=>exact .int_int a t b u
    | str b u=>exact .int_str a t b u
    | tup ys q j k=>exact .int_tuple a t  k hu
  | str a t=>cases k2 with
    | non=>exact .str_none a t 
    | bl b=>exact .str_bool a t b
    | int b u=>exact .str_int a t b u
    | str b u=>exact .str_str a t b u
    | tup ys q j k=>exact .str_tuple a t  k hu
  | tup xs p i k=>cases k2 with
    | non=>exact .tuple_none   k hu
    | bl b=>exact .tuple_bool  b k hu
    | int b u=>exact .tuple_int  b u k hu
    | str b u=>exact .tuple_str  b u k hu
    | tup=>exact h.elim
theorem qOJ (I:Inv X pins σ H s) (n:Nat) {A:Around} {d e:Dt} {v w:V} {u1 u2:Value} (hu:A.units+n+1<cLine) (o1:okD (n+1) d=true) (o2:okD (n+1) e=true) (h1:D X.K φ N H d v) (h2:D X.K φ N H e w) (r1:RelV v u1) (r2:RelV w u2):SeqAt.RcAt A s u1 u2 (eqD (n+1) d e):=by
  have k1:=qDA I o1 h1 r1
  have k2:=qDA I o2 h2 r2
  have go:Kd2 d e→SeqAt.RcAt A s u1 u2 (eqD (n+1) d e):=qPr (Nat.lt_of_le_of_lt (Nat.le_add_right _ (n+1)) hu) k1 k2
  cases k1 with
  | tup a=>cases k2 with
    | tup b =>
      obtain⟨_,vs,rfl,hs,hd⟩:=h1.tup
      obtain⟨_,ws,rfl,hs2,hd2⟩:=h2.tup
      cases r1;cases r2
      obtain⟨its,rv,ht,_⟩:=I.tuple hs
      obtain⟨its2,rv2,ht2,_⟩:=I.tuple hs2
      k_dat 0"r41"
      k_dat 0"r42"
      show SeqAt.RcAt A s _ _ (eqL (eqD n) a b)
      rw [qAl,← l1,← l2]
      exact SeqAt.RcAt.tuples ht ht2 (Nat.lt_of_le_of_lt (Nat.le_add_right _ (n+1)) hu) fun j h1 h2=>qH0 I hu hd hd2 rv rv2 o1 o2 h1 h2
    | _=>exact go trivial
  | _=>exact go trivial
theorem qPV {A:Around} {d e:Dt} {u1 u2:Value} {n:Nat} (hu:A.units<cLine) (k1:Kd s d u1) (k2:Kd s e u2) (h:Kd2 d e):SeqAt.RcNeAt A s u1 u2 (!(eqD (n+1) d e)):=by
  cases k1 with
  | non=>cases k2 with
    | non=>exact .none_none  
    | bl b=>exact .none_bool  b
    | int b u=>exact .none_int  b u
    | str b u=>exact .none_str  b u
    | tup ys q j k=>exact .none_tuple   k hu
  | bl a=>cases k2 with
    | non=>exact .bool_none a 
    | bl b=>exact .bool_bool a b
    | int b u=>exact .bool_int a b u
    | str b u=>exact .bool_str a b u
    | tup ys q j k=>exact .bool_tuple a  k hu
  | int a t=>cases k2 with
    | non=>exact .int_none a t 
    | bl b=>exact .int_bool a t b
    | int b u=>exact .int_int a t b u
    | str b u=>exact .int_str a t b u
    | tup ys q j k=>exact .int_tuple a t  k hu
  | str a t=>cases k2 with
    | non=>exact .str_none a t 
    | bl b=>exact .str_bool a t b
    | int b u=>exact .str_int a t b u
    | str b u=>exact .str_str a t b u
    | tup ys q j k=>exact .str_tuple a t  k hu
  | tup xs p i k=>cases k2 with
    | non=>exact .tuple_none   k hu
    | bl b=>exact .tuple_bool  b k hu
    | int b u=>exact .tuple_int  b u k hu
    | str b u=>exact .tuple_str  b u k hu
    | tup=>exact h.elim
theorem qN2 (I:Inv X pins σ H s) (n:Nat) {A:Around} {d e:Dt} {v w:V} {u1 u2:Value} (hu:A.units+n+1<cLine) (o1:okD (n+1) d=true) (o2:okD (n+1) e=true) (h1:D X.K φ N H d v) (h2:D X.K φ N H e w) (r1:RelV v u1) (r2:RelV w u2):SeqAt.RcNeAt A s u1 u2 (!(eqD (n+1) d e)):=by
  have k1:=qDA I o1 h1 r1
  have k2:=qDA I o2 h2 r2
  have go:Kd2 d e→SeqAt.RcNeAt A s u1 u2 (!(eqD (n+1) d e)):=qPV (Nat.lt_of_le_of_lt (Nat.le_add_right _ (n+1)) hu) k1 k2
  cases k1 with
  | tup a=>cases k2 with
    | tup b =>
      obtain⟨_,vs,rfl,hs,hd⟩:=h1.tup
      obtain⟨_,ws,rfl,hs2,hd2⟩:=h2.tup
      cases r1;cases r2
      obtain⟨its,rv,ht,_⟩:=I.tuple hs
      obtain⟨its2,rv2,ht2,_⟩:=I.tuple hs2
      k_dat 0"r41"
      k_dat 0"r42"
      show SeqAt.RcNeAt A s _ _ (!(eqL (eqD n) a b))
      rw [qAl,← l1,← l2]
      exact SeqAt.RcNeAt.tuples ht ht2 (Nat.lt_of_le_of_lt (Nat.le_add_right _ (n+1)) hu) fun j h1 h2=>qH0 I hu hd hd2 rv rv2 o1 o2 h1 h2
    | _=>exact go trivial
  | _=>exact go trivial
end
theorem qEf {neg:Bool} {x y:Dt} {st:Sto} {P:Dt→Sto→Prop} (h:qc neg x y st P):(∃ n m a b,x = .lst n∧y = .lst m∧st[n]? = some a∧st[m]? = some b∧a.items.all (okD 8)=true∧b.items.all (okD 8)=true∧P (.bl (eqL (eqD 8) a.items b.items != neg)) st)∨okD 8 x=true∧okD 8 y=true∧P (.bl (eqD 8 x y != neg)) st:=by
  cases x with
  | lst n=>cases y with
    | lst m =>
      have h:match st[n]?,st[m]? with
        | some a,some b=>a.items.all (okD 8)=true∧b.items.all (okD 8)=true∧P (.bl (eqL (eqD 8) a.items b.items != neg)) st
        | _,_=>False:=h
      cases e1:st[n]? with
      | none=>rw [e1] at h;exact h.elim
      | some a=>cases e2:st[m]? with
        | none=>rw [e1,e2] at h;exact h.elim
        | some b=>rw [e1,e2] at h;exact .inl ⟨n,m,a,b,rfl,rfl,e1,e2,h⟩
    | _=>exact .inr h
  | _=>exact .inr h
theorem qKT {a b:List Dt} {m k:Nat} (l1:m=a.length) (l2:k=b.length) (hl:m=k):eqL (eqD 8) a b=(List.range m).all fun j=>eqD 8 (a.getD j .non) (b.getD j .non):=by
  rw [qAl,← l1,← l2,← hl,Nat.min_self,beq_self_eq_true,Bool.and_true]
theorem qHT {a b:List Dt} {m k:Nat} (l1:m=a.length) (l2:k=b.length) (hl:m≠k):eqL (eqD 8) a b=false:=by
  rw [qAl,← l1,← l2,beq_false_of_ne hl,Bool.and_false]
theorem qMZ {X:Cx} (hu:X.A.units+16<cLine):OpD X (compareOp .Eq) (qc false):=by
  k_dat 0"r5"
  k_dat 0"r6"
  have hu0:X.A.units<cLine:=Nat.lt_of_le_of_lt (Nat.le_add_right _ _) hu
  k_dat 0"r55"
  rcases qEf hr with ⟨n,m,a,b,rfl,rfl,e1,e2,o1,o2,hp⟩ | ⟨o1,o2,hp⟩
  · rw [qAq] at hp
    obtain⟨vs,s1,d1⟩:=R.seq e1 dx.isL
    obtain⟨ws,s2,d2⟩:=R.seq e2 dy.isL
    obtain⟨its,rv,pl,_⟩:=I.list s1
    obtain⟨its2,rv2,pl2,_⟩:=I.list s2
    cases dx.lst.2;cases dy.lst.2
    cases r1;cases r2
    have l1:its.toArray.size=a.items.length:=rv.length.symm.trans d1.length.symm
    have l2:its2.toArray.size=b.items.length:=rv2.length.symm.trans d2.length.symm
    by_cases hl:its.toArray.size=its2.toArray.size
    · rw [qKT l1 l2 hl] at hp
      exact SeqAt.RcAt.lists pl.isList pl2.isList hl hu0 (fun j h1 h2=>qH0 I hu9 d1 d2 rv rv2 o1 o2 h1 h2) _ _ _ _ (qAo I hq R hp rfl)
    · rw [qHT l1 l2 hl] at hp
      exact SeqAt.RcAt.lists_lengths (A:=X.A) pl.isList pl2.isList (bne_iff_ne.mpr hl) hu0 _ _ _ _ (qAo I hq R hp rfl)
  · rw [qAq] at hp
    exact qOJ I 7 (Nat.lt_of_succ_lt hu9) o1 o2 dx dy r1 r2 _ _ _ _ (qAo I hq R hp rfl)
theorem qPC {X:Cx} (hu:X.A.units+16<cLine):OpD X (compareOp .NotEq) (qc true):=by
  k_dat 0"r5"
  k_dat 0"r6"
  have hu0:X.A.units<cLine:=Nat.lt_of_le_of_lt (Nat.le_add_right _ _) hu
  k_dat 0"r55"
  rcases qEf hr with ⟨n,m,a,b,rfl,rfl,e1,e2,o1,o2,hp⟩ | ⟨o1,o2,hp⟩
  · rw [qBx] at hp
    obtain⟨vs,s1,d1⟩:=R.seq e1 dx.isL
    obtain⟨ws,s2,d2⟩:=R.seq e2 dy.isL
    obtain⟨its,rv,pl,_⟩:=I.list s1
    obtain⟨its2,rv2,pl2,_⟩:=I.list s2
    cases dx.lst.2;cases dy.lst.2
    cases r1;cases r2
    have l1:its.toArray.size=a.items.length:=rv.length.symm.trans d1.length.symm
    have l2:its2.toArray.size=b.items.length:=rv2.length.symm.trans d2.length.symm
    by_cases hl:its.toArray.size=its2.toArray.size
    · rw [qKT l1 l2 hl] at hp
      exact SeqAt.RcNeAt.lists pl.isList pl2.isList hl hu0 (fun j h1 h2=>qH0 I hu9 d1 d2 rv rv2 o1 o2 h1 h2) _ _ _ _ (qAo I hq R hp rfl)
    · rw [qHT l1 l2 hl] at hp
      exact SeqAt.RcNeAt.lists_lengths (A:=X.A) pl.isList pl2.isList (bne_iff_ne.mpr hl) hu0 _ _ _ _ (qAo I hq R hp rfl)
  · rw [qBx] at hp
    exact qN2 I 7 (Nat.lt_of_succ_lt hu9) o1 o2 dx dy r1 r2 _ _ _ _ (qAo I hq R hp rfl)
end L3
namespace L3
open PySem PySem.Spec PyProof.Rows L2
section
variable {X:Cx}
theorem qPg:OpD X (compareOp .Is) (qEQ false):=by
  k_dat 0"r5"
  k_dat 0"r6"
  have nn:y = .non→v≠.non→P (.bl (false != false)) st→wpAny (model X.prog X.w) X.A (compareOp .Is u1 u2) (EP X pins σ Q) X.xe s:=fun e hv hp=>by
    subst e
    have:=dy.non
    exact qJ6 pins s σ H v w u1 u2 Q I r1 r2 ⟨this,by rw [decide_eq_false hv];exact Go.here hq R hp D.qBl⟩
  cases x with
  | bl a =>
    cases y with
    | bl b =>
      cases dx.bl;cases dy.bl;cases r1;cases r2
      exact is_bool (qAo I hq R hr (by rw [qAq]))
    | non=>exact nn rfl (by rw [dx.bl];intro z;cases z) hr
    | _=>exact hr.elim
  | non =>
    cases y with
    | non=>exact qJ6 pins s σ H v w u1 u2 Q I r1 r2 ⟨dy.non,by rw [decide_eq_true dx.non];exact Go.here hq R hr D.qBl⟩
    | _=>exact hr.elim
  | int a =>
    cases y with
    | non=>exact nn rfl (by rw [dx.int];intro z;cases z) hr
    | _=>exact hr.elim
  | str a =>
    cases y with
    | non=>exact nn rfl (by rw [dx.str];intro z;cases z) hr
    | _=>exact hr.elim
  | tup a =>
    cases y with
    | non=>exact nn rfl (by obtain⟨_,_,e,_⟩:=dx.tup;rw [e];intro z;cases z) hr
    | _=>exact hr.elim
  | lst a =>
    cases y with
    | non=>exact nn rfl (by rw [dx.lst.2];intro z;cases z) hr
    | _=>exact hr.elim
  | exc a b =>
    cases y with
    | non=>exact nn rfl (by obtain⟨_,_,_,e,_⟩:=dx.exc;rw [e];intro z;cases z) hr
    | _=>exact hr.elim
  | _=>cases y<;>exact hr.elim
end
end L3
namespace L3
open PySem PySem.Spec PyProof.Rows L2
section
variable {X:Cx}
theorem qCj {K:W.Frag} {φ:Nat→Addr} {N:Nat} {H:Hp} {d:Dt} {v:V} (h:D K φ N H d v) (o:okD 0 d=true):qA1 v=true:=by
  cases d with
  | non=>cases h.non;rfl
  | bl _=>cases h.bl;rfl
  | int _=>cases h.int;rfl
  | str _=>cases h.str;rfl
  | _=>exact absurd o (by simp [okD])
theorem qBi {K:W.Frag} {φ:Nat→Addr} {N:Nat} {H:Hp}:∀ {ds:List Dt} {vs:List V},DL K φ N H ds vs→ds.all (okD 0)=true→vs.all qA1=true
  | [],vs,h,_=>by simp only [DL] at h;rw [h];rfl
  | d::ds,vs,h,o=>by
    k_dat 0"r4"
    obtain⟨v,r,rfl,h2,h3⟩:=h
    rw [List.all_cons,Bool.and_eq_true] at o ⊢
    exact⟨qCj h2 o.1,qBi h3 o.2⟩
theorem qG2 {K:W.Frag} {φ:Nat→Addr} {N:Nat} {H:Hp} {d e:Dt} {v w:V} (h:D K φ N H d v) (h':D K φ N H e w) (o:okD 0 d=true) (o':okD 0 e=true):eqV v w=eqD 0 d e:=by
  cases d<;>(try (exfalso;revert o;simp [okD];done))<;>cases e<;>(try (exfalso;revert o';simp [okD];done))<;>(simp only [D] at h h';subst h;subst h';rfl)
theorem qFY {K:W.Frag} {φ:Nat→Addr} {N:Nat} {H:Hp} {d:Dt} {v:V} (h':D K φ N H d v) (o':okD 0 d=true):∀ {ds:List Dt} {vs:List V},DL K φ N H ds vs→ds.all (okD 0)=true→inV v vs=ds.any (fun z=>eqD 0 z d)
  | [],vs,h,_=>by simp only [DL] at h;rw [h];rfl
  | e::ds,vs,h,o=>by
    k_dat 0"r4"
    obtain⟨w,r,rfl,h2,h3⟩:=h
    rw [List.all_cons,Bool.and_eq_true] at o
    have ih:=qFY h' o' h3 o.2
    unfold inV at ih ⊢
    rw [List.any_cons,List.any_cons,ih,qG2 h2 h' o.1 o']
theorem qBC {K:W.Frag} {φ:Nat→Addr} {st:Sto} {H:Hp} {y:Dt} {w:V} {xs:List Dt} (R:Rep K φ st H) (dy:D K φ st.length H y w) (e:qAB st y=some xs) :
    ∃ p vs,w = .ref p∧((SqL K H p vs∧∃ n,y = .lst n)∨(SqT K H p vs∧y = .tup xs))∧DL K φ st.length H xs vs:=by
  cases y with
  | tup zs =>
    have e':zs=xs:=Option.some.inj e
    subst e'
    obtain⟨a,vs,e1,s1,d1⟩:=dy.tup
    exact⟨a,vs,e1,.inr ⟨s1,rfl⟩,d1⟩
  | lst n =>
    have e':(st[n]?).map SO.items=some xs:=e
    cases q:st[n]? with
    | none=>rw [q] at e';cases e'
    | some o =>
      rw [q] at e'
      have e2:o.items=xs:=Option.some.inj e'
      obtain⟨vs,h1,h2⟩:=R.seq q dy.isL
      rw [e2] at h2
      exact⟨φ n,vs,dy.lst.2,.inl ⟨h1,n,rfl⟩,h2⟩
  | _=>cases e
theorem qO8:OpD X (compareOp .In) (qBj false):=by
  k_dat 0"r5"
  k_dat 0"r6"
  have gen:(match qAB st y with
    | some xs=>okD 0 x=true∧xs.all (okD 0)=true∧P (.bl (xs.any (fun z=>eqD 0 z x) != false)) st
    | none=>False)→wpAny (model X.prog X.w) X.A (compareOp .In u1 u2) (EP X pins σ Q) X.xe s:=fun hg=>by
    split at hg
    · rename_i xs e
      obtain⟨o1,o2,hp⟩:=hg
      obtain⟨p,vs,e1,hs,hd⟩:=qBC R dy e
      refine qIq pins s σ H v w u1 u2 Q I r1 r2 ⟨p,vs,e1,hs.elim (fun z=>.inl z.1) fun z=>.inr z.1,qCj dx o1,qBi hd o2,?_⟩
      rw [if_neg Bool.false_ne_true,qFY dx o1 hd o2]
      rw [qAq] at hp
      exact Go.here hq R hp D.qBl
    · exact hg.elim
  cases x with
  | str i =>
    cases y with
    | str j =>
      have hr':P (.bl ((!(Builtin.Str.occurrences j i 0 j.length 1).isEmpty) != false)) st:=hr
      rw [qAq] at hr'
      exact qIZ pins s σ H v w u1 u2 Q I r1 r2 ⟨i,j,dx.str,dy.str,Go.here hq R hr' D.qBl⟩
    | _=>exact gen hr
  | _=>exact gen hr
theorem qFu:OpD X (compareOp .NotIn) (qBj true):=by
  k_dat 0"r5"
  k_dat 0"r6"
  have gen:(match qAB st y with
    | some xs=>okD 0 x=true∧xs.all (okD 0)=true∧P (.bl (xs.any (fun z=>eqD 0 z x) != true)) st
    | none=>False)→wpAny (model X.prog X.w) X.A (compareOp .NotIn u1 u2) (EP X pins σ Q) X.xe s:=fun hg=>by
    split at hg
    · rename_i xs e
      obtain⟨o1,o2,hp⟩:=hg
      obtain⟨p,vs,e1,hs,hd⟩:=qBC R dy e
      refine qFk pins s σ H v w u1 u2 Q I r1 r2 ⟨p,vs,e1,hs.elim (fun z=>.inl z.1) fun z=>.inr z.1,qCj dx o1,qBi hd o2,?_⟩
      rw [if_pos rfl,qFY dx o1 hd o2]
      rw [qBx] at hp
      exact Go.here hq R hp D.qBl
    · exact hg.elim
  cases x with
  | str i =>
    cases y with
    | str j =>
      have hr':P (.bl ((!(Builtin.Str.occurrences j i 0 j.length 1).isEmpty) != true)) st:=hr
      rw [qBx] at hr'
      exact qE9 pins s σ H v w u1 u2 Q I r1 r2 ⟨i,j,dx.str,dy.str,Go.here hq R hr' D.qBl⟩
    | _=>exact gen hr
  | _=>exact gen hr
end
end L3
namespace L3
open PySem PySem.Spec PyProof.Rows L2
section
variable {X:Cx}
def qX:RD2:=fun x y st P=>match y with
  | .int i=>(match x with
    | .str z=>z.length≤sizeLine∧(match atI z.cps.toList i with
      | some c=>P (.str ⟨#[c]⟩) st
      | none=>False)
    | x => match qAB st x with
      | some xs=>(match atI xs i with
        | some d=>P d st
        | none=>False)
      | none=>False)
  | _=>False
theorem DL.atI {K:W.Frag} {φ:Nat→Addr} {N:Nat} {H:Hp} {ds:List Dt} {vs:List V} {i:Int} {d:Dt} (h:DL K φ N H ds vs) (e:L2.atI ds i=some d):∃ v,L2.atI vs i=some v∧D K φ N H d v:=by
  unfold L2.atI at e ⊢
  rw [← h.length]
  cases q:ixN ds.length i with
  | none=>rw [q] at e;cases e
  | some j =>
    rw [q] at e
    exact h.get e
theorem qP2 {a b:Expr} {ta tb:TD} {pos:Pos} (ha:DE X a ta) (hb:DE X b tb) (hs:qHc b:=by exact fun _ _=>rfl):DE X (.Subscript a b pos) (qD qX ta tb):=by
  have key:IxR X (qKY X.K qX):=by
    intro value slice pins s σ H v w u1 u2 Q I r1 r2 h hsub
    k_dat 0"r6"
    cases y with
    | int i =>
      have gen:(match qAB st x with
        | some xs=>(match atI xs i with
          | some d=>P d st
          | none=>False)
        | none=>False)→wpAny (model X.prog X.w) X.A (subscriptTail value slice u1 u2) (EP X pins σ Q) X.xe s:=fun hg=>by
        split at hg
        · rename_i xs e
          split at hg
          · rename_i d ed
            obtain⟨p,vs,e1,hs,hd⟩:=qBC R dx e
            obtain⟨z,ez,dz⟩:=hd.atI ed
            refine qKW value slice pins s σ H v w u1 u2 Q I r1 r2 ?_ hsub
            rcases hs with ⟨hs,_⟩ | ⟨hs,_⟩
            · exact .inl ⟨p,vs,i,z,e1,dy.int,hs,ez,Go.here hq R hg dz⟩
            · exact .inr (.inl ⟨p,vs,i,z,e1,dy.int,hs,ez,Go.here hq R hg dz⟩)
          · exact hg.elim
        · exact hg.elim
      cases x with
      | str z =>
        have hr':z.length≤sizeLine∧(match atI z.cps.toList i with
          | some c=>P (.str ⟨#[c]⟩) st
          | none=>False):=hr
        obtain⟨h1,h2⟩:=hr'
        split at h2
        · rename_i c ec
          exact qKW value slice pins s σ H v w u1 u2 Q I r1 r2 (.inr (.inr ⟨z,i,c,dx.str,dy.int,h1,ec,Go.here hq R h2 D.mkStr⟩)) hsub
        · exact h2.elim
      | _=>exact gen hr
    | _=>exact hr.elim
  exact (qPF key ha hb hs).imp fun _ _ _=>qCk
noncomputable abbrev TOD:=Rho→Sto→(Option Int→Sto→Prop)→Prop
noncomputable def qPI (K:W.Frag) (t:TOD):TO:=fun σ H Q=>∃ φ st ρ P,Pre K φ st H ρ σ∧t ρ st P∧∀ o st',P o st'→∀ φ' H',Bhd K φ st H φ' st' H'→Q o H'
def DO (X:Cx) (e:Option Expr) (t:TOD):Prop:=PO X e (qPI X.K t)
noncomputable def qw:TOD:=fun _ st P=>P none st
noncomputable def qy (t:TD):TOD:=fun ρ st P=>t ρ st fun x st1=>match x with
  | .int i=>P (some i) st1
  | _=>False
theorem qLB:DO X none qw:=fun pins s σ H Q I h=>by
  k_dat 0"r0"
  exact qK5 pins s σ H Q I (hq none st ht φ H (.refl pre.1))
theorem qKy {e:Expr} {t:TD} (he:DE X e t):DO X (some e) (qy t):=fun pins s σ H Q I h=>by
  refine qL3 he pins s σ H Q I ?_
  k_dat 0"r0"
  k_dat 0"r25"
  cases d with
  | int i=>exact⟨i,dx.int,hq _ st1 h1 φ1 H1 b1⟩
  | _=>exact h1.elim
noncomputable def cutD (xs:List Dt) (lo hi:Option Int):List Dt:=(xs.drop (HT.sIx xs.length 0 lo)).take (HT.sIx xs.length xs.length hi - HT.sIx xs.length 0 lo)
def qJn (te:TD) (tl th:TOD):TD:=fun ρ st P=>te ρ st fun x st1=>tl ρ st1 fun lo st2=>th ρ st2 fun hi st3=>match x with
  | .tup xs=>¬ (HT.sIx xs.length 0 lo=0∧HT.sIx xs.length xs.length hi=xs.length)∧P (.tup (cutD xs lo hi)) st3
  | .lst n=>(match st3[n]? with
    | some o=>P (.lst st3.length) (st3++[.rw (cutD o.items lo hi)])
    | none=>False)
  | _=>False
end
end L3
namespace L3
open PySem PySem.Spec PyProof.Rows L2
noncomputable def qd (K:W.Frag) (sp:RDL):Sp:=fun vs H Q _=>qI5 K sp vs H Q
section
variable {X:Cx} {e:Expr} {es:List Expr} {t:TAD} {pos p:Pos} {x:Str}
theorem qKs {k:Nat} {f:Addr} {fd:FuncData} {ps:List Str} {sp:RDL} (F:qAG X.prog X.w X.K X.mg X.base CX0 k f fd ps (qd X.K sp)) (hr:qAC k X.A) (hm:X.mg x=some (.ref f)) (hk:W.keepIn X.K (.ref f)=true)
    (hb:Binds X.K fd ps []) (ha:DA X (e::es) t) (hg:Gl X x:=by rfl) (hdb:(x==("__debug__" : Str))=false:=by decide) (he:starEach (e::es) X.env=(false,eval e X.env)::starEach es X.env:=by rfl)
    (hpl:(backTo pos (starEach es X.env)).any (·.1)=false:=by rfl):DE X (.Call (.Name x p) (e::es) [] pos) (qI sp t):=by
  refine PE.imp (qLI F hr hg hm hk hb .nil qMe ha hdb he hpl) fun σ H Q h=>?_
  have:=qB5 h
  obtain⟨φ,st,ρ,P,pre,ht,hq⟩:=this
  refine⟨φ,st,ρ,P,pre,ht,fun ds st' hp φ' H' vs b d=>?_⟩
  show qd X.K sp (vs++[]) H' Q E0
  rw [List.append_nil]
  exact hq ds st' hp φ' H' vs b d
theorem qKK {k:Nat} {f:Addr} {fd:FuncData} {ps:List Str} {sp:RDL} (F:qAG X.prog X.w X.K X.mg X.base CX0 k f fd ps (qd X.K sp)) (hr:qAC k X.A) (hm:X.mg x=some (.ref f)) (hk:W.keepIn X.K (.ref f)=true)
    (hb:Binds X.K fd ps []) (hg:Gl X x:=by rfl) (hdb:(x==("__debug__" : Str))=false:=by decide):DE X (.Call (.Name x p) [] [] pos) (qI sp qG):=by
  refine PE.imp (qJd F hr hg hm hk hb .nil qMe hdb) fun σ H Q h=>?_
  have:=qB5 h
  obtain⟨φ,st,ρ,P,pre,ht,hq⟩:=this
  exact hq [] st ht φ H [] (.refl pre.1) .nil
theorem qEG {id:String} {r:RDL} (hc:qCU X (.builtin id) r) (hm:X.mg x=none) (hv:bootBuiltins x=some (.builtin id)) (ha:DA X (e::es) t) (hg:Gl X x:=by rfl) (hn:x ≠ "__name__":=by decide) (hdb:(x==("__debug__" : Str))=false:=by decide)
    (he:starEach (e::es) X.env=(false,eval e X.env)::starEach es X.env:=by rfl) (hpl:(backTo pos (starEach es X.env)).any (·.1)=false:=by rfl):DE X (.Call (.Name x p) (e::es) [] pos) (qI r t) :=
  PE.imp (qKh hc hg hm hv ha hn hdb he hpl) fun σ H Q h=>qB5 h
theorem qB6 {T:String} {r:RDL} (hc:qCU X (.type T) r) (hm:X.mg x=none) (hv:bootBuiltins x=some (.type T)) (ha:DA X (e::es) t) (hg:Gl X x:=by rfl) (hn:x ≠ "__name__":=by decide) (hdb:(x==("__debug__" : Str))=false:=by decide)
    (he:starEach (e::es) X.env=(false,eval e X.env)::starEach es X.env:=by rfl) (hpl:(backTo pos (starEach es X.env)).any (·.1)=false:=by rfl):DE X (.Call (.Name x p) (e::es) [] pos) (qI r t) :=
  PE.imp (qIo hc hg hm hv ha hn hdb he hpl) fun σ H Q h=>qB5 h
def qAO:RDL:=fun ds st P=>match ds with
  | [.str z]=>z.length≤sizeLine∧P (.int z.length) st
  | [x]=>(match qAB st x with
    | some xs=>P (.int xs.length) st
    | none=>False)
  | _=>False
theorem qMv:qCU X (.builtin "len") qAO:=by
  k_dat 0"r15"
  k_dat 0"r16"
  k_dat 0"r18"
  · exact hr.elim
  rotate_left
  · cases x<;>exact hr.elim
  · k_dat 0"r19"
    have gen:(match qAB st x with
      | some xs=>P (.int xs.length) st
      | none=>False)→wpAny (model X.prog X.w) X.A (call (.builtin "len") us) (EP X pins σ Q) X.xe s:=fun hg=>by
      split at hg
      · rename_i xs e
        obtain⟨p,ws,e1,hs,hd⟩:=qBC R dx e
        refine qFZ pins s σ H [v] us Q I rv ⟨p,ws,by rw [e1],hs.elim (fun z=>.inl z.1) fun z=>.inr z.1,?_⟩
        rw [← hd.length]
        exact Go.here hq R hg D.mkInt
      · exact hg.elim
    cases x with
    | str z=>exact qFV pins s σ H [v] us Q I rv ⟨z,by rw [dx.str],hr.1,Go.here hq R hr.2 D.mkInt⟩
    | _=>exact gen hr
def qBs:RDL:=fun ds st P=>match ds with
  | [x]=>(match qAB st x with
    | some xs=>P (.tup xs) st
    | none=>False)
  | _=>False
theorem qJs:qCU X (.type "tuple") qBs:=by
  k_dat 0"r15"
  k_dat 0"r16"
  k_dat 0"r18"
  · exact hr.elim
  rotate_left
  · cases x<;>exact hr.elim
  · k_dat 0"r19"
    have hr':(match qAB st x with
      | some xs=>P (.tup xs) st
      | none=>False):=hr
    split at hr'
    · rename_i xs e
      obtain⟨p,ws,e1,hs,hd⟩:=qBC R dx e
      refine qEH pins s σ H [v] us Q I rv ⟨p,ws,by rw [e1],?_⟩
      rcases hs with ⟨hs,_⟩ | ⟨hs,ex⟩
      · exact .inl ⟨hs,fun l hl=>hq _ st hr' φ _ _ (qA0 R hl) (.qBk (SqT.of qQ) (hd.evo (qAD hl)))⟩
      · exact .inr ⟨hs,Go.here hq R hr' (.qBk hs hd)⟩
    · exact hr'.elim
def qJR:RDL:=fun ds st P=>match ds with
  | [x]=>(match qAB st x with
    | some xs=>P (.lst st.length) (st++[.rw xs])
    | none=>False)
  | _=>False
theorem qKr:qCU X (.type "list") qJR:=by
  k_dat 0"r15"
  k_dat 0"r16"
  k_dat 0"r18"
  · exact hr.elim
  rotate_left
  · cases x<;>exact hr.elim
  · k_dat 0"r19"
    have hr':(match qAB st x with
      | some xs=>P (.lst st.length) (st++[.rw xs])
      | none=>False):=hr
    split at hr'
    · rename_i xs e
      obtain⟨p,ws,e1,hs,hd⟩:=qBC R dx e
      exact qFF pins s σ H [v] us Q I rv ⟨p,ws,by rw [e1],hs.elim (fun z=>.inl z.1) fun z=>.inr z.1,fun l hl=>hq _ _ hr' _ _ _ (qBT R hl hd) qDy⟩
    · exact hr'.elim
end
end L3
namespace L3
open PySem PySem.Spec PyProof.Rows L2
section
variable {X:Cx}
noncomputable def tyN:Dt→Option String
  | .non=>some "NoneType"
  | .bl _=>some "bool"
  | .int _=>some "int"
  | .str _=>some "str"
  | .tup _=>some "tuple"
  | .lst _=>some "list"
  | .ty _=>none
  | .dic _=>none
  | .ins _=>none
  | .exc _ _=>none
noncomputable def isT (t c:String):Bool:=t==c || (t == "bool" && c == "int")
theorem qCq (K:W.Frag) {t c:String} (ht:t = "NoneType" ∨ t = "bool" ∨ t = "int" ∨ t = "str" ∨ t = "tuple" ∨ t = "list") (hc:c = "bool" ∨ c = "int" ∨ c = "str" ∨ c = "tuple" ∨ c = "list"):W.kitOne K (.type t) (.type c)=some (isT t c):=by
  rcases ht with rfl | rfl | rfl | rfl | rfl | rfl<;>rcases hc with rfl | rfl | rfl | rfl | rfl<;>kernel_rfl
def qA3:RDL:=fun ds st P=>match ds with
  | [x,.ty c]=>(c = "bool" ∨ c = "int" ∨ c = "str" ∨ c = "tuple" ∨ c = "list")∧(match tyN x with
    | some t=>P (.bl (isT t c)) st
    | none=>False)
  | _=>False
theorem qIj:qCU X (.builtin "isinstance") qA3:=by
  k_dat 0"r15"
  k_dat 0"r16"
  rcases ds with _ | ⟨x,_ | ⟨y,_ | ⟨z,r⟩⟩⟩
  · exact hr.elim
  · exact hr.elim
  rotate_left
  · cases y<;>exact hr.elim
  · cases y<;>first
      | exact hr.elim
      | skip
    rename_i c
    obtain⟨v,w,rfl,dx,dy⟩:=dl.two
    obtain⟨u,u',rfl,ru,ru'⟩:=vals2 rv
    have:=dy.ty
    subst this
    have:=(show u'=Value.type c from ru')
    subst this
    obtain⟨hc,hr⟩:=hr
    have fin:∀ {t:String},P (.bl (isT t c)) st→∀ tk,EP X pins σ Q (.bool (isT t c)) { s with toks:=tk }:=fun {t} hp tk=>⟨.bl _,H,I.tok tk,rfl,Go.here hq R hp D.qBl⟩
    cases x with
    | non=>cases dx.non;cases ru;exact W.kia_one W.kitx_none I.kIn True.intro (qCq _ (.inl rfl) hc) (fun z=>nomatch z) (fin hr)
    | bl k=>cases dx.bl;cases ru;exact W.kia_one W.kitx_bool I.kIn True.intro (qCq _ (.inr (.inl rfl)) hc) (fun z=>nomatch z) (fin hr)
    | int k=>cases dx.int;obtain⟨t,rfl⟩:=ru;exact W.kia_one W.kitx_int I.kIn True.intro (qCq _ (.inr (.inr (.inl rfl))) hc) (fun z=>nomatch z) (fin hr)
    | str k=>cases dx.str;obtain⟨t,rfl⟩:=ru;exact W.kia_one W.kitx_str I.kIn True.intro (qCq _ (.inr (.inr (.inr (.inl rfl)))) hc) (fun z=>nomatch z) (fin hr)
    | tup xs =>
      obtain⟨a,ws,e1,s1,d1⟩:=dx.tup
      subst e1
      cases ru
      obtain⟨its,_,⟨o,h1,h2,_⟩,_⟩:=I.tuple s1
      exact W.kia_one W.kitx_tuple I.kIn ⟨o,h1,h2⟩ (qCq _ (.inr (.inr (.inr (.inr (.inl rfl))))) hc) (fun z=>nomatch z) (fin hr)
    | lst n =>
      obtain⟨ws,s1⟩:=dx.isL
      obtain⟨hn,e1⟩:=dx.lst
      subst e1
      cases ru
      obtain⟨its,_,pl,_⟩:=I.list s1
      obtain⟨ob,h1,h2,_⟩:=pl.isList
      exact W.kia_one W.kitx_list I.kIn ⟨ob,h1,h2⟩ (qCq _ (.inr (.inr (.inr (.inr (.inr rfl))))) hc) (fun z=>nomatch z) (fin hr)
    | ty _=>exact hr.elim
    | dic _=>exact hr.elim
    | ins _=>exact hr.elim
    | exc _ _=>exact hr.elim
end
end L3
namespace L3
open PySem PySem.Spec PyProof.Rows L2
section
variable {X:Cx} {s:Stmt} {rest:List Stmt} {t u:TSD} {e:Expr} {te:TD} {pos:Pos}
def qM:TSD:=fun E ρ st=>E.nx ρ st
def tseq (t u:TSD):TSD:=fun E ρ st=>t { E with nx:=u E } ρ st
theorem qMB:DSs X [] qM:=(qE5).imp fun E σ H h=>by
  k_dat 0"r2"
  exact n ρ st ht φ H σ (.refl pre.1) pre.2
theorem qF3 (h1:DS X s t) (h2:DSs X rest u):DSs X (s::rest) (tseq t u):=(qCb h1 h2).imp fun E σ H h=>by
  k_dat 0"r2"
  k_dat 0"r56"
  exact⟨φ',st',ρ',P,⟨bh.1,dr⟩,hu,fun ρ2 st2 h2 φ2 H2 σ2 b2 d2=>n ρ2 st2 h2 φ2 H2 σ2 (bh.trans b2) d2,fun ρ2 st2 h2 φ2 H2 σ2 b2 d2=>b ρ2 st2 h2 φ2 H2 σ2 (bh.trans b2) d2,
    fun ρ2 st2 h2 φ2 H2 σ2 b2 d2=>c ρ2 st2 h2 φ2 H2 σ2 (bh.trans b2) d2,fun d st2 h2 φ2 H2 v b2 d2=>r d st2 h2 φ2 H2 v (bh.trans b2) d2⟩
def qDi (te:TD):TSD:=fun E ρ st=>te ρ st fun _ st1=>E.nx ρ st1
theorem qLS (he:DE X e te) (hs:swapsWith e none pos.line X.env=pure false:=by rfl):DS X (.Expr e pos) (qDi te):=(qH1 he hs).imp fun E σ H h=>by
  k_dat 0"r2"
  exact⟨φ,st,ρ,_,pre,ht,fun d st1 h1 φ1 H1 v b1 dx=>n ρ st1 h1 φ1 H1 σ b1 (pre.on b1).2⟩
def qo (te:TD):TSD:=fun E ρ st=>te ρ st E.rt
theorem qOX (he:DE X e te):DS X (.Return (some e) pos) (qo te):=(qJI he).imp fun E σ H h=>by
  k_dat 0"r2"
  exact⟨φ,st,ρ,P.rt,pre,ht,r⟩
def qi (c:TBD) (t u:TSD):TSD:=fun E ρ st=>c ρ st fun k st1=>if k=true then t E ρ st1 else u E ρ st1
theorem qPS {c:Expr} {a b:List Stmt} {tc:TBD} (hc:DT X c tc) (ha:DSs X a t) (hb:DSs X b u):DS X (.If c a b pos) (qi tc t u):=(qMS hc ha hb).imp fun E σ H h=>by
  k_dat 0"r2"
  k_dat 0"r26"
  have on:∀ {v:TSD},v P ρ st1→qGN X.K v E σ H1:=fun {v} hv=>⟨φ1,st1,ρ,P,pre.on b1,hv,fun ρ2 st2 h2 φ2 H2 σ2 b2 d2=>n ρ2 st2 h2 φ2 H2 σ2 (b1.trans b2) d2,fun ρ2 st2 h2 φ2 H2 σ2 b2 d2=>b ρ2 st2 h2 φ2 H2 σ2 (b1.trans b2) d2,
    fun ρ2 st2 h2 φ2 H2 σ2 b2 d2=>c ρ2 st2 h2 φ2 H2 σ2 (b1.trans b2) d2,fun d st2 h2 φ2 H2 v b2 d2=>r d st2 h2 φ2 H2 v (b1.trans b2) d2⟩
  cases k with
  | true=>exact qBw (on (by rw [if_pos rfl] at h1;exact h1))
  | false=>exact qB8 (on (by rw [if_neg Bool.false_ne_true] at h1;exact h1))
noncomputable abbrev TGD:=Dt→Rho→Sto→(Rho→Sto→Prop)→Prop
noncomputable abbrev qGF:=List Dt→Rho→Sto→(Rho→Sto→Prop)→Prop
noncomputable def qHq (K:W.Frag) (g:TGD):TG:=fun v σ H Q=>∃ φ st ρ d P,Pre K φ st H ρ σ∧D K φ st.length H d v∧g d ρ st P∧∀ ρ' st',P ρ' st'→∀ φ' H' σ',Bhd K φ st H φ' st' H'→DR K φ' st'.length H' ρ' σ'→Q σ' H'
noncomputable def qOQ (K:W.Frag) (g:qGF):TGs:=fun vs σ H Q=>∃ φ st ρ ds P,Pre K φ st H ρ σ∧DL K φ st.length H ds vs∧g ds ρ st P∧∀ ρ' st',P ρ' st'→∀ φ' H' σ',Bhd K φ st H φ' st' H'→DR K φ' st'.length H' ρ' σ'→Q σ' H'
def DG (X:Cx) (tg:Expr) (g:TGD):Prop:=PG X tg (qHq X.K g)
def DGs (X:Cx) (tg:List Expr) (g:qGF):Prop:=PGs X tg (qOQ X.K g)
theorem _root_.L2.PG.imp {X:Cx} {e:Expr} {t t':TG} (h:PG X e t) (i:∀ v σ H Q,t' v σ H Q→t v σ H Q):PG X e t':=fun pins s σ H v u Q I r q=>h pins s σ H v u Q I r (i v σ H Q q)
theorem _root_.L2.PGs.imp {X:Cx} {e:List Expr} {t t':TGs} (h:PGs X e t) (i:∀ v σ H Q,t' v σ H Q→t v σ H Q):PGs X e t':=fun pins s σ H v u Q I r q=>h pins s σ H v u Q I r (i v σ H Q q)
noncomputable def qR (i:Nat):TGD:=fun d ρ st P=>P (ρ.set i (some d)) st
theorem qK1 (i:Nat) {x:Str} (hN:X.N.Nodup) (hi:X.N[i]? = some x:=by rfl) (hx:Loc X.env.scope x:=by first | exact Or.inl rfl | exact Or.inr rfl) (hf:X.fn x=true∨X.env.scope.names.lookup x=some .local:=by first | exact .inl rfl | exact .inr rfl | assumption):DG X (.Name x pos) (qR i) :=
  (qFN hN hi hx hf).imp fun v σ H Q h=>by
    obtain⟨φ,st,ρ,d,P,pre,hd,hg,hq⟩:=h
    exact hq _ st hg φ H _ (.refl pre.1) (pre.2.set hd i)
noncomputable def qGX:qGF:=fun ds ρ st P=>match ds with
  | []=>P ρ st
  | _=>False
noncomputable def qCu (g:TGD) (gs:qGF):qGF:=fun ds ρ st P=>match ds with
  | d::r=>g d ρ st fun ρ1 st1=>gs r ρ1 st1 P
  | _=>False
theorem qL2:DGs X [] qGX:=(qLp).imp fun v σ H Q h=>by
  obtain⟨φ,st,ρ,ds,P,pre,hd,hg,hq⟩:=h
  cases ds with
  | nil =>
    have:v=[]:=by simpa [DL] using hd
    exact⟨this,hq _ st hg φ H _ (.refl pre.1) pre.2⟩
  | cons _ _=>exact hg.elim
theorem qKR {es:List Expr} {g:TGD} {gs:qGF} (h1:DG X e g) (h2:DGs X es gs) (hs:(assignEach (e::es) X.env).map (·.2)=assign e X.env::(assignEach es X.env).map (·.2):=by rfl):DGs X (e::es) (qCu g gs):=(qKI h1 h2 hs).imp fun v σ H Q h=>by
  obtain⟨φ,st,ρ,ds,P,pre,hd,hg,hq⟩:=h
  cases ds with
  | nil=>exact hg.elim
  | cons d r =>
    simp only [DL] at hd
    obtain⟨w,ws,rfl,dw,dws⟩:=hd
    refine⟨w,ws,rfl,φ,st,ρ,d,_,pre,dw,hg,fun ρ1 st1 h1 φ1 H1 σ1 b1 dr1=>?_⟩
    exact⟨φ1,st1,ρ1,r,P,⟨b1.1,dr1⟩,dws.evo b1.2,h1,fun ρ2 st2 h2 φ2 H2 σ2 b2 d2=>hq ρ2 st2 h2 φ2 H2 σ2 (b1.trans b2) d2⟩
noncomputable def qCc (n:Nat) (gs:qGF):TGD:=fun d ρ st P=>match qAB st d with
  | some xs=>xs.length=n∧gs xs ρ st P
  | none=>False
theorem qEo {prog:Program} {w:World} {A:Around} {E:Value→Shared→Prop} {it l:Addr} {items:Array Value} (hne:l≠it):∀ (n i:Nat) (s:Shared) (Q:List Value→Shared→Prop),s.heap.IsListIter it l i→s.heap.IsList l items→i+n≤items.size →
    (∀ h',h'.IsListIter it l (i+n)→Heap.SameBut it s.heap h'→Q ((items.toList.drop i).take n) { s with heap:=h' })→wpAny (model prog w) A (draw (.ref it) n) Q E s
  | 0,i,s,Q,hit,hl,hn,h=>by
    unfold draw
    have:=h s.heap (by simpa using hit) (.refl ..)
    simpa using wpAny_pure this
  | n + 1,i,s,Q,hit,hl,hn,h=>by
    unfold draw
    have hi:i<items.size:=by lia
    refine wpAny_bind (wpAny_pyNext_list_item hit hl (x:=items[i]) (by simp [hi]) fun h1 hit1 sb1=>?_)
    dsimp only
    refine wpAny_bind (wpAny_holding ?_)
    refine qEo hne n (i+1) { s with heap:=h1 } _ hit1 (hl.extBut sb1.extBut hne) (by lia) fun h2 hit2 sb2=>?_
    refine wpAny_pure ?_
    have e:(items.toList.drop i).take (n+1)=items[i]::(items.toList.drop (i+1)).take n:=by
      rw [List.drop_eq_getElem_cons (by simpa using hi),List.take_succ_cons]
      simp
    have:=h h2 (by rw [show i+(n+1)=i+1+n by lia];exact hit2) (sb1.trans sb2)
    rw [e] at this
    exact this
end
end L3
namespace L3
open PySem PySem.Spec PyProof.Rows L2
section
variable {prog:Program} {w:World} {A:Around} {E:Value→Shared→Prop} {s:Shared}
theorem qC3 {l:Addr} {items:Array Value} {Q:List Value→Shared→Prop} (hh:A.handled=none) (hl:s.heap.IsList l items)
    (hQ:∀ h',Heap.ExtBut s.heap.objs.size s.heap h'→Q items.toList { s with heap:=h' }):wpAny (model prog w) A (unpackItems (.ref l) items.size none) Q E s:=by
  have hlt:l≠s.heap.objs.size:=by obtain⟨o,ho,_⟩:=hl;exact Nat.ne_of_lt (Heap.lt_size ho)
  unfold unpackItems
  refine wpAny_bind ?_
  unfold notIterableAtAll
  refine wpAny_bind (wpAny_specialOf hl.typeIs slot_list_iter.lookup ?_)
  refine wpAny_pure ?_
  simp only [Bool.false_eq_true,if_false]
  refine wpAny_bind (wpAny_holding (wpAny_pyIter_list hl ?_))
  refine wpAny_bind (wpAny_holding (qEo hlt items.size 0 _ _ ⟨_,Heap.get?_push_size _ rfl,rfl,rfl⟩ (hl.push _) (by lia) fun h₁ hit₁ hs₁=>?_))
  have hall:List.take items.size (List.drop 0 items.toList)=items.toList:=by
    rw [List.drop_zero];exact List.take_of_length_le (by simp)
  rw [hall]
  rw [if_neg (by simp)]
  have hl₁:h₁.IsList l items:=(hl.push _).extBut hs₁.extBut hlt
  refine wpAny_bind (wpAny_holding (wpAny_pyNext_list_end hh hit₁ hl₁ (by simp) fun h₂ he₂=>?_))
  simp only [Option.isSome_none,Bool.false_eq_true,if_false]
  exact wpAny_pure (hQ h₂ fun b o hb e=>he₂ b o hb (hs₁.extBut b o hb (Heap.get?_push_of_some _ e)))
theorem qCV {env:Env} {elts:List Expr} {x1} {pos:Pos} {t:Addr} {items:Array Value} {Q:Unit→Shared→Prop} (hh:A.handled=none) (ht:s.heap.IsList t items)
    (hn:(assignEach elts env).length=items.size) (hstar:(assignEach elts env).findIdx? (·.1)=none)
    (h:∀ h',Heap.ExtBut s.heap.objs.size s.heap h'→wpAny (model prog w) A (assignInOrder ((assignEach elts env).map (·.2)) items.toList) Q E { s with heap:=h' }) :
    wpAny (model prog w) A (assign (.Tuple elts x1 pos) env (.ref t)) Q E s:=by
  rw [assign_Tuple]
  refine wpAny_bind (wpAny_standAt ?_)
  unfold unpack
  rw [hn,hstar]
  exact wpAny_bind (wpAny_holding (qC3 hh ht h))
end
section
variable {X:Cx} {pos:Pos} {e:Expr} {te:TD}
theorem qII {es:List Expr} {k:Nat} {gs:qGF} (n:Nat) (hc:X.calm=true) (h:DGs X es gs) (hn:(assignEach es X.env).length=n:=by rfl) (hst:(assignEach es X.env).findIdx? (·.1)=none:=by rfl):DG X (.Tuple es k pos) (qCc n gs):=by
  intro pins s σ H v u Q I r hw
  obtain⟨φ,st,ρ,d,P,pre,hd,hg,hq⟩:=hw
  unfold qCc at hg
  split at hg
  · rename_i xs ex
    obtain⟨hl,hg⟩:=hg
    obtain⟨p,vs,e1,hs,dl⟩:=qBC pre.1 hd ex
    subst e1
    cases r
    have hlen:=dl.length
    rcases hs with ⟨hs,_⟩ | ⟨hs,_⟩
    · obtain⟨its,rv,pl,_⟩:=I.list hs
      have:=rv.length
      refine qCV (I.ok.hd hc) pl.isList (by rw [hn,List.size_toArray];lia) hst fun h' hx=>?_
      k_dat 0"r57"
      exact h pins _ σ H vs _ Q I1 (by simpa using rv) ⟨φ,st,ρ,xs,P,pre,dl,hg,hq⟩
    · obtain⟨its,rv,ht,_⟩:=I.tuple hs
      have:=rv.length
      refine assign_Tuple_tuple (I.ok.hd hc) ht (by rw [hn,List.size_toArray];lia) hst fun h' hx=>?_
      k_dat 0"r57"
      exact h pins _ σ H vs _ Q I1 (by simpa using rv) ⟨φ,st,ρ,xs,P,pre,dl,hg,hq⟩
  · exact hg.elim
def qZ (te:TD) (g:TGD):TSD:=fun E ρ st=>te ρ st fun d st1=>g d ρ st1 E.nx
theorem qKZ {K:W.Frag} {te:TD} {g:TGD} {E:Ends} {σ:L2.St} {H:Hp} (h:qGN K (qZ te g) E σ H):qLi (qBF K te) (qHq K g) E σ H:=by
  k_dat 0"r2"
  k_dat 0"r25"
  exact⟨φ1,st1,ρ,d,P.nx,pre.on b1,dx,h1,fun ρ2 st2 h2 φ2 H2 σ2 b2 d2=>n ρ2 st2 h2 φ2 H2 σ2 (b1.trans b2) d2⟩
theorem qMs {tg:Expr} {g:TGD} (he:DE X e te) (hg:DG X tg g) (hs:swapsWithSole [tg] e pos.line X.env=pure false:=by rfl) (hw:swappedStores [tg] e X.env=pure none:=by rfl)
    (h1:(assignEach [tg] X.env).map (·.2)=[assign tg X.env]:=by rfl):DS X (.Assign [tg] e pos) (qZ te g):=(qOa he hg hs hw h1).imp fun _ _ _=>qKZ
theorem qOj (i:Nat) {x:Str} {pos':Pos} (hN:X.N.Nodup) (he:DE X e te) (hi:X.N[i]? = some x:=by rfl) (hx:Loc X.env.scope x:=by first | exact Or.inl rfl | exact Or.inr rfl) (hs:swapsWith e (some (.Name x pos')) pos.line X.env=pure false:=by rfl)
    (hf:X.fn x=true∨X.env.scope.names.lookup x=some .local:=by first | exact .inl rfl | exact .inr rfl | assumption):DS X (.Assign [.Name x pos'] e pos) (qZ te (qR i)):=(qNT hN hi hx he hs hf).imp fun E σ H h=>by
  k_dat 0"r2"
  exact⟨φ,st,ρ,_,pre,ht,fun d st1 h1 φ1 H1 v b1 dx=>n _ st1 h1 φ1 H1 _ b1 ((pre.on b1).2.set dx i)⟩
noncomputable def qLE (to ti:TD):TGD:=fun d ρ st P=>to ρ st fun o st1=>ti ρ st1 fun i st2=>match o,i with
  | .lst n,.int k=>(match st2[n]? with
    | some (.rw xs)=>(match ixN xs.length k with
      | some j=>P ρ (st2.set n (.rw (xs.set j d)))
      | none=>False)
    | _=>False)
  | _,_=>False
theorem qNQ {o i:Expr} {to ti:TD} (ho:DE X o to) (hi:DE X i ti)
    (ha:∀ v,assign (.Subscript o i pos) X.env v=(do
      let ov ← holding [v] (eval o X.env)
      let iv ← holding [v,ov] (eval i X.env)
      standAt pos
      holding [v,ov,iv] (setItem ov iv v)
      release [v,ov,iv] []):=by intro _;rfl):DG X (.Subscript o i pos) (qLE to ti):=(qNZ ho hi set_list ha).imp fun v σ H Q h=>by
  obtain⟨φ,st,ρ,d,P,pre,hd,hg,hq⟩:=h
  refine⟨φ,st,ρ,_,pre,hg,fun x st1 h1 φ1 H1 w b1 dx=>?_⟩
  refine⟨φ1,st1,ρ,_,pre.on b1,h1,fun y st2 h2 φ2 H2 z b2 dy=>?_⟩
  cases x with
  | lst n =>
    cases y with
    | int k =>
      have h2':(match st2[n]? with
        | some (.rw xs)=>(match ixN xs.length k with
          | some j=>P ρ (st2.set n (.rw (xs.set j d)))
          | none=>False)
        | _=>False):=h2
      split at h2'
      · rename_i xs ex
        split at h2'
        · rename_i j ej
          obtain⟨vs,hv,dl⟩:=b2.1.rw n xs ex
          have dx2:=dx.evo b2.2
          have hd2:=(hd.evo b1.2).evo b2.2
          refine⟨φ2 n,vs,k,j,dx2.lst.2,dy.int,hv,by rw [← dl.length];exact ej,?_⟩
          have bb:Bhd X.K φ2 st2 H2 φ2 (st2.set n (.rw (xs.set j d))) (upd H2 (φ2 n) (.lst (vs.set j v))):=⟨b2.1.qPD ex (dl.set hd2 j),qFD hv⟩
          exact hq _ _ h2' φ2 _ σ (b1.trans (b2.trans bb)) (((pre.on b1).on b2).on bb).2
        · exact h2'.elim
      · exact h2'.elim
    | _=>exact h2.elim
  | _=>cases y<;>exact h2.elim
def qAj (to te:TD):TD:=fun ρ st P=>to ρ st fun o st1=>match o with
  | .lst n=>te ρ st1 fun d st2=>(match st2[n]? with
    | some (.rw xs)=>xs.length<sizeLine∧P .non (st2.set n (.rw (xs++[d])))
    | _=>False)
  | _=>False
theorem qIO {o:Expr} {to:TD} {apos cpos:Pos} (ho:DE X o to) (he:DE X e te)
    (hbase:attributeBase o "append" X.env (eval o X.env)=eval o X.env:=by rfl)
    (hfew:((backTo cpos (starEach [e] X.env)).all (fun x=>!x.1)&&(backToKw cpos (keywordEach [] X.env)).all (fun x=>x.1.isSome)
      && decide (([e]:List Expr).length+([]:List Keyword).length+(if ([]:List Keyword).isEmpty then 0 else 1)<30))=true:=by rfl)
    (hline:(apos.endLine==cpos.line)=true:=by rfl) (hs:starEach [e] X.env=(false,eval e X.env)::starEach [] X.env:=by rfl) (hplain:(backTo cpos (starEach ([]:List Expr) X.env)).any (·.1)=false:=by rfl) :
    DE X (.Call (.Attribute o "append" apos) [e] [] cpos) (qAj to te):=by
  refine PE.imp (qEW PySem.F.plainAttrs_list PySem.F.slot_list_append PySem.F.type_list_append qIg ho (qAk he qBR hs) hbase hfew hline hs hplain) fun σ H Q h=>?_
  k_dat 0"r0"
  k_dat 0"r12"
  cases x with
  | lst n =>
    have hn:=dx.lst.1
    obtain⟨so,eo⟩:∃ so,st1[n]? = some so:=⟨st1[n],by simp [hn]⟩
    obtain⟨ws,hws,_⟩:=b1.1.seq eo dx.isL
    refine⟨?_,?_⟩
    · rw [dx.lst.2]
      exact .inl ⟨rfl,ws,hws⟩
    refine⟨φ1,st1,ρ,(fun ds st2=>match ds with
      | [d]=>(match st2[n]? with
        | some (.rw xs)=>xs.length<sizeLine∧P .non (st2.set n (.rw (xs++[d])))
        | _=>False)
      | _=>False),pre.on b1,h1,fun ds st2 h2 φ2 H2 zs b2 dz=>?_⟩
    k_dat 0"r27"
    · exact h2.elim
    rotate_left
    · exact h2.elim
    · have h2:(match st2[n]? with
        | some (.rw xs)=>xs.length<sizeLine∧P .non (st2.set n (.rw (xs++[d])))
        | _=>False):=h2
      split at h2
      · rename_i xs ex
        obtain⟨y,rfl,dy⟩:=dz.one
        obtain⟨vs,hv,dl⟩:=b2.1.rw n xs ex
        have dx2:=dx.evo b2.2
        have bb:Bhd X.K φ2 st2 H2 φ2 (st2.set n (.rw (xs++[d]))) (upd H2 (φ2 n) (.lst (vs++[y]))):=⟨b2.1.qPD ex (dl.append (.cons dy .nil)),qFD hv⟩
        exact⟨φ2 n,vs,y,dx2.lst.2,rfl,hv,by rw [← dl.length];exact h2.1,hq _ _ h2.2 φ2 _ _ (b1.trans (b2.trans bb)) D.qHa⟩
      · exact h2.elim
  | _=>exact h1.elim
end
end L3
namespace L3
open PySem PySem.Spec PyProof.Rows L2
def qIc (items:List Dt) (ok:Sto→Prop) (g:TGD) (tb:TSD):TSD:=fun E ρ st=>∃ Inv:Nat→Rho→Sto→Prop,Inv 0 ρ st∧(∀ i ρ' st',i≤items.length→Inv i ρ' st'→ok st') ∧
  (∀ (i:Nat) d ρ' st',items[i]? = some d→Inv i ρ' st'→g d ρ' st' fun ρ2 st2=>tb { E with nx:=Inv (i+1),ct:=Inv (i+1),bk:=E.nx } ρ2 st2)∧∀ ρ' st',Inv items.length ρ' st'→E.nx ρ' st'
def qDl (K:W.Frag) (φ1:Nat→Addr) (st1:Sto) (H1:Hp) (J:It) (items:List Dt) (ok:Sto→Prop):Prop :=
  ∀ (i:Nat) φ' st' H',Bhd K φ1 st1 H1 φ' st' H'→ok st'→i≤items.length→(i=items.length→J.stop i H') ∧
    (∀ d,items[i]? = some d→J.go i H'∧∀ y H2,J.yld i H' y H2→Bhd K φ' st' H' φ' st' H2∧D K φ' st'.length H2 d y)
section
variable {K:W.Frag} {φ1:Nat→Addr} {st1:Sto} {H1:Hp} {ρ1:Rho} {σ1:L2.St} {J:It} {items:List Dt} {ok:Sto→Prop} {g:TGD} {tb:TSD}
theorem qLq {E:qAZ} {E':Ends} (pre:Pre K φ1 st1 H1 ρ1 σ1) (hJ:qDl K φ1 st1 H1 J items ok) (hf:qIc items ok g tb E ρ1 st1)
    (n:∀ ρ' st',E.nx ρ' st'→∀ φ' H' σ',Bhd K φ1 st1 H1 φ' st' H'→DR K φ' st'.length H' ρ' σ'→E'.nx σ' H')
    (r:∀ d st',E.rt d st'→∀ φ' H' v,Bhd K φ1 st1 H1 φ' st' H'→D K φ' st'.length H' d v→E'.rt v H') :
    ∃ W:Nat→Nat→L2.St→Hp→Prop,(∃ m,W 0 m σ1 H1)∧∀ i m σ H,W i m σ H →
      (J.stop i H∧E'.nx σ H)∨(J.go i H∧∃ N:L2.St→Hp→Prop,(∀ σ' H',N σ' H'→∃ m',m'<m∧W (i+1) m' σ' H')∧∀ x H',J.yld i H x H'→qHq K g x σ H' fun σ2 H2=>qGN K tb { E' with nx:=N,ct:=N,bk:=E'.nx } σ2 H2):=by
  obtain⟨Inv,h0,hok,step,fin⟩:=hf
  refine⟨fun i m σ H=>m=items.length - i∧i≤items.length∧∃ φ' st' ρ',Pre K φ' st' H ρ' σ∧Bhd K φ1 st1 H1 φ' st' H∧Inv i ρ' st',⟨items.length,by simp,Nat.zero_le _,φ1,st1,ρ1,pre,.refl pre.1,h0⟩,?_⟩
  rintro i m σ H ⟨rfl,hi,φ',st',ρ',pre',bh,hI⟩
  obtain⟨js,jg⟩:=hJ i φ' st' H bh (hok i ρ' st' hi hI) hi
  by_cases hlt:i<items.length
  · have ed:items[i]? = some items[i]:=by simp [hlt]
    obtain⟨go,yl⟩:=jg _ ed
    refine .inr ⟨go,fun σ3 H3=>∃ φ3 st3 ρ3,Pre K φ3 st3 H3 ρ3 σ3∧Bhd K φ1 st1 H1 φ3 st3 H3∧Inv (i+1) ρ3 st3,fun σ3 H3 h3=>⟨items.length - (i+1),by lia,rfl,hlt,h3⟩,fun y H2 hy=>?_⟩
    obtain⟨b2,dy⟩:=yl y H2 hy
    k_dat 0"r58"
    have b13:=bh.trans (b2.trans b3)
    refine⟨φ3,st3,ρ3,_,⟨b3.1,d3⟩,h3,fun ρ4 st4 h4 φ4 H4 σ4 b4 d4=>⟨φ4,st4,ρ4,⟨b4.1,d4⟩,b13.trans b4,h4⟩,fun ρ4 st4 h4 φ4 H4 σ4 b4 d4=>n ρ4 st4 h4 φ4 H4 σ4 (b13.trans b4) d4,
      fun ρ4 st4 h4 φ4 H4 σ4 b4 d4=>⟨φ4,st4,ρ4,⟨b4.1,d4⟩,b13.trans b4,h4⟩,fun d st4 h4 φ4 H4 v b4 d4=>r d st4 h4 φ4 H4 v (b13.trans b4) d4⟩
  · have e:i=items.length:=by lia
    subst e
    exact .inl ⟨js rfl,n ρ' st' (fin ρ' st' hI) φ' H σ bh pre'.2⟩
end
noncomputable abbrev TID:=Rho→Sto→(List Dt→(Sto→Prop)→Sto→Prop)→Prop
noncomputable def qMH (K:W.Frag) (t:TID):TI:=fun σ H R=>∃ φ st ρ P,Pre K φ st H ρ σ∧t ρ st P∧∀ items ok st',P items ok st'→∀ φ' H' J,Bhd K φ st H φ' st' H'→qDl K φ' st' H' J items ok→R J H'
def DI (X:Cx) (tg it:Expr) (t:TID):Prop:=PI X tg it (qMH X.K t)
def qDE (ti:TID) (g:TGD) (tb:TSD):TSD:=fun E ρ st=>ti ρ st fun items ok st1=>qIc items ok g tb E ρ st1
section
variable {X:Cx} {tg iter:Expr} {body:List Stmt} {pos:Pos} {ti:TID} {g:TGD} {tb:TSD}
theorem qNj (hp:PassesOwn (model X.prog X.w) X.A X.env X.xe) (hc:X.calm=true) (hi:DI X tg iter ti) (hg:DG X tg g) (hb:DSs X body tb) (hs:∀ x,foldedSetIterable iter X.env x=pure x:=by intro _;rfl):DS X (.For tg iter body [] pos) (qDE ti g tb) :=
  (qJw hp hc hi hg hb hs).imp fun E σ H h=>by
    k_dat 0"r2"
    k_dat 0"r43"
    exact qLq (pre.on b1) hJ h1 (fun ρ2 st2 h2 φ2 H2 σ2 b2 d2=>n ρ2 st2 h2 φ2 H2 σ2 (b1.trans b2) d2) fun d st2 h2 φ2 H2 v b2 d2=>r d st2 h2 φ2 H2 v (b1.trans b2) d2
def qGp (te:TD):TID:=fun ρ st P=>te ρ st fun x st1=>match qAB st1 x with
  | some xs=>P xs (fun st'=>qAB st' x=some xs) st1
  | none=>False
theorem qN5 {te:TD} (he:DE X iter te):DI X tg iter (qGp te):=by
  intro pins s σ H R I h
  k_dat 0"r0"
  refine thn (he pins s σ H _ I ⟨φ,st,ρ,_,pre,ht,fun x st1 h1 φ1 H1 v b1 dx=>(show ∃ φ1 st1 x,Bhd X.K φ st H φ1 st1 H1∧D X.K φ1 st1.length H1 x v∧(match qAB st1 x with
    | some xs=>P xs (fun st'=>qAB st' x=some xs) st1
    | none=>False) from⟨φ1,st1,x,b1,dx,h1⟩)⟩) fun u s1 ⟨v,H1,I1,ru,φ1,st1,x,b1,dx,h1⟩=>?_
  split at h1
  · rename_i xs ex
    obtain⟨a,vs,e1,hs,dl⟩:=qBC b1.1 dx ex
    subst e1
    cases ru
    rcases hs with ⟨hs,n,exn⟩ | ⟨hs,_⟩
    · obtain⟨its,rv,pl,hz⟩:=I1.list hs
      refine wpAny_pyIter_list pl.isList ?_
      refine⟨s1.heap.objs.size,[s1.heap.objs.size],_,_,H1,rfl,I1.kept (t':=s1.toks) fun b o e=>Heap.get?_push_of_some _ e,qIA a _,⟨_,Heap.get?_push_size _ rfl,rfl,rfl⟩,fun b hb=>?_,hq xs _ st1 h1 φ1 H1 _ b1 ?_⟩
      · have e:b=s1.heap.objs.size:=by simpa using hb
        subst e
        k_dat 0"r30"
      · intro i φ' st' H' bh hok hi
        obtain⟨a',ws,e2,hs',dl'⟩:=qBC bh.1 (dx.evo bh.2) hok
        cases e2
        have hsl:SqL X.K H' a ws:=by
          rcases hs' with z | ⟨_,z⟩
          · exact z.1
          · rw [exn] at z;cases z
        have hlen:=dl'.length
        refine⟨fun e=>⟨ws,hsl,by lia⟩,fun d ed=>?_⟩
        obtain⟨y,ey,dy⟩:=dl'.get ed
        refine⟨⟨ws,y,hsl,ey⟩,fun y' H2 hy=>?_⟩
        obtain⟨rfl,hy⟩:=hy
        have:=hy ws hsl
        rw [ey] at this
        cases this
        exact⟨.refl bh.1,dy⟩
    · obtain⟨its,rv,pl,hz⟩:=I1.tuple hs
      refine wpAny_pyIter_tuple (show s1.heap.IsTuple a its.toArray from pl) ?_
      refine⟨s1.heap.objs.size,[s1.heap.objs.size],_,_,H1,rfl,I1.kept (t':=s1.toks) fun b o e=>Heap.get?_push_of_some _ e,qHL a _,⟨_,Heap.get?_push_size _ rfl,rfl,rfl⟩,fun b hb=>?_,hq xs _ st1 h1 φ1 H1 _ b1 ?_⟩
      · have e:b=s1.heap.objs.size:=by simpa using hb
        subst e
        k_dat 0"r30"
      · intro i φ' st' H' bh hok hi
        have hsl:SqT X.K H' a vs:=bh.2.tup a vs hs
        have dl':=dl.evo bh.2
        have hlen:=dl'.length
        refine⟨fun e=>⟨vs,hsl,by lia⟩,fun d ed=>?_⟩
        obtain⟨y,ey,dy⟩:=dl'.get ed
        refine⟨⟨vs,y,hsl,ey⟩,fun y' H2 hy=>?_⟩
        obtain⟨rfl,hy⟩:=hy
        have:=hy vs hsl
        rw [ey] at this
        cases this
        exact⟨.refl bh.1,dy⟩
  · exact h1.elim
noncomputable def qAi (lo:Int) (n:Nat):List Dt:=(List.range n).map fun k=>.int (lo+(k:Nat))
theorem qIl {lo:Int} {n i:Nat} {d:Dt} (h:(qAi lo n)[i]? = some d):i<n∧d = .int (lo+(i:Nat)):=by
  unfold qAi at h
  rw [List.getElem?_map] at h
  cases q:(List.range n)[i]? with
  | none=>rw [q] at h;cases h
  | some k =>
    rw [q] at h
    have:=List.getElem?_eq_some_iff.mp q
    obtain⟨h1,h2⟩:=this
    rw [List.getElem_range] at h2
    subst h2
    rw [List.length_range] at h1
    exact⟨h1,(Option.some.inj h).symm⟩
theorem qEi {lo:Int} {n:Nat}:(qAi lo n).length=n:=by unfold qAi;simp
theorem qFb {K:W.Frag} {φ:Nat→Addr} {st:Sto} {H:Hp} {lo:Int} {n:Nat}:qDl K φ st H (Itr lo n) (qAi lo n) (fun _=>True):=fun i φ' st' H' bh _ hi=>by
  rw [qEi] at hi
  refine⟨fun e=>by rw [qEi] at e;exact Nat.le_of_eq e.symm,fun d ed=>?_⟩
  obtain⟨h1,rfl⟩:=qIl ed
  refine⟨h1,fun y H2 hy=>?_⟩
  obtain⟨rfl,rfl⟩:=hy
  exact⟨.refl bh.1,D.mkInt⟩
def qCD (ta:TD):TID:=fun ρ st P=>ta ρ st fun x st1=>match x with
  | .int j=>-(2 ^ 62)≤j∧j<2 ^ 62∧P (qAi 0 j.toNat) (fun _=>True) st1
  | _=>False
theorem qIT {a:Expr} {ta:TD} {p:Pos} (hm:X.mg "range" = none) (ha:DE X a ta) (hg:Gl X "range":=by rfl) (hs:starEach [a] X.env=[(false,eval a X.env)]:=by rfl):DI X tg (.Call (.Name "range" p) [a] [] pos) (qCD ta):=by
  intro pins s σ H R I h
  refine qIk hg hm (qAk ha qBR hs) hs pins s σ H R I ?_
  k_dat 0"r0"
  refine⟨φ,st,ρ,(fun ds st1=>match ds with
    | [x]=>(match x with
      | .int j=>-(2 ^ 62)≤j∧j<2 ^ 62∧P (qAi 0 j.toNat) (fun _=>True) st1
      | _=>False)
    | _=>False),pre,?_,fun ds st1 h1 φ1 H1 vs b1 dl=>?_⟩
  · exact ht
  · k_dat 0"r27"
    · exact h1.elim
    rotate_left
    · exact h1.elim
    · cases d<;>first
        | exact h1.elim
        | skip
      rename_i j
      obtain⟨v,rfl,dv⟩:=dl.one
      obtain⟨h2,h3,h4⟩:=h1
      exact⟨j,by rw [dv.int],h2,h3,hq _ _ st1 h4 φ1 H1 _ b1 qFb⟩
def qMN (items:List Dt) (ok:Sto→Prop) (tc:TBD) (te:TD) (cρ:Rho) (st:Sto) (Fin:List Dt→Sto→Prop):Prop:=∃ Inv:Nat→List Dt→Sto→Prop,Inv 0 [] st∧(∀ i ys st',i≤items.length→Inv i ys st'→ok st') ∧
  (∀ (i:Nat) d ys st',items[i]? = some d→Inv i ys st'→ys.length<sizeLine∧tc (some d::cρ) st' fun k st1=>if k=true then te (some d::cρ) st1 fun y st2=>Inv (i+1) (ys++[y]) st2 else Inv (i+1) ys st1) ∧
  ∀ ys st',Inv items.length ys st'→Fin ys st'
noncomputable def qIJ (caps:List (Nat×Str)) (ρ:Rho):Rho:=caps.map fun p=>(ρ[p.1]?).join
theorem qNg {K:W.Frag} {φ:Nat→Addr} {N:Nat} {H:Hp} {ρ:Rho} {σ:L2.St} (h:DR K φ N H ρ σ) (caps:List (Nat×Str)):DR K φ N H (qIJ caps ρ) (qFf caps σ):=by
  refine⟨by unfold qIJ qFf;simp,fun i d e=>?_⟩
  unfold qIJ at e
  rw [List.getElem?_map] at e
  unfold qFf
  rw [List.getElem?_map]
  cases q:caps[i]? with
  | none=>rw [q] at e;cases e
  | some p =>
    rw [q] at e
    have e':(ρ[p.1]?).join=some d:=Option.some.inj e
    have e2:ρ[p.1]? = some (some d):=by
      cases q:ρ[p.1]? with
      | none=>rw [q] at e';cases e'
      | some o=>rw [q] at e';exact congrArg some e'
    obtain⟨v,ev,dv⟩:=h.2 p.1 d e2
    exact⟨v,by show some ((σ[p.1]?).join)=_;rw [ev];rfl,dv⟩
theorem qLg {K:W.Frag} {φ:Nat→Addr} {N:Nat} {H:Hp} {ρ:Rho} {σ:L2.St} {o:Option V} {d:Dt} {v:V} (h:DR K φ N H ρ σ) (hd:D K φ N H d v):DR K φ N H (some d::ρ) (some v::σ):=by
  refine⟨by rw [List.length_cons,List.length_cons,h.1],fun i e q=>?_⟩
  cases i with
  | zero=>simp at q;subst q;exact⟨v,rfl,hd⟩
  | succ i=>exact h.2 i e (by simpa using q)
def DIf (X:Cx) (ifs:List Expr) (t:TBD):Prop:=PIf X ifs (liftT X.K t)
theorem qL0:DIf X [] (fun _ st P=>P true st):=fun pins s σ H Q I h=>by
  k_dat 0"r0"
  exact qK3 pins s σ H Q I (hq true st ht φ H (.refl pre.1))
theorem qJT {K:W.Frag} {φ1:Nat→Addr} {st1:Sto} {H1:Hp} {cρ:Rho} {cσ:L2.St} {J:It} {items:List Dt} {ok:Sto→Prop} {tc:TBD} {te:TD} {Fin:List Dt→Sto→Prop} {Fin':List V→Hp→Prop}
    (R:Rep K φ1 st1 H1) (dr:DR K φ1 st1.length H1 cρ cσ) (hJ:qDl K φ1 st1 H1 J items ok) (hc:qMN items ok tc te cρ st1 Fin)
    (hF:∀ ys st' φ' H' vs,Fin ys st'→Bhd K φ1 st1 H1 φ' st' H'→DL K φ' st'.length H' ys vs→Fin' vs H') :
    qKH J (qDc 0) (liftT K tc) (qBF K te) (List.replicate 1 none++cσ) H1 Fin':=by
  obtain⟨Inv,h0,hok,step,fin⟩:=hc
  refine⟨fun i m σ vs H=>m=items.length - i∧i≤items.length∧∃ φ' st' ys o,σ=o::cσ∧Bhd K φ1 st1 H1 φ' st' H∧DL K φ' st'.length H ys vs∧Inv i ys st',
    ⟨items.length,by simp,Nat.zero_le _,φ1,st1,[],none,rfl,.refl R,.nil,h0⟩,?_⟩
  rintro i m σ vs H ⟨rfl,hi,φ',st',ys,o,rfl,bh,dl,hI⟩
  obtain⟨js,jg⟩:=hJ i φ' st' H bh (hok i ys st' hi hI) hi
  by_cases hlt:i<items.length
  · have ed:items[i]? = some items[i]:=by simp [hlt]
    obtain⟨go,yl⟩:=jg _ ed
    obtain⟨hz,hstep⟩:=step i _ ys st' ed hI
    refine .inr ⟨go,by rw [← dl.length];exact hz,fun y H2 hy=>?_⟩
    obtain⟨b2,dy⟩:=yl y H2 hy
    have b12:=bh.trans b2
    have pre2:Pre K φ' st' H2 (some items[i]::cρ) (some y::cσ):=⟨b2.1,qLg (o:=none) (dr.evo b12.2) dy⟩
    show liftT K tc (some y::cσ) H2 _
    refine⟨φ',st',_,_,pre2,hstep,fun k st3 h3 φ3 H3 b3=>?_⟩
    cases k with
    | false =>
      rw [if_neg Bool.false_ne_true] at h3 ⊢
      exact⟨items.length - (i+1),by lia,rfl,hlt,φ3,st3,ys,some y,rfl,b12.trans b3,dl.evo (b2.2.trans b3.2),h3⟩
    | true =>
      rw [if_pos rfl] at h3 ⊢
      refine⟨φ3,st3,_,_,pre2.on b3,h3,fun z st4 h4 φ4 H4 w b4 dz=>?_⟩
      exact⟨items.length - (i+1),by lia,rfl,hlt,φ4,st4,ys++[z],some y,rfl,b12.trans (b3.trans b4),(dl.evo (b2.2.trans (b3.2.trans b4.2))).append (.cons dz .nil),h4⟩
  · have e:i=items.length:=by lia
    subst e
    exact .inl ⟨js rfl,hF ys st' φ' H vs (fin ys st' hI) bh dl⟩
def qCh (ti:TID) (tc:TBD) (te:TD) (caps:List (Nat×Str)):TD:=fun ρ st P=>ti ρ st fun items ok st1=>qMN items ok tc te (qIJ caps ρ) st1 fun ys st2=>P (.lst st2.length) (st2++[.rw ys])
theorem qEl {K:W.Frag} {tc:TBD} {te:TD} {caps:List (Nat×Str)} {σ:L2.St} {H:Hp} {Q:VK} (h:qBF K (qCh ti tc te caps) σ H Q):qJ2 (qMH K ti) (qDc 0) (liftT K tc) (qBF K te) 1 caps σ H Q:=by
  k_dat 0"r0"
  k_dat 0"r43"
  refine qJT b1.1 (qNg (pre.on b1).2 caps) hJ h1 fun ys st2 φ2 H2 vs hF b2 dl p hp=>?_
  exact hq _ _ hF _ _ _ (b1.trans (b2.trans (qBT b2.1 hp dl))) qDy
variable {elt:Expr} {ifs:List Expr} {sc:Scope} {x:Str} {px:Pos} {tc:TBD} {te:TD}
theorem qFH (caps:List (Nat×Str)) (hc:X.calm=true) (S:q9 X.env.scope X.N caps sc) (hx:sc.names.lookup x=some .local) (hnd:([x]++caps.map (·.2)).Nodup) (hi:DI X (.Name x px) iter ti)
    (hif:∀ C s H fp,DIf (ql X [x] caps sc C s H fp) ifs tc) (he:∀ C s H fp,DE (ql X [x] caps sc C s H fp) elt te)
    (hs:∀ x,foldedSetIterable iter X.env x=pure x:=by intro _;rfl):DE X (.ListComp elt [⟨.Name x px,iter,ifs,0⟩] sc pos) (qCh ti tc te caps) :=
  PE.imp (qKx (g:=qDc 0) (tc:=liftT X.K tc) (te:=qBF X.K te) [x] caps hc S hi (fun C s H fp=>qFN hnd rfl (.inl (lookup_relabel_local hx)) (.inr (lookup_relabel_local hx))) hif he hs) fun σ H Q h=>qEl h
theorem qFL (i:Nat) {y:Str} {py spos:Pos} (caps:List (Nat×Str)) (hc:X.calm=true) (hN:X.N.Nodup) (S:q9 X.env.scope X.N caps sc) (hx:sc.names.lookup x=some .local) (hnd:([x]++caps.map (·.2)).Nodup) (hi:DI X (.Name x px) iter ti)
    (hif:∀ C s H fp,DIf (ql X [x] caps sc C s H fp) ifs tc) (he:∀ C s H fp,DE (ql X [x] caps sc C s H fp) elt te)
    (hy:X.N[i]? = some y:=by rfl) (hyl:X.env.scope.names.lookup y=some .local:=by rfl)
    (hsw:swapsWith (.ListComp elt [⟨.Name x px,iter,ifs,0⟩] sc pos) (some (.Name y py)) spos.line X.env=pure true:=by rfl)
    (hs:∀ x,foldedSetIterable iter X.env x=pure x:=by intro _;rfl):DS X (.Assign [.Name y py] (.ListComp elt [⟨.Name x px,iter,ifs,0⟩] sc pos) spos) (qZ (qCh ti tc te caps) (qR i)) :=
  PS.imp (qKm (g:=qDc 0) (tc:=liftT X.K tc) (te:=qBF X.K te) [x] caps hc hN hy hyl S hi (fun C s H fp=>qFN hnd rfl (.inl (lookup_relabel_local hx)) (.inr (lookup_relabel_local hx))) hif he hsw hs) fun E σ H h=>by
    k_dat 0"r2"
    refine qEl (ti:=ti) (tc:=tc) (te:=te) (caps:=caps) ⟨φ,st,ρ,_,pre,ht,fun d st1 h1 φ1 H1 v b1 dx=>?_⟩
    exact n _ st1 h1 φ1 H1 _ b1 ((pre.on b1).2.set dx i)
noncomputable def qe (N:List Str) (ds:List Dt):Rho:=ds.map some++List.replicate (N.length - ds.length) none
theorem qGA {K:W.Frag} {φ:Nat→Addr} {n:Nat} {H:Hp} {ds:List Dt} {vs:List V} (h:DL K φ n H ds vs) (N:List Str):DR K φ n H (qe N ds) (L2.start N vs):=by
  refine⟨by unfold qe L2.start;simp [h.length],fun i d e=>?_⟩
  unfold qe at e
  unfold L2.start
  by_cases hi:i<ds.length
  · rw [List.getElem?_append_left (by simpa using hi),List.getElem?_map] at e
    cases q:ds[i]? with
    | none=>rw [q] at e;cases e
    | some d' =>
      rw [q] at e
      have:d'=d:=by
        have e':some (some d')=some (some d):=e
        injection e' with e1;injection e1
      subst this
      obtain⟨v,ev,dv⟩:=h.get q
      refine⟨v,?_,dv⟩
      rw [List.getElem?_append_left (by simp;rw [← h.length];exact hi),List.getElem?_map,ev]
      rfl
  · rw [List.getElem?_append_right (by simpa using Nat.not_lt.mp hi),List.getElem?_replicate] at e
    split at e<;>cases e
theorem qNO {P:Program} {w:World} {K:W.Frag} {mg:Str→Option Value} {base:Heap} {x qual:Str} {stt:Stmt} {f:Addr} {fd:FuncData} {N ps:List Str} {k:Nat} {sp:RDL} (F:Fun K x qual stt f fd) (S:qb N ps (qO stt))
    (len:∀ ds st Pd,sp ds st Pd→ds.length=ps.length)
    (hbody:∀ (cdv:Value) (A:Around) (outer:List Env) (s:Shared) (H:Hp) (E:XK),qAC k (A.deeper (envOfC qual (qO stt) s.heap.objs.size f cdv)) →
      ∃ t,DSs (qE4 CX0 P w K mg base N qual (qO stt) f cdv A outer s H E).nox (qq stt) t∧∀ ds st Pd,sp ds st Pd→t { nx:=fun _ st'=>Pd .non st',rt:=Pd } (qe N ds) st):qAG P w K mg base CX0 (k+1) f fd ps (qd K sp):=by
  refine F.ok S (fun vs H Q E h=>?_) fun cdv A outer s H vs Q E hr h=>?_
  · k_dat 0"r34"
    rw [← dl.length]
    exact len ds st Pd hs
  · obtain⟨t,ht,hb⟩:=hbody cdv A outer s H E hr
    k_dat 0"r34"
    refine⟨_,ht,φ,st,qe N ds,_,⟨R,qGA dl N⟩,hb ds st Pd hs,fun ρ' st' h' φ' H' σ' b' d'=>hq _ st' h' φ' H' _ b' D.qHa,fun ρ' st' h'=>h'.elim,fun ρ' st' h'=>h'.elim,fun d st' h' φ' H' v b' d'=>hq d st' h' φ' H' v b' d'⟩
end
end L3
namespace L3
open PySem PySem.Spec PyProof.Rows L2
structure qx (P:Program) (w:World) (K:W.Frag) (mg:Str→Option Value) (base:Heap) (x:Str) (k:Nat) (sp:RDL):Prop where
  ex:∃ f fd ps,qAG P w K mg base CX0 k f fd ps (qd K sp)∧mg x=some (.ref f)∧W.keepIn K (.ref f)=true∧Binds K fd ps []
section
variable {X:Cx} {e:Expr} {es:List Expr} {t:TAD} {pos p:Pos} {x:Str}
theorem qI1 {k:Nat} {sp:RDL} (F:qx X.prog X.w X.K X.mg X.base x k sp) (hr:qAC k X.A) (ha:DA X (e::es) t) (hg:Gl X x) (hdb:(x==("__debug__" : Str))=false) (he:starEach (e::es) X.env=(false,eval e X.env)::starEach es X.env)
    (hpl:(backTo pos (starEach es X.env)).any (·.1)=false):DE X (.Call (.Name x p) (e::es) [] pos) (qI sp t):=by
  obtain⟨f,fd,ps,h1,h2,h3,h4⟩:=F.ex
  exact qKs h1 hr h2 h3 h4 ha hg hdb he hpl
theorem qIn {k:Nat} {sp:RDL} (F:qx X.prog X.w X.K X.mg X.base x k sp) (hr:qAC k X.A) (hg:Gl X x) (hdb:(x==("__debug__" : Str))=false):DE X (.Call (.Name x p) [] [] pos) (qI sp qG):=by
  obtain⟨f,fd,ps,h1,h2,h3,h4⟩:=F.ex
  exact qKK h1 hr h2 h3 h4 hg hdb
theorem qQN {A:Around} {k:Nat} (hr:qAC k A):A.units+16<cLine:=Nat.lt_of_le_of_lt (Nat.add_le_add_left (by decide:16≤64) _) hr.units
structure qMF (K:W.Frag) (mg:Str→Option Value) (x:Str) (d:Dt):Prop where
  ex:∃ v u,mg x=some u∧RelV v u∧∀ φ N H,D K φ N H d v
theorem qN0 {d:Dt} (h:qMF X.K X.mg x d) (hg:Gl X x) (hd:(x==("__debug__" : Str))=false):DE X (.Name x pos) (qC d):=by
  obtain⟨v,u,h1,h2,h3⟩:=h.ex
  exact qLX h1 h2 h3 hg hd
structure Hint (caps:List (Nat×Str)):Prop where
  ok:True
end
section
variable {X:Cx} {a b c:Expr} {ta tb tc:TD} {pos:Pos}
theorem qOW (ha:DE X a ta) (hb:DE X b tb):DE X (.BinOp a .Add b pos) (qD L3.qa ta tb):=qD3 qOn ha hb
theorem qNp (ha:DE X a ta) (hb:DE X b tb):DE X (.BinOp a .Sub b pos) (qD qL8 ta tb):=qD3 qNs ha hb
theorem qOB (ha:DE X a ta) (hb:DE X b tb):DE X (.BinOp a .Mult b pos) (qD qBb ta tb):=qD3 qNr ha hb
theorem qNA (ha:DE X a ta) (hb:DE X b tb):DE X (.BinOp a .FloorDiv b pos) (qD qm ta tb):=qD3 qMl ha hb
theorem qM0 (ha:DE X a ta) (hb:DE X b tb):DE X (.BinOp a .Mod b pos) (qD qk ta tb):=qD3 qOA ha hb
theorem qPj (hu:X.A.units+16<cLine) (ha:DE X a ta) (hb:DE X b tb) (hm:behindInMarks .Eq b=false):DE X (.Compare a [.Eq] [b] pos) (qD (qc false) ta tb):=qI3 (qMZ hu) ha hb hm
theorem qMq (hu:X.A.units+16<cLine) (ha:DE X a ta) (hb:DE X b tb) (hm:behindInMarks .Eq b=false):DT X (.Compare a [.Eq] [b] pos) (qN (qD (qc false) ta tb)):=qBq (qMZ hu) ha hb hm
theorem qNn (hu:X.A.units+16<cLine) (ha:DE X a ta) (hb:DE X b tb) (hm:behindInMarks .NotEq b=false):DT X (.Compare a [.NotEq] [b] pos) (qN (qD (qc true) ta tb)):=qBq (qPC hu) ha hb hm
theorem qMm (ha:DE X a ta) (hb:DE X b tb) (hm:behindInMarks .Lt b=false):DT X (.Compare a [.Lt] [b] pos) (qN (qD (qAe fun i j=>decide (i<j)) ta tb)):=qBq qPN ha hb hm
theorem qMo (ha:DE X a ta) (hb:DE X b tb) (hm:behindInMarks .LtE b=false):DT X (.Compare a [.LtE] [b] pos) (qN (qD (qAe fun i j=>decide (i≤j)) ta tb)):=qBq qPa ha hb hm
theorem qNG (ha:DE X a ta) (hb:DE X b tb) (hm:behindInMarks .Gt b=false):DT X (.Compare a [.Gt] [b] pos) (qN (qD (qAe fun i j=>decide (j<i)) ta tb)):=qBq qPp ha hb hm
theorem qOx (ha:DE X a ta) (hb:DE X b tb) (hm:behindInMarks .In b=false):DT X (.Compare a [.In] [b] pos) (qN (qD (qBj false) ta tb)):=qBq qO8 ha hb hm
theorem qJh (ha:DE X a ta) (hb:DE X b tb) (hm:behindInMarks .NotIn b=false):DE X (.Compare a [.NotIn] [b] pos) (qD (qBj true) ta tb):=qI3 qFu ha hb hm
theorem qIp (ha:DE X a ta) (hb:DE X b tb) (hm:behindInMarks .NotIn b=false):DT X (.Compare a [.NotIn] [b] pos) (qN (qD (qBj true) ta tb)):=qBq qFu ha hb hm
theorem qNY (ha:DE X a ta) (hb:DE X b tb) (hm:behindInMarks .Is b=false):DT X (.Compare a [.Is] [b] pos) (qN (qD (qEQ false) ta tb)):=qBq qPg ha hb hm
theorem qNP {e:Expr} {es:List Expr} {t:TAD} {p:Pos} (hm:X.mg "len" = none) (ha:DA X (e::es) t) (hg:Gl X "len") (he:starEach (e::es) X.env=(false,eval e X.env)::starEach es X.env) (hpl:(backTo pos (starEach es X.env)).any (·.1)=false):DE X (.Call (.Name "len" p) (e::es) [] pos) (qI qAO t):=qEG qMv hm PySem.boot_len ha hg (by decide) (by decide) he hpl
theorem qIQ {e:Expr} {es:List Expr} {t:TAD} {p:Pos} (hm:X.mg "isinstance" = none) (ha:DA X (e::es) t) (hg:Gl X "isinstance") (he:starEach (e::es) X.env=(false,eval e X.env)::starEach es X.env) (hpl:(backTo pos (starEach es X.env)).any (·.1)=false):DE X (.Call (.Name "isinstance" p) (e::es) [] pos) (qI qA3 t):=qEG qIj hm boot_isinstance ha hg (by decide) (by decide) he hpl
theorem qJg {e:Expr} {es:List Expr} {t:TAD} {p:Pos} (hm:X.mg "tuple" = none) (ha:DA X (e::es) t) (hg:Gl X "tuple") (he:starEach (e::es) X.env=(false,eval e X.env)::starEach es X.env) (hpl:(backTo pos (starEach es X.env)).any (·.1)=false):DE X (.Call (.Name "tuple" p) (e::es) [] pos) (qI qBs t):=qB6 qJs hm PyProof.Rows.boot_tuple ha hg (by decide) (by decide) he hpl
theorem qLH {e:Expr} {es:List Expr} {t:TAD} {p:Pos} (hm:X.mg "list" = none) (ha:DA X (e::es) t) (hg:Gl X "list") (he:starEach (e::es) X.env=(false,eval e X.env)::starEach es X.env) (hpl:(backTo pos (starEach es X.env)).any (·.1)=false):DE X (.Call (.Name "list" p) (e::es) [] pos) (qI qJR t):=qB6 qKr hm PyProof.Rows.boot_list ha hg (by decide) (by decide) he hpl
theorem qIw (hm:X.mg "int" = none) (hg:Gl X "int"):DE X (.Name "int" pos) (qC (.ty "int")):=qJf hm PyProof.Rows.boot_int hg
theorem qID (hm:X.mg "bool" = none) (hg:Gl X "bool"):DE X (.Name "bool" pos) (qC (.ty "bool")):=qJf hm PyProof.Rows.boot_bool hg
theorem qGx (hm:X.mg "tuple" = none) (hg:Gl X "tuple"):DE X (.Name "tuple" pos) (qC (.ty "tuple")):=qJf hm PyProof.Rows.boot_tuple hg
end
noncomputable def qDV (so:Scope) (N:List Str) (caps:List (Nat×Str)) (sc:Scope):Bool :=
  decide (sc.kind = .function)&&(sc.names.all fun y=>decide (y.2≠.cell))&&(sc.names.all fun y=>decide (y.2 = .local→sc.names.lookup y.1=some .local))&&(sc.names.all fun y=>decide (y.2 = .free→so.names.lookup y.1=some .cell)) &&
    (caps.all fun p=>decide (N[p.1]? = some p.2∧so.names.lookup p.2=some .cell∧sc.names.lookup p.2=some .free))
theorem qH6 {so:Scope} {N:List Str} {caps:List (Nat×Str)} {sc:Scope} (h:qDV so N caps sc=true):q9 so N caps sc:=by
  unfold qDV at h
  simp only [Bool.and_eq_true] at h
  obtain⟨⟨⟨⟨h1,h2⟩,h3⟩,h4⟩,h5⟩:=h
  exact⟨of_decide_eq_true h1,fun y hy=>of_decide_eq_true (List.all_eq_true.mp h2 y hy),fun y hy=>of_decide_eq_true (List.all_eq_true.mp h3 y hy),fun y hy=>of_decide_eq_true (List.all_eq_true.mp h4 y hy),fun y hy=>of_decide_eq_true (List.all_eq_true.mp h5 y hy)⟩
theorem qHk {so:Scope} {N:List Str} {caps:List (Nat×Str)} {sc:Scope} (_:Hint caps) (h:qDV so N caps sc=true):q9 so N caps sc:=qH6 h
def qGW:RDL:=fun ds st P=>∃ ns:List Int,ds=[.lst 0]∧st=[.ro (ns.map .int)]∧ns.length≤63∧∀ st',P (.bl true) st'
theorem DL.ints {K:W.Frag} {φ:Nat→Addr} {N:Nat} {H:Hp}:∀ ns:List Int,DL K φ N H (ns.map .int) (ns.map V.int)
  | []=>.nil
  | n::ns=>.cons D.mkInt (DL.ints ns)
theorem qKa {l:W.OpenLaw} {q:Program} {loose:List Str} {XP:(Str→Option Value)→Heap→Prop} {YP:World→Heap→Prop} {d:DefRec} {K:Params→W.Frag} (k:Nat) (hn:l.most=some 63) (hdf:d.params.defaults=[]) (hr:qAC k callerA)
    (hY:∀ (w:World) (h:Heap),YP w h→(K w.params).In h)
    (F:∀ (w:World) (mg:Str→Option Value) (fa:Addr) (h:Heap),(K w.params).In h→h.Ns mainGlobals mg→mg d.name=some (.ref fa) →
      ∃ fd:FuncData,(∀ (s:Shared) (u:Value),BindsTo s fd ⟨[u],[]⟩ [("script",u)])∧∀ base:Heap,(K w.params).In base→base.Ns mainGlobals mg→qAG l.prog w (K w.params) mg base CX0 k fa fd ["script"] (qd (K w.params) qGW)) :
    W.WalkO q loose XP YP l.row.toRowW d [] (fun f vs=>PySem.call f vs):=by
  refine L2.qLf (n:=63) (k:=k) (x:= "script") (CX:=fun _=>CX0) (sp:=fun w=>qd (K w.params) qGW) hn (by decide) hdf hr hY F (fun w H a ns hl hO hS=>?_) fun _ _ _ _ _ z=>z
  have hR:SqR (K w.params) H a (ns.map V.int):=by
    rcases hS with (h | h) | h
    · rcases hO a with z | ⟨o,xs,z⟩
      · rw [h] at z;cases z
      · rw [h] at z;cases z
    · exact .inl h
    · exact .inr h
  refine⟨fun _=>a,[.ro (ns.map .int)],[.lst 0],fun d st'=>d = .bl true,⟨fun i j x y e _ hw=>?_,fun i x e=>?_⟩,.cons (D.qMK (by show 0<1;decide) ⟨_,hR.sq⟩) .nil,⟨ns,rfl,rfl,hl,fun _=>rfl⟩,fun d st' hd φ' H' u b du=>by rw [hd] at du;exact du.bl⟩
  · cases i with
    | zero=>simp at e;subst e;cases hw
    | succ i=>simp at e
  · cases i with
    | zero =>
      simp at e
      subst e
      exact⟨ns.map V.int,hR,DL.ints ns⟩
    | succ i=>simp at e
end L3
namespace L3
open PySem PySem.Spec PyProof.Rows L2
noncomputable def qAf:Nat→List Dt→List Dt
  | _,[]=>[]
  | n,d::ds=>.tup [.int (n:Nat),d]::qAf (n+1) ds
theorem qCQ:∀ {ds:List Dt} {n i:Nat} {x:Dt},(qAf n ds)[i]? = some x→∃ d,ds[i]? = some d∧x = .tup [.int ((n+i:Nat)),d]
  | [],_,_,_,h=>by simp [qAf] at h
  | d::ds,n,0,x,h=>by
    simp [qAf] at h
    exact⟨d,rfl,by rw [← h];rfl⟩
  | d::ds,n,i+1,x,h=>by
    obtain⟨e,h1,h2⟩:=qCQ (ds:=ds) (n:=n+1) (i:=i) (x:=x) (by simpa [qAf] using h)
    exact⟨e,by simpa using h1,by rw [h2,show n+1+i=n+(i+1) by omega]⟩
theorem qBH:∀ {ds:List Dt} {n:Nat},(qAf n ds).length=ds.length
  | [],_=>rfl
  | d::ds,n=>by simp [qAf,qBH]
def qMT (te:TD):TID:=fun ρ st P=>te ρ st fun x st1=>match x with
  | .lst n=>(match st1[n]? with
    | some o=>P (qAf 0 o.items) (fun st'=>(st'[n]?).map SO.items=some o.items) st1
    | none=>False)
  | _=>False
section
variable {X:Cx} {a:Expr} {elts:List Expr} {x1:Nat} {tpos pos p:Pos} {te:TD}
structure qG3 (K:W.Frag) (mg:Str→Option Value) (x:Str) (ds:List Dt):Prop where
  ex:∃ a o vs its n,mg x=some (.ref a)∧K.lookup a=some o∧o.cls = .type "tuple" ∧ o.dict=none∧o.data = .seq its n∧its.size≤sizeLine∧Vals vs its.toList∧∀ φ N H,DL K φ N H ds vs
theorem qG3.con {K:W.Frag} {mg:Str→Option Value} {x:Str} {ds:List Dt} (h:qG3 K mg x ds):qMF K mg x (.tup ds):=by
  obtain⟨a,o,vs,its,n,h1,h2,h3,h4,h5,h6,h7,h8⟩:=h.ex
  exact⟨.ref a,_,h1,rfl,fun φ N H=>.qBk (.inr ⟨o,its,n,h2,⟨h3,h4⟩,h5,h6,h7⟩) (h8 φ N H)⟩
def qFO (ds:List Dt) (te:TD):TD:=fun ρ st P=>te ρ st fun y st1=>okD 0 y=true∧ds.all (okD 0)=true∧(match ds.findIdx? (fun z=>eqD 0 z y) with
  | some j=>P (.int (j:Nat)) st1
  | none=>False)
theorem find_spec {α:Type} {p:α→Bool}:∀ {xs:List α} {j:Nat},xs.findIdx? p=some j→∃ h:j<xs.length,p xs[j]=true∧∀ m (hm:m<xs.length),m<j→p xs[m]=false:=fun {xs j} h=>by
  obtain⟨h1,h2,h3⟩:=List.findIdx?_eq_some_iff_getElem.mp h
  exact⟨h1,h2,fun m hm hmj=>by simpa using h3 m hmj⟩
theorem qIv {x:Str} {ds:List Dt} {apos cpos npos:Pos} {e:Expr} (hG:qG3 X.K X.mg x ds) (he:DE X e te) (hg:Gl X x) (hdb:(x==("__debug__" : Str))=false)
    (hbase:attributeBase (.Name x npos) "index" X.env (eval (.Name x npos) X.env)=eval (.Name x npos) X.env)
    (hfew:((backTo cpos (starEach [e] X.env)).all (fun x=>!x.1)&&(backToKw cpos (keywordEach [] X.env)).all (fun x=>x.1.isSome)
      && decide (([e]:List Expr).length+([]:List Keyword).length+(if ([]:List Keyword).isEmpty then 0 else 1)<30))=true)
    (hline:(apos.endLine==cpos.line)=true) (hs:starEach [e] X.env=(false,eval e X.env)::starEach [] X.env) (hplain:(backTo cpos (starEach ([]:List Expr) X.env)).any (·.1)=false) :
    DE X (.Call (.Attribute (.Name x npos) "index" apos) [e] [] cpos) (qFO ds te):=by
  obtain⟨a,o,ws,its,n,h1,h2,h3,h4,h5,h6,h7,h8⟩:=hG.ex
  have mt:MtR X "tuple.index" (fun v xs H Q=>∃ y j,v = .ref a∧xs=[y]∧qA1 y=true∧ws.all qA1=true∧(∃ hj:j<ws.length,eqV ws[j] y=true∧∀ m (hm:m<ws.length),m<j→eqV ws[m] y=false)∧Q (.int (j:Nat)) H):=by
    intro pins s σ H v xs u us Q I r rv h
    obtain⟨y,j,rfl,rfl,fy,fw,⟨hj,hit,hno⟩,q⟩:=h
    cases r
    obtain⟨uy,rfl,ry⟩:=rv.one
    have ho:=I.kIn a o h2
    obtain⟨cls,dd,data,sl⟩:=o
    simp only at h3 h4 h5
    subst h3 h4 h5
    have hlen:=h7.length
    have ev:∀ m (hm:m<its.size) (hm':m<ws.length),eqU y its[m]=eqV ws[m] y:=fun m hm hm'=>by
      obtain⟨u,eu,ru⟩:=h7.get (show ws[m]? = some ws[m] by simp [hm'])
      have:its[m]=u:=by
        have:its.toList[m]? = some its[m]:=by simp [hm]
        rw [eu] at this
        exact (Option.some.inj this).symm
      rw [this]
      exact qFU ru (List.all_eq_true.mp fw _ (List.getElem_mem hm'))
    have hsz:its.size=ws.length:=by rw [hlen];simp
    refine call_meets F.slot_tuple_index ⟨_,ho,rfl⟩ F.entry_tuple_index (F.args_tuple_index_2 _ _) (qEK a its n none sl uy (eqU y) j (by omega) (by rw [ev j (by omega) hj];exact hit) (fun m hm hmj=>by rw [ev m hm (by omega)];exact hno m (by omega) hmj))
      ⟨ho,fun z hz=>qAm ry fy h7 fw z (by simpa using hz),⟨.int (j:Nat),H,I.tok _,⟨_,rfl⟩,q⟩⟩
  refine PE.imp (qEW PySem.F.plainAttrs_tuple PySem.F.slot_tuple_index PySem.F.type_tuple_index mt (qA2 (v:=.ref a) hg h1 rfl hdb) (qAk he qBR hs) hbase hfew hline hs hplain) fun σ H Q h=>?_
  k_dat 0"r0"
  refine⟨.inr (.inl ⟨rfl,o,h2,h3,h4⟩),?_⟩
  refine⟨φ,st,ρ,(fun zs st1=>match zs with
    | [y]=>okD 0 y=true∧ds.all (okD 0)=true∧(match ds.findIdx? (fun z=>eqD 0 z y) with
      | some j=>P (.int (j:Nat)) st1
      | none=>False)
    | _=>False),pre,ht,fun zs st1 h1 φ1 H1 vs b1 dl=>?_⟩
  rcases zs with _ | ⟨d,_ | ⟨d2,r⟩⟩
  · exact h1.elim
  rotate_left
  · exact h1.elim
  · obtain⟨o1,o2,h1⟩:=h1
    obtain⟨v,rfl,dv⟩:=dl.one
    split at h1
    · rename_i j ej
      obtain⟨hj,hit,hno⟩:=find_spec ej
      have dw:=h8 φ1 st1.length H1
      have hl:=dw.length
      have ev:∀ m (hm:m<ds.length) (hm':m<ws.length),eqV ws[m] v=eqD 0 ds[m] d:=fun m hm hm'=>by
        obtain⟨z,ez,dz⟩:=dw.get (show ds[m]? = some ds[m] by simp [hm])
        have:ws[m]=z:=by
          have:ws[m]? = some ws[m]:=by simp [hm']
          rw [ez] at this
          exact (Option.some.inj this).symm
        rw [this]
        exact qG2 dz dv (List.all_eq_true.mp o2 _ (List.getElem_mem hm)) o1
      exact⟨v,j,rfl,rfl,qCj dv o1,qBi dw o2,⟨by omega,by rw [ev j hj (by omega)];exact hit,fun m hm hmj=>by rw [ev m (by omega) hm];exact hno m (by omega) hmj⟩,hq _ st1 h1 φ1 H1 _ b1 D.mkInt⟩
    · exact h1.elim
end
noncomputable def qAx:List Value→List Str→Bool
  | [],[]=>true
  | .str x _::us,s::ss=>x==s&&qAx us ss
  | _,_=>false
theorem qEz:∀ {us:List Value} {ss:List Str},qAx us ss=true→Vals (ss.map V.str) us
  | [],[],_=>.nil
  | [],_::_,h=>by simp [qAx] at h
  | u::us,[],h=>by cases u<;>simp [qAx] at h
  | u :: us,s::ss,h=>by
    cases u with
    | str x t =>
      rw [qAx,Bool.and_eq_true] at h
      have e:x=s:=eq_of_beq h.1
      subst e
      exact .cons ⟨t,rfl⟩ (qEz h.2)
    | _=>simp [qAx] at h
theorem DL.strs {K:W.Frag} {φ:Nat→Addr} {N:Nat} {H:Hp}:∀ ss:List Str,DL K φ N H (ss.map .str) (ss.map V.str)
  | []=>.nil
  | n::ns=>.cons D.mkStr (DL.strs ns)
theorem qId {K:W.Frag} {mg:Str→Option Value} {x:Str} {a:Addr} {its:Array Value} {n:Nat} {sl:Array (Option Value)} {ss:List Str} (hm:mg x=some (.ref a)) (l:K.lookup a=some ⟨.type "tuple",none,.seq its n,sl⟩) (v:qAx its.toList ss=true) (sz:its.size≤sizeLine) :
    qG3 K mg x (ss.map .str):=⟨a,_,ss.map V.str,its,n,hm,l,rfl,rfl,rfl,sz,qEz v,fun _ _ _=>DL.strs ss⟩
structure qPx (caps:List (Nat×Str)):Prop where
  ok:True
theorem qGO {so:Scope} {N:List Str} {caps:List (Nat×Str)} {sc:Scope} (_:qPx caps) (h:qDV so N caps sc=true):q9 so N caps sc:=qH6 h
theorem qAd {st:Sto} {i:Nat} {o x:SO} (h:st[i]? = some o):(st++[x])[i]? = some o:=by
  rw [List.getElem?_append_left (qBI h)];exact h
theorem qDu {st:Sto} {i j:Nat} {o x:SO} (h:st[i]? = some o) (hne:j≠i):(st.set j x)[i]? = some o:=by
  rw [List.getElem?_set_ne hne];exact h
theorem qFG {st:Sto} {i:Nat} {o x:SO} (h:st[i]? = some o):(st.set i x)[i]? = some x:=by
  rw [List.getElem?_set_self (qBI h)]
theorem qU {st:Sto} {x:SO}:(st++[x])[st.length]? = some x:=by simp
def qP (st st':Sto):Prop:=∀ (i:Nat) o,st[i]? = some o→st'[i]? = some o
theorem qP.refl (st:Sto):qP st st:=fun _ _ h=>h
theorem qP.trans {a b c:Sto} (h:qP a b) (h':qP b c):qP a c:=fun i o q=>h' i o (h i o q)
theorem qP.app (st:Sto) (x:SO):qP st (st++[x]):=fun _ _ h=>qAd h
noncomputable abbrev Ed (Pd:VD):qAZ:={ nx:=fun _ st'=>Pd .non st',rt:=Pd }
theorem qFo {i j:Int} (h1:0≤j) (h2:j<4294967296):qFM i j:=.inr ⟨by omega,by omega⟩
theorem qLL (ns:List Int) (k:Int):(L3.cutD (ns.map Dt.int) none (some k)).length≤ns.length:=by
  unfold L3.cutD
  rw [List.length_take,List.length_drop,List.length_map]
  omega
end L3
namespace L3
open PySem PySem.Spec PyProof.Rows L2
end L3
namespace L3
open PySem PySem.Spec PyProof.Rows L2
theorem qEm {K:W.Frag} {φ:Nat→Addr} {N:Nat} {H:Hp}:∀ {bs:List Bool} {ws:List V} {us:List Value},DL K φ N H (bs.map .bl) ws→Vals ws us→LSm.BoolsAre us bs
  | [],ws,us,dl,rv=>by
    have e:ws=[]:=by simpa [DL] using dl
    subst e
    cases rv
    exact .nil
  | b :: bs,ws,us,dl,rv=>by
    obtain⟨v,r,rfl,h1,h2⟩:=dl
    cases rv with
    | @cons a u as us' h t =>
      have e:v = .bl b:=h1.bl
      subst e
      have e2:u=Value.bool b:=h
      subst e2
      exact .cons b (qEm h2 t)
end L3
namespace L3
open PySem PySem.Spec PyProof.Rows L2
section
variable {X:Cx} {a b c:Expr} {ta tb tc:TD} {pos:Pos}
def qOu:RD2:=fun x y st P=>match x,y with
  | .int i,.int j=>qPw i j∧P (.int (i ^ j.toNat)) st
  | _,_=>False
theorem qNB:OpD X (binaryOp .Pow) qOu:=by
  k_dat 0"r5"
  k_dat 0"r6"
  cases x with
  | int i =>
    cases y with
    | int j=>exact qNc pins s σ H v w u1 u2 Q I r1 r2 ⟨i,j,dx.int,dy.int,hr.1,Go.here hq R hr.2 D.mkInt⟩
    | _=>exact hr.elim
  | _=>cases y<;>exact hr.elim
theorem qM2 (ha:DE X a ta) (hb:DE X b tb):DE X (.BinOp a .Pow b pos) (qD qOu ta tb):=qD3 qNB ha hb
end
end L3
namespace L3
open PySem PySem.Spec PyProof.Rows L2
open AutoSeq1 (wpAny_loadPart')
end L3
namespace HT
open PySem PySem.Spec PyProof.Rows
section
variable {prog:Program} {w:World} {A:Around} {E:Value→Shared→Prop} {s:Shared}
theorem qB9 {t sl:Addr} {items:Array Value} {vl vu:Value} {lo hi:Option Int} {Q:Value→Shared→Prop} (ht:IsTup s.heap t items) (hs:s.heap.IsSliceOf sl vl vu .none) (pl:IsPart vl lo) (pu:IsPart vu hi)
    (hw:sIx items.size 0 lo=0∧sIx items.size items.size hi=items.size) (h:Q (.ref t) s):wpAny (model prog w) A (getItem (.ref t) (.ref sl)) Q E s:=by
  obtain⟨os,hos,hcs,hds⟩:=id hs
  have hTs:s.TypeIs (.ref sl) "slice":=⟨os,hos,hcs⟩
  unfold getItem
  try with_reducible refine wpAny_holding ?_
  first | refine wpAny_bind (wpAny_pure ?_) | skip
  refine wpAny_bind (wpAny_sequenceKey ht.typeIs (by decide) ?_)
  refine wpAny_bind (wpAny_callSpecial?_slot (name:=Str.ofString "__getitem__") ht.typeIs PyProof.Rows.slot_tuple_getitem
    (wpAny_call_entry PyProof.Rows.slot_tuple_getitem ht.typeIs entry_tuple_getitem ?_ (args_tuple_getitem _ _)))
  show wpAny _ _ (Builtin.Tuple.tupleItemsOf (.ref t) >>= _) _ _ s
  refine wpAny_bind (tupleItemsOf_ ht ?_)
  refine wpAny_bind (wpAny_typeOf hTs ?_)
  rw [if_pos (by decide)]
  refine wpAny_bind (qBJ hs pl pu ?_)
  have hyes:(((sIx items.size 0 lo:Nat):Int)==0&&(1:Int)==1&&(sIx items.size items.size hi - sIx items.size 0 lo)==items.size)=true:=by
    rw [hw.1,hw.2];simp
  k_dat 0"r52"
  rw [if_pos hyes]
  unfold Builtin.Tuple.tupleIsExact
  refine wpAny_bind (wpAny_bind (wpAny_typeOf ht.typeIs (wpAny_pure ?_)))
  rw [if_pos (by decide)]
  first
    | exact wpAny_bind (wpAny_pure (wpAny_pure ⟨_,rfl,wpAny_pure h⟩))
    | exact wpAny_bind (wpAny_rule (wpAny_bind (wpAny_pure (wpAny_pure ⟨_,rfl,wpAny_pure h⟩))))
    | exact wpAny_bind (wpAny_rule (wpAny_bind (wpAny_pure ⟨_,rfl,wpAny_pure h⟩)))
    | exact wpAny_pure ⟨_,rfl,wpAny_pure h⟩
    | exact wpAny_bind (wpAny_pure ⟨_,rfl,wpAny_pure h⟩)
end
end HT
namespace L3
open PySem PySem.Spec PyProof.Rows L2
noncomputable def qQV (K:W.Frag):V→Option Int→Option Int→Hp→VK→Prop:=fun x lo hi H Q=>∃ a xs,x = .ref a∧SqT K H a xs∧(HT.sIx xs.length 0 lo=0∧HT.sIx xs.length xs.length hi=xs.length)∧Q (.ref a) H
section
variable {X:Cx}
theorem qJE:SlR X (qQV X.K):=by
  k_dat 0"r31"
  obtain⟨a,xs,rfl,hx,hw,q⟩:=h
  cases rx
  obtain⟨its,r,ht,hz⟩:=I.tuple hx
  have hlen:its.toArray.size=xs.length:=by rw [List.size_toArray];exact r.length.symm
  refine⟨"tuple",_,PyProof.Rows.slot_tuple_getitem.lookup,ht.typeIs,?_⟩
  exact HT.qB9 ht hs pl pu (by rw [hlen];exact hw) ⟨.ref a,H,I,rfl,q⟩
def qAN (te:TD) (tl th:TOD):TD:=fun ρ st P=>te ρ st fun x st1=>tl ρ st1 fun lo st2=>th ρ st2 fun hi st3=>match x with
  | .tup xs=>P (.tup (cutD xs lo hi)) st3
  | .lst n=>(match st3[n]? with
    | some o=>P (.lst st3.length) (st3++[.rw (cutD o.items lo hi)])
    | none=>False)
  | _=>False
theorem qIb {xs:List Dt} {lo hi:Option Int} (h:HT.sIx xs.length 0 lo=0∧HT.sIx xs.length xs.length hi=xs.length):cutD xs lo hi=xs:=by
  unfold cutD
  rw [h.1,h.2]
  simp
theorem qIi {e:Expr} {lo hi:Option Expr} {te:TD} {tl th:TOD} {pos p2:Pos} (he:DE X e te) (hl:DO X lo tl) (hu:DO X hi th):DE X (.Subscript e (.Slice lo hi none p2) pos) (qAN te tl th):=by
  refine PE.imp (qFv ((qOl.or qL1).or qJE) he hl hu) fun σ H Q h=>?_
  k_dat 0"r0"
  k_dat 0"r12"
  refine⟨φ1,st1,ρ,_,pre.on b1,h1,fun l st2 h2 φ2 H2 b2=>?_⟩
  refine⟨φ2,st2,ρ,_,(pre.on b1).on b2,h2,fun u st3 h3 φ3 H3 b3=>?_⟩
  have b:=b1.trans (b2.trans b3)
  have dx3:=(dx.evo b2.2).evo b3.2
  cases x with
  | tup xs =>
    obtain⟨a,vs,e1,s1,d1⟩:=dx3.tup
    have h3':P (.tup (cutD xs l u)) st3:=h3
    by_cases hw:HT.sIx xs.length 0 l=0∧HT.sIx xs.length xs.length u=xs.length
    · rw [qIb hw] at h3'
      exact .inr ⟨a,vs,e1,s1,by rw [← d1.length];exact hw,hq _ st3 h3' φ3 _ _ b (by rw [← e1];exact dx3)⟩
    refine .inl (.inl ⟨a,vs,e1,s1,by rw [← d1.length];exact hw,fun p hp=>hq _ st3 h3' φ3 _ _ (b.trans (qA0 b3.1 hp)) (.qBk (SqT.of qQ) ?_)⟩)
    unfold cutD qFg
    rw [← d1.length]
    exact ((d1.drop _).take _).evo (qAD hp)
  | lst n =>
    have h3':(match st3[n]? with
      | some o=>P (.lst st3.length) (st3++[.rw (cutD o.items l u)])
      | none=>False):=h3
    split at h3'
    · rename_i o eo
      obtain⟨vs,s1,d1⟩:=b3.1.seq eo dx3.isL
      refine .inl (.inr ⟨φ3 n,vs,dx3.lst.2,s1,fun p hp=>?_⟩)
      have:DL X.K φ3 st3.length H3 (cutD o.items l u) (qFg vs l u):=by
        unfold cutD qFg
        rw [← d1.length]
        exact (d1.drop _).take _
      exact hq _ _ h3' _ _ _ (b.trans (qBT b3.1 hp this)) qDy
    · exact h3'.elim
  | _=>exact h3.elim
end
end L3
namespace L3
open PySem PySem.Spec PyProof.Rows L2
end L3
namespace L3
open PySem PySem.Spec PyProof.Rows L2
end L3
namespace L3
open PySem PySem.Spec PyProof.Rows L2
end L3
namespace HT
open PySem PySem.Spec PyProof.Rows
end HT
namespace L3
open PySem PySem.Spec PyProof.Rows L2
end L3
namespace L3
open PySem PySem.Spec PyProof.Rows L2
end L3
namespace L3
open PySem PySem.Spec PyProof.Rows L2
end L3
namespace L3
open PySem PySem.Spec PyProof.Rows L2
end L3
namespace L3
open PySem PySem.Spec PyProof.Rows L2
end L3
namespace L3
open PySem PySem.Spec PyProof.Rows L2
end L3
namespace L3
open PySem PySem.Spec PyProof.Rows L2
noncomputable def qIV (kvs:List (Key×Dt)) (k:Key):Option Dt:=(kvs.find? fun kv=>decide (kv.1=k)).map (·.2)
def KD (K:W.Frag) (φ:Nat→Addr) (N:Nat) (H:Hp) (kvs:List (Key×Dt)) (vs:List (Key×V)):Prop:=kvs.map (·.1)=vs.map (·.1)∧DL K φ N H (kvs.map (·.2)) (vs.map (·.2))
section
variable {K:W.Frag} {φ:Nat→Addr} {N:Nat} {H:Hp}
theorem KD.qHM {k:Key} {d:Dt} {r:List (Key×Dt)} {vs:List (Key×V)} (h:KD K φ N H ((k,d)::r) vs):∃ v r',vs=(k,v)::r'∧D K φ N H d v∧KD K φ N H r r':=by
  obtain⟨h1,h2⟩:=h
  cases vs with
  | nil=>cases h1
  | cons p r' =>
    obtain⟨k',v⟩:=p
    rw [List.map_cons,List.map_cons] at h1
    injection h1 with e1 e2
    have e1:k=k':=e1
    subst e1
    obtain⟨a,b⟩:=DL.qHM (d:=d) (v:=v) h2
    exact⟨v,r',rfl,a,e2,b⟩
theorem KD.qQK {vs:List (Key×V)} (h:KD K φ N H [] vs):vs=[]:=by
  cases vs with
  | nil=>rfl
  | cons p r=>cases h.1
theorem KD.val:∀ {kvs:List (Key×Dt)} {vs:List (Key×V)} (k:Key),KD K φ N H kvs vs→(qIV kvs k=none∧qBn vs k=none)∨∃ d v,qIV kvs k=some d∧qBn vs k=some v∧D K φ N H d v
  | [],vs,k,h=>by rw [h.qQK];exact .inl ⟨rfl,rfl⟩
  | (k',d)::r,vs,k,h=>by
    obtain⟨v,r',rfl,dv,h'⟩:=h.qHM
    by_cases e:k'=k
    · exact .inr ⟨d,v,by simp [qIV,List.find?_cons,e],by simp [qBn,List.find?_cons,e],dv⟩
    · have e1:qIV ((k',d)::r) k=qIV r k:=by simp [qIV,List.find?_cons,e]
      have e2:qBn ((k',v)::r') k=qBn r' k:=by simp [qBn,List.find?_cons,e]
      rw [e1,e2]
      exact h'.val k
end
end L3
namespace L3
open PySem PySem.Spec PyProof.Rows L2
end L3
namespace L3
open PySem PySem.Spec PyProof.Rows L2
end L3
namespace L3
open PySem PySem.Spec PyProof.Rows L2
noncomputable def qDS (P:Params):List DictEntry→List (Str×Str)→Prop
  | [],[]=>True
  | e::r,kv::q=>(∃ t u,e.key = .str kv.1 t∧e.val = .str kv.2 u∧e.hash=PyData.keyHash P kv.1)∧qDS P r q
  | _,_=>False
theorem qDS.find {P:Params} (y:Str):∀ {l:List DictEntry} {kvs:List (Str×Str)},qDS P l kvs→(kvs.lookup y=none∧(l.find? fun e=>Value.isStrOf y e.key).map (·.val)=none)∨∃ z u,kvs.lookup y=some z∧(l.find? fun e=>Value.isStrOf y e.key).map (·.val)=some (.str z u)
  | [],[],_=>.inl ⟨rfl,rfl⟩
  | e :: r,(k,v)::q,⟨⟨t,u,h1,h2,h3⟩,hr⟩=>by
    have ih:=qDS.find y hr
    k_dat 0"r44"
    rw [List.find?_cons,hk,List.lookup_cons]
    have hs:(y==k)=(k==y):=by
      by_cases q:y=k
      · subst q;rfl
      · k_dat 0"r45"
    rw [hs]
    cases k==y with
    | true=>exact .inr ⟨v,u,rfl,by rw [Option.map_some,h2]⟩
    | false=>exact ih
  | [],_::_,h=>h.elim
  | _::_,[],h=>h.elim
end L3
namespace HT
open PySem PySem.Spec PyProof.Rows
section
variable {prog:Program} {w:World} {A:Around} {E:Value→Shared→Prop} {s:Shared}
theorem qDJ {it t:Addr} {i:Nat} {items:Array Value} {x:Value} {Q:Value→Shared→Prop} (hit:IsTupIter s.heap it t i) (ht:IsTup s.heap t items) (hx:items[i]? = some x)
    (hQ:∀ h',IsTupIter h' it t (i+1)→Heap.SameBut it s.heap h'→Q x { s with heap:=h' }):wpAny (model prog w) A (Builtin.SmallTypes.nextOf (.ref it)) Q E s:=by
  obtain⟨o,ho,hc,hd⟩:=id hit;obtain⟨ol,hol,_,nl,hdl⟩:=ht
  k_dat 0"r59"
  k_dat 0"r60"
  k_dat 0"r61"
  k_dat 0"r62"
  k_dat 0"r63"
  refine wpAny_bind (wpAny_setField ho hd (by simp) (wpAny_pure ⟨x,rfl,wpAny_pure (hQ _ ⟨_,Heap.get?_update_self _ ho (Obj.isFreed_of_fields (Obj.data_mapFields hd _)),(Obj.cls_mapFields ..).trans hc,by rw [Obj.data_mapFields hd];simp [rawInt]⟩ (Heap.SameBut.update ..))⟩))
theorem qBc {it t:Addr} {i:Nat} {items:Array Value} {Q:Value→Shared→Prop} (hh:A.handled=none) (hit:IsTupIter s.heap it t i) (ht:IsTup s.heap t items) (hx:items[i]? = none)
    (hE:∀ h' e,Heap.ExtBut it s.heap h'→(∃ o,h'.get? e=some o∧o.cls = .type "StopIteration")→E (.ref e) { s with heap:=h' }):wpAny (model prog w) A (Builtin.SmallTypes.nextOf (.ref it)) Q E s:=by
  obtain⟨o,ho,hc,hd⟩:=id hit;obtain⟨ol,hol,_,nl,hdl⟩:=ht
  k_dat 0"r59"
  k_dat 0"r60"
  k_dat 0"r61"
  k_dat 0"r62"
  k_dat 0"r63"
  refine wpAny_bind (wpAny_rule (wpAny_bind (wpAny_setField ho hd (by simp) ?_)));show wpAny _ _ (newExc (.type "StopIteration") [] >>= _) _ _ _
  refine wpAny_bind ?_;simp only [newExc,newTuple]
  refine wpAny_bind (wpAny_newObj_type ?_ (by size_fits));refine wpAny_bind (m:=firstArgMember _ _) (wpAny_of_eq (a:=Value.none) (by first | rfl | (simp only [firstArgMember];rfl)) ?_)
  refine wpAny_newObj_type ?_ (by size_fits);simp only [raiseNew];refine wpAny_bind (wpAny_handled ?_)
  first | rw [show A.in1.handled=none from hh] | rw [hh]
  refine wpAny_bind (wpAny_pure (wpAny_throw ?_));exact hE _ _ (((Heap.SameBut.update ..).extBut.push _).push _) ⟨_,Heap.get?_push_size _ rfl,rfl⟩
theorem qIR (hh:A.handled=none) (it t:Addr) (hne:t≠it) (items:Array Value):Draws prog w A it [it,t] items.size (fun i v=>items[i]? = some v) (fun i h=>IsTupIter h it t i∧IsTup h t items) where
  live:=fun _ _ st=>let ⟨o,ho,_⟩:=st.1;⟨o,ho⟩
  frame:=fun _ _ _ st hk=>⟨let ⟨o,ho,r⟩:=st.1;⟨o,hk it (by simp) _ ho,r⟩,let ⟨o,ho,r⟩:=st.2;⟨o,hk t (by simp) _ ho,r⟩⟩
  item:=fun i s Q E hi st hQ=>by
    refine qDJ st.1 st.2 (x:=items[i]) (by simp [hi]) fun h' hit' hs'=>hQ _ h' s.toks (by simp [hi]) ⟨hit',?_⟩ hs'
    obtain⟨o,ho,r⟩:=st.2
    exact⟨o,hs'.extBut t o hne ho,r⟩
  done:=fun s Q E st hE=>qBc hh st.1 st.2 (by simp) hE
end
end HT
namespace L3
open PySem PySem.Spec PyProof.Rows L2
theorem qDv {h h':Heap} {a t:Addr} {i:Nat} (x:IsTupIter h a t i) (e:∀ o,h.get? a=some o→h'.get? a=some o):IsTupIter h' a t i:=let ⟨o,ho,r⟩:=x;⟨o,e _ ho,r⟩
end L3
namespace L3
open PySem PySem.Spec PyProof.Rows L2
end L3
namespace L3
open PySem PySem.Spec PyProof.Rows L2
def qJG:RDL:=fun ds st P=>match ds with
  | [.lst n]=>(match st[n]? with
    | some o=>∃ bs:List Bool,o.items=bs.map .bl∧P (.bl (bs.any id)) st
    | none=>False)
  | _=>False
section
variable {X:Cx}
theorem qNR (hc:X.calm=true):qCU X (.builtin "any") qJG:=by
  k_dat 0"r15"
  k_dat 0"r16"
  k_dat 0"r18"
  · exact hr.elim
  rotate_left
  · cases x<;>exact hr.elim
  · k_dat 0"r19"
    obtain⟨u,rfl,ru⟩:=vals1 rv
    cases x with
    | lst n =>
      have hr:(match st[n]? with
        | some o=>∃ bs:List Bool,o.items=bs.map .bl∧P (.bl (bs.any id)) st
        | none=>False):=hr
      split at hr
      · rename_i o eo
        obtain⟨bs,eb,hp⟩:=hr
        obtain⟨ws,hs1,dws⟩:=R.seq eo dx.isL
        rw [eb] at dws
        have ev:=dx.lst.2
        subst ev
        cases ru
        obtain⟨its,rvs,pl,hz⟩:=I.list hs1
        have hb:LSm.BoolsAre its bs:=qEm dws rvs
        have hl:s.heap.IsList (φ n) its.toArray:=pl.isList
        have hlt:φ n<s.heap.objs.size:=by obtain⟨_,e,_⟩:=hl;exact Heap.lt_size e
        refine call_any_walk (wpAny_pyIter_list hl ?_)
        refine⟨s.heap.objs.size,[s.heap.objs.size,φ n],[s.heap.objs.size],its.toArray.size,_,_,fun i=>(bs[i]?).getD false,rfl,Walks.list (A:=X.A.in1) (I.ok.hd hc) _ (φ n) (Nat.ne_of_lt hlt) its.toArray,
          ⟨⟨_,Heap.get?_push_size _ rfl,rfl,rfl⟩,hl.push _⟩,fun i v s' Q' E' hP hQ=>?_,fun h' tk hk=>?_⟩
        · obtain⟨b,e,rfl⟩:=hb.get i v (by simpa using hP)
          simp only [e,Option.getD_some] at hQ
          exact wpAny_truthy_bool hQ
        · have e:((List.range its.toArray.size).any fun i=>(bs[i]?).getD false)=bs.any id:=by
            rw [List.size_toArray,hb.length];exact LSm.range_any bs
          rw [e]
          exact⟨.bl (bs.any id),H,I.kept (t':=tk) (LSm.kept_iter hk),rfl,Go.here hq R hp D.qBl⟩
      · exact hr.elim
    | _=>exact hr.elim
theorem qM3 {pos:Pos} {e:Expr} {es:List Expr} {t:TAD} {p:Pos} (hc:X.calm=true) (hm:X.mg "any" = none) (ha:DA X (e::es) t) (hg:Gl X "any") (he:starEach (e::es) X.env=(false,eval e X.env)::starEach es X.env) (hpl:(backTo pos (starEach es X.env)).any (·.1)=false):DE X (.Call (.Name "any" p) (e::es) [] pos) (qI qJG t):=qEG (qNR hc) hm PyProof.Rows.boot_any ha hg (by decide) (by decide) he hpl
def qCF:RDL:=fun ds st P=>match ds with
  | [x]=>(match x with
    | .int i=>i.natAbs.log2<1920∧P (.str (Str.ofString (toString i))) st
    | .str z=>P (.str z) st
    | _=>False)
  | _=>False
theorem qOk:qCU X (.type "str") qCF:=by
  k_dat 0"r15"
  k_dat 0"r16"
  k_dat 0"r18"
  · exact hr.elim
  rotate_left
  · exact hr.elim
  · k_dat 0"r19"
    obtain⟨u,rfl,ru⟩:=vals1 rv
    cases x with
    | int i =>
      have ev:=dx.int
      subst ev
      obtain⟨t,rfl⟩:=ru
      exact PySem.P.str_of_int hr.1 ⟨.str _,H,I.tok _,⟨_,rfl⟩,Go.here hq R hr.2 D.mkStr⟩
    | str z =>
      have ev:=dx.str
      subst ev
      obtain⟨t,rfl⟩:=ru
      exact PySem.P.str_of_str ⟨.str _,H,I,⟨_,rfl⟩,Go.here hq R hr D.mkStr⟩
    | _=>exact hr.elim
theorem qOe {pos:Pos} {e:Expr} {es:List Expr} {t:TAD} {p:Pos} (hm:X.mg "str" = none) (ha:DA X (e::es) t) (hg:Gl X "str") (he:starEach (e::es) X.env=(false,eval e X.env)::starEach es X.env) (hpl:(backTo pos (starEach es X.env)).any (·.1)=false):DE X (.Call (.Name "str" p) (e::es) [] pos) (qI qCF t):=qB6 qOk hm PyProof.Rows.boot_str ha hg (by decide) (by decide) he hpl
def qKQ:RDL:=fun ds st P=>match ds with
  | [x]=>(match x with
    | .str z=>∃ n:Int,0≤n∧n<10 ^ 10∧z=Str.ofString (toString n)∧P (.int n) st
    | _=>False)
  | _=>False
theorem qMC:qCU X (.type "int") qKQ:=by
  k_dat 0"r15"
  k_dat 0"r16"
  k_dat 0"r18"
  · exact hr.elim
  rotate_left
  · exact hr.elim
  · k_dat 0"r19"
    obtain⟨u,rfl,ru⟩:=vals1 rv
    cases x with
    | str z =>
      obtain⟨n,h0,h1,rfl,hp⟩:=hr
      have ev:=dx.str
      subst ev
      obtain⟨t,rfl⟩:=ru
      exact W.KIN.call_num h0 h1 ⟨.int _,H,I.tok _,⟨_,rfl⟩,Go.here hq R hp D.mkInt⟩
    | _=>exact hr.elim
theorem qKp {pos:Pos} {e:Expr} {es:List Expr} {t:TAD} {p:Pos} (hm:X.mg "int" = none) (ha:DA X (e::es) t) (hg:Gl X "int") (he:starEach (e::es) X.env=(false,eval e X.env)::starEach es X.env) (hpl:(backTo pos (starEach es X.env)).any (·.1)=false):DE X (.Call (.Name "int" p) (e::es) [] pos) (qI qKQ t):=qB6 qMC hm PyProof.Rows.boot_int ha hg (by decide) (by decide) he hpl
def qNJ:TSD:=fun _ _ _=>False
end
end L3
namespace L3
open PySem PySem.Spec PyProof.Rows L2
noncomputable def ItS (x:Str):It:=⟨fun i _=>i<x.cps.size,fun i H v H'=>H'=H∧∃ c,x.cps[i]? = some c∧v = .str ⟨#[c]⟩,fun i _=>x.cps.size≤i⟩
theorem qKe {P:Program} {w:World} {K:W.Frag} {tg:Expr} (x:Str) (t:Tok) (it:Addr):Turn P w K tg (ItS x) [it] it (fun i h=>h.IsStrIter it "str_ascii_iterator" x t i) where
  mem:=by simp
  obj:=fun i h st b hb=>by
    have e:b=it:=by simpa using hb
    subst e
    obtain⟨o,e,c,d⟩:=st
    exact⟨o,e,fun v z=>by rw [d] at z;cases z⟩
  keep:=fun i h h' st k=>by
    obtain⟨o,e,r⟩:=st
    exact⟨o,k it (by simp) o e,r⟩
  item:=by
    k_dat 0"r7"
    subst hP hw hK
    k_dat 0"r14"
    have hg:i<x.cps.size:=hg
    have hx:x.cps[i]? = some x.cps[i]:=by simp [hg]
    refine wpAny_pyNext_ascii_item st hx fun h' st' sb=>?_
    have I1:Inv X pins σ H { s with heap:=h',toks:=s.toks+1 }:=I.turned (t':=s.toks+1) (fun b o hb e=>(sb.2 b hb).trans e) f0 f1 f3 f4 f5
    obtain⟨o,e,c,d⟩:=id st'
    exact⟨_,rfl,qH2 (s:={ s with heap:=h',toks:=s.toks+1 }) e c d (by decide) ⟨.str ⟨#[x.cps[i]]⟩,H,I1,⟨_,rfl⟩,⟨rfl,_,hx,rfl⟩,st',fun b hb=>(hf b hb).1⟩⟩
  done:=by
    k_dat 0"r7"
    subst hP hw hK
    k_dat 0"r14"
    have hg:x.cps.size≤i:=hg
    exact wpAny_pyNext_ascii_end (I.ok.hd hc) st (by simp [hg]) fun h' eb=>⟨rfl,I.turned (t':=s.toks) (fun b o hb e=>eb b o hb e) f0 f1 f3 f4 f5⟩
  self:=fun _ _ _ _ _ st h=>wpAny_pyIter_striter_ascii st h
noncomputable def qAS (z:Str):List Dt:=z.cps.toList.map fun c=>.str ⟨#[c]⟩
def qMk (te:TD):TID:=fun ρ st P=>te ρ st fun x st1=>match x with
  | .str z=>(z.cps.all fun c=>decide (c<128))=true∧P (qAS z) (fun _=>True) st1
  | _=>False
section
variable {X:Cx} {tg iter:Expr}
theorem qM8 {te:TD} (he:DE X iter te):DI X tg iter (qMk te):=by
  intro pins s σ H R I h
  k_dat 0"r0"
  refine thn (he pins s σ H _ I ⟨φ,st,ρ,_,pre,ht,fun x st1 h1 φ1 H1 v b1 dx=>(show ∃ φ1 st1 x,Bhd X.K φ st H φ1 st1 H1∧D X.K φ1 st1.length H1 x v∧(match x with
    | .str z=>(z.cps.all fun c=>decide (c<128))=true∧P (qAS z) (fun _=>True) st1
    | _=>False) from⟨φ1,st1,x,b1,dx,h1⟩)⟩) fun u s1 ⟨v,H1,I1,ru,φ1,st1,x,b1,dx,h1⟩=>?_
  cases x with
  | str z =>
    obtain⟨ha,hp⟩:=h1
    have ev:=dx.str
    subst ev
    obtain⟨t,rfl⟩:=ru
    refine wpAny_pyIter_ascii ha ?_
    refine⟨s1.heap.objs.size,[s1.heap.objs.size],_,_,H1,rfl,I1.kept (t':=s1.toks) fun b o e=>Heap.get?_push_of_some _ e,qKe z t _,⟨_,Heap.get?_push_size _ rfl,rfl,rfl⟩,fun b hb=>?_,hq _ _ st1 hp φ1 H1 _ b1 ?_⟩
    · have e:b=s1.heap.objs.size:=by simpa using hb
      subst e
      k_dat 0"r30"
    · intro i φ' st' H' bh hok hi
      have hl:(qAS z).length=z.cps.size:=by simp [qAS]
      rw [hl] at hi
      refine⟨fun e=>by rw [hl] at e;exact Nat.le_of_eq e.symm,fun d ed=>?_⟩
      have e0:i<(qAS z).length:=(List.getElem?_eq_some_iff.mp ed).1
      rw [hl] at e0
      have ed':d = .str ⟨#[z.cps[i]]⟩:=by
        have q:(qAS z)[i]? = some (.str ⟨#[z.cps[i]]⟩):=by simp [qAS,e0]
        rw [q] at ed;exact (Option.some.inj ed).symm
      subst ed'
      refine⟨e0,fun y H2 hy=>?_⟩
      obtain⟨rfl,c,hc,rfl⟩:=hy
      have:z.cps[i]? = some z.cps[i]:=by simp [e0]
      rw [this] at hc
      cases hc
      exact⟨.refl bh.1,D.mkStr⟩
  | _=>exact h1.elim
end
theorem qGB {K:W.Frag} {φ:Nat→Addr} {N:Nat} {H:Hp}:∀ {zs:List Str} {ws:List V} {us:List Value},DL K φ N H (zs.map .str) ws→Vals ws us→∃ l:List (Str×Tok),us=strValues l∧l.map (·.1)=zs
  | [],ws,us,dl,rv=>by
    have e:ws=[]:=by simpa [DL] using dl
    subst e
    cases rv
    exact⟨[],rfl,rfl⟩
  | z :: zs,ws,us,dl,rv=>by
    obtain⟨v,r,rfl,h1,h2⟩:=dl
    cases rv with
    | @cons a u as us' h t =>
      have e:v = .str z:=h1.str
      subst e
      obtain⟨tk,e2⟩:=(show ∃ t,u=Value.str z t from h)
      subst e2
      obtain⟨l,rfl,rfl⟩:=qGB h2 t
      exact⟨(z,tk)::l,rfl,rfl⟩
def qCZ (to te:TD):TD:=fun ρ st P=>to ρ st fun o st1=>match o with
  | .str z=>te ρ st1 fun d st2=>(match d with
    | .lst n=>(match st2[n]? with
      | some so=>∃ zs:List Str,so.items=zs.map .str∧JoinOk z zs=true∧P (.str (Txt.join z zs)) st2
      | none=>False)
    | _=>False)
  | _=>False
noncomputable def qNV (K:W.Frag):V→List V→Hp→VK→Prop:=fun x vs H Q=>∃ z a xs zs φ st,x = .str z∧vs=[.ref a]∧SqL K H a xs∧DL K φ st H (zs.map Dt.str) xs∧JoinOk z zs=true∧Q (.str (Txt.join z zs)) H
section
variable {X:Cx}
theorem qLU:MtR X "str.join" (qNV X.K):=by
  k_dat 0"r24"
  obtain⟨z,a,xs,zs,φ,st,rfl,rfl,hs,dl,hj,q⟩:=h
  k_dat 0"r8"
  obtain⟨u,rfl,ru⟩:=rv.one
  cases ru
  obtain⟨its,rvs,pl,hz⟩:=I.list hs
  obtain⟨l,rfl,el⟩:=qGB dl rvs
  exact SC.join pl.isList el hj fun t' k=>⟨.str _,H,I.tok _,⟨_,rfl⟩,q⟩
theorem qLz {o e:Expr} {to te:TD} {apos cpos:Pos} (ho:DE X o to) (he:DE X e te)
    (hbase:attributeBase o "join" X.env (eval o X.env)=eval o X.env:=by rfl)
    (hfew:((backTo cpos (starEach [e] X.env)).all (fun x=>!x.1)&&(backToKw cpos (keywordEach [] X.env)).all (fun x=>x.1.isSome)
      && decide (([e]:List Expr).length+([]:List Keyword).length+(if ([]:List Keyword).isEmpty then 0 else 1)<30))=true:=by rfl)
    (hline:(apos.endLine==cpos.line)=true:=by rfl) (hs:starEach [e] X.env=(false,eval e X.env)::starEach [] X.env:=by rfl) (hplain:(backTo cpos (starEach ([]:List Expr) X.env)).any (·.1)=false:=by rfl) :
    DE X (.Call (.Attribute o "join" apos) [e] [] cpos) (qCZ to te):=by
  refine PE.imp (qEW PySem.F.plainAttrs_str PySem.F.slot_str_join PySem.F.type_str_join qLU ho (qAk he qBR hs) hbase hfew hline hs hplain) fun σ H Q h=>?_
  k_dat 0"r0"
  k_dat 0"r12"
  cases x with
  | str z =>
    have ev:=dx.str
    subst ev
    refine⟨rfl,?_⟩
    refine⟨φ1,st1,ρ,(fun ds st2=>match ds with
      | [d]=>(match d with
        | .lst n=>(match st2[n]? with
          | some so=>∃ zs:List Str,so.items=zs.map .str∧JoinOk z zs=true∧P (.str (Txt.join z zs)) st2
          | none=>False)
        | _=>False)
      | _=>False),pre.on b1,h1,fun ds st2 h2 φ2 H2 zs b2 dz=>?_⟩
    k_dat 0"r27"
    · exact h2.elim
    rotate_left
    · exact h2.elim
    · cases d with
      | lst n =>
        have h2:(match st2[n]? with
          | some so=>∃ zs:List Str,so.items=zs.map .str∧JoinOk z zs=true∧P (.str (Txt.join z zs)) st2
          | none=>False):=h2
        split at h2
        · rename_i so eo
          obtain⟨ys,ey,hj,hp⟩:=h2
          obtain⟨y,rfl,dy⟩:=dz.one
          obtain⟨ws,hs1,dws⟩:=b2.1.seq eo dy.isL
          rw [ey] at dws
          exact⟨z,φ2 n,ws,ys,φ2,_,rfl,by rw [dy.lst.2],hs1,dws,hj,hq _ _ hp φ2 _ _ (b1.trans b2) D.mkStr⟩
        · exact h2.elim
      | _=>exact h2.elim
  | _=>exact h1.elim
def qC5 (to te:TD):TD:=fun ρ st P=>to ρ st fun o st1=>match o with
  | .str z=>te ρ st1 fun d st2=>(match d with
    | .str y=>(y.length==0)=false∧z.length≤sizeLine∧(Txt.split z y).length≤sizeLine∧(Builtin.Str.partsBetween z (Builtin.Str.occurrences z y 0 z.length (z.length+1)) y.length).length≤sizeLine∧P (.lst st2.length) (st2++[.rw ((Txt.split z y).map .str)])
    | _=>False)
  | _=>False
noncomputable def qKq:V→List V→Hp→VK→Prop:=fun x vs H Q=>∃ z y,x = .str z∧vs=[.str y]∧(y.length==0)=false∧z.length≤sizeLine∧(Txt.split z y).length≤sizeLine∧(Builtin.Str.partsBetween z (Builtin.Str.occurrences z y 0 z.length (z.length+1)) y.length).length≤sizeLine∧∀ p,H p=none→Q (.ref p) (upd H p (.lst ((Txt.split z y).map .str)))
theorem qEd:∀ (zs:List Str) (k:Nat),Vals (zs.map .str) (strsFrom k zs)
  | [],_=>.nil
  | z::zs,k=>.cons ⟨_,rfl⟩ (qEd zs (k+1))
theorem qJJ:MtR X "str.split" qKq:=by
  k_dat 0"r24"
  obtain⟨z,y,rfl,rfl,h1,h2,h3,h4,q⟩:=h
  k_dat 0"r8"
  obtain⟨u,rfl,t2,rfl⟩:=rv.one
  have q0:=q _ I.fresh
  have hty:s.TypeIs (.str z t) "str":=rfl
  cases c1:(decide (z.length<y.length) || decide (Builtin.Str.strKind z<Builtin.Str.strKind y)) with
  | true =>
    have e:Txt.split z y=[z]:=by unfold Txt.split;rw [if_pos c1]
    rw [e] at q0 h3
    exact call_meets PySem.F.slot_str_split hty PySem.F.entry_str_split (PySem.F.args_str_split_2 _ _) (meets_str_split_cannot_occur z y t t2 c1) ⟨.ref _,_,I.qI0 (t':=s.toks) (show Vals [V.str z] [Value.str z t] from .cons ⟨t,rfl⟩ .nil) (by simpa using h3),rfl,q0⟩
  | false =>
    cases c2:(Builtin.Str.occurrences z y 0 z.length (z.length+1)).isEmpty with
    | true =>
      have e:Txt.split z y=[z]:=by unfold Txt.split;rw [if_neg (by rw [c1];decide),if_pos c2]
      rw [e] at q0 h3
      exact call_meets PySem.F.slot_str_split hty PySem.F.entry_str_split (PySem.F.args_str_split_2 _ _) (meets_str_split_not_found z y t t2 c1 h1 c2) ⟨.ref _,_,I.qI0 (t':=s.toks) (show Vals [V.str z] [Value.str z t] from .cons ⟨t,rfl⟩ .nil) (by simpa using h3),rfl,q0⟩
    | false =>
      have e:Txt.split z y=Builtin.Str.partsBetween z (Builtin.Str.occurrences z y 0 z.length (z.length+1)) y.length:=by unfold Txt.split;rw [if_neg (by rw [c1];decide),if_neg (by rw [c2];decide)]
      rw [e] at q0 h3
      exact call_meets PySem.F.slot_str_split hty PySem.F.entry_str_split (PySem.F.args_str_split_2 _ _) (meets_str_split_sep z y t t2 c1 h1 c2 h2 h4) ⟨.ref _,_,I.qI0 (qEd _ _) (by rw [List.length_map];exact h3),rfl,q0⟩
theorem qHd {K:W.Frag} {φ:Nat→Addr} {N:Nat} {H:Hp}:∀ {zs:List Str},DL K φ N H (zs.map .str) (zs.map .str)
  | []=>by simp [DL]
  | z::zs=>.cons D.mkStr qHd
theorem qJH {o e:Expr} {to te:TD} {apos cpos:Pos} (ho:DE X o to) (he:DE X e te)
    (hbase:attributeBase o "split" X.env (eval o X.env)=eval o X.env:=by rfl)
    (hfew:((backTo cpos (starEach [e] X.env)).all (fun x=>!x.1)&&(backToKw cpos (keywordEach [] X.env)).all (fun x=>x.1.isSome)
      && decide (([e]:List Expr).length+([]:List Keyword).length+(if ([]:List Keyword).isEmpty then 0 else 1)<30))=true:=by rfl)
    (hline:(apos.endLine==cpos.line)=true:=by rfl) (hs:starEach [e] X.env=(false,eval e X.env)::starEach [] X.env:=by rfl) (hplain:(backTo cpos (starEach ([]:List Expr) X.env)).any (·.1)=false:=by rfl) :
    DE X (.Call (.Attribute o "split" apos) [e] [] cpos) (qC5 to te):=by
  refine PE.imp (qEW PySem.F.plainAttrs_str PySem.F.slot_str_split PySem.F.type_str_split qJJ ho (qAk he qBR hs) hbase hfew hline hs hplain) fun σ H Q h=>?_
  k_dat 0"r0"
  k_dat 0"r12"
  cases x with
  | str z =>
    have ev:=dx.str
    subst ev
    refine⟨rfl,?_⟩
    refine⟨φ1,st1,ρ,(fun ds st2=>match ds with
      | [d]=>(match d with
        | .str y=>(y.length==0)=false∧z.length≤sizeLine∧(Txt.split z y).length≤sizeLine∧(Builtin.Str.partsBetween z (Builtin.Str.occurrences z y 0 z.length (z.length+1)) y.length).length≤sizeLine∧P (.lst st2.length) (st2++[.rw ((Txt.split z y).map .str)])
        | _=>False)
      | _=>False),pre.on b1,h1,fun ds st2 h2 φ2 H2 zs b2 dz=>?_⟩
    k_dat 0"r27"
    · exact h2.elim
    rotate_left
    · exact h2.elim
    · cases d with
      | str y =>
        obtain⟨g1,g2,g3,g4,hp⟩:=h2
        obtain⟨y',rfl,dy⟩:=dz.one
        exact⟨z,y,rfl,by rw [dy.str],g1,g2,g3,g4,fun p hp'=>hq _ _ hp _ _ _ (b1.trans (b2.trans (qBT b2.1 hp' qHd))) qDy⟩
      | _=>exact h2.elim
  | _=>exact h1.elim
end
end L3
namespace HT
open PySem PySem.Spec PyProof.Rows
section
variable {prog:Program} {w:World} {A:Around} {E:Value→Shared→Prop} {s:Shared}
theorem qDh {T newId:String} {self:Value} {rest:List Value} {kw:List (Str×Value)} (h1:typeLookup (.type T) (Str.ofString "__init__")=pure (some (.builtin "object.__init__"))) (h2:Bind.madeBy (.type T)=pure (some newId)) (h3:(some newId != some "object.__new__")=true)
    {Q:Fin→Shared→Prop} (hT:s.TypeIs self T) (hQ:Q (.done (.ret .none)) s):wpAny (model prog w) A (Builtin.«object.__init__» { pos:=self::rest,kw:=kw }) Q E s:=by
  unfold Builtin.«object.__init__»
  simp only []
  split
  · refine wpAny_bind (wpAny_typeOf hT ?_)
    refine wpAny_bind (wpAny_of_eq h1 ?_)
    refine wpAny_bind (wpAny_of_eq h2 ?_)
    rw [if_neg (by simp)]
    rw [if_neg (by rw [h3];simp)]
    exact wpAny_pure hQ
  · exact wpAny_pure hQ
theorem qC7 {T newId:String} {Bn:Builtin} {args:List Value} {kw:List (Str×Value)} {S:PySem.Spec} {Q:Value→Shared→Prop} (F:TypeCalled T newId "object.__init__") (hne:(some newId != some "object.__new__")=true)
    (h1:checkTypeCall T { pos:=args,kw:=kw }=pure ()) (h2:checkBuiltinCall newId { pos:=.type T::args,kw:=kw }=pure ()) (h3:∀ obj,argsOk "object.__init__" { pos:=obj::args,kw:=kw })
    (he:entryFor table newId=some Bn) (hm:Meets (Bn { pos:=.type T::args,kw:=kw }) S) (h:S A.in1 (wants (fun obj s₁=>s₁.TypeIs obj T∧Q obj s₁) E) s):wpAny (model prog w) A (call (.type T) args kw) Q E s:=by
  refine wpAny_call (codeAny_of_tree ?_)
  show wpAny _ _ (callAny (.type T) { pos:=args,kw:=kw }) _ _ s
  refine wpAny_pure ⟨Code.quiet_builtin _ (by decide +kernel),?_⟩
  refine codeAny_builtin PySem.F.entry_type_call ?_
  rw [Around.under_plain (weight_type_call_type T args kw) rfl]
  unfold Builtin.«type.__call__»
  simp only []
  rw [if_neg (by rw [F.notType];exact Bool.false_ne_true)]
  rw [if_neg (by rw [F.canCreate];exact Bool.false_ne_true)]
  refine wpAny_bind (wpAny_of_eq h1 ?_)
  obtain⟨c,tl,hmro⟩:=F.mro
  refine wpAny_bind (wpAny_of_eq hmro ?_)
  rw [if_neg (by simp)]
  refine wpAny_bind (wpAny_of_eq F.made ?_)
  k_dat 0"r20"
  refine wpAny_bind (wpAny_holding (wpAny_call (codeAny_mono (codeAny_call_builtin F.plain he (wpAny_of_eq h2 (hm prog w A.in1 _ s h))) fun r s1 hq=>?_)))
  cases r with
  | error e=>exact hq
  | ok f =>
    cases f with
    | ret v =>
      obtain⟨hT,hq⟩:=hq
      show wpAny _ _ _ _ _ s1
      refine wpAny_bind (wpAny_isInstance hT F.sub ?_)
      rw [if_neg (by simp)]
      refine wpAny_bind (wpAny_holding ?_)
      unfold callSpecial?
      refine wpAny_bind (wpAny_specialOf hT F.init.lookup ?_)
      simp only []
      refine wpAny_holding (wpAny_bind (wpAny_of_eq (F.init.bind v) ?_))
      refine wpAny_bind (wpAny_call (codeAny_call_builtin F.init.plain PySem.F.entry_object_init (F.init.check _ _ _ _ _ _ _ _ hT (h3 v) ?_)))
      refine qDh F.init.lookup F.made hne hT ?_
      refine wpAny_pure ?_
      show wpAny _ _ (if (Value.none != Value.none)=true then _ else _) _ _ _
      rw [if_neg (by simp)]
      exact wpAny_pure hq
    | next=>exact False.elim hq
    | brk=>exact False.elim hq
    | cont=>exact False.elim hq
noncomputable def qHP:Manifest.Signature:=⟨.hand, "enumerate.__new__", "__new__",.cls,[]⟩
theorem qLt:Manifest.signature? "enumerate.__new__" = some qHP:=rfl
theorem qKM (a:Value) (x:Str) (v:Value):Bind.checkArgs "enumerate.__new__" qHP { pos:=[.type "enumerate",a],kw:=[(x,v)] }=pure ():=by rfl
theorem qJx (a:Value):Bind.checkArgs "enumerate.__new__" qHP { pos:=[.type "enumerate",a],kw:=[] }=pure ():=by rfl
theorem qEa (a:Value) (x:Str) (v:Value):checkBuiltinCall "enumerate.__new__" { pos:=[.type "enumerate",a],kw:=[(x,v)] }=pure ():=by
  have h:=PySem.F.newCall_enumerate_1 a
  unfold checkBuiltinCall at h ⊢
  rw [qLt] at h ⊢
  simp only [qJx a] at h
  simp only [qKM a x v]
  exact h
end
theorem qFh (l:Addr) (items:Array Value) (n:Nat) (dct:Option Addr) (sl:Array (Option Value)) (t:Tok) :
    Meets (Builtin.«enumerate.__new__» ⟨[.type "enumerate",.ref l],[(Str.ofString "start",.int 1 t)]⟩) (fun _ R s=>s.heap.get? l=some { cls:=.type "tuple",dict:=dct,data:=.seq items n,slots:=sl } ∧
      R (.ok (.ret (.ref (s.heap.push { cls:=.type "tuple_iterator",data:=.fields #[.ref l,.int 0 0] }).objs.size)))
        { s with heap:=(s.heap.push { cls:=.type "tuple_iterator",data:=.fields #[.ref l,.int 0 0] }).push { cls:=.type "enumerate",data:=.fields #[.none,.bool false,.ref s.heap.objs.size,rawInt 1,.none,.none] } }) :=
  .of_wp fun prog w A R s h=>by
    obtain⟨hp,g,d,tk,os⟩:=s;obtain⟨hl,h⟩:=h
    have hsub:=sub_enumerate
    have hT:IsTup (Shared.heap ⟨hp,g,d,tk,os⟩) l items:=⟨_,hl,rfl,n,rfl⟩
    wp_walk using AutoSeq1.wpAny_loadPart' hl
    refine wpAny_stack_any fun st=>wpAny_pure ?_
    split
    · rename_i c _ _ _ _ _
      cases (c==Value.type "enumerate")
      · wp_walk using AutoSeq1.wpAny_loadPart' hl,iter_tuple hT
        exact⟨_,rfl,h⟩
      · wp_walk using AutoSeq1.wpAny_loadPart' hl,iter_tuple hT
        exact⟨_,rfl,h⟩
    · wp_walk using AutoSeq1.wpAny_loadPart' hl,iter_tuple hT
      exact⟨_,rfl,h⟩
section
variable {prog:Program} {w:World} {A:Around} {E:Value→Shared→Prop} {s:Shared}
theorem qGD {l:Addr} {items:Array Value} {t:Tok} {Q:Value→Shared→Prop} (hT:IsTup s.heap l items)
    (h:∀ h',IsEnum h' (s.heap.objs.size+1) s.heap.objs.size 1 .none→IsTupIter h' s.heap.objs.size l 0→h'.objs.size=s.heap.objs.size+2→(∀ b o,s.heap.get? b=some o→h'.get? b=some o)→Q (.ref (s.heap.objs.size+1)) { s with heap:=h' }) :
    wpAny (model prog w) A (call (.type "enumerate") [.ref l] [(Str.ofString "start",.int 1 t)]) Q E s:=by
  obtain⟨⟨c,dct,dt,sl⟩,hl,hc,n,hd⟩:=hT
  replace hc:c = .type "tuple":=hc
  replace hd:dt = .seq items n:=hd
  subst hc hd
  refine qC7 F.called_enumerate (by decide) (by rfl) (qEa _ _ _) (fun obj=>by rfl) F.entry_enumerate_new (qFh l items n dct sl t) ⟨hl,?_⟩
  have hz:(s.heap.push { cls:=.type "tuple_iterator",data:=.fields #[.ref l,.int 0 0] }).objs.size=s.heap.objs.size+1:=Heap.size_push ..
  show _∧_
  rw [hz]
  have he:IsEnum ((s.heap.push { cls:=.type "tuple_iterator",data:=.fields #[.ref l,.int 0 0] }).push { cls:=.type "enumerate",data:=.fields #[.none,.bool false,.ref s.heap.objs.size,rawInt 1,.none,.none] }) (s.heap.objs.size+1) s.heap.objs.size 1 .none:=by
    have q:=Heap.get?_push_size (s.heap.push { cls:=.type "tuple_iterator",data:=.fields #[.ref l,.int 0 0] }) (o:={ cls:=.type "enumerate",data:=.fields #[.none,.bool false,.ref s.heap.objs.size,rawInt 1,.none,.none] }) rfl
    rw [hz] at q;exact q
  k_dat 0"r64"
end
theorem qE2 (l:Addr) (items:Array Value) (n:Nat) (dct:Option Addr) (sl:Array (Option Value)) (t:Tok) :
    Meets (Builtin.«enumerate.__new__» ⟨[.type "enumerate",.ref l],[(Str.ofString "start",.int 1 t)]⟩) (fun _ R s=>s.heap.get? l=some { cls:=.type "list",dict:=dct,data:=.seq items n,slots:=sl } ∧
      R (.ok (.ret (.ref (s.heap.push { cls:=.type "list_iterator",data:=.fields #[.ref l,.int 0 0] }).objs.size)))
        { s with heap:=(s.heap.push { cls:=.type "list_iterator",data:=.fields #[.ref l,.int 0 0] }).push { cls:=.type "enumerate",data:=.fields #[.none,.bool false,.ref s.heap.objs.size,rawInt 1,.none,.none] } }) :=
  .of_wp fun prog w A R s h=>by
    obtain⟨hp,g,d,tk,os⟩:=s;obtain⟨hl,h⟩:=h
    have hsub:=sub_enumerate
    have hT:Heap.IsList (Shared.heap ⟨hp,g,d,tk,os⟩) l items:=⟨_,hl,rfl,n,rfl⟩
    wp_walk using AutoSeq1.wpAny_loadPart' hl
    refine wpAny_stack_any fun st=>wpAny_pure ?_
    split
    · rename_i c _ _ _ _ _
      cases (c==Value.type "enumerate")
      · wp_walk using AutoSeq1.wpAny_loadPart' hl,wpAny_pyIter_list hT
        exact⟨_,rfl,h⟩
      · wp_walk using AutoSeq1.wpAny_loadPart' hl,wpAny_pyIter_list hT
        exact⟨_,rfl,h⟩
    · wp_walk using AutoSeq1.wpAny_loadPart' hl,wpAny_pyIter_list hT
      exact⟨_,rfl,h⟩
section
variable {prog:Program} {w:World} {A:Around} {E:Value→Shared→Prop} {s:Shared}
theorem qGG {l:Addr} {items:Array Value} {t:Tok} {Q:Value→Shared→Prop} (hT:Heap.IsList s.heap l items)
    (h:∀ h',IsEnum h' (s.heap.objs.size+1) s.heap.objs.size 1 .none→Heap.IsListIter h' s.heap.objs.size l 0→h'.objs.size=s.heap.objs.size+2→(∀ b o,s.heap.get? b=some o→h'.get? b=some o)→Q (.ref (s.heap.objs.size+1)) { s with heap:=h' }) :
    wpAny (model prog w) A (call (.type "enumerate") [.ref l] [(Str.ofString "start",.int 1 t)]) Q E s:=by
  obtain⟨⟨c,dct,dt,sl⟩,hl,hc,n,hd⟩:=hT
  replace hc:c = .type "list":=hc
  replace hd:dt = .seq items n:=hd
  subst hc hd
  refine qC7 F.called_enumerate (by decide) (by rfl) (qEa _ _ _) (fun obj=>by rfl) F.entry_enumerate_new (qE2 l items n dct sl t) ⟨hl,?_⟩
  have hz:(s.heap.push { cls:=.type "list_iterator",data:=.fields #[.ref l,.int 0 0] }).objs.size=s.heap.objs.size+1:=Heap.size_push ..
  show _∧_
  rw [hz]
  have he:IsEnum ((s.heap.push { cls:=.type "list_iterator",data:=.fields #[.ref l,.int 0 0] }).push { cls:=.type "enumerate",data:=.fields #[.none,.bool false,.ref s.heap.objs.size,rawInt 1,.none,.none] }) (s.heap.objs.size+1) s.heap.objs.size 1 .none:=by
    have q:=Heap.get?_push_size (s.heap.push { cls:=.type "list_iterator",data:=.fields #[.ref l,.int 0 0] }) (o:={ cls:=.type "enumerate",data:=.fields #[.none,.bool false,.ref s.heap.objs.size,rawInt 1,.none,.none] }) rfl
    rw [hz] at q;exact q
  k_dat 0"r64"
end
end HT
namespace L3
open PySem PySem.Spec PyProof.Rows L2
theorem qDB {prog : Program} {w : World} {A :         Around} {it:Addr} {fp:List Addr} {n:Nat} {P:Nat→Value→Prop} {St:Nat→Heap→Prop} (h:Draws prog w A it fp n P St) :
    Draws prog w A it fp (n+1) (fun i v=>∃ j,i=j+1∧P j v) (fun i hp=>∃ j,i=j+1∧St j hp) where
  live:=fun i hp ⟨j,_,st⟩=>h.live j hp st
  frame:=fun i hp hp' ⟨j,e,st⟩ hk=>⟨j,e,h.frame j hp hp' st hk⟩
  item:=fun i s Q E hi ⟨j,e,st⟩ hQ=>h.item j s Q E (by lia) st fun x h' tk hp st' sb=>hQ x h' tk ⟨j,e,hp⟩ ⟨j+1,by lia,st'⟩ sb
  done := fun s Q E ⟨j, e, st⟩ hE => h.done s Q E (by have:n=j:=by lia
                                                      subst this;exact st) hE
theorem qGh {prog:Program} {w:World} {A:Around} {E:Value→Shared→Prop} {s:Shared} {e it t:Addr} {i:Nat} {old:Value} {items:Array Value} {Q:Option Value→Shared→Prop} (hh:A.handled=none) {z:Int} (he:IsEnum s.heap e it z old) (hit:IsTupIter s.heap it t i) (ht:IsTup s.heap t items) (hne:t≠it) (hn:items.size≤i)
    (hQ:∀ h',Heap.ExtBut it s.heap h'→Q none { s with heap:=h' }):wpAny (model prog w) A (pyNext (.ref e)) Q E s:=by
  have hT:s.TypeIs (.ref e) "enumerate":=⟨_,he,rfl⟩
  unfold pyNext
  k_dat 0"r65"
  show wpAny _ _ (field (.ref e) 2 >>= _) _ _ _
  refine wpAny_bind (wpAny_field he rfl (x:=.ref it) rfl (wpAny_bind (HT.qBc (A:=A.in1) hh hit ht (by simp;lia) fun h' x he' hx'=>?_)))
  obtain⟨o,ho,hc⟩:=hx'
  k_dat 0"r66"
theorem qHF {prog:Program} {w:World} {A:Around} {E:Value→Shared→Prop} {s:Shared} {e it t:Addr} {i:Nat} {old:Value} {items:Array Value} {Q:Option Value→Shared→Prop} (hh:A.handled=none) {z:Int} (he:IsEnum s.heap e it z old) (hit:s.heap.IsListIter it t i) (ht:s.heap.IsList t items) (hne:t≠it) (hn:items.size≤i)
    (hQ:∀ h',Heap.ExtBut it s.heap h'→Q none { s with heap:=h' }):wpAny (model prog w) A (pyNext (.ref e)) Q E s:=by
  have hT:s.TypeIs (.ref e) "enumerate":=⟨_,he,rfl⟩
  unfold pyNext
  k_dat 0"r65"
  show wpAny _ _ (field (.ref e) 2 >>= _) _ _ _
  refine wpAny_bind (wpAny_field he rfl (x:=.ref it) rfl (wpAny_bind (wpAny_nextOf_list_end (A:=A.in1) hh hit ht (by simp;lia) fun h' x he' hx'=>?_)))
  obtain⟨o,ho,hc⟩:=hx'
  k_dat 0"r66"
noncomputable def qPv (K:W.Frag) (a:Addr):It :=
  ⟨fun i H=>∃ xs x,SqT K H a xs∧xs[i]? = some x,fun i H x H'=>∃ p v,H p=none∧H'=upd H p (.tup [.int ((i+1:Nat):Int),v])∧x = .ref p∧∀ xs,SqT K H a xs→xs[i]? = some v,fun i H=>∃ xs,SqT K H a xs∧xs.length≤i⟩
theorem qGb {P:Program} {w:World} {K:W.Frag} {elts:List Expr} {x1} {pos:Pos} (a e it:Addr) (hei:e≠it) :
    Turn P w K (.Tuple elts x1 pos) (qPv K a) [e,it] e (fun i h=>(∃ old,IsEnum h e it ((i+1:Nat):Int) old)∧IsTupIter h it a i) where
  mem:=by simp
  obj :=fun i h st b hb=>by
    obtain⟨⟨old,he⟩,o,ho,hc,hd⟩:=st
    k_dat 0"r17"
    · exact⟨_,he,fun v z=>by
        have z':Data.fields _=Data.cell v:=z
        cases z'⟩
    · k_dat 0"r21"
      subst this
      exact⟨o,ho,fun v z=>by rw [hd] at z;cases z⟩
  keep:=fun i h h' st k=>by
    k_dat 0"r22"
    exact⟨⟨old,k e (by simp) _ he⟩,qDv hit fun o x=>k it (by simp) o x⟩
  item := by
    k_dat 0"r7"
    subst hP hw hK
    k_dat 0"r22"
    obtain⟨xs,x,hq,hx⟩:=hg
    obtain⟨its,rv,p,hz⟩:=I.tuple hq
    obtain⟨u,hu,ru⟩:=rv.get hx
    obtain⟨e0,e1,e2,e3,e4,e5⟩:=hf e (by simp)
    k_dat 0"r35"
    have hit0:=hit
    have hai:a≠it:=fun z=>by
      obtain⟨o1,q1,q2,q3⟩:=hit
      obtain⟨o2,q4,q5,q6⟩:=p
      k_dat 0"r36"
    have hea:e≠a:=fun z=>by
      obtain⟨o2,q4,q5,q6⟩:=p
      rw [← z,he] at q4;cases q4;injection q5 with q7;exact absurd q7 (by decide)
    refine wpAny_pyNext_enum_itemD (i:=i+1) (qDB (HT.qIR (A:=X.A.in1) (I.ok.hd hc) it a hai its.toArray)) he ⟨i,rfl,hit,p⟩ (by have:=(Array.getElem?_eq_some_iff.mp (show its.toArray[i]? = some u by simpa using hu));exact Nat.succ_lt_succ this.1) hei (by simp;exact⟨hei,hea⟩) fun x0 h' tk hx0 ho hst' hT hsz hk=>?_
    have hxu:x0=u:=by
      have q:its.toArray[i]? = some u:=by simpa using hu
      obtain⟨j0,ej0,hx0⟩:=hx0
      have ej0:i=j0:=by lia
      subst ej0
      have hx0:its.toArray[i]? = some x0:=hx0
      rw [q] at hx0;exact (Option.some.inj hx0).symm
    subst hxu
    obtain⟨j1,ej1,hit',hp'⟩:=hst'
    have ej1:j1=i+1:=by lia
    subst ej1
    k_dat 0"r67"
    k_dat 0"r68"
    k_dat 0"r69"
    have hp:H s.heap.objs.size=none:=I.hok.fresh (Nat.le_refl _)
    k_dat 0"r70"
    refine⟨.ref s.heap.objs.size,upd H s.heap.objs.size (.tup [.int ((i+1:Nat):Int),x]),?_,rfl,⟨_,x,hp,rfl,rfl,fun ys hy=>by rw [I.qB2 hy hq];exact hx⟩,⟨⟨x0,by simpa using he2⟩,qDv hit' fun o y=>(hs2.2 it hei.symm).trans y⟩,fun b hb=>?_⟩
    · show Inv X pins σ _ { s with heap:=h2,gens:=s.gens,drawn:=s.drawn,toks:=tk+1 }
      refine Inv.step (s:=s) (h':=h2) (g':=s.gens) (d':=s.drawn) (t':=tk+1) (ch:=[e,it]) I (fun b hb=>?_) (fun b o _ _ hc q _=>hk2 b o (fun z=>hc (by simp [z])) (fun z=>hc (by simp [z])) q) (fun b o _ _ hc q _=>⟨o.slots,hk2 b o (fun z=>hc (by simp [z])) (fun z=>hc (by simp [z])) q⟩)
        (fun b o _ q n=>by rw [qL (qBL (Heap.lt_size q) (Nat.le_refl _))];exact n) (fun b o hc q=>⟨o,hk2 b o (fun z=>hc (by simp [z])) (fun z=>hc (by simp [z])) q⟩)
        (fun b ys q=>by rw [qL (qS q hp)];exact q) (fun b o v q=>by rw [qL (qS q hp)];exact q) (fun b ps q=>⟨#[],by rw [qL (qS q hp),q];simp⟩) (fun m hm=>?_) (fun b v q=>?_) I.bare
      · k_dat 0"r17"
        · exact⟨e3,e1,e4,e5⟩
        · k_dat 0"r21"
          subst this
          exact⟨i3,i1,i4,i5⟩
      · obtain⟨o,es,ep,ho,r⟩:=hm
        exact⟨o,es,ep,hk2 _ o (Ne.symm e1) (Ne.symm i1) ho,r⟩
      · by_cases hb:b=s.heap.objs.size
        · subst hb
          rw [qQ] at q
          cases q
          k_dat 0"r71"
        · rw [qL hb] at q
          k_dat 0"r72"
          rcases hc with rfl | hc
          · exact hk2 c o (nt c v q).1 (nt c v q).2 y
          · exact hk2 c o (nt c _ hc).1 (nt c _ hc).2 y
    · have hlt:b<s.heap.objs.size:=by
        k_dat 0"r17"
        · exact Heap.lt_size he
        · k_dat 0"r21"
          subst this
          obtain⟨o,ho,_⟩:=hit
          exact Heap.lt_size ho
      rw [qL (qBL hlt (Nat.le_refl _))]
      exact (hf b hb).1
  done:=by
    k_dat 0"r7"
    subst hP hw hK
    k_dat 0"r22"
    obtain⟨xs,hq,hx⟩:=hg
    obtain⟨its,rv,p,hz⟩:=I.tuple hq
    k_dat 0"r35"
    have hl:=rv.length
    have hai:a≠it:=fun z=>by
      obtain⟨o1,q1,q2,q3⟩:=hit
      obtain⟨o2,q4,q5,q6⟩:=p
      k_dat 0"r36"
    exact qGh (I.ok.hd hc) he hit p hai (by simp;lia) fun h' eb=>⟨rfl,I.turned (t':=s.toks) (fun b o hb e=>eb b o hb e) i0 i1 i3 i4 i5⟩
  self:=fun _ _ _ _ _ st h=>by
    obtain⟨⟨old,he⟩,_⟩:=st
    exact wpAny_pyIter_enum he h
noncomputable def qPt (K:W.Frag) (a:Addr):It :=
  ⟨fun i H=>∃ xs x,SqL K H a xs∧xs[i]? = some x,fun i H x H'=>∃ p v,H p=none∧H'=upd H p (.tup [.int ((i+1:Nat):Int),v])∧x = .ref p∧∀ xs,SqL K H a xs→xs[i]? = some v,fun i H=>∃ xs,SqL K H a xs∧xs.length≤i⟩
theorem qGg {P:Program} {w:World} {K:W.Frag} {elts:List Expr} {x1} {pos:Pos} (a e it:Addr) (hei:e≠it) :
    Turn P w K (.Tuple elts x1 pos) (qPt K a) [e,it] e (fun i h=>(∃ old,IsEnum h e it ((i+1:Nat):Int) old)∧h.IsListIter it a i) where
  mem:=by simp
  obj :=fun i h st b hb=>by
    obtain⟨⟨old,he⟩,o,ho,hc,hd⟩:=st
    k_dat 0"r17"
    · exact⟨_,he,fun v z=>by
        have z':Data.fields _=Data.cell v:=z
        cases z'⟩
    · k_dat 0"r21"
      subst this
      exact⟨o,ho,fun v z=>by rw [hd] at z;cases z⟩
  keep:=fun i h h' st k=>by
    k_dat 0"r22"
    exact⟨⟨old,k e (by simp) _ he⟩,hit.at fun o x=>k it (by simp) o x⟩
  item := by
    k_dat 0"r7"
    subst hP hw hK
    k_dat 0"r22"
    obtain⟨xs,x,hq,hx⟩:=hg
    obtain⟨its,rv,p,hz⟩:=I.list hq
    obtain⟨u,hu,ru⟩:=rv.get hx
    obtain⟨e0,e1,e2,e3,e4,e5⟩:=hf e (by simp)
    k_dat 0"r35"
    have hit0:=hit
    have hai:a≠it:=fun z=>by
      obtain⟨o1,q1,q2,q3⟩:=hit
      obtain⟨o2,q4,q5,q6⟩:=p.isList
      k_dat 0"r36"
    have hea:e≠a:=fun z=>by
      obtain⟨o2,q4,q5,q6⟩:=p.isList
      rw [← z,he] at q4;cases q4;injection q5 with q7;exact absurd q7 (by decide)
    refine wpAny_pyNext_enum_itemD (i:=i+1) (qDB (Draws.list (A:=X.A.in1) (I.ok.hd hc) it a hai its.toArray)) he ⟨i,rfl,hit,p.isList⟩ (by have:=(Array.getElem?_eq_some_iff.mp (show its.toArray[i]? = some u by simpa using hu));exact Nat.succ_lt_succ this.1) hei (by simp;exact⟨hei,hea⟩) fun x0 h' tk hx0 ho hst' hT hsz hk=>?_
    have hxu:x0=u:=by
      have q:its.toArray[i]? = some u:=by simpa using hu
      obtain⟨j0,ej0,hx0⟩:=hx0
      have ej0:i=j0:=by lia
      subst ej0
      have hx0:its.toArray[i]? = some x0:=hx0
      rw [q] at hx0;exact (Option.some.inj hx0).symm
    subst hxu
    obtain⟨j1,ej1,hit',hp'⟩:=hst'
    have ej1:j1=i+1:=by lia
    subst ej1
    k_dat 0"r67"
    k_dat 0"r68"
    k_dat 0"r69"
    have hp:H s.heap.objs.size=none:=I.hok.fresh (Nat.le_refl _)
    k_dat 0"r70"
    refine⟨.ref s.heap.objs.size,upd H s.heap.objs.size (.tup [.int ((i+1:Nat):Int),x]),?_,rfl,⟨_,x,hp,rfl,rfl,fun ys hy=>by rw [I.qFx hy hq];exact hx⟩,⟨⟨x0,by simpa using he2⟩,hit'.at fun o y=>(hs2.2 it hei.symm).trans y⟩,fun b hb=>?_⟩
    · show Inv X pins σ _ { s with heap:=h2,gens:=s.gens,drawn:=s.drawn,toks:=tk+1 }
      refine Inv.step (s:=s) (h':=h2) (g':=s.gens) (d':=s.drawn) (t':=tk+1) (ch:=[e,it]) I (fun b hb=>?_) (fun b o _ _ hc q _=>hk2 b o (fun z=>hc (by simp [z])) (fun z=>hc (by simp [z])) q) (fun b o _ _ hc q _=>⟨o.slots,hk2 b o (fun z=>hc (by simp [z])) (fun z=>hc (by simp [z])) q⟩)
        (fun b o _ q n=>by rw [qL (qBL (Heap.lt_size q) (Nat.le_refl _))];exact n) (fun b o hc q=>⟨o,hk2 b o (fun z=>hc (by simp [z])) (fun z=>hc (by simp [z])) q⟩)
        (fun b ys q=>by rw [qL (qS q hp)];exact q) (fun b o v q=>by rw [qL (qS q hp)];exact q) (fun b ps q=>⟨#[],by rw [qL (qS q hp),q];simp⟩) (fun m hm=>?_) (fun b v q=>?_) I.bare
      · k_dat 0"r17"
        · exact⟨e3,e1,e4,e5⟩
        · k_dat 0"r21"
          subst this
          exact⟨i3,i1,i4,i5⟩
      · obtain⟨o,es,ep,ho,r⟩:=hm
        exact⟨o,es,ep,hk2 _ o (Ne.symm e1) (Ne.symm i1) ho,r⟩
      · by_cases hb:b=s.heap.objs.size
        · subst hb
          rw [qQ] at q
          cases q
          k_dat 0"r71"
        · rw [qL hb] at q
          k_dat 0"r72"
          rcases hc with rfl | hc
          · exact hk2 c o (nt c v q).1 (nt c v q).2 y
          · exact hk2 c o (nt c _ hc).1 (nt c _ hc).2 y
    · have hlt:b<s.heap.objs.size:=by
        k_dat 0"r17"
        · exact Heap.lt_size he
        · k_dat 0"r21"
          subst this
          obtain⟨o,ho,_⟩:=hit
          exact Heap.lt_size ho
      rw [qL (qBL hlt (Nat.le_refl _))]
      exact (hf b hb).1
  done:=by
    k_dat 0"r7"
    subst hP hw hK
    k_dat 0"r22"
    obtain⟨xs,hq,hx⟩:=hg
    obtain⟨its,rv,p,hz⟩:=I.list hq
    k_dat 0"r35"
    have hl:=rv.length
    have hai:a≠it:=fun z=>by
      obtain⟨o1,q1,q2,q3⟩:=hit
      obtain⟨o2,q4,q5,q6⟩:=p.isList
      k_dat 0"r36"
    exact qHF (I.ok.hd hc) he hit p.isList hai (by simp;lia) fun h' eb=>⟨rfl,I.turned (t':=s.toks) (fun b o hb e=>eb b o hb e) i0 i1 i3 i4 i5⟩
  self:=fun _ _ _ _ _ st h=>by
    obtain⟨⟨old,he⟩,_⟩:=st
    exact wpAny_pyIter_enum he h
theorem qD8 {M:Model} {A:Around} {E:Value→Shared→Prop} {s:Shared} {pos:Pos} {T:String} {m:Sem Value} {kws:List (Option Str×Sem Value)} {Q:Value→Shared→Prop}
  (hall:kws.all (·.1.isSome)=true) (hno:kws.any (·.1.isNone)=false)
  (h:wpAny M A (spliced [(false,m)]) (fun vs s1=>wpAny M A (evalAll (kws.map (·.2))) (fun ks s2=>wpAny M A (call (.type T) vs ((kws.filterMap (·.1)).zip ks)) Q E s2) E s1) E s) :
  wpAny M A (callWith pos (.type T) [] [(false,m)] kws) Q E s:=by
  unfold callWith
  refine wpAny_bind (wpAny_holding ?_)
  unfold evalArgs
  simp only []
  refine wpAny_bind (wpAny_mono h (fun vs s1 h1=>?_) (fun e s' h=>h))
  k_dat 0"r20"
  refine wpAny_holding ?_
  rw [if_pos hall]
  refine wpAny_bind (wpAny_mono h1 (fun ks s2 h2=>?_) (fun e s' h=>h))
  k_dat 0"r20"
  refine wpAny_pure ?_
  refine wpAny_bind (wpAny_standAt ?_)
  refine wpAny_bind ?_
  simp only [keeperOf]
  refine wpAny_pure ?_
  have e1:([(false,m)].any fun x=>x.fst)=false:=rfl
  simp only [e1,hno,Bool.or_false]
  exact wpAny_bind (wpAny_mono h2 (fun r s3 h3=>wpAny_bind (wpAny_holding (wpAny_point (wpAny_pure h3)))) (fun e s' h=>h))
def qKP (te:TD):TID:=fun ρ st P=>te ρ st fun x st1=>match x with
  | .tup xs=>P (qAf 1 xs) (fun _=>True) st1
  | .lst n=>(match st1[n]? with
    | some o=>P (qAf 1 o.items) (fun st'=>(st'[n]?).map SO.items=some o.items) st1
    | none=>False)
  | _=>False
section
variable {X:Cx} {a e2:Expr} {elts:List Expr} {x1:Nat} {tpos pos p kp:Pos} {te:TD}
theorem qJ1 (hm:X.mg "enumerate" = none) (ha:DE X a te) (hb:DE X e2 (qC (.int 1))) (hg:Gl X "enumerate") (hs:starEach [a] X.env=[(false,eval a X.env)])
    (hall:(backToKw pos (keywordEach [⟨some "start",e2,kp⟩] X.env)).all (·.1.isSome)=true) (hks:(backToKw pos (keywordEach [⟨some "start",e2,kp⟩] X.env)).filterMap (·.1)=[Str.ofString "start"])
    (hpl:(backToKw pos (keywordEach [⟨some "start",e2,kp⟩] X.env)).any (·.1.isNone)=false) (hbk:∃ m,backTo pos [(false,eval a X.env)]=[(false,m)]) :
    DI X (.Tuple elts x1 tpos) (.Call (.Name "enumerate" p) [a] [⟨some "start",e2,kp⟩] pos) (qKP te):=by
  intro pins s σ H R I h
  k_dat 0"r0"
  refine wpAny_Call_Name_kw (qCO I hg hm PyProof.Rows.boot_enumerate ?_ (by decide) (by decide))
  have hA:=qAk ha qBR hs pos pins s σ H _ I ⟨φ,st,ρ,(fun ds st1=>match ds with
    | [x]=>(match x with
      | .tup xs=>P (qAf 1 xs) (fun _=>True) st1
      | .lst n=>(match st1[n]? with
        | some o=>P (qAf 1 o.items) (fun st'=>(st'[n]?).map SO.items=some o.items) st1
        | none=>False)
      | _=>False)
    | _=>False),pre,ht,fun ds st1 h1 φ1 H1 vs b1 dl=>(show ∃ φ1 st1 ds,Bhd X.K φ st H φ1 st1 H1∧DL X.K φ1 st1.length H1 ds vs∧(match ds with
    | [x]=>(match x with
      | .tup xs=>P (qAf 1 xs) (fun _=>True) st1
      | .lst n=>(match st1[n]? with
        | some o=>P (qAf 1 o.items) (fun st'=>(st'[n]?).map SO.items=some o.items) st1
        | none=>False)
      | _=>False)
    | _=>False) from⟨φ1,st1,ds,b1,dl,h1⟩)⟩
  obtain⟨mv,hbk⟩:=hbk
  rw [hs,hbk] at hA ⊢
  refine qD8 hall hpl (thn hA fun us s1 hqz=>?_)
  obtain⟨vs,H1,I1,rv,φ1,st1,ds,b1,dl,h1⟩:=hqz
  refine thn (qLD hb qOF pos pins s1 σ H1 (fun zs H2=>∃ φ2,Bhd X.K φ1 st1 H1 φ2 st1 H2∧zs=[V.int 1]) I1 ⟨φ1,st1,ρ,(fun d st2=>st2=st1∧d = .int 1),pre.on b1,⟨rfl,rfl⟩,fun d st2 h2 φ2 H2 v b2 dv=>(by
    obtain⟨rfl,rfl⟩:=h2
    exact⟨φ2,b2,by rw [dv.int]⟩)⟩) fun ws s2 ⟨zs,H2,I2,rz,φ2,b2,ez⟩=>?_
  subst ez
  obtain⟨w1,rfl,t1,rfl⟩:=vals1 rz
  rw [hks]
  show wpAny _ _ (call (.type "enumerate") us [(Str.ofString "start",Value.int 1 t1)]) _ _ s2
  have b12:=b1.trans b2
  have dl2:=dl.evo b2.2
  k_dat 0"r27"
  · exact h1.elim
  rotate_left
  · exact h1.elim
  · obtain⟨v,rfl,dv⟩:=dl2.one
    obtain⟨u,rfl,ru⟩:=vals1 rv
    cases d with
    | tup xs =>
      have h1:P (qAf 1 xs) (fun _=>True) st1:=h1
      obtain⟨a,ws,ev,hs1,dws⟩:=dv.tup
      subst ev
      cases ru
      obtain⟨its,rvs,pl,hz⟩:=I2.tuple hs1
      refine HT.qGD pl fun h' he hit hsz hk=>?_
      refine wpAny_pyIter_enum (s:={ s2 with heap:=h' }) he ?_
      have I3:Inv X pins σ H2 { s2 with heap:=h' }:=I2.kept (t':=s2.toks) hk
      have hei:s2.heap.objs.size+1≠s2.heap.objs.size:=by lia
      refine⟨s2.heap.objs.size+1,[s2.heap.objs.size+1,s2.heap.objs.size],_,_,H2,rfl,I3,qGb a _ _ hei,⟨⟨_,he⟩,hit⟩,fun b hb=>?_,hq _ _ st1 h1 φ2 H2 _ b12 ?_⟩
      · have hle:s2.heap.objs.size≤b:=by
          rcases List.mem_cons.mp hb with e | hb
          · rw [e];exact Nat.le_succ _
          · have e:b=s2.heap.objs.size:=by simpa using hb
            rw [e];exact Nat.le_refl _
        exact I2.qIe hle (I2.hok.fresh hle)
      · intro i φ' st' H' bh hok hi
        obtain⟨a',zs,e2,hs',dl'⟩:=(dv.evo bh.2).tup
        cases e2
        have hlen:=dl'.length
        rw [qBH] at hi
        refine⟨fun e=>⟨zs,hs',by rw [qBH] at e;lia⟩,fun d ed=>?_⟩
        obtain⟨d',ed',rfl⟩:=qCQ ed
        obtain⟨y,ey,dy⟩:=dl'.get ed'
        refine⟨⟨zs,y,hs',ey⟩,fun y' H2 hy=>?_⟩
        obtain⟨q,v,hq1,rfl,rfl,hv⟩:=hy
        have:=hv zs hs'
        rw [ey] at this
        cases this
        refine⟨qA0 bh.1 hq1,.qBk (SqT.of qQ) (.cons ?_ (.cons (dy.evo (qAD hq1)) .nil))⟩
        rw [Nat.add_comm 1 i]
        exact D.mkInt
    | lst n =>
      have h1:(match st1[n]? with
        | some o=>P (qAf 1 o.items) (fun st'=>(st'[n]?).map SO.items=some o.items) st1
        | none=>False):=h1
      split at h1
      · rename_i o eo
        obtain⟨ws,hs1,dws⟩:=b12.1.seq eo dv.isL
        have ev:=dv.lst.2
        subst ev
        cases ru
        obtain⟨its,rvs,pl,hz⟩:=I2.list hs1
        refine HT.qGG pl.isList fun h' he hit hsz hk=>?_
        refine wpAny_pyIter_enum (s:={ s2 with heap:=h' }) he ?_
        have I3:Inv X pins σ H2 { s2 with heap:=h' }:=I2.kept (t':=s2.toks) hk
        have hei:s2.heap.objs.size+1≠s2.heap.objs.size:=by lia
        refine⟨s2.heap.objs.size+1,[s2.heap.objs.size+1,s2.heap.objs.size],_,_,H2,rfl,I3,qGg (φ2 n) _ _ hei,⟨⟨_,he⟩,hit⟩,fun b hb=>?_,hq _ _ st1 h1 φ2 H2 _ b12 ?_⟩
        · have hle:s2.heap.objs.size≤b:=by
            rcases List.mem_cons.mp hb with e | hb
            · rw [e];exact Nat.le_succ _
            · have e:b=s2.heap.objs.size:=by simpa using hb
              rw [e];exact Nat.le_refl _
          exact I2.qIe hle (I2.hok.fresh hle)
        · intro i φ' st' H' bh hok hi
          have hok':(st'[n]?).map SO.items=some o.items:=hok
          obtain⟨a',zs,e2,hs',dl'⟩:=qBC (y:=.lst n) (xs:=o.items) bh.1 (dv.evo bh.2) hok'
          cases e2
          have hsl:SqL X.K H' (φ2 n) zs:=by
            rcases hs' with z | ⟨_,z⟩
            · exact z.1
            · cases z
          have hlen:=dl'.length
          rw [qBH] at hi
          refine⟨fun e=>⟨zs,hsl,by rw [qBH] at e;lia⟩,fun d ed=>?_⟩
          obtain⟨d',ed',rfl⟩:=qCQ ed
          obtain⟨y,ey,dy⟩:=dl'.get ed'
          refine⟨⟨zs,y,hsl,ey⟩,fun y' H2 hy=>?_⟩
          obtain⟨q,v,hq1,rfl,rfl,hv⟩:=hy
          have:=hv zs hsl
          rw [ey] at this
          cases this
          refine⟨qA0 bh.1 hq1,.qBk (SqT.of qQ) (.cons ?_ (.cons (dy.evo (qAD hq1)) .nil))⟩
          rw [Nat.add_comm 1 i]
          exact D.mkInt
      · exact h1.elim
    | _=>exact h1.elim
end
end L3
namespace L3
open PySem PySem.Spec PyProof.Rows L2
end L3
namespace HT
open PySem PySem.Spec PyProof.Rows
end HT
namespace HT
open PySem PySem.Spec PyProof.Rows
end HT
namespace L3
open PySem PySem.Spec PyProof.Rows L2
end L3
namespace L3
open PySem PySem.Spec PyProof.Rows L2
end L3
namespace L3
open PySem PySem.Spec PyProof.Rows L2
noncomputable def qDP (P:Params):List DictEntry→List (Str×Int)→Prop
  | [],[]=>True
  | e::r,kv::q=>(∃ t u,e.key = .str kv.1 t∧e.val = .int kv.2 u∧e.hash=PyData.keyHash P kv.1)∧qDP P r q
  | _,_=>False
theorem qDP.find {P:Params} (y:Str):∀ {l:List DictEntry} {kvs:List (Str×Int)},qDP P l kvs→(kvs.lookup y=none∧(l.find? fun e=>Value.isStrOf y e.key).map (·.val)=none)∨∃ z u,kvs.lookup y=some z∧(l.find? fun e=>Value.isStrOf y e.key).map (·.val)=some (.int z u)
  | [],[],_=>.inl ⟨rfl,rfl⟩
  | e :: r,(k,v)::q,⟨⟨t,u,h1,h2,h3⟩,hr⟩=>by
    have ih:=qDP.find y hr
    k_dat 0"r44"
    rw [List.find?_cons,hk,List.lookup_cons]
    have hs:(y==k)=(k==y):=by
      by_cases q:y=k
      · subst q;rfl
      · k_dat 0"r45"
    rw [hs]
    cases k==y with
    | true=>exact .inr ⟨v,u,rfl,by rw [Option.map_some,h2]⟩
    | false=>exact ih
  | [],_::_,h=>h.elim
  | _::_,[],h=>h.elim
end L3
namespace L3
open PySem PySem.Spec PyProof.Rows L2
structure qAH (K:W.Frag) (n:Str) (st:Stmt):Prop where
  ex:∃ f fd,W.nsIn K mainGlobals n=some (some (.ref f))∧Fun K n n st f fd
structure qJm (K:W.Frag) (C:Addr) (n q:Str) (st:Stmt):Prop where
  ex:∃ f fd,W.findIn K (.ref C) n=some (some (.ref f))∧W.isFn K (.ref f)=true∧Fun K n q st f fd
section
variable {K:W.Frag} {n q:Str} {st:Stmt} {f C:Addr} {oc:Value} {od an:Option Addr} {osl:Array (Option Value)} {kV doc pm cdv ct:Value}
theorem qAH.of (a:W.nsIn K mainGlobals n=some (some (.ref f))) (l:K.lookup f=some ⟨oc,od,.func (W.fnOf n n (qAK st) (qq st) (qO st) .none kV doc pm an cdv ct),osl⟩) (c:W.codeIn K cdv n=true) (k:W.keepIn K (.ref f)=true):qAH K n st:=⟨f,_,a,qFl l c k⟩
theorem qJm.of (a:W.findIn K (.ref C) n=some (some (.ref f))) (i:W.isFn K (.ref f)=true) (l:K.lookup f=some ⟨oc,od,.func (W.fnOf n q (qAK st) (qq st) (qO st) .none kV doc pm an cdv ct),osl⟩) (c:W.codeIn K cdv q=true) (k:W.keepIn K (.ref f)=true):qJm K C n q st:=⟨f,_,a,i,qFl l c k⟩
end
def Bnd (n q:Str) (st:Stmt) (ps:List Str):Prop:=∀ (kV doc pm:Value) (an:Option Addr) (cdv ct:Value) (us:List Value),us.length=ps.length→bindArgs (W.fnOf n q (qAK st) (qq st) (qO st) .none kV doc pm an cdv ct) ⟨us,[]⟩=pure (ps.zip us)
section
variable {P:Program} {w:World} {K:W.Frag} {mg:Str→Option Value} {base h:Heap} {n q nm:Str} {st:Stmt} {k:Nat} {sp:RDL} {ps flds:List Str} {C:Addr}
theorem qAH.ok (X:K.In h) (G:h.Ns mainGlobals mg) (a:qAH K n st) (ok:∀ {f fd},Fun K n n st f fd→qAG P w K mg base CX0 k f fd ps (qd K sp)) (hb:Bnd n n st ps):qx P w K mg base n k sp:=by
  obtain⟨f,fd,h1,F⟩:=a.ex
  exact⟨f,fd,ps,ok F,W.mg_of X G h1,F.kp,F.binds hb⟩
theorem qAH.zero (X:K.In h) (G:h.Ns mainGlobals mg) (a:qAH K n st) (z:∀ {vs H Q E},qd K sp vs H Q E→False) (hb:Bnd n n st ps):qx P w K mg base n k sp:=by
  obtain⟨f,fd,h1,F⟩:=a.ex
  exact⟨f,fd,ps,⟨fun vs H Q E h=>(z h).elim,fun A outer s H args us vs Q E hr he hb hv h=>(z h).elim⟩,W.mg_of X G h1,F.kp,F.binds hb⟩
end
section
variable {n q:Str} {st:Stmt} {ps:List Str}
theorem unc {α:Type}:∀ {us:List α} {n:Nat},us.length=n+1→∃ a r,us=a::r∧r.length=n
  | a::r,_,h=>⟨a,r,rfl,Nat.succ.inj h⟩
theorem un1 {α:Type} {us:List α} (h:us.length=1):∃ a,us=[a]:=List.length_eq_one_iff.mp h
theorem un2 {α:Type} {us:List α} (h:us.length=2):∃ a b,us=[a,b] :=
  let ⟨a,_,z,h⟩:=unc h
  let ⟨b,q⟩:=un1 h
  ⟨a,b,by rw [z,q]⟩
theorem un3 {α:Type} {us:List α} (h:us.length=3):∃ a b c,us=[a,b,c] :=
  let ⟨a,_,z,h⟩:=unc h
  let ⟨b,c,q⟩:=un2 h
  ⟨a,b,c,by rw [z,q]⟩
theorem un4 {α:Type} {us:List α} (h:us.length=4):∃ a b c d,us=[a,b,c,d] :=
  let ⟨a,_,z,h⟩:=unc h
  let ⟨b,c,d,q⟩:=un3 h
  ⟨a,b,c,d,by rw [z,q]⟩
theorem b1 (hp:ps.length=1) (h:∀ kV doc pm an cdv ct a,bindArgs (W.fnOf n q (qAK st) (qq st) (qO st) .none kV doc pm an cdv ct) ⟨[a],[]⟩=pure (ps.zip [a])):Bnd n q st ps:=fun _ _ _ _ _ _ us hl=>by
  rw [hp] at hl
  obtain⟨_,rfl⟩:=un1 hl
  exact h _ _ _ _ _ _ _
theorem b2 (hp:ps.length=2) (h:∀ kV doc pm an cdv ct a b,bindArgs (W.fnOf n q (qAK st) (qq st) (qO st) .none kV doc pm an cdv ct) ⟨[a,b],[]⟩=pure (ps.zip [a,b])):Bnd n q st ps:=fun _ _ _ _ _ _ us hl=>by
  rw [hp] at hl
  obtain⟨_,_,rfl⟩:=un2 hl
  exact h _ _ _ _ _ _ _ _
theorem b3 (hp:ps.length=3) (h:∀ kV doc pm an cdv ct a b c,bindArgs (W.fnOf n q (qAK st) (qq st) (qO st) .none kV doc pm an cdv ct) ⟨[a,b,c],[]⟩=pure (ps.zip [a,b,c])):Bnd n q st ps:=fun _ _ _ _ _ _ us hl=>by
  rw [hp] at hl
  obtain⟨_,_,_,rfl⟩:=un3 hl
  exact h _ _ _ _ _ _ _ _ _
theorem b4 (hp:ps.length=4) (h:∀ kV doc pm an cdv ct a b c d,bindArgs (W.fnOf n q (qAK st) (qq st) (qO st) .none kV doc pm an cdv ct) ⟨[a,b,c,d],[]⟩=pure (ps.zip [a,b,c,d])):Bnd n q st ps:=fun _ _ _ _ _ _ us hl=>by
  rw [hp] at hl
  obtain⟨_,_,_,_,rfl⟩:=un4 hl
  exact h _ _ _ _ _ _ _ _ _ _
end
end L3
namespace L3
open PySem PySem.Spec PyProof.Rows L2
end L3
namespace L3
open PySem PySem.Spec PyProof.Rows L2
end L3
namespace L3
open PySem PySem.Spec PyProof.Rows L2
end L3
namespace L3
open PySem PySem.Spec PyProof.Rows L2
end L3
namespace L3
open PySem PySem.Spec PyProof.Rows L2
theorem qB4 {K:W.Frag} {P:Program} {w:World} {H:Hp} {h:Heap} {a:Addr} {o:HO} (x:qAX K P w H h a o):∃ ob,h.get? a=some ob:=by
  cases o with
  | lst xs=>obtain⟨_,_,_,_,e⟩:=x;exact⟨_,e⟩
  | tup xs=>obtain⟨_,_,_,ob,e,_⟩:=x;exact⟨_,e⟩
  | dK kvs=>obtain⟨_,_,_,_,ob,_,_,e,_⟩:=x;exact⟨_,e⟩
  | dT kvs=>obtain⟨_,_,_,_,ob,_,_,e,_⟩:=x;exact⟨_,e⟩
  | set S n=>obtain⟨ob,_,_,_,e,_⟩:=x;exact⟨_,e⟩
  | ins C dx fs=>obtain⟨_,_,_,e,_⟩:=x;exact⟨_,e⟩
  | own y=>obtain⟨ob,e⟩:=x;exact⟨_,e⟩
  | xd fs=>obtain⟨_,⟨_,_,_,e,_⟩,_⟩:=x;exact⟨_,e⟩
  | rng lo hi=>obtain⟨_,_,_,e⟩:=x;exact⟨_,e⟩
  | frz ob u=>obtain⟨e,_⟩:=x;exact⟨_,e⟩
  | tbl ps=>exact⟨_,show h.get? a=some _ from x⟩
  | met f y=>exact⟨_,show h.get? a=some _ from x⟩
  | ext φ=>obtain⟨_,⟨ob,e⟩,_⟩:=x;exact⟨_,e⟩
section
variable {K:W.Frag} {P:Program} {w:World} {outer:List Env} {H H':Hp} {s s':Shared} {ea C:Addr} {B h2:Heap} {a0:Value} {fs:List Addr} {h h1:Heap}
theorem qMc (un:Un fs [] H H' h h1) (k:∀ b o,h1.get? b=some o→(H' b≠none∨∃ u,h.get? b=some u)→b ∉ fs→h2.get? b=some o) (sm:h1.UpToSlots h2)
    (fr:∀ b∈fs,∃ o,h1.get? b=some o∧∀ vs,o.data≠.fields vs):Un fs [] H H' h h2 where
  keep b o e n hb hx:=k b o (un.keep b o e n hb hx) (.inr ⟨o,e⟩) hb
  slot b o e n hb hx:=by
    obtain⟨sl,e1⟩:=un.slot b o e n hb hx
    obtain⟨o1,e2,hd⟩:=fr b hb
    rw [e1] at e2
    cases e2
    obtain⟨sl2,e3⟩:=sm b _ e1 hd
    exact⟨sl2,e3⟩
  free:=un.free
  there b o e hx:=by
    obtain⟨o1,e1⟩:=un.there b o e hx
    by_cases hb:b∈fs
    · obtain⟨o2,e2,hd⟩:=fr b hb
      obtain⟨sl2,e3⟩:=sm b _ e2 hd
      exact⟨_,e3⟩
    · exact⟨o1,k b o1 e1 (.inr ⟨o,e⟩) hb⟩
  tups:=un.tups
  frzs:=un.frzs
  tbls:=un.tbls
theorem qJ9 (x:HOk K P w H' h1) (fr:∀ b∈fs,H' b=none) (k:∀ b o,h1.get? b=some o→H' b≠none→b ∉ fs→h2.get? b=some o):HOk K P w H' h2:=fun a o e =>
  (x a o e).stay (fun b u hb q=>by
    have hn:H' b≠none:=by
      rcases hb with z | z
      · rw [z,e];exact fun y=>nomatch y
      · rw [z];exact fun y=>nomatch y
    exact k b u q hn fun z=>hn (fr b z)) (fun _ q=>q) fun _ _ q=>q
end
end L3
namespace L3
open PySem PySem.Spec PyProof.Rows L2
noncomputable abbrev bmV:List Value:=[.type "ValueError",.type "Exception",.type "BaseException",.type "object"]
structure qGe (K:W.Frag) (x:Str) (C:Addr):Prop where
  ns:W.nsIn K mainGlobals x=some (some (.ref C))
  ok:W.excIn K C bmV "ValueError.__new__" = true
theorem qH8 {K:W.Frag} {h:Heap} {C:Addr} {bmB:List Value} {newId:String} (X:K.In h) (q:W.excIn K C bmB newId=true) :
    ∃ nm qn N bs bm hdct sn sub ab col dd k0 k1 k2 k3 k5 mN,K.lookup C=some (excClassObj nm qn C N bs bm hdct sn sub ab col dd k0 k1 k2 k3 k5 newId)∧h.Ns N mN∧mN "__init__" = none∧OwnTail h bmB bm:=by
  unfold W.excIn at q
  split at q
  case h_2=>exact absurd q Bool.false_ne_true
  rename_i dd cd sl ho
  split at q
  case h_2=>exact absurd q Bool.false_ne_true
  rename_i C' bm k0 k1 k2 k3 n k5 hm hs
  rw [Bool.and_eq_true,Bool.and_eq_true,Bool.and_eq_true,Bool.and_eq_true,Bool.and_eq_true] at q
  obtain⟨⟨⟨⟨⟨q1,q2⟩,q3⟩,q4⟩,q5⟩,q6⟩:=q
  have e1:C'=C:=beq_iff_eq.mp q1
  have e2:n=newId:=beq_iff_eq.mp q2
  subst e1 e2
  have e3:cd.hasDel=false:=by simpa using q3
  have es:sl=#[k0,k1,k2,k3,some (.builtin n),k5]:=by
    cases sl with
    | mk l=>exact congrArg Array.mk hs
  subst es
  cases cd with
  | mk nm bs mro ns qn hd sn sub ab col del =>
    have hm':mro = .ref C'::bm:=hm
    have e3':del=false:=e3
    subst hm' e3'
    exact⟨nm,qn,ns,bs,bm,hd,sn,sub,ab,col,dd,k0,k1,k2,k3,k5,_,ho,.of_isNs (W.isNs_of_in X q5),W.nsMap_none_of_in X q5 (beq_iff_eq.mp q6),W.tail_of_in X q4⟩
noncomputable abbrev _root_.L2.Cx.qER (X:Cx) (e:Addr):Cx:={ X with A:=X.A.mark (some (.ref e)),calm:=false,xe:=fun _ _=>False }
section
variable {X:Cx} {pins:List (Addr×Obj)} {σ:L2.St} {H:Hp} {s:Shared} {e:Addr}
theorem Inv.inE (I:Inv X pins σ H s):Inv (X.qER e) pins σ H s :=
  ⟨⟨I.ok.mod,I.ok.kind,I.ok.glob,I.ok.blt,I.ok.above,I.ok.inj,I.ok.has,I.ok.cab,fun z=>absurd z Bool.false_ne_true,I.ok.frames,I.ok.stk,I.ok.exf,I.ok.bs,I.ok.bsz,I.ok.noex,I.ok.exfs,I.ok.qCa,I.ok.frf⟩,I.os,I.bare,I.base,I.loc,I.cell,I.free,I.freeC,I.pin,I.hok,I.len⟩
theorem Inv.qLO (ok:X.Ok) (I:Inv (X.qER e) pins σ H s):Inv X pins σ H s:=⟨ok,I.os,I.bare,I.base,I.loc,I.cell,I.free,I.freeC,I.pin,I.hok,I.len⟩
end
noncomputable def subIn (K:W.Frag) (C D:Addr):Bool:=match K.lookup C with
  | some ⟨_,_,.cls cd,_⟩=>cd.mro.contains (.ref D)
  | _=>false
section
variable {M:Model} {A:Around} {E:Value→Shared→Prop} {h:Heap} {g:Array GenState} {d:Drawn} {t:Nat} {os:OsState}
variable {nm q nm' q':Str} {C N C' N':Addr} {bs bm bs' bm':List Value} {hdct hdct':Bool} {sn sn':List Str} {sub sub':List Value} {ab ab':Bool} {col col':Option Bool} {dd dd':Option Addr} {k0 k1 k2 k3 k5 k0' k1' k2' k3' k5':Option Value} {newId newId':String}
theorem qIS {e:Addr} {oe:Obj} {Q:Bool→Shared→Prop} (hC:h.get? C=some (excClassObj nm q C N bs bm hdct sn sub ab col dd k0 k1 k2 k3 k5 newId)) (hD:h.get? C'=some (excClassObj nm' q' C' N' bs' bm' hdct' sn' sub' ab' col' dd' k0' k1' k2' k3' k5' newId'))
    (he:h.get? e=some oe) (hcls:oe.cls = .ref C) (hbase:bm'.contains (.type "BaseException")=true) (hs:(Value.ref C::bm).contains (.ref C')=true) (hq:Q true ⟨h,g,d,t,os⟩):wpAny M A (excMatches (.ref e) (.ref C')) Q E ⟨h,g,d,t,os⟩:=by
  have b1:(Value.ref C'::bm').contains (.type "BaseException")=true:=by rw [List.contains_cons,hbase];exact Bool.or_true _
  have f:=tc_notTuple
  unfold excMatches
  repeat (first
    | (with_reducible refine wpAny_loadPart_at he ?_;rw [hcls])
    | with_reducible refine wpAny_loadPart_at hD ?_
    | (with_reducible refine wpAny_isSubtype_exc hC ?_;rw [hs])
    | (with_reducible refine wpAny_isSubtype_exc hD ?_;rw [b1])
    | wp_step)
  exact hq
end
end L3
namespace L3
open PySem PySem.Spec PyProof.Rows L2
end L3
namespace L3
open PySem PySem.Spec PyProof.Rows L2
structure qCB (K:W.Frag) (mg:Str→Option Value) (n:String):Prop where
  ex:∃ C,qGe K (Str.ofString n) C∧mg (Str.ofString n)=some (.ref C)
end L3
namespace L3
open PySem PySem.Spec PyProof.Rows L2
end L3
namespace L3
open PySem PySem.Spec PyProof.Rows L2
noncomputable def qHY {γ:Type} (R:γ→Value→Prop) (P:Params):List DictEntry→List (Str×γ)→Prop
  | [],[]=>True
  | e::r,kv::q=>(∃ t,e.key = .str kv.1 t∧R kv.2 e.val∧e.hash=PyData.keyHash P kv.1)∧qHY R P r q
  | _,_=>False
section
variable {γ:Type} {R:γ→Value→Prop} {P:Params}
theorem qHY.find (y:Str):∀ {l:List DictEntry} {kvs:List (Str×γ)},qHY R P l kvs→(kvs.lookup y=none∧(l.find? fun e=>Value.isStrOf y e.key).map (·.val)=none)∨∃ z u,kvs.lookup y=some z∧(l.find? fun e=>Value.isStrOf y e.key).map (·.val)=some u∧R z u
  | [],[],_=>.inl ⟨rfl,rfl⟩
  | e :: r,(k,v)::q,⟨⟨t,h1,h2,h3⟩,hr⟩=>by
    have ih:=qHY.find y hr
    k_dat 0"r44"
    rw [List.find?_cons,hk,List.lookup_cons]
    have hs:(y==k)=(k==y):=by
      by_cases q:y=k
      · subst q;rfl
      · k_dat 0"r45"
    rw [hs]
    cases k==y with
    | true=>exact .inr ⟨v,e.val,rfl,rfl,h2⟩
    | false=>exact ih
  | [],_::_,h=>h.elim
  | _::_,[],h=>h.elim
end
end L3
namespace L3
open PySem PySem.Spec PyProof.Rows L2
end L3
namespace L3
open PySem PySem.Spec PyProof.Rows L2
end L3
namespace L3
open PySem PySem.Spec PyProof.Rows L2
end L3
namespace L3
open PySem PySem.Spec PyProof.Rows L2
section
variable {P:Program} {w:World} {K:W.Frag} {mg:Str→Option Value} {base h:Heap} {n:Str} {st:Stmt} {k:Nat} {sp:RDL} {ps:List Str} {C:Addr}
theorem qFn (X:K.In h) (G:h.Ns mainGlobals mg) {n:String} (a:W.nsIn K mainGlobals (Str.ofString n)=some (some (.ref C))) (e:W.excIn K C bmV "ValueError.__new__" = true):qCB K mg n:=⟨C,⟨a,e⟩,W.mg_of X G a⟩
end
end L3
namespace L3
open PySem PySem.Spec PyProof.Rows L2
section
variable {X:Cx} {pins:List (Addr×Obj)} {σ:L2.St} {H H':Hp} {s s1:Shared} {ea:Addr} {oe:Obj} {vs:Array Value}
theorem qE8 (I:L2.Inv X pins σ H s) (he:s.heap.get? ea=some oe) (hd:oe.data = .fields vs) (hn:H ea=none) (h0:X.s₀.heap.get? ea=none) (hp:∀ p∈X.pn++pins,p.1≠ea):L2.Inv X pins σ (upd H ea (.frz oe (.own 0))) s:=by
  have ne:∀ {b:Addr} {u:HO},H b=some u→upd H ea (.frz oe (.own 0)) b=some u:=fun {b u} q=>by rw [qL (qS q hn)];exact q
  have nn:∀ {b:Addr},b≠ea→H b=none→upd H ea (.frz oe (.own 0)) b=none:=fun {b} q z=>by rw [qL q];exact z
  refine⟨I.ok,I.os,I.bare,⟨I.base.keep,I.base.slot,fun b o e n hx=>nn (fun z=>by rw [z,h0] at e;cases e) (I.base.free b o e n hx),I.base.there,fun b xs q=>ne (I.base.tups b xs q),fun b o u q=>ne (I.base.frzs b o u q),fun b ps q=>?_⟩,I.loc,I.cell,nn ?_ I.free,fun x c e=>nn ?_ (I.freeC x c e),fun p hq=>?_,fun b o q=>?_,I.len⟩
  · obtain⟨more,z⟩:=I.base.tbls b ps q
    exact⟨more,ne z⟩
  · rintro rfl
    obtain⟨m,⟨o,es,ep,ho,hdd,_⟩,_⟩:=I.loc
    rw [ho] at he;cases he
    rw [hdd] at hd;cases hd
  · rintro rfl
    obtain⟨v,o,ho,hdd⟩:=I.cell x c e
    rw [ho] at he;cases he
    rw [hdd] at hd;cases hd
  · obtain⟨q1,q2,q3⟩:=I.pin p hq
    exact⟨q1,nn (hp p hq) q2,q3⟩
  · by_cases hb:b=ea
    · subst hb
      rw [qQ] at q
      cases q
      exact⟨he,oe,he⟩
    · rw [qL hb] at q
      exact (I.hok b o q).stay (fun _ _ _ z=>z) (fun _ z=>ne z) fun _ _ z=>ne z
theorem qDN {M:Model} {A:Around} {E:Value→Shared→Prop} {i:Nat} {n:Str} {pos:Pos} {Q:Unit→Shared→Prop} (I:L2.Inv X pins σ H s) (hN:X.N.Nodup) (hi:X.N[i]? = some n) (hk:X.env.scope.names.lookup n=some .local)
    (h:∀ s',L2.Inv X pins (σ.set i none) H s'→Q () s'):wpAny M A (do bindName X.env n .none;unbindBehindTheSuite X.env n pos) Q E s:=by
  obtain⟨m,hn,hl⟩:=id I.loc
  have hiσ:i<σ.length:=by rw [I.len];exact (List.getElem?_eq_some_iff.mp hi).1
  obtain⟨oL,_,_,hoL,_⟩:=id hn
  have far:∀ {b:Addr} {o:Obj},X.s₀.heap.get? b=some o→b≠X.env.locals:=fun e=>Nat.ne_of_lt (Nat.lt_of_lt_of_le (Heap.lt_size e) I.ok.above)
  refine PySem.wpAny_nameGoes_keeps hk hn (by rw [I.ok.kind];rfl) fun h' v hn' hs=>?_
  refine h _ ⟨I.ok,I.os,I.bare,⟨fun b o e n hb hx=>(hs.2 b (far e)).trans (I.base.keep b o e n hb hx),fun b o e n hb hx=>?_,I.base.free,fun b o e hx=>?_,I.base.tups,I.base.frzs,I.base.tbls⟩,⟨_,hn',fun j y v' e1 e2 e3=>?_⟩,fun y c e=>?_,I.free,I.freeC,fun p hp=>?_,fun b ob e=>?_,by simpa using I.len⟩
  · k_dat 0"r29"
    exact⟨sl,(hs.2 b (far e)).trans e1⟩
  · k_dat 0"r23"
    exact⟨o',(hs.2 b (far e)).trans e1⟩
  · by_cases hj:j=i
    · subst hj
      rw [List.getElem?_set_self hiσ] at e2
      cases e2
    · rw [List.getElem?_set_ne (Ne.symm hj)] at e2
      obtain⟨u',r',q⟩:=hl j y v' e1 e2 e3
      refine⟨u',r',?_⟩
      rcases q with ⟨k,e⟩ | ⟨k,c,e,z⟩
      · have:y≠n:=fun e=>hj (qDj hN e1 (e ▸ hi))
        exact .inl ⟨k,by simp [this,e]⟩
      · exact .inr ⟨k,c,e,z.sameBut hs (I.cne y c e)⟩
  · obtain⟨w',z⟩:=I.cell y c e
    exact⟨w',z.sameBut hs (I.cne y c e)⟩
  · obtain⟨e,n,ne,nf,d⟩:=I.pin p hp
    exact⟨(hs.2 p.1 ne).trans e,n,ne,nf,d⟩
  · k_dat 0"r49"
    rintro rfl
    rcases hc with rfl | hc
    · rw [I.free] at e;cases e
    · rw [I.free] at hc;cases hc
end
section
variable {X:Cx} {pins:List (Addr×Obj)} {σ:L2.St} {H H':Hp} {s s1:Shared} {ea C Z:Addr} {B:Heap} {a0:Value} {D:Ends} {ts:TS} {z n:Str} {i:Nat} {p5 p6:Pos} {b0:Stmt} {suite:List Stmt} {E:Value→Shared→Prop}
noncomputable def qMV (i:Nat) (D:Ends):Ends:={ nx:=fun σ H=>D.nx (σ.set i none) H,bk:=fun σ H=>D.bk (σ.set i none) H,ct:=fun σ H=>D.ct (σ.set i none) H,rt:=D.rt }
end
theorem DR.unset {K:W.Frag} {φ:Nat→Addr} {N:Nat} {H:Hp} {ρ:Rho} {σ:L2.St} (h:DR K φ N H ρ σ) (i:Nat):DR K φ N H (ρ.set i none) (σ.set i none):=by
  refine⟨by rw [List.length_set,List.length_set];exact h.1,fun j e q=>?_⟩
  by_cases hj:j=i
  · subst hj
    by_cases hl:j<ρ.length
    · rw [List.getElem?_set_self hl] at q;cases q
    · rw [List.getElem?_eq_none (by rw [List.length_set];lia)] at q;cases q
  · rw [List.getElem?_set_ne (Ne.symm hj)] at q
    rw [List.getElem?_set_ne (Ne.symm hj)]
    exact h.2 j e q
noncomputable def qEp (j:Nat) (E:qAZ):qAZ:={ nx:=fun ρ st=>E.nx (ρ.set j none) st,bk:=fun ρ st=>E.bk (ρ.set j none) st,ct:=fun ρ st=>E.ct (ρ.set j none) st,rt:=E.rt }
end L3
namespace L3
open PySem PySem.Spec PySem.Calls PyProof.Rows L2 PySem.W Builtin Builtin.ObjectAttr Builtin.Getset_descriptor
structure qAV (K:Frag) (D:Addr):Prop where
  cls:(clsIn K D).isSome=true
  ga:findIn K (.ref D) "__getattribute__" = some (some (.builtin "BaseException.__getattribute__"))
  hook:findIn K (.ref D) "__getattr__" = some none
  at_:findIn K (.ref D) "__class__" = some (some (.builtin "object.__class__"))
  get:specialIn K (.builtin "object.__class__") "__get__" = some (some (.builtin "getset_descriptor.__get__"))
  tks:takesIn K (.builtin "object.__class__")=some true
  obj:mroIn K D (.type "object")=some true
  exc:W.subIn K (.ref D) (.type "BaseException")=some true
section
variable {prog:Program} {w:World} {A:Around} {E:Value→Shared→Prop} {s:Shared} {K:Frag} {x D:Addr}
theorem qI2 {M:Model} {h:Heap} (X:K.In h) (a:qAV K D):Looks M h (find (.ref x) (.ref D) "__class__") (.bind (.builtin "getset_descriptor.__get__") (.builtin "object.__class__")) :=
  (looks_findIn X a.at_).andThen ((show Looks M h (getOf (some (.builtin "object.__class__"))) (some (.builtin "getset_descriptor.__get__")) from looks_specialIn X a.get).andThen
    ((show Looks M h (dataDescriptor? (some (.builtin "object.__class__")) (some (.builtin "getset_descriptor.__get__"))) (some (.builtin "getset_descriptor.__get__",.builtin "object.__class__")) from (looks_takesIn X a.tks).andThen .now).andThen (Looks.tag .now)))
theorem get_cls {R:Result→Shared→Prop} {tp:Value} (X:K.In s.heap) (T:Looks (model prog w) s.heap (typeOf (.ref x)) (.ref D)) (a:qAV K D) (h:R (.ok (.ret (.ref D))) s) :
    codeAny (model prog w) A (.call (.builtin "getset_descriptor.__get__") ⟨[.builtin "object.__class__",.ref x,tp],[]⟩) R s:=by
  obtain⟨hh,g,dr,t,os⟩:=s
  have L1:=looks_mroIn (M:=model prog w) X a.obj
  refine codeAny_call_builtin KF.slot_gs.plain KF.entry_gs (KF.slot_gs.check _ _ _ _ _ _ _ _ KF.type_class (KF.args_gs _ _ _) ?_)
  unfold Builtin.«getset_descriptor.__get__» descrGet
  rw [dga_obj]
  k_dat 0"r20"
  unfold descrGetter descrCheckInstance descrNameAndClass isInstance
  simp only [KF.owner_class]
  repeat lk
  refine⟨Code.quiet_builtin _ (by decide +kernel),codeAny_builtin KF.entry_class ?_⟩
  unfold Builtin.«object.__class__» shownTypeOf
  repeat lk
  exact h
theorem qIh {tk:Tok} {Q:Fin→Shared→Prop} (X:K.In s.heap) (T:Looks (model prog w) s.heap (typeOf (.ref x)) (.ref D)) (a:qAV K D) (h:Q (.done (.ret (.ref D))) s) :
    wpAny (model prog w) A (Builtin.«object.__getattribute__» ⟨[.ref x,.str "__class__" tk],[]⟩) Q E s:=by
  obtain⟨hh,g,dr,t,os⟩:=s
  have F:=qI2 (M:=model prog w) (x:=x) X a
  k_dat 0"r20"
  k_dat 0"r20"
  refine wpAny_bind (T.at ?_)
  refine wpAny_bind (F.at ?_)
  show wpAny _ _ (holding [_] (call _ [_,_,_]) >>= ret) _ _ _
  exact wpAny_bind (wpAny_holding (wpAny_call (get_cls X T a (wpAny_pure h))))
theorem qIF {nameV:Value} {Q:Unit→Shared→Prop} (X:K.In s.heap) (T:Looks (model prog w) s.heap (typeOf (.ref x)) (.ref D)) (a:qAV K D) (h:Q () s):wpAny (model prog w) A (checkBuiltinCall "BaseException.__getattribute__" ⟨[.ref x,nameV],[]⟩) Q E s:=by
  obtain⟨hh,g,dr,t,os⟩:=s
  have hk:builtinKind "BaseException.__getattribute__" = some .slot:=by decide +kernel
  k_dat 0"r73"
  have ha:=PySem.F.args_bexc_ga (.ref x) nameV
  have S:=looks_subIn (M:=model prog w) X a.exc
  simp only [checkBuiltinCall,hk,hsplit]
  refine wpAny_bind ?_
  unfold isInstance
  repeat (first | lk | wp_step)
  exact h
theorem qKl {Q:Option Value→Shared→Prop} (X:K.In s.heap) (T:∀ M,Looks M s.heap (typeOf (.ref x)) (.ref D)) (a:qAV K D) (h:Q (some (.ref D)) { s with toks:=s.toks+1 }):wpAny (model prog w) A (getAttr? (.ref x) "__class__") Q E s:=by
  obtain⟨hh,g,dr,t,os⟩:=s
  have L0:=T (model prog w)
  have L1:=looks_findIn (M:=model prog w) X a.ga
  have L2:=looks_findIn (M:=model prog w) X a.hook
  have f3:=PySem.F.attrBase_ValueError.ga.bind (.ref x)
  unfold getAttr? getAttrBy? getAttrBy
  refine wpAny_bind (wpAny_mkText (wpAny_bind (wpAny_attempt (wpAny_holding (wpAny_bind (L0.at (wpAny_bind (L1.at ?_))))))))
  have hne:(onTheHeap (Value.ref D)&&Value.builtin "BaseException.__getattribute__" == Value.builtin "object.__getattribute__")=false:=by
    k_dat 0"r74"
  dsimp only
  rw [if_neg (by rw [hne];exact Bool.false_ne_true)]
  unfold getAttrByItsOwn hookBefore
  rw [if_pos (show onTheHeap (Value.ref D)=true from rfl)]
  refine wpAny_bind (L2.at (wpAny_bind (wpAny_attempt (wpAny_holding ?_))))
  unfold callGetattribute
  rw [if_neg (by decide)]
  unfold boundAndCalled
  rw [f3]
  refine wpAny_bind (wpAny_pure (wpAny_call ?_))
  refine codeAny_call_builtin PySem.F.attrBase_ValueError.ga.plain PySem.F.entry_bexc_ga (qIF (K:=K) (D:=D) (s:=⟨hh,g,dr,t+1,os⟩) X (T _) a (qIh (s:=⟨hh,g,dr,t+1,os⟩) X (T _) a ?_))
  exact handed_on rfl (wpAny_pure h)
end
theorem qGY {K:Frag} {x D:Addr} (a:qAV K D):KitX K (.ref x) (.ref D) (fun h=>∃ ox,h.get? x=some ox∧ox.cls = .ref D) where
  ty:=fun _ _ _ ⟨_,h1,h2⟩=>h2 ▸ (Looks.ld h1).andThen .now
  it:=fun _ _ X _=>by
    have hc:=a.cls
    unfold clsIn at hc
    split at hc
    · rename_i c' d' cd' sl' ho
      intro A' Q' E' s' k q
      unfold isType loadHead
      exact wpAny_bind (wpAny_loadPart (k _ _ (X _ _ ho)) (wpAny_pure q))
    · cases hc
  ne:=fun h tp dd its n sl X htp=>by
    have hc:=a.cls
    refine Bool.eq_false_iff.mpr fun q=>?_
    have e:D=tp:=Value.ref.inj (beq_iff_eq.mp q)
    subst e
    unfold clsIn at hc
    split at hc
    · rename_i c' d' cd' sl' ho
      have z:=(X _ _ ho).symm.trans htp
      cases z
    · cases hc
  ca:=fun X ⟨_,h1,h2⟩ k=>qKl X (fun _=>h2 ▸ (Looks.ld h1).andThen .now) a k
structure qBE (K:Frag) (us:List Value) (ns:List String) (f:String→Bool):Prop where
  non:kitAny K (.type "NoneType") us=some false
  exc:∀ n∈ns,∀ D,nsIn K mainGlobals (Str.ofString n)=some (some (.ref D))→qAV K D∧kitAny K (.ref D) us=some (f n)
def qEM (ns:List String) (f:String→Bool) (te:TD):TD:=fun ρ st P=>te ρ st fun d st1=>match d with
  | .exc n _=>n∈ns∧P (.bl (f n)) st1
  | .non=>P (.bl false) st1
  | _=>False
theorem qHh {K:Frag} {t u:Value} {b:Bool} (h:kitAny K t [u]=some b):kitOne K t u=some b:=by
  unfold kitAny at h
  cases q:kitOne K t u with
  | none=>rw [q] at h;cases h
  | some c =>
    rw [q] at h
    cases c with
    | true=>exact h
    | false=>exact h
section
variable {X:Cx} {e ce:Expr} {te:TD} {p pos:Pos} {ns:List String} {f:String→Bool}
structure qGs (X:Cx) (ce:Expr) (ns:List String) (f:String→Bool):Prop where
  ex:∃ v u,PE X ce (tC v)∧(∀ u',RelV v u'→u'=u)∧qBE X.K [u] ns f
theorem qOD (hm:X.mg "isinstance" = none) (ha:DE X e te) (hc:qGs X ce ns f) (hg:Gl X "isinstance") (he:starEach [e,ce] X.env=(false,eval e X.env)::starEach [ce] X.env) (he2:starEach [ce] X.env=(false,eval ce X.env)::starEach [] X.env) (hpl:(backTo pos (starEach [ce] X.env)).any (·.1)=false):DE X (.Call (.Name "isinstance" p) [e,ce] [] pos) (qEM ns f te):=by
  obtain⟨v,u,pc,hu,kn⟩:=hc.ex
  k_dat 0"r1"
  k_dat 0"r0"
  refine wpAny_Call_Name_kw (qCO I hg hm rfl ?_ (by decide) (by decide))
  refine PyProof.Rows.callWith_builtin1 (thn (qA5 ha (qA5 pc qDk he2) he pos pins s σ H (fun vs H1=>∃ x φ1 st1 d,vs=[x,v]∧Bhd X.K φ st H φ1 st1 H1∧L3.D X.K φ1 st1.length H1 d x∧(match d with | .exc n _=>n∈ns∧P (.bl (f n)) st1 | .non=>P (.bl false) st1 | _=>False)) I ⟨φ,st,ρ,_,pre,ht,fun d st1 h1 φ1 H1 x b1 dx=>⟨x,φ1,st1,d,rfl,b1,dx,h1⟩⟩) fun us s1 hqz=>?_) he hpl
  obtain⟨vs,H1,I1,r1,x,φ1,st1,d,ev,b1,dx,h1⟩:=hqz
  subst ev
  obtain⟨u1,u2,rfl,r2,r3⟩:=vals2 r1
  cases hu u2 r3
  cases d with
  | non =>
    cases dx.non;cases r2
    exact kia_one kitx_none I1.kIn True.intro (qHh kn.non) (fun z=>nomatch z) fun tk=>⟨.bl false,H1,I1.tok tk,rfl,hq _ st1 h1 φ1 H1 _ b1 D.qBl⟩
  | exc n _ =>
    obtain⟨a,o,C,rfl,ho,hn,hcl⟩:=dx.exc
    cases r2
    obtain⟨ask,kk⟩:=kn.exc n h1.1 C hn
    exact kia_one (qGY ask) I1.kIn ⟨o,(I1.hok a _ ho).1,hcl⟩ (qHh kk) (fun z=>nomatch z) fun tk=>⟨.bl _,H1,I1.tok tk,rfl,hq _ st1 h1.2 φ1 H1 _ b1 D.qBl⟩
  | _=>exact h1.elim
inductive qF2 (X:Cx):List Expr→List V→List Value→Prop
  | nil:qF2 X [] [] []
  | cons {ce:Expr} {ces:List Expr} {v:V} {vs:List V} {u:Value} {us:List Value} (h:PE X ce (tC v)) (r:∀ u',RelV v u'→u'=u) (hs:starEach (ce::ces) X.env=(false,eval ce X.env)::starEach ces X.env):qF2 X ces vs us→qF2 X (ce::ces) (v::vs) (u::us)
theorem qF2.pa {ces:List Expr} {vs:List V} {us:List Value} (h:qF2 X ces vs us):PA X ces fun _ H Q=>Q vs H:=by
  induction h with
  | nil=>exact qDk
  | cons h r hs _ ih=>exact qA5 h ih hs
theorem qF2.vals {ces:List Expr} {vs:List V} {us us':List Value} (h:qF2 X ces vs us) (q:Vals vs us'):us'=us:=by
  induction h generalizing us' with
  | nil=>cases q;rfl
  | cons h r hs _ ih=>cases q with | cons a b=>rw [r _ a,ih b]
structure qLj (X:Cx) (ces:List Expr) (ns:List String) (f:String→Bool):Prop where
  ex:∃ vs us,qF2 X ces vs us∧vs.length≤sizeLine∧qBE X.K us ns f
theorem qNz {ces:List Expr} {kt:Nat} {tp:Pos} (hm:X.mg "isinstance" = none) (ha:DE X e te) (hc:qLj X ces ns f) (hg:Gl X "isinstance") (he:starEach [e,.Tuple ces kt tp] X.env=(false,eval e X.env)::starEach [.Tuple ces kt tp] X.env) (he2:starEach [.Tuple ces kt tp] X.env=(false,eval (.Tuple ces kt tp) X.env)::starEach [] X.env) (hpl:(backTo pos (starEach [.Tuple ces kt tp] X.env)).any (·.1)=false):DE X (.Call (.Name "isinstance" p) [e,.Tuple ces kt tp] [] pos) (qEM ns f te):=by
  obtain⟨cvs,cus,cl,hl,kn⟩:=hc.ex
  k_dat 0"r1"
  k_dat 0"r0"
  refine wpAny_Call_Name_kw (qCO I hg hm rfl ?_ (by decide) (by decide))
  refine PyProof.Rows.callWith_builtin1 (thn (qA5 ha (qA5 (qJ0 cl.pa) qDk he2) he pos pins s σ H (fun vs H1=>∃ x q φ1 st1 d,vs=[x,.ref q]∧H1 q=some (.tup cvs)∧Bhd X.K φ st H φ1 st1 H1∧L3.D X.K φ1 st1.length H1 d x∧(match d with | .exc n _=>n∈ns∧P (.bl (f n)) st1 | .non=>P (.bl false) st1 | _=>False)) I ⟨φ,st,ρ,_,pre,ht,fun d st1 h1 φ1 H1 x b1 dx=>⟨hl,fun q hq=>⟨x,q,φ1,st1,d,rfl,qQ,b1.trans (qA0 b1.1 hq),dx.evo (qAD hq),h1⟩⟩⟩) fun us s1 hqz=>?_) he hpl
  obtain⟨vs,H1,I1,r1,x,q,φ1,st1,d,ev,hH,b1,dx,h1⟩:=hqz
  subst ev
  obtain⟨u1,u2,rfl,r2,r3⟩:=vals2 r1
  cases r3
  obtain⟨its,rv,⟨o2,h21,h22,n2,h23⟩,_⟩:=I1.tuple (SqT.of hH)
  have hits:=cl.vals rv
  subst hits
  have htp:s1.heap.get? q=some ⟨.type "tuple",o2.dict,.seq its.toArray n2,o2.slots⟩:=by
    rw [h21]
    cases o2
    cases h22;cases h23
    rfl
  cases d with
  | non =>
    cases dx.non;cases r2
    exact kia_tup kitx_none I1.kIn True.intro htp kn.non (fun z=>nomatch z) fun tk=>⟨.bl false,H1,I1.tok tk,rfl,hq _ st1 h1 φ1 H1 _ b1 D.qBl⟩
  | exc n _ =>
    obtain⟨a,o,C,rfl,ho,hn,hcl⟩:=dx.exc
    cases r2
    obtain⟨ask,kk⟩:=kn.exc n h1.1 C hn
    exact kia_tup (qGY ask) I1.kIn ⟨o,(I1.hok a _ ho).1,hcl⟩ htp kk (fun z=>nomatch z) fun tk=>⟨.bl _,H1,I1.tok tk,rfl,hq _ st1 h1.2 φ1 H1 _ b1 D.qBl⟩
  | _=>exact h1.elim
end
end L3
namespace L3
open PySem PySem.Spec PyProof.Rows L2
structure qGa (K:W.Frag) (mg:Str→Option Value) (c:Str) (ns:List String) (f:String→Bool):Prop where
  ex:∃ C,mg c=some (.ref C)∧qBE K [.ref C] ns f
structure qJp (K:W.Frag) (mg:Str→Option Value) (c:Str) (T:String) (ns:List String) (f:String→Bool):Prop where
  non:mg c=none
  kn:qBE K [.type T] ns f
structure qHz (K:W.Frag) (mg:Str→Option Value) (a b c d:Str) (ns:List String) (f:String→Bool):Prop where
  ex:∃ A B C D,mg a=some (.ref A)∧mg b=some (.ref B)∧mg c=some (.ref C)∧mg d=some (.ref D)∧qBE K [.ref A,.ref B,.ref C,.ref D] ns f
section
variable {X:Cx} {c:Str} {T:String} {ns:List String} {f:String→Bool} {p:Pos}
theorem qGs.own (h:qGa X.K X.mg c ns f) (hg:Gl X c) (hd:(c==("__debug__" : Str))=false):qGs X (.Name c p) ns f:=by
  obtain⟨C,hm,kn⟩:=h.ex
  exact⟨.ref C,.ref C,qA2 hg hm rfl hd,fun _ r=>r,kn⟩
theorem qGs.blt (h:qJp X.K X.mg c T ns f) (hv:bootBuiltins c=some (.type T)) (hg:Gl X c) (hn:c ≠ "__name__") (hd:(c==("__debug__" : Str))=false):qGs X (.Name c p) ns f :=
  ⟨.ty T,.type T,qH7 hg h.non hv rfl hn hd,fun _ r=>r,h.kn⟩
theorem qLj.qQX {a b c d:Str} {p1 p2 p3 p4:Pos} (h:qHz X.K X.mg a b c d ns f) (g1:Gl X a) (g2:Gl X b) (g3:Gl X c) (g4:Gl X d) (d1:(a==("__debug__" : Str))=false) (d2:(b==("__debug__" : Str))=false) (d3:(c==("__debug__" : Str))=false) (d4:(d==("__debug__" : Str))=false)
    (s1:starEach [.Name a p1,.Name b p2,.Name c p3,.Name d p4] X.env=(false,eval (.Name a p1) X.env)::starEach [.Name b p2,.Name c p3,.Name d p4] X.env) (s2:starEach [.Name b p2,.Name c p3,.Name d p4] X.env=(false,eval (.Name b p2) X.env)::starEach [.Name c p3,.Name d p4] X.env)
    (s3:starEach [.Name c p3,.Name d p4] X.env=(false,eval (.Name c p3) X.env)::starEach [.Name d p4] X.env) (s4:starEach [.Name d p4] X.env=(false,eval (.Name d p4) X.env)::starEach [] X.env):qLj X [.Name a p1,.Name b p2,.Name c p3,.Name d p4] ns f:=by
  obtain⟨A,B,C,D,h1,h2,h3,h4,kn⟩:=h.ex
  exact⟨[.ref A,.ref B,.ref C,.ref D],_,.cons (qA2 g1 h1 rfl d1) (fun _ r=>r) s1 (.cons (qA2 g2 h2 rfl d2) (fun _ r=>r) s2 (.cons (qA2 g3 h3 rfl d3) (fun _ r=>r) s3 (.cons (qA2 g4 h4 rfl d4) (fun _ r=>r) s4 .nil))),by show 4≤sizeLine;decide,kn⟩
end
theorem qBE.one {K:W.Frag} {us:List Value} {n:String} {C:Addr} {b:Bool} (a:W.nsIn K mainGlobals (Str.ofString n)=some (some (.ref C))) (k:qAV K C) (h1:W.kitAny K (.type "NoneType") us=some false) (h2:W.kitAny K (.ref C) us=some b):qBE K us [n] (fun _=>b):=⟨h1,fun m hm D hD=>by
  rw [List.mem_singleton.mp hm,a] at hD
  cases hD
  exact⟨k,h2⟩⟩
end L3
namespace L3
open PySem PySem.Spec PyProof.Rows L2
section
variable {K:W.Frag} {mg:Str→Option Value} {h:Heap} {C Z:Addr}
theorem qDw {cd:ClassData} (h1:W.clsIn K C=some cd) (h2:W.findIn K (.ref C) "__getattribute__" = some (some (.builtin "BaseException.__getattribute__"))) (h3:W.findIn K (.ref C) "__getattr__" = some none) (h4:W.findIn K (.ref C) "__class__" = some (some (.builtin "object.__class__"))) (h5:W.specialIn K (.builtin "object.__class__") "__get__" = some (some (.builtin "getset_descriptor.__get__"))) (h6:W.takesIn K (.builtin "object.__class__")=some true) (h7:W.mroIn K C (.type "object")=some true) (h8:W.subIn K (.ref C) (.type "BaseException")=some true):qAV K C:=⟨by rw [h1];rfl,h2,h3,h4,h5,h6,h7,h8⟩
theorem qG9 (X:K.In h) (G:h.Ns mainGlobals mg) {c:Str} {D:Addr} {ns:List String} {f:String→Bool} (a:W.nsIn K mainGlobals c=some (some (.ref D))) (k:qBE K [.ref D] ns f):qGa K mg c ns f:=⟨D,W.mg_of X G a,k⟩
theorem qLR (X:K.In h) (G:h.Ns mainGlobals mg) {a b c d:Str} {A B C D:Addr} {ns:List String} {f:String→Bool} (ha:W.nsIn K mainGlobals a=some (some (.ref A))) (hb:W.nsIn K mainGlobals b=some (some (.ref B))) (hc:W.nsIn K mainGlobals c=some (some (.ref C))) (hd:W.nsIn K mainGlobals d=some (some (.ref D))) (k:qBE K [.ref A,.ref B,.ref C,.ref D] ns f):qHz K mg a b c d ns f:=⟨A,B,C,D,W.mg_of X G ha,W.mg_of X G hb,W.mg_of X G hc,W.mg_of X G hd,k⟩
end
end L3
namespace L3
open PySem PySem.Spec PyProof.Rows L2
theorem qKO (o:Obj) (f:Array Value→Array Value):(o.mapFields f).dict=o.dict:=by
  unfold Obj.mapFields
  split<;>rfl
def TrD (h base:Heap) (e:Addr) (c:Value) (dd:Option Addr) (fl:Value):Prop :=
  ∃ oe vs T oT ts,h.get? e=some oe∧(oe.cls=c∧oe.dict=dd)∧oe.data = .fields vs∧vs[1]? = some (.ref T)∧base.get? T=none∧T≠e∧h.get? T=some oT∧oT.data = .fields ts∧ts[3]? = some fl
def qDm (base:Heap) (l:List Env) (e:Addr) (c:Value) (dd:Option Addr) (fl:Value) (h:Heap):Prop:=base.StaysIn h∧base.get? e=none∧h.FunFrames base l∧TrD h base e c dd fl
section
variable {M:Model} {A:Around} {E:Value→Shared→Prop} {s:Shared} {base:Heap} {env:Env} {outer l:List Env} {L e:Addr} {oe:Obj} {vs:Array Value} {head c fl:Value} {dd:Option Addr} {b:Bool} {Q:Unit→Shared→Prop}
theorem qDm.there {h:Heap} (x:qDm base l e c dd fl h):∃ ob,h.get? e=some ob∧ob.cls=c:=by
  obtain⟨_,_,_,oe,_,_,_,_,he,hc,_⟩:=x
  exact⟨oe,he,hc.1⟩
theorem qEt (fr:A.frames=some (env::outer)) (ff:s.heap.FunFrames base (env::outer)) (ef:env.frame=some L) (he:s.heap.get? e=some oe) (st:base.StaysIn s.heap) (bn:base.get? e=none) (hd:oe.data = .fields vs) (sz:1<vs.size)
    (k:∀ h',qDm base (env::outer) e oe.cls oe.dict (rawInt L) h'→s.heap.UpToSlots h'→Q () { s with heap:=h' }) :
    wpAny M A (do let a ← frameOf env;let pl ← entryPlaceOf L b;let n ← EntryCells.newEntry head a .none (rawInt L) .none pl;setField (.ref e) 1 n) Q E s:=by
  have ne:e ∉ (env::outer).filterMap (·.frame):=fun hm=>by
    obtain⟨_,o,ho,z⟩:=ff.mem hm
    rw [he] at ho;cases ho;exact z vs hd
  refine wpAny_bind (wpAny_frameOf_fun fr ff ef fun h1 s1=>wpAny_bind (wpAny_entryPlaceOf fun pl hp=>?_))
  unfold EntryCells.newEntry newFields
  refine wpAny_bind (wpAny_newObj_type ?_ (hp.sizeOk5 _ _ _ _ _))
  generalize hX:({ cls:=.type "traceback",dict:=none,data:=.fields ([head,.ref L,.none,rawInt L,.none]++(if pl.isEmpty then List.replicate 6 Value.none else pl)).toArray }:Obj)=X
  have e1:h1.get? e=some oe:=(s1.2.1 e ne).trans he
  have b1:base.StaysIn h1:=fun a o q=>(s1.2.1 a fun hm=>by rw [(ff.mem hm).1] at q;cases q).trans (st a o q)
  have e2:=Heap.get?_push_of_some (h:=h1) X e1
  have te:h1.objs.size≠e:=Nat.ne_of_gt (Heap.lt_size e1)
  have d3:=Obj.data_mapFields hd (·.setIfInBounds 1 (Value.ref h1.objs.size))
  have e3:=Heap.get?_update_self (Obj.mapFields (·.setIfInBounds 1 (Value.ref h1.objs.size))) e2 (Obj.isFreed_of_fields d3)
  have x3:((h1.push X).update e (Obj.mapFields (·.setIfInBounds 1 (Value.ref h1.objs.size)))).get? h1.objs.size=some X:=(Heap.get?_update_other _ _ (Ne.symm te)).trans (Heap.get?_push_size h1 (by rw [← hX];rfl))
  have kp:∀ a o,a≠e→h1.get? a=some o→((h1.push X).update e (Obj.mapFields (·.setIfInBounds 1 (Value.ref h1.objs.size)))).get? a=some o:=fun a o ae q=>by
    rw [Heap.get?_update_other _ _ (Ne.symm ae)]
    exact Heap.get?_push_of_some _ q
  have nr:∀ a o,s.heap.get? a=some o→(∀ vs,o.data≠.fields vs)→a≠e:=fun a o q z y=>by
    rw [y,he] at q;cases q;exact z vs hd
  refine wpAny_setField e2 hd sz (k _ ⟨fun a o q=>kp a o (fun y=>by rw [y,bn] at q;cases q) (b1 a o q),bn,ff.of_keeps fun a o q z=>?_,?_⟩ fun a o q z=>?_)
  · obtain⟨sl,y⟩:=s1.2.2 a o q
    exact⟨_,kp a _ (nr a o q z) y,rfl⟩
  · refine⟨_,_,h1.objs.size,_,_,e3,⟨Obj.cls_mapFields _ _,qKO _ _⟩,d3,by simp [sz],b1.fresh,te,x3,by rw [← hX],?_⟩
    first | (simp;done) | (rcases hp with rfl | ⟨_,_,_,_,_,_,_,rfl⟩<;>simp)
  · obtain⟨sl,y⟩:=s1.2.2 a o q
    exact⟨sl,kp a _ (nr a o q z) y⟩
theorem qC2 (x:qDm base l e c dd fl s.heap) (k:∀ h',qDm base l e c dd .none h'→s.heap.UpToSlots h'→Q () { s with heap:=h' }):wpAny M A (setFlight (.ref e) none) Q E s:=by
  obtain⟨st,bn,ff,oe,vs,T,oT,ts,he,hc,hd,h1,nT,Te,hT,dT,h3⟩:=x
  have s3:3<ts.size:=(Array.getElem?_eq_some_iff.mp h3).1
  have ot:∀ a,a≠T→(s.heap.update T (Obj.mapFields (·.setIfInBounds 3 ((none:Option Addr).elim Value.none fun f=>rawInt f)))).get? a=s.heap.get? a:=fun a q=>Heap.get?_update_other _ _ (Ne.symm q)
  have nr:∀ a o,s.heap.get? a=some o→(∀ vs,o.data≠.fields vs)→a≠T:=fun a o q z y=>by
    rw [y,hT] at q;cases q;exact z ts dT
  unfold setFlight
  refine wpAny_bind (wpAny_field he hd h1 ?_)
  rw [if_pos (by simp)]
  refine wpAny_setField hT dT s3 (k _ ⟨fun a o q=>(ot a fun y=>by rw [y,nT] at q;cases q).trans (st a o q),bn,ff.of_keeps fun a o q z=>⟨o,(ot a (nr a o q z)).trans q,rfl⟩,?_⟩ fun a o q z=>⟨o.slots,(ot a (nr a o q z)).trans q⟩)
  exact⟨oe,vs,T,_,_,(ot e (Ne.symm Te)).trans he,hc,hd,h1,nT,Te,Heap.get?_update_self _ hT (Obj.isFreed_of_fields (Obj.data_mapFields dT _)),Obj.data_mapFields dT _,by simp [s3]⟩
theorem qIa (fr:A.frames=some (env::outer)) (ff:s.heap.FunFrames base (env::outer)) (ef:env.frame=some L) (he:s.heap.get? e=some oe) (st:base.StaysIn s.heap) (bn:base.get? e=none) (hd:oe.data = .fields vs) (h1:vs[1]? = some .none)
    (k:∀ h',qDm base outer e oe.cls oe.dict .none h'→s.heap.UpToSlots h'→Q () { s with heap:=h' }):wpAny M A (leaving env (.ref e)) Q E s:=by
  unfold leaving noteFrame
  simp only [ef]
  refine wpAny_bind (wpAny_bind (wpAny_field he hd h1 ?_))
  rw [if_neg (by decide)]
  refine qEt fr ff ef he st bn hd (Array.getElem?_eq_some_iff.mp h1).1 fun h' x u=>?_
  refine qC2 (s:={ s with heap:=h' }) x fun h2 y v=>k h2 ⟨y.1,y.2.1,y.2.2.1.2.2,y.2.2.2⟩ (u.trans v)
theorem qIX (fr:A.frames=some (env::outer)) (ef:env.frame=some L) (x:qDm base (env::outer) e c dd .none s.heap)
    (k:∀ h',qDm base (env::outer) e c dd (rawInt L) h'→s.heap.UpToSlots h'→Q () { s with heap:=h' }):wpAny M A (noteFrame (.ref e) env) Q E s:=by
  obtain⟨st,bn,ff,oe,vs,T,oT,ts,he,⟨hc,hx⟩,hd,h1,nT,Te,hT,dT,h3⟩:=x
  subst hc hx
  have s3:3<ts.size:=(Array.getElem?_eq_some_iff.mp h3).1
  have ot:∀ a,a≠T→(s.heap.update T (Obj.mapFields (·.setIfInBounds 3 Value.none))).get? a=s.heap.get? a:=fun a q=>Heap.get?_update_other _ _ (Ne.symm q)
  have nr:∀ a o,s.heap.get? a=some o→(∀ vs,o.data≠.fields vs)→a≠T:=fun a o q z y=>by
    rw [y,hT] at q;cases q;exact z ts dT
  unfold noteFrame
  simp only [ef]
  refine wpAny_bind (wpAny_field he hd h1 ?_)
  rw [if_pos (by simp)]
  refine wpAny_bind (wpAny_field hT dT h3 ?_)
  rw [if_neg (by simp [rawInt])]
  refine wpAny_bind (wpAny_setField hT dT s3 ?_)
  refine qEt (s:={ s with heap:=_ }) fr (ff.of_keeps fun a o q z=>⟨o,(ot a (nr a o q z)).trans q,rfl⟩) ef ((ot e (Ne.symm Te)).trans he) (fun a o q=>(ot a fun y=>by rw [y,nT] at q;cases q).trans (st a o q)) bn hd (Array.getElem?_eq_some_iff.mp h1).1 fun h' y u=>k h' y fun a o q z=>u a o ((ot a (nr a o q z)).trans q) z
end
end L3
namespace L3
open PySem PySem.Spec PyProof.Rows L2
noncomputable abbrev qu (C:Addr) (dd:Option Addr) (t:Addr):Obj:={ cls:=.ref C,dict:=dd,data:=.fields #[.ref t,.none,.none,.none,.bool false,.none] }
section
variable {prog:Program} {w:World} {A:Around} {E:Value→Shared→Prop} {h:Heap} {g:Array GenState} {d:Drawn} {t:Nat} {os:OsState}
variable {nm q:Str} {C N:Addr} {bs bm bmB:List Value} {hdct:Bool} {sn:List Str} {sub:List Value} {ab:Bool} {col:Option Bool} {dd:Option Addr} {k0 k1 k2 k3 k5:Option Value} {B newId initId:String} {mN:Str→Option Value} {rest:List Value} {f:Addr} {o:Obj}
theorem qEI {Q:Fin→Shared→Prop} (F:ExcBaseFacts B newId initId bmB) (T:OwnTail h bmB bm) (hC:h.get? C=some (excClassObj nm q C N bs bm hdct sn sub ab col dd k0 k1 k2 k3 k5 newId)) (hn:h.Ns N mN) (hi:mN "__init__" = some (.ref f))
    (hf:h.get? f=some o) (hc:o.cls = .type "function") (hl:rest.length≤sizeLine)
    (k:wpAny (model prog w) A (call (.ref f) (.ref (h.objs.size+1)::rest)) (fun r s'=>r = .none∧Q (.done (.ret (.ref (h.objs.size+1)))) s') E ⟨(h.push { cls:=.type "tuple",data:=.seq rest.toArray }).push (qu C none h.objs.size),g,d,t,os⟩) :
    wpAny (model prog w) A (Builtin.«type.__call__» ⟨.ref C::rest,[]⟩) Q E ⟨h,g,d,t,os⟩:=by
  repeat (first | with_reducible refine wpAny_loadPart_at hC ?_ | with_reducible refine wpAny_madeBy_exc hC ?_ | wp_step)
  refine codeAny_call_builtin_code (Code.quiet_builtin _ F.quiet) (wpAny_check_new_subT F T hC (codeAny_exc_new_subT F T hC ?_ hl))
  show wpAny _ _ _ _ _ _
  have up:∀ b u,h.get? b=some u→((h.push { cls:=.type "tuple",data:=.seq rest.toArray }).push (qu C none h.objs.size)).get? b=some u:=fun b u z=>Heap.get?_push_of_some _ (Heap.get?_push_of_some _ z)
  have he:((h.push { cls:=.type "tuple",data:=.seq rest.toArray }).push (qu C none h.objs.size)).get? (h.objs.size+1)=some (qu C none h.objs.size):=by heap_get
  have cc:(Value.ref C::bm).contains (.ref C)=true:=by simp
  unfold isInstance
  repeat (first | with_reducible refine wpAny_loadPart_at he ?_ | (with_reducible refine wpAny_isSubtype_exc (up _ _ hC) ?_;rw [cc]) | wp_step)
  show wpAny _ _ (typeLookup (.ref C) _) _ _ _
  refine wpAny_typeLookup_tail (up _ _ hC) (hn.keeps up) (T.keeps up) F.mroIs F.init.lookup ?_
  rw [hi]
  refine wpAny_holding (wpAny_bind ?_)
  unfold bindSpecial
  refine wpAny_bind (wpAny_typeOf (T:= "function") ⟨_,up _ _ hf,hc⟩ ?_)
  rw [if_pos (by decide)]
  refine wpAny_pure (wpAny_bind (wpAny_mono k (fun r s' hr=>?_) fun _ _ x=>x))
  obtain⟨rfl,hQ⟩:=hr
  wp_walk
  exact hQ
theorem qEJ {Q:Value→Shared→Prop} (F:ExcBaseFacts B newId initId bmB) (T:OwnTail h bmB bm) (hC:h.get? C=some (excClassObj nm q C N bs bm hdct sn sub ab col dd k0 k1 k2 k3 k5 newId)) (hn:h.Ns N mN) (hi:mN "__init__" = some (.ref f))
    (hf:h.get? f=some o) (hc:o.cls = .type "function") (hl:rest.length≤sizeLine)
    (k:wpAny (model prog w) (A.under (.builtin "type.__call__" ⟨.ref C::rest,[]⟩)) (call (.ref f) (.ref (h.objs.size+1)::rest)) (fun r s'=>r = .none∧Q (.ref (h.objs.size+1)) s') E ⟨(h.push { cls:=.type "tuple",data:=.seq rest.toArray }).push (qu C none h.objs.size),g,d,t,os⟩) :
    wpAny (model prog w) A (call (.ref C) rest) Q E ⟨h,g,d,t,os⟩:=by
  have f1:=tc_lookup
  have f2:=tc_bind (.ref C)
  have ty:(⟨h,g,d,t,os⟩:Shared).TypeIs (.ref C) "type":=⟨_,hC,rfl⟩
  refine wpAny_call (codeAny_of_tree ?_)
  show wpAny _ _ (callAny (.ref C) _) _ _ _
  repeat (any_goals (first | assumption | with_reducible refine wpAny_loadPart_at hC ?_ | wp_step))
  exact⟨rfl,codeAny_call_builtin_at (Code.quiet_builtin _ (by decide +kernel)) entry_typeCall (wpAny_check_type_call_sub hC (qEI F T hC hn hi hf hc hl k))⟩
end
end L3
namespace L3
open PySem PySem.W PySem.Spec PyProof.Rows L2
open Builtin Builtin.ObjectAttr
section
variable {prog:Program} {w:World} {A:Around} {E:Value→Shared→Prop} {s:Shared} {K:Frag} {x C G t:Addr} {name:Str} {v:Value} {cd:ClassData}
theorem qGU {Q:Unit→Shared→Prop} (X:K.In s.heap) (hx:s.heap.get? x=some (qu C none t)) (hs:findIn K (.ref C) "__setattr__" = some (some (.builtin "object.__setattr__"))) (ht:findIn K (.ref C) name=some none)
    (hc:clsIn K C=some cd) (hd:cd.hasDict=true) (hm:cd.mro = .ref C :: .ref G::bmV)
    (k:∀ h',h'.get? x=some (qu C (some s.heap.objs.size) t)→h'.Ns1 s.heap.objs.size (fun y=>if y=name then some v else none)→(∀ b o,b≠x→s.heap.get? b=some o→h'.get? b=some o)→Q () { s with heap:=h',toks:=s.toks+2 }) :
    wpAny (model prog w) A (setAttr (.ref x) name v) Q E s:=by
  have I:InstAt s.heap x (qu C none t) C none:=⟨hx,rfl,rfl,True.intro⟩
  refine set_plain X I hs ?_
  have SF:=PySem.F.store_object
  have hm':Looks (model prog w) s.heap (mroOf (.ref C)) cd.mro:=(looks_clsIn X hc).andThen .now
  have sub:Looks (model prog w) s.heap (isInstance (.ref x) (.type "object")) true:=I.type.andThen (looks_mroIn X (by unfold mroIn;rw [hc,Option.bind_some,hm];rfl))
  refine codeAny_call_builtin SF.slot.plain SF.entry (@check_slot (model prog w) _ _ { s with toks:=s.toks+1 } "object.__setattr__" "object" "__setattr__" (.ref x) [.str name s.toks,v] [] _ SF.kind SF.split sub (SF.args (.ref x) (.str name s.toks) v) ?_)
  rw [osa_eq,refuse_eq]
  refine wpAny_bind (wpAny_bind (Looks.here (s:={ s with toks:=s.toks+1 }) I.type (wpAny_bind (Looks.here (s:={ s with toks:=s.toks+1 }) hm' ?_))))
  rw [hm,refuseLoop_ref,refuseLoop_ref,PySem.F.store_ValueError.passes]
  refine wpAny_pure (wpAny_bind (Looks.here (s:={ s with toks:=s.toks+1 }) I.type (wpAny_bind (Looks.here (s:={ s with toks:=s.toks+1 }) (looks_findIn X ht) (wpAny_bind (wpAny_pure ?_))))))
  show wpAny _ _ (storeInOwnDict (.ref x) (.ref C) (.str name s.toks) name v false) _ _ _
  obtain⟨h,g,d,tk,os⟩:=s
  have xs:x≠h.objs.size:=Nat.ne_of_lt (Heap.lt_size hx)
  have hx1:(h.push { cls:=.type "dict",data:=.dict #[] }).get? x=some (qu C none t):=Heap.get?_push_of_some _ hx
  refine wpAny_bind (wpAny_pure (wpAny_bind (wpAny_bind (wpAny_loadPart hx (wpAny_bind (Looks.here (s:=⟨h,g,d,tk+1,os⟩) (looks_clsIn X hc) ?_))))))
  rw [hd]
  refine wpAny_bind (wpAny_alloc' (wpAny_bind (wpAny_update' hx1 (wpAny_pure ?_))))
  show wpAny _ _ (storeInDict h.objs.size (.str name tk) name v) _ _ _
  have gd:((h.push { cls:=.type "dict",data:=.dict #[] }).update x fun o=>{ cls:=o.cls,dict:=some h.objs.size,data:=o.data,slots:=o.slots }).get? h.objs.size=some { cls:=.type "dict",data:=.dict #[] } :=
    (Heap.get?_update_ne _ _ _ _ xs.symm).trans (Heap.get?_push_at rfl rfl)
  have nd:((h.push { cls:=.type "dict",data:=.dict #[] }).update x fun o=>{ cls:=o.cls,dict:=some h.objs.size,data:=o.data,slots:=o.slots }).Ns h.objs.size (fun _=>none):=⟨_,#[],_,gd,rfl,fun e he=>absurd he (by simp),fun _=>rfl⟩
  unfold storeInDict newKeyGuard
  refine wpAny_bind (wpAny_pure (wpAny_bind (wpAny_nsSet1 (Heap.Ns1.of_empty nd) fun h' hn' hq=>?_)))
  obtain⟨oD,esD,epD,hoD,hdD,hcD⟩:=hn'.count (PySem.Within.cons name v PySem.Within.nil)
  refine wpAny_bind (wpAny_lookBehind hoD (by rw [hdD];exact pastItsLine_dict (Nat.le_trans hcD (by rw [List.length_cons,List.length_nil,sizeLine_eq];lia))) ?_)
  refine wpAny_pure (k h' ?_ hn' fun b o bx q=>?_)
  · exact (hq.2 x xs).trans (Heap.get?_update_self _ hx1 rfl)
  · exact (hq.2 b (Nat.ne_of_lt (Heap.lt_size q))).trans ((Heap.get?_update_ne _ _ _ _ bx).trans (Heap.get?_push_of_some _ q))
end
end L3
namespace L3
open PySem PySem.W PySem.Spec PyProof.Rows L2
noncomputable def XS (C:Addr) (dd:Option Addr) (e:Addr):Heap→Prop:=fun h=>∃ t,h.get? e=some (qu C dd t)
theorem qJr {K:Frag} {P:Program} {w:World} {H:Hp} {h:Heap} {C e t:Addr} {dd:Option Addr} (q:h.get? e=some (qu C dd t)):qAX K P w H h e (.ext (XS C dd e)):=⟨⟨t,q⟩,⟨_,q⟩,fun _ _ ⟨u,a⟩ k=>⟨u,k _ a⟩⟩
theorem qKj {X:Cx} {pins:List (Addr×Obj)} {σ:L2.St} {H:Hp} {s:Shared} {C e:Addr} {dd:Option Addr} (I:L2.Inv X pins σ H s) (q:H e=some (.ext (XS C dd e))):∃ t,s.heap.get? e=some (qu C dd t):=(I.hok e _ q).1
structure qFc (K:Frag) (mg:Str→Option Value) (g:Str) (C G f:Addr):Prop where
  obj:∃ nm qn N bs hd sn sub ab col dd k0 k1 k2 k3 k5,K.lookup C=some (excClassObj nm qn C N bs (.ref G::bmV) hd sn sub ab col dd k0 k1 k2 k3 k5 "ValueError.__new__")∧nsOkIn K N=true∧nsIn K N "__init__" = some (some (.ref f))
  tl:tailIn K bmV (.ref G::bmV)=true
  fn:typeIn K (.ref f)=some (.type "function")
  sa:findIn K (.ref C) "__setattr__" = some (some (.builtin "object.__setattr__"))
  no:findIn K (.ref C) "row" = some none
  cls:∃ cd,clsIn K C=some cd∧cd.hasDict=true∧cd.mro = .ref C :: .ref G::bmV
  mg:mg g=some (.ref G)
  sp:specialIn K (.ref G) "__getattribute__" = some (some (.builtin "type.__getattribute__"))
  rd:readsIn K G (.type "type")=true
  fi:findCls K (.ref G) (.type "type") "__init__" = some (.val (.builtin "ValueError.__init__"))
noncomputable def qMt (C:Addr) (t:TA):TE:=fun σ H Q=>t σ H fun vs H1=>∃ e dd y,vs=[.ref e,.str y]∧H1 e=some (.ext (XS C dd e))∧Q .non (upd H1 e (.ext (XS C dd e)))
section
variable {X:Cx} {g:Str} {C G f:Addr} {t:TA} {a1:Expr} {as:List Expr} {p1 apos pos:Pos}
theorem qI6 {pl:Sem Bool} (b:qFc X.K X.mg g C G f) (hg:Gl X g) (hd:(g==("__debug__" : Str))=false) (ha:PA X (a1::as) t)
    (hst:starEach (a1::as) X.env=(false,eval a1 X.env)::starEach as X.env) (hpl:(backTo pos (starEach as X.env)).any (·.1)=false)
    (ht:eval (.Call (.Attribute (.Name g p1) "__init__" apos) (a1::as) [] pos) X.env=(do
      let ov ← eval (.Name g p1) X.env
      standAt apos.atName
      let (f,first) ← holding [ov] (getMethod ov "__init__" pl)
      callWith pos f first (backTo pos (starEach (a1::as) X.env)) (backToKw pos (keywordEach [] X.env)))) :
    PE X (.Call (.Attribute (.Name g p1) "__init__" apos) (a1::as) [] pos) (qMt C t):=by
  k_dat 0"r1"
  refine W.methodCall_KW (pl:=pl) (thn ((qA2 (v:=.ref G) hg b.mg rfl hd) pins s σ H (fun v H'=>v = .ref G∧H'=H) I ⟨rfl,rfl⟩) fun u s1 hqz=>?_) ht
  obtain⟨v,H1,I1,r,ev,eH⟩:=hqz
  subst ev eH
  obtain rfl:u=Value.ref G:=r
  refine method_cls I1.kIn b.sp (cls_value I1.kIn b.rd b.fi rfl ?_)
  have I2:=I1.tok (s1.toks+1)
  refine PyProof.Rows.callWith_builtin1 (thn (ha pos pins _ σ H1 _ I2 h) fun us s2 hqz=>?_) hst hpl
  obtain⟨vs,H2,I3,r,e,dd,y,ev,he,hq⟩:=hqz
  subst ev
  obtain⟨u1,u2,rfl,r1,r2⟩:=vals2 r
  cases r1
  obtain⟨tk,rfl⟩:=r2
  obtain⟨t0,e0⟩:=qKj I3 he
  k_dat 0"r46"
  have T:=W.tail_of_in I3.kIn b.tl
  have F:=PySem.F.excBase_ValueError
  have fin:∀ h' tk',h'.get? e=some (qu C dd s2.heap.objs.size)→(∀ b u,b≠e→s2.heap.get? b=some u→h'.get? b=some u)→EP X pins σ Q .none { s2 with heap:=h',toks:=tk' }:=fun h' tk' he' k=>⟨.non,_,I3.write (x:=e) (e:=e) (by rw [he];exact True.intro) (.inl rfl) k ⟨_,he'⟩ (qJr he'),rfl,hq⟩
  obtain⟨hp,gs,dr,tk2,os⟩:=s2
  refine wpAny_call (codeAny_call_builtin F.init.plain F.initEntry (wpAny_check_init_subT F T (I3.kIn _ _ lC) e0 rfl ?_))
  wp_walk
  refine fin _ _ ?_ fun c u hc q=>?_
  · rw [Heap.get?_update_self _ (Heap.get?_push_of_some _ e0) rfl]
    rfl
  · rw [Heap.get?_update_other _ _ (Ne.symm hc)]
    exact Heap.get?_push_of_some _ q
end
end L3
namespace L3
open PySem PySem.W PySem.Spec PyProof.Rows L2
noncomputable def qP0 (a:Str) (te:TE) (b:Str):TE:=fun σ H Q=>te σ H fun x H1=>∃ i:Int,x = .int i∧i.natAbs.log2<1920∧a.length+(toString i:Str).length+b.length≤sizeLine∧∀ z,Q (.str z) H1
section
variable {X:Cx} {e:Expr} {te:TE} {a b:Str} {pos p1 p2 p3:Pos} {k1 k3:Nat}
theorem qLW (he:PE X e te) (ha:a.length≤sizeLine):PE X (.JoinedStr [.Constant (.str a) k1 p1,.FormattedValue e (-1) none p2,.Constant (.str b) k3 p3] pos) (qP0 a te b):=by
  k_dat 0"r1"
  have l0:∀ x:Str,(Str.empty++x).length=x.length:=fun x=>by rw [strLen_append];show 0+x.length=x.length;lia
  refine wpAny_JoinedStr ?_
  refine thn ((qGn (X:=X) (x:=a)) pins s σ H (fun v H'=>v = .str a∧H'=H) I ⟨rfl,rfl⟩) fun u s1 hqz=>?_
  obtain⟨v,H1,I1,r1,ev,eH⟩:=hqz
  subst ev eH
  obtain⟨t1,rfl⟩:=r1
  have mid:wpAny (model X.prog X.w) X.A (eval (.FormattedValue e (-1) none p2) X.env) (fun v s2=>∃ y t,v = .str y t∧a.length+y.length+b.length≤sizeLine∧∃ H2,L2.Inv X pins σ H2 s2∧∀ z,Q (.str z) H2) X.xe s1:=by
    refine wpAny_FormattedValue_plain (thn (he pins s1 σ H1 _ I1 h) fun u s2 ⟨v,H2,I2,r2,i,e1,e2,q2,q3⟩=>?_)
    subst e1
    obtain⟨t2,rfl⟩:=r2
    exact wpAny_formatField_int e2 ⟨_,_,rfl,q2,H2,I2.tok _,q3⟩
  refine⟨a,t1,rfl,by rw [l0];exact ha,?_⟩
  refine thn mid fun u s2 ⟨y,t2,e2,q2,H2,I2,q3⟩=>⟨y,t2,e2,by rw [strLen_append,l0];lia,?_⟩
  refine thn ((qGn (X:=X) (x:=b)) pins s2 σ H2 (fun v H'=>v = .str b∧∀ z,Q (.str z) H') I2 ⟨rfl,q3⟩) fun u s3 hqz=>?_
  obtain⟨v,H3,I3,r3,ev,q4⟩:=hqz
  subst ev
  obtain⟨t3,rfl⟩:=r3
  refine⟨b,t3,rfl,by rw [strLen_append,strLen_append,l0];exact q2,by rw [strLen_append,strLen_append,l0];exact q2,?_⟩
  exact⟨.str _,H3,I3.tok _,⟨_,rfl⟩,q4 _⟩
end
section
variable {X:Cx} {pins:List (Addr×Obj)} {σ:L2.St} {H:Hp} {s:Shared} {h':Heap} {e a:Addr} {o1 o2:HO} {t':Nat}
theorem qLM (I:L2.Inv X pins σ H s) (mu:Mut (H e)) (k:∀ b u,b≠e→s.heap.get? b=some u→h'.get? b=some u) (hp:s.heap.objs.size≤a) (n1:qAX X.K X.prog X.w (upd (upd H e o1) a o2) h' e o1) (n2:qAX X.K X.prog X.w (upd (upd H e o1) a o2) h' a o2) (heo:∃ u,h'.get? e=some u) :
    L2.Inv X pins σ (upd (upd H e o1) a o2) { s with heap:=h',toks:=t' }:=by
  have an:H a=none:=I.hok.fresh hp
  have ne:∀ b,H b=none→b≠e:=fun b n z=>by subst z;rw [n] at mu;exact mu
  have na:∀ b o,s.heap.get? b=some o→b≠a:=fun b o q z=>by subst z;exact absurd (Heap.lt_size q) (Nat.not_lt.mpr hp)
  have nm:∀ b u,H b=some u→¬ Mut (some u)→b≠e:=fun b u q z y=>by subst y;rw [q] at mu;exact z mu
  have st:∀ b u,H b=some u→¬ Mut (some u)→upd (upd H e o1) a o2 b=some u:=fun b u q z=>by
    rw [qL (fun y=>by subst y;rw [an] at q;cases q),qL (nm b u q z)];exact q
  refine I.un ⟨fun b u q n _ _=>k b u (ne b n) q,fun b u q n _ _=>⟨u.slots,k b u (ne b n) q⟩,fun b u q n _=>by rw [qL (na b u q),qL (ne b n)];exact n,fun b u q _=>?_,fun b xs q=>st b _ q fun z=>z,fun b u xs q=>st b _ q fun z=>z,fun b ps q=>⟨#[],by rw [st b _ q fun z=>z];simp⟩⟩ fun b u q=>?_
  · by_cases hb:b=e
    · subst hb;exact heo
    · exact⟨u,k b u hb q⟩
  · by_cases ha:b=a
    · subst ha;rw [qQ] at q;cases q;exact n2
    · rw [qL ha] at q
      by_cases hb:b=e
      · subst hb;rw [qQ] at q;cases q;exact n1
      · rw [qL hb] at q
        refine (I.hok b u q).stay (fun c v hc z=>k c v ?_ z) (fun c z=>?_) fun c xs z=>st c _ z fun y=>y
        · rcases hc with rfl | hc
          · exact hb
          · exact nm c _ hc fun y=>y
        · exact st c _ z fun y=>y
end
noncomputable def qPP (C:Addr) (ta tv:TE):TS:=fun D σ H=>tv σ H fun y H1=>ta σ H1 fun x H2=>∃ e,x = .ref e∧H2 e=some (.ext (XS C none e))∧∀ dx,H2 dx=none→dx≠e→D.nx σ (upd (upd H2 e (.ext (XS C (some dx) e))) dx (.xd [("row",y)]))
section
variable {X:Cx} {g:Str} {C G f:Addr} {o value:Expr} {ta tv:TE} {pos pos':Pos}
theorem qKu (b:qFc X.K X.mg g C G f) (ha:PE X o ta) (hv:PE X value tv) (hs:swapsWith value (some (.Attribute o "row" pos')) pos.line X.env=pure false):PS X (.Assign [.Attribute o "row" pos'] value pos) (qPP C ta tv):=by
  k_dat 0"r9"
  refine plainObj_wpAny_Assign_Attribute (thn (hv pins s σ H _ I h) fun u s1 ⟨y,H1,I1,ry,q⟩=>thn (ha pins s1 σ H1 _ I1 q) fun ov s2 hqz=>?_) hs
  obtain⟨x,H2,I2,rx,e,ex,he,q2⟩:=hqz
  subst ex
  obtain rfl:ov=Value.ref e:=rx
  obtain⟨t0,e0⟩:=qKj I2 he
  obtain⟨cd,hc,hd,hm⟩:=b.cls
  have en:s2.heap.objs.size≠e:=Nat.ne_of_gt (Heap.lt_size e0)
  refine qGU I2.kIn e0 b.sa b.no hc hd hm fun h' he' hn k=>⟨σ,_,qLM (o1:=.ext (XS C (some s2.heap.objs.size) e)) (o2:=.xd [("row",y)]) I2 (by rw [he];exact True.intro) k (Nat.le_refl _) (qJr he') ⟨_,hn,fun n=>?_⟩ ⟨_,he'⟩,q2 _ (I2.hok.fresh (Nat.le_refl _)) en⟩
  show qGm ([(("row" : Str),y)].lookup n) (if n = "row" then some u else none)
  by_cases z:n = "row"
  · subst z;rw [if_pos rfl];exact ry
  · rw [if_neg z]
    have:(n==("row" : Str))=false:=beq_eq_false_iff_ne.mpr z
    simp only [List.lookup,this]
    exact True.intro
end
end L3
namespace L3
open PySem PySem.W PySem.Spec PyProof.Rows L2
theorem qK8 {K:Frag} {h:Heap} {N:Addr} {m:Str→Option Value} {n:Str} {v:Value} (X:K.In h) (G:h.Ns N m) (e:nsIn K N n=some (some v)):m n=some v:=by
  obtain⟨o,es,ep,ho,hd,_,hf⟩:=G
  unfold nsIn at e
  split at e
  · rename_i q
    have y:=X _ _ q
    rw [ho] at y
    cases y;cases hd
    split at e
    · rename_i he
      rw [← hf]
      unfold nsFind findBy
      rw [← Array.find?_toList,he]
      cases e;rfl
    · split at e<;>cases e
  · cases e
noncomputable def qEc (C:Addr):Sp:=fun vs H Q _=>∃ e i,vs=[.ref e,.int i]∧0≤i∧i<1000000∧H e=some (.ext (XS C none e))∧∀ dx H1,H1 e=some (.ext (XS C none e))→(∀ b,b≠e→H1 b=H b)→H1 dx=none→dx≠e→Q .non (upd (upd H1 e (.ext (XS C (some dx) e))) dx (.xd [("row",.int i)]))
theorem qNb {h:Heap} {dx:Addr} {i:Int} {od:Obj} {K:Frag} {P:Program} {w:World} {H:Hp} (x:qAX K P w H h dx (.xd [("row",.int i)])) (q:h.get? dx=some od):qCA od i:=by
  intro h2 d2 q2
  obtain⟨mA,⟨o,es,ep,ho,r⟩,rl⟩:=x
  rw [ho] at q;cases q
  have z:=rl "row"
  have l:([(("row" : Str),V.int i)].lookup ("row" : Str))=some (V.int i):=by simp [List.lookup]
  rw [l] at z
  cases m:mA "row" with
  | none=>rw [m] at z;exact z.elim
  | some u =>
    rw [m] at z
    obtain⟨t,rfl⟩:=z
    exact⟨mA,t,⟨od,es,ep,q2,r⟩,m⟩
section
variable {X:Cx} {pins:List (Addr×Obj)} {σ:L2.St} {H:Hp} {s:Shared}
theorem qNL {H':Hp} (I:L2.Inv X pins σ H s) (fr:∀ b o,s.heap.get? b=some o→H b=none→H' b=none) (nm:∀ b u,H b=some u→(∀ xs,u≠.xd xs)→(∀ p,u≠.ext p)→H' b=some u)
    (bk:∀ b u,H' b=some u→H b=some u∨∃ o,u = .frz o (.own 0)∧s.heap.get? b=some o):L2.Inv X pins σ H' s:=by
  have:=I.un (H':=H') (h':=s.heap) (t':=s.toks) ⟨fun b u q n _ _=>q,fun b u q n _ _=>⟨u.slots,q⟩,fun b u q n _=>fr b u q n,fun b u q _=>⟨u,q⟩,fun b xs q=>nm b _ q (fun _ z=>nomatch z) (fun _ z=>nomatch z),fun b u xs q=>nm b _ q (fun _ z=>nomatch z) (fun _ z=>nomatch z),fun b ps q=>⟨#[],by rw [nm b _ q (fun _ z=>nomatch z) (fun _ z=>nomatch z)];simp⟩⟩ fun b u q=>?_
  · exact this
  · rcases bk b u q with z | ⟨o,rfl,z⟩
    · exact (I.hok b u z).stay (fun _ _ _ y=>y) (fun c y=>nm c _ y (fun _ z=>nomatch z) (fun _ z=>nomatch z)) fun c xs y=>nm c _ y (fun _ z=>nomatch z) (fun _ z=>nomatch z)
    · exact⟨z,⟨_,z⟩⟩
end
def qMi (X:Cx) (pins:List (Addr×Obj)) (σ:L2.St) (H:Hp) (s:Shared) (C:Addr) (i:Int) (v:Value) (s':Shared):Prop :=
  ∃ e dx od t,v = .ref e∧L2.Inv X pins σ (upd H dx (.frz od (.own 0))) s'∧H e=none∧H dx=none∧dx≠e∧s.heap.get? e=none∧s'.heap.get? e=some (qu C (some dx) t)∧qCA od i
section
variable {X:Cx} {g:Str} {C G f:Addr} {k:Nat} {fd:FuncData} {ps:List Str}
theorem qME {pins:List (Addr×Obj)} {σ:L2.St} {H:Hp} {s:Shared} {u:Value} {i:Int} {E:Value→Shared→Prop} (b:qFc X.K X.mg g C G f) (F:qAG X.prog X.w X.K X.mg X.base CX0 k f fd ps (qEc C)) (hr:qAC (k+1) X.A) (hb:Binds X.K fd ps []) (i0:0≤i) (i1:i<1000000)
    (I:L2.Inv X pins σ H s) (r:RelV (.int i) u):wpAny (model X.prog X.w) X.A (call (.ref C) [u]) (qMi X pins σ H s C i) E s:=by
  k_dat 0"r46"
  have T:=W.tail_of_in I.kIn b.tl
  obtain⟨o,lf,hfc⟩:∃ o,s.heap.get? f=some o∧o.cls = .type "function":=by
    obtain⟨o,q,e⟩:=Option.map_eq_some_iff.mp b.fn
    exact⟨o,I.kIn _ _ q,e⟩
  have en:H (s.heap.objs.size+1)=none:=I.hok.fresh (Nat.le_succ _)
  have e1:s.heap.get? (s.heap.objs.size+1)=none:=Heap.get?_none_of_le (Nat.le_succ _)
  have I1:=I.laid (a:=s.heap.objs.size+1) (o:=.ext (XS C none (s.heap.objs.size+1))) (h':=(s.heap.push { cls:=.type "tuple",data:=.seq [u].toArray }).push (qu C none s.heap.objs.size)) (t':=s.toks) (fun b u q=>Heap.get?_push_of_some _ (Heap.get?_push_of_some _ q)) (Nat.le_succ _) (qJr (t:=s.heap.objs.size) (by heap_get))
  have sp0:qEc C [.ref (s.heap.objs.size+1),.int i] (upd H (s.heap.objs.size+1) (.ext (XS C none (s.heap.objs.size+1)))) (fun v H2=>v = .non∧∃ dx H1,H1 (s.heap.objs.size+1)=some (.ext (XS C none (s.heap.objs.size+1)))∧(∀ b,b≠s.heap.objs.size+1→H1 b=H b)∧H1 dx=none∧dx≠s.heap.objs.size+1∧H2=upd (upd H1 (s.heap.objs.size+1) (.ext (XS C (some dx) (s.heap.objs.size+1)))) dx (.xd [("row",.int i)])) (fun _ _ _=>False) :=
    ⟨_,i,rfl,i0,i1,qQ,fun dx H1 q1 q2 q3 q4=>⟨rfl,dx,H1,q1,fun b hb=>(q2 b hb).trans (qL hb),q3,q4,rfl⟩⟩
  have hl:(Value.ref (s.heap.objs.size+1)::[u]++[]).length=ps.length:=by rw [← F.len _ _ _ _ sp0];rfl
  have bn:=hb { s with heap:=(s.heap.push { cls:=.type "tuple",data:=.seq [u].toArray }).push (qu C none s.heap.objs.size) } (Value.ref (s.heap.objs.size+1)::[u]) I1.kIn hl
  have run:=F.run _ X.stack _ _ ⟨Value.ref (s.heap.objs.size+1)::[u],[]⟩ [Value.ref (s.heap.objs.size+1),u] [V.ref (s.heap.objs.size+1),V.int i] _ _ (hr.make C [u] []) (I1.qOf.make C [u] []) bn (.cons rfl (.cons r .nil)) sp0
  refine qEJ (h:=s.heap) (g:=s.gens) (d:=s.drawn) (t:=s.toks) (os:=s.os) PySem.F.excBase_ValueError T (I.kIn _ _ lC) (.of_isNs (W.isNs_of_in I.kIn nO)) (qK8 I.kIn (.of_isNs (W.isNs_of_in I.kIn nO)) nI) lf hfc (by show 1≤sizeLine;decide) (wpAny_call (codeAny_mono run fun r s' hq=>?_))
  cases r with
  | error e=>exact False.elim hq
  | ok fl =>
    cases fl with
    | ret v =>
      obtain⟨v',H2,I2,rv,ev,dx,H1,q1,q2,q3,q4,rfl⟩:=I1.after hq
      subst ev
      refine⟨rv,?_⟩
      obtain⟨t,et⟩:=qKj I2 (C:=C) (dd:=some dx) (e:=s.heap.objs.size+1) (by rw [qL (Ne.symm q4),qQ])
      have xd:=I2.hok dx _ qQ
      obtain⟨od,hod⟩:=qB4 xd
      have dn:H dx=none:=by rw [← q2 dx q4];exact q3
      refine⟨_,dx,od,t,rfl,qNL I2 (fun b o hb n=>?_) (fun b u q n1 n2=>?_) (fun b u q=>?_),en,dn,q4,e1,et,qNb xd hod⟩
      · by_cases c1:b=dx
        · subst c1;rw [qQ] at n;cases n
        · rw [qL c1] at n ⊢
          by_cases c2:b=s.heap.objs.size+1
          · subst c2;exact en
          · rw [qL c2,q2 b c2] at n;exact n
      · by_cases c1:b=dx
        · subst c1;rw [qQ] at q;cases q;exact absurd rfl (n1 _)
        · rw [qL c1] at q ⊢
          by_cases c2:b=s.heap.objs.size+1
          · subst c2;rw [qQ] at q;cases q;exact absurd rfl (n2 _)
          · rw [qL c2,q2 b c2] at q;exact q
      · by_cases c1:b=dx
        · subst c1;rw [qQ] at q;cases q;exact .inr ⟨od,rfl,hod⟩
        · rw [qL c1] at q
          have c2:b≠s.heap.objs.size+1:=fun z=>by subst z;rw [en] at q;cases q
          exact .inl (by rw [qL c1,qL c2,q2 b c2];exact q)
    | next=>exact False.elim hq
    | brk=>exact False.elim hq
    | cont=>exact False.elim hq
end
end L3
namespace L3
open PySem PySem.W PySem.Spec PyProof.Rows L2
section
variable {M:Model} {A:Around} {E:Value→Shared→Prop} {env:Env}
variable {nm q:Str} {C N:Addr} {bs bm:List Value} {hdct:Bool} {sn:List Str} {sub:List Value} {ab:Bool} {col:Option Bool} {dd:Option Addr} {k0 k1 k2 k3 k5:Option Value} {newId:String}
theorem qG5 {s:Shared} {x:Sem Value} {Q:Flow→Shared→Prop} (hbase:bm.contains (.type "BaseException")=true) (hh:A.handled=none)
    (h:wpAny M A x (fun v s1=>∃ e t d,v = .ref e∧s1.heap.get? C=some (excClassObj nm q C N bs bm hdct sn sub ab col dd k0 k1 k2 k3 k5 newId)∧s1.heap.get? e=some (qu C d t)∧E (.ref e) s1) E s):wpAny M A (raiseStmt env (some x) none) Q E s:=by
  have cb:(Value.ref C::bm).contains (.type "BaseException")=true:=by rw [List.contains_cons,hbase,Bool.or_true]
  unfold raiseStmt
  refine wpAny_bind (wpAny_mono h (fun v s1 h1=>?_) fun _ _ x=>x)
  obtain⟨e,t,d,rfl,hC,he,hE⟩:=h1
  obtain⟨hp,g,dr,tk,os⟩:=s1
  repeat (first | with_reducible refine wpAny_loadPart_at he ?_ | with_reducible refine wpAny_loadPart_at hC ?_ | (with_reducible refine wpAny_isSubtype_exc hC ?_;rw [cb]) | wp_step)
  exact wpAny_raiseNew_none hh hE
end
structure qG7 (K:W.Frag) (P:Program) (w:World) (outer:List Env) (H H':Hp) (s:Shared) (ea C:Addr) (dd:Option Addr) (B:Heap) (s':Shared):Prop where
  os:s'.os=s.os
  bare:AllBare s'.gens
  un:Un (frs outer) [] H H' s.heap s'.heap
  hok:HOk K P w H' s'.heap
  fly:qDm B outer ea (.ref C) dd .none s'.heap
  inB:∀ b o,s'.heap.get? b=some o→(H' b≠none∨∃ u,s.heap.get? b=some u)→b ∉ frs outer→B.get? b=some o
  fr:∀ b∈frs outer,H' b=none
noncomputable def CXD (K:W.Frag) (P:Program) (w:World):CXT:=fun outer H s E e s'=>∃ ea C H' B dd,e = .ref ea∧qG7 K P w outer H H' s ea C dd B s'∧E (.ref C) dd H'
section
variable {K:W.Frag} {P:Program} {w:World} {outer:List Env} {H H':Hp} {s s':Shared} {ea C:Addr} {dd:Option Addr} {B h2:Heap}
theorem qG7.on (O:qG7 K P w outer H H' s ea C dd B s') (f2:qDm B outer ea (.ref C) dd .none h2) (sm:s'.heap.UpToSlots h2):qG7 K P w outer H H' s ea C dd B { s' with heap:=h2 }:=by
  have k:∀ b o,s'.heap.get? b=some o→(H' b≠none∨∃ u,s.heap.get? b=some u)→b ∉ frs outer→h2.get? b=some o:=fun b o e c nb=>f2.1 b o (O.inB b o e c nb)
  have fr:∀ b∈frs outer,∃ o,s'.heap.get? b=some o∧∀ vs,o.data≠.fields vs:=fun b hb=>(O.fly.2.2.1.mem hb).2
  refine⟨O.os,O.bare,qMc O.un k sm fr,qJ9 O.hok O.fr fun b o e c nb=>k b o e (.inl c) nb,f2,fun b o e c nb=>?_,O.fr⟩
  obtain⟨o1,e1⟩:∃ o1,s'.heap.get? b=some o1:=by
    rcases c with c | ⟨u,eu⟩
    · cases q:H' b with
      | none=>exact absurd q c
      | some ho=>exact qB4 (O.hok b ho q)
    · exact O.un.there b u eu fun z=>nomatch z
  have hB:=O.inB b o1 e1 c nb
  have:=f2.1 b o1 hB
  have e':h2.get? b=some o:=e
  rw [e'] at this
  cases this
  exact hB
theorem qG7.inv {X:Cx} {pins:List (Addr×Obj)} {σ:L2.St} (O:qG7 X.K X.prog X.w X.stack H H' s ea C dd B s') (I:L2.Inv X pins σ H s):L2.Inv X pins σ H' s':=I.qMW (ch:=[]) O.os O.un O.hok O.bare fun b z=>nomatch z
end
def qFd (X:Cx) (E:XK):Prop:=∀ (pins:List (Addr×Obj)) (σ:L2.St) (H:Hp) (s:Shared) (e C dx t:Addr),L2.Inv X pins σ H s→H e=none→X.s₀.heap.get? e=none→s.heap.get? e=some (qu C (some dx) t)→E (.ref C) (some dx) H→X.xe (.ref e) s
theorem qGi {P:Program} {w:World} {K:W.Frag} {mg:Str→Option Value} {base:Heap} {N:List Str} {qual:Str} {scope:Scope} {f:Addr} {cd:Value} {A:Around} {outer:List Env} {s:Shared} {H:Hp} {E:XK} :
    qFd (qE4 (CXD K P w) P w K mg base N qual scope f cd A outer s H E) E:=by
  intro pins σ H1 s1 e C dx t I en e0 he hE
  have e0':s.heap.get? e=none:=e0
  have hin:∀ env∈(envOfC qual scope s.heap.objs.size f cd::outer),∀ b,env.frame=some b→b∈e::frs (envOfC qual scope s.heap.objs.size f cd::outer):=fun env he b hb=>List.mem_cons_of_mem _ (List.mem_filterMap.mpr ⟨env,he,hb⟩)
  have I2:Un (frs outer) [] H H1 s.heap s1.heap:=I.base
  have st:s1.heap.FunFrames base (envOfC qual scope s.heap.objs.size f cd::outer):=I.stack
  have sf:∀ b∈frs (envOfC qual scope s.heap.objs.size f cd::outer),H1 b=none:=I.qFi
  have sub:∀ b∈frs outer,b∈frs (envOfC qual scope s.heap.objs.size f cd::outer):=fun b hb=>by
    obtain⟨env,he,hf⟩:=List.mem_filterMap.mp hb
    exact List.mem_filterMap.mpr ⟨env,List.mem_cons_of_mem _ he,hf⟩
  have inv:∀ b,b∈frs (envOfC qual scope s.heap.objs.size f cd::outer)→b ∉ frs outer→b=s.heap.objs.size:=fun b hb nb=>by
    obtain⟨env,he,hf⟩:=List.mem_filterMap.mp hb
    rcases List.mem_cons.mp he with z | z
    · subst z;exact (Option.some.inj hf).symm
    · exact absurd (List.mem_filterMap.mpr ⟨env,z,hf⟩) nb
  have nf:∀ b,(H1 b≠none∨∃ u,s.heap.get? b=some u)→b ∉ frs outer→b ∉ e::frs (envOfC qual scope s.heap.objs.size f cd::outer):=fun b c nb hb=>by
    k_dat 0"r17"
    · rcases c with c | ⟨u,eu⟩
      · exact c en
      · rw [e0'] at eu;cases eu
    · have z:=inv b hb nb
      rcases c with c | ⟨u,eu⟩
      · exact c (sf b hb)
      · rw [z] at eu
        exact absurd (Heap.lt_size eu) (Nat.lt_irrefl _)
  have k:∀ b o,s1.heap.get? b=some o→(H1 b≠none∨∃ u,s.heap.get? b=some u)→b ∉ frs outer→(W.hideAll s1.heap (e::frs (envOfC qual scope s.heap.objs.size f cd::outer))).get? b=some o:=fun b o q c nb=>W.hideAll_get _ q (nf b c nb)
  have hb0:(W.hideAll s1.heap (e::frs (envOfC qual scope s.heap.objs.size f cd::outer))).get? e=none:=W.hideAll_none _ (List.mem_cons_self ..)
  refine qIa (base:=W.hideAll s1.heap (e::frs (envOfC qual scope s.heap.objs.size f cd::outer))) I.ok.frames (W.funFrames_hide st hin) rfl he (fun b o q=>W.of_hideAll _ q) hb0 rfl rfl fun h2 fl sm=>?_
  have fr:∀ b∈frs outer,∃ o,s1.heap.get? b=some o∧∀ vs,o.data≠.fields vs:=fun b hb=>(st.mem (sub b hb)).2
  refine⟨e,C,H1,_,_,rfl,⟨I.os,I.bare,qMc I2 (fun b o q c nb=>fl.1 b o (k b o q c nb)) sm fr,qJ9 I.hok (fun b hb=>sf b (sub b hb)) fun b o q c nb=>fl.1 b o (k b o q (.inl c) nb),fl,fun b o q c nb=>?_,fun b hb=>sf b (sub b hb)⟩,hE⟩
  obtain⟨o1,e1⟩:∃ o1,s1.heap.get? b=some o1:=by
    rcases c with c | ⟨u,eu⟩
    · cases q:H1 b with
      | none=>exact absurd q c
      | some ho=>exact qB4 (I.hok b ho q)
    · exact I2.there b u eu fun z=>nomatch z
  have hB:=k b o1 e1 c nb
  have:=fl.1 b o1 hB
  have e':h2.get? b=some o:=q
  rw [e'] at this
  cases this
  exact hB
noncomputable def qMA (C:Addr) (E:XK) (te:TA):TS:=fun _ σ H=>te σ H fun vs H1=>∃ i,vs=[.int i]∧0≤i∧i<1000000∧∀ dx od,H1 dx=none→qCA od i→E (.ref C) (some dx) (upd H1 dx (.frz od (.own 0)))
section
variable {X:Cx} {g:Str} {C G f:Addr} {k:Nat} {fd:FuncData} {ps:List Str} {x:Str} {e1:Expr} {ta:TA} {np cpos pos:Pos} {E:XK}
theorem qGP {pins:List (Addr×Obj)} {σ:L2.St} {H:Hp} {s:Shared} {R:Int→Hp→Prop} (b:qFc X.K X.mg g C G f) (F:qAG X.prog X.w X.K X.mg X.base CX0 k f fd ps (qEc C)) (hr:qAC (k+1) X.A) (hb:Binds X.K fd ps []) (hm:X.mg x=some (.ref C)) (kp:W.keepIn X.K (.ref C)=true) (hg:Gl X x) (hd:(x==("__debug__" : Str))=false)
    (ha:PA X [e1] ta) (he:starEach [e1] X.env=(false,eval e1 X.env)::starEach [] X.env) (hpl:(backTo cpos (starEach [] X.env)).any (·.1)=false)
    (I:L2.Inv X pins σ H s) (h:ta σ H fun vs H1=>∃ i,vs=[.int i]∧0≤i∧i<1000000∧R i H1) :
    wpAny (model X.prog X.w) X.A (eval (.Call (.Name x np) [e1] [] cpos) X.env) (fun v s'=>∃ i H1 s1,L2.Inv X pins σ H1 s1∧R i H1∧qMi X pins σ H1 s1 C i v s') X.xe s:=by
  refine wpAny_Call_Name_kw (qBN I hg hm ?_ hd)
  refine W.callWith_K (h₀:=X.base) I.ok.mod.kin kp (thn (ha cpos pins s σ H _ I h) fun us s1 ⟨vs,H1,I1,r,i,ev,i0,i1,q⟩=>⟨I1.kIn,?_⟩) he hpl
  subst ev
  cases r with
  | cons r1 rn =>
    cases rn
    exact wpAny_mono (qME b F hr hb i0 i1 I1 r1) (fun v s' z=>⟨i,H1,s1,I1,q,z⟩) fun _ _ z=>z
theorem qIG (b:qFc X.K X.mg g C G f) (F:qAG X.prog X.w X.K X.mg X.base CX0 k f fd ps (qEc C)) (hr:qAC (k+1) X.A) (hb:Binds X.K fd ps []) (hm:X.mg x=some (.ref C)) (kp:W.keepIn X.K (.ref C)=true) (hc:X.calm=true) (hex:X.ex=[]) (hE:qFd X E) (hg:Gl X x) (hd:(x==("__debug__" : Str))=false)
    (ha:PA X [e1] ta) (he:starEach [e1] X.env=(false,eval e1 X.env)::starEach [] X.env) (hpl:(backTo cpos (starEach [] X.env)).any (·.1)=false):PS X (.Raise (some (.Call (.Name x np) [e1] [] cpos)) none pos) (qMA C E ta):=by
  k_dat 0"r9"
  k_dat 0"r46"
  have ev:=qGP (R:=fun i H1=>∀ dx od,H1 dx=none→qCA od i→E (.ref C) (some dx) (upd H1 dx (.frz od (.own 0)))) (np:=np) b F hr hb hm kp hg hd ha he hpl I h
  have fin:∀ v s',(∃ i H1 s1,L2.Inv X pins σ H1 s1∧(∀ dx od,H1 dx=none→qCA od i→E (.ref C) (some dx) (upd H1 dx (.frz od (.own 0))))∧qMi X pins σ H1 s1 C i v s') →
      ∃ e t d,v = .ref e∧s'.heap.get? C=some (excClassObj nm qn C N bs (.ref G::bmV) hdct sn sub ab col dc k0 k1 k2 k3 k5 "ValueError.__new__")∧s'.heap.get? e=some (qu C d t)∧X.xe (.ref e) s':=by
    rintro v s' ⟨i,H1,s1,I1,q,e,dx,od,t,rfl,I2,n1,n2,ne,e0,et,ri⟩
    refine⟨e,t,some dx,rfl,I2.kIn _ _ lC,et,hE pins σ _ s' e C dx t I2 (by rw [qL (Ne.symm ne)];exact n1) ?_ et (q dx od n2 ri)⟩
    cases z:X.s₀.heap.get? e with
    | none=>rfl
    | some u=>obtain⟨o',e'⟩:=I1.base.there e u z (by rw [hex];exact fun z=>nomatch z);rw [e0] at e';cases e'
  rw [arm_exec_Raise]
  refine wpAny_bind (wpAny_standAt (qG5 (C:=C) (nm:=nm) (q:=qn) (N:=N) (bs:=bs) (bm:=.ref G::bmV) (hdct:=hdct) (sn:=sn) (sub:=sub) (ab:=ab) (col:=col) (dd:=dc) (k0:=k0) (k1:=k1) (k2:=k2) (k3:=k3) (k5:=k5) (newId:= "ValueError.__new__") rfl (I.ok.hd hc) (wpAny_bind (wpAny_mono ev (fun v s3 h3=>wpAny_bind (wpAny_standAt (wpAny_pure (fin v s3 h3)))) fun _ _ x=>x))))
end
end L3
namespace L3
open PySem PySem.Spec PyProof.Rows L2
noncomputable def isB:Dt→Option Int
  | .exc _ r=>r
  | _=>none
def QB (K:W.Frag) (E:XK) (i:Int) (H:Hp):Prop:=∀ C dx od,W.nsIn K mainGlobals "BadRow" = some (some (.ref C))→H dx=none→qCA od i→E (.ref C) (some dx) (upd H dx (.frz od (.own 0)))
def RtB (K:W.Frag) (E:XK) (φ:Nat→Addr) (st:Sto) (H:Hp) (Prt:Dt→Sto→Prop) (Q:V→Hp→Prop):Prop :=
  ∀ d st',Prt d st'→∀ φ' H',Bhd K φ st H φ' st' H'→(isB d=none→∀ v,D K φ' st'.length H' d v→Q v H')∧∀ i,isB d=some i→QB K E i H'
theorem RtB.on {K:W.Frag} {E:XK} {φ φ1:Nat→Addr} {st st1:Sto} {H H1:Hp} {Prt:Dt→Sto→Prop} {Q:V→Hp→Prop} (h:RtB K E φ st H Prt Q) (b:Bhd K φ st H φ1 st1 H1):RtB K E φ1 st1 H1 Prt Q:=fun d st' p φ' H' b'=>h d st' p φ' H' (b.trans b')
noncomputable def qB3 (K:W.Frag) (sp:RDL):Sp:=fun vs H Q E=>∃ φ st ds P,Rep K φ st H∧DL K φ st.length H ds vs∧sp ds st P∧RtB K E φ st H P Q
noncomputable def qFX (K:W.Frag) (E:XK) (t:TSD):TS:=fun D σ H=>∃ φ st ρ P,Pre K φ st H ρ σ∧t P ρ st ∧
  (∀ ρ' st',P.nx ρ' st'→∀ φ' H' σ',Bhd K φ st H φ' st' H'→DR K φ' st'.length H' ρ' σ'→D.nx σ' H') ∧
  (∀ ρ' st',P.bk ρ' st'→∀ φ' H' σ',Bhd K φ st H φ' st' H'→DR K φ' st'.length H' ρ' σ'→D.bk σ' H') ∧
  (∀ ρ' st',P.ct ρ' st'→∀ φ' H' σ',Bhd K φ st H φ' st' H'→DR K φ' st'.length H' ρ' σ'→D.ct σ' H')∧RtB K E φ st H P.rt D.rt
def DB (X:Cx) (E:XK) (s:Stmt) (t:TSD):Prop:=PS X s (qFX X.K E t)
def DBs (X:Cx) (E:XK) (s:List Stmt) (t:TSD):Prop:=PSs X s (qFX X.K E t)
def qH5 (ta:TAD):TSD:=fun E ρ st=>ta ρ st fun ds st1=>∃ i,ds=[.int i]∧0≤i∧i<1000000∧E.rt (.exc "BadRow" (some i)) st1
def qMP (te:TD):TSD:=fun E ρ st=>te ρ st fun d st1=>isB d=none∧E.rt d st1
section
variable {X:Cx} {E:XK} {s:Stmt} {rest:List Stmt} {t u:TSD} {pos:Pos} {e:Expr} {te:TD}
theorem qLK:DBs X E [] qM:=(qE5).imp fun D σ H h=>by
  k_dat 0"r2"
  exact n ρ st ht φ H σ (.refl pre.1) pre.2
theorem qGS (h1:DB X E s t) (h2:DBs X E rest u):DBs X E (s::rest) (tseq t u):=(qCb h1 h2).imp fun D σ H h=>by
  k_dat 0"r2"
  k_dat 0"r56"
  exact⟨φ',st',ρ',P,⟨bh.1,dr⟩,hu,fun ρ2 st2 h2 φ2 H2 σ2 b2 d2=>n ρ2 st2 h2 φ2 H2 σ2 (bh.trans b2) d2,fun ρ2 st2 h2 φ2 H2 σ2 b2 d2=>b ρ2 st2 h2 φ2 H2 σ2 (bh.trans b2) d2,fun ρ2 st2 h2 φ2 H2 σ2 b2 d2=>c ρ2 st2 h2 φ2 H2 σ2 (bh.trans b2) d2,r.on bh⟩
theorem qPJ {c:Expr} {a b:List Stmt} {tc:TBD} (hc:DT X c tc) (ha:DBs X E a t) (hb:DBs X E b u):DB X E (.If c a b pos) (qi tc t u):=(qMS hc ha hb).imp fun D σ H h=>by
  k_dat 0"r2"
  k_dat 0"r26"
  have on:∀ {v:TSD},v P ρ st1→qFX X.K E v D σ H1:=fun {v} hv=>⟨φ1,st1,ρ,P,pre.on b1,hv,fun ρ2 st2 h2 φ2 H2 σ2 b2 d2=>n ρ2 st2 h2 φ2 H2 σ2 (b1.trans b2) d2,fun ρ2 st2 h2 φ2 H2 σ2 b2 d2=>b ρ2 st2 h2 φ2 H2 σ2 (b1.trans b2) d2,fun ρ2 st2 h2 φ2 H2 σ2 b2 d2=>c ρ2 st2 h2 φ2 H2 σ2 (b1.trans b2) d2,r.on b1⟩
  cases k with
  | true=>exact qBw (on (by rw [if_pos rfl] at h1;exact h1))
  | false=>exact qB8 (on (by rw [if_neg Bool.false_ne_true] at h1;exact h1))
theorem qNv (he:DE X e te):DB X E (.Return (some e) pos) (qMP te):=(qJI he).imp fun D σ H h=>by
  k_dat 0"r2"
  exact⟨φ,st,ρ,_,pre,ht,fun d st1 h1 φ1 H1 v b1 dv=>(r d st1 h1.2 φ1 H1 b1).1 h1.1 v dv⟩
theorem qPs (h:DS X s t) (hn:∀ P ρ st,t P ρ st→t { P with rt:=fun _ _=>False } ρ st):DB X E s t:=fun pins s' σ H D I hw=>by
  obtain⟨φ,st,ρ,P,pre,ht,n,b,c,r⟩:=hw
  refine thn (h pins s' σ H { D with rt:=fun _ _=>False } I ⟨φ,st,ρ,{ P with rt:=fun _ _=>False },pre,hn P ρ st ht,n,b,c,fun _ _ z=>z.elim⟩) fun f s2 q=>?_
  cases f with
  | next=>exact q
  | brk=>exact q
  | cont=>exact q
  | ret v=>obtain⟨_,_,_,_,_,z⟩:=q;exact False.elim z
end
section
variable {K:W.Frag} {φ1:Nat→Addr} {st1:Sto} {H1:Hp} {ρ1:Rho} {σ1:L2.St} {J:It} {items:List Dt} {ok:Sto→Prop} {g:TGD} {tb:TSD} {W:XK}
theorem qKL {E:qAZ} {E':Ends} (pre:Pre K φ1 st1 H1 ρ1 σ1) (hJ:qDl K φ1 st1 H1 J items ok) (hf:qIc items ok g tb E ρ1 st1)
    (n:∀ ρ' st',E.nx ρ' st'→∀ φ' H' σ',Bhd K φ1 st1 H1 φ' st' H'→DR K φ' st'.length H' ρ' σ'→E'.nx σ' H') (r:RtB K W φ1 st1 H1 E.rt E'.rt) :
    ∃ V:Nat→Nat→L2.St→Hp→Prop,(∃ m,V 0 m σ1 H1)∧∀ i m σ H,V i m σ H →
      (J.stop i H∧E'.nx σ H)∨(J.go i H∧∃ N:L2.St→Hp→Prop,(∀ σ' H',N σ' H'→∃ m',m'<m∧V (i+1) m' σ' H')∧∀ x H',J.yld i H x H'→qHq K g x σ H' fun σ2 H2=>qFX K W tb { E' with nx:=N,ct:=N,bk:=E'.nx } σ2 H2):=by
  obtain⟨In,h0,hok,step,fin⟩:=hf
  refine⟨fun i m σ H=>m=items.length - i∧i≤items.length∧∃ φ' st' ρ',Pre K φ' st' H ρ' σ∧Bhd K φ1 st1 H1 φ' st' H∧In i ρ' st',⟨items.length,by simp,Nat.zero_le _,φ1,st1,ρ1,pre,.refl pre.1,h0⟩,?_⟩
  rintro i m σ H ⟨rfl,hi,φ',st',ρ',pre',bh,hI⟩
  obtain⟨js,jg⟩:=hJ i φ' st' H bh (hok i ρ' st' hi hI) hi
  by_cases hlt:i<items.length
  · have ed:items[i]? = some items[i]:=by simp [hlt]
    obtain⟨go,yl⟩:=jg _ ed
    refine .inr ⟨go,fun σ3 H3=>∃ φ3 st3 ρ3,Pre K φ3 st3 H3 ρ3 σ3∧Bhd K φ1 st1 H1 φ3 st3 H3∧In (i+1) ρ3 st3,fun σ3 H3 h3=>⟨items.length - (i+1),by lia,rfl,hlt,h3⟩,fun y H2 hy=>?_⟩
    obtain⟨b2,dy⟩:=yl y H2 hy
    k_dat 0"r58"
    have b13:=bh.trans (b2.trans b3)
    exact⟨φ3,st3,ρ3,_,⟨b3.1,d3⟩,h3,fun ρ4 st4 h4 φ4 H4 σ4 b4 d4=>⟨φ4,st4,ρ4,⟨b4.1,d4⟩,b13.trans b4,h4⟩,fun ρ4 st4 h4 φ4 H4 σ4 b4 d4=>n ρ4 st4 h4 φ4 H4 σ4 (b13.trans b4) d4,
      fun ρ4 st4 h4 φ4 H4 σ4 b4 d4=>⟨φ4,st4,ρ4,⟨b4.1,d4⟩,b13.trans b4,h4⟩,r.on b13⟩
  · have e:i=items.length:=by lia
    subst e
    exact .inl ⟨js rfl,n ρ' st' (fin ρ' st' hI) φ' H σ bh pre'.2⟩
end
section
variable {X:Cx} {E:XK} {tg iter:Expr} {body:List Stmt} {pos:Pos} {ti:TID} {g:TGD} {tb:TSD}
theorem qOC (hp:PassesOwn (model X.prog X.w) X.A X.env X.xe) (hc:X.calm=true) (hi:DI X tg iter ti) (hg:DG X tg g) (hb:DBs X E body tb) (hs:∀ x,foldedSetIterable iter X.env x=pure x):DB X E (.For tg iter body [] pos) (qDE ti g tb) :=
  (qJw hp hc hi hg hb hs).imp fun E σ H h=>by
    k_dat 0"r2"
    k_dat 0"r43"
    exact qKL (pre.on b1) hJ h1 (fun ρ2 st2 h2 φ2 H2 σ2 b2 d2=>n ρ2 st2 h2 φ2 H2 σ2 (b1.trans b2) d2) (r.on b1)
end
structure qGo (P:Program) (w:World) (K:W.Frag) (mg:Str→Option Value) (base:Heap) (k:Nat):Prop where
  ex:∃ C G f fd ps,qFc K mg "GuestError" C G f∧qAG P w K mg base CX0 k f fd ps (qEc C)∧Binds K fd ps []∧mg "BadRow" = some (.ref C)∧W.keepIn K (.ref C)=true∧W.nsIn K mainGlobals "BadRow" = some (some (.ref C))
section
variable {X:Cx} {E:XK} {k:Nat} {ta:TAD} {e1:Expr} {np cpos pos:Pos}
theorem qJC (b:qGo X.prog X.w X.K X.mg X.base k) (hr:qAC (k+1) X.A) (hc:X.calm=true) (hex:X.ex=[]) (hE:qFd X E) (hg:Gl X "BadRow") (ha:DA X [e1] ta) (he:starEach [e1] X.env=(false,eval e1 X.env)::starEach [] X.env) (hpl:(backTo cpos (starEach [] X.env)).any (·.1)=false) :
    DB X E (.Raise (some (.Call (.Name "BadRow" np) [e1] [] cpos)) none pos) (qH5 ta):=by
  obtain⟨C,G,f,fd,ps,bc,F,hb,hm,kp,ns⟩:=b.ex
  refine (qIG bc F hr hb hm kp hc hex hE hg (by decide) ha he hpl).imp fun D σ H h=>?_
  k_dat 0"r2"
  refine⟨φ,st,ρ,_,pre,ht,fun ds st1 h1 φ1 H1 vs b1 dl=>?_⟩
  obtain⟨i,e,i0,i1,h2⟩:=h1
  subst e
  simp only [DL] at dl
  obtain⟨v,rr,rfl,dv,rfl⟩:=dl
  cases dv.int
  exact⟨i,rfl,i0,i1,fun dx od n2 ri=>(r _ st1 h2 φ1 H1 b1).2 i rfl C dx od ns n2 ri⟩
end
structure qD0 (P:Program) (w:World) (K:W.Frag) (mg:Str→Option Value) (base:Heap) (x:Str) (k:Nat) (sp:RDL):Prop where
  ex:∃ f fd ps,qAG P w K mg base (CXD K P w) k f fd ps (qB3 K sp)∧mg x=some (.ref f)∧W.keepIn K (.ref f)=true∧Binds K fd ps []
theorem qLo {P:Program} {w:World} {K:W.Frag} {mg:Str→Option Value} {base:Heap} {x qual:Str} {stt:Stmt} {f:Addr} {fd:FuncData} {N ps:List Str} {k:Nat} {sp:RDL} (F:Fun K x qual stt f fd) (S:qb N ps (qO stt))
    (len:∀ ds st Pd,sp ds st Pd→ds.length=ps.length)
    (hbody:∀ (cdv:Value) (A:Around) (outer:List Env) (s:Shared) (H:Hp) (E:XK),qAC k (A.deeper (envOfC qual (qO stt) s.heap.objs.size f cdv)) →
      ∃ t,DBs (qE4 (CXD K P w) P w K mg base N qual (qO stt) f cdv A outer s H E) E (qq stt) t∧∀ ds st Pd,sp ds st Pd→t { nx:=fun _ st'=>Pd .non st',rt:=Pd } (qe N ds) st):qAG P w K mg base (CXD K P w) (k+1) f fd ps (qB3 K sp):=by
  k_dat 0"r39"
  refine qJM lk hcd S (fun vs H Q E h=>?_) fun A outer s H vs Q E hr h=>?_
  · k_dat 0"r34"
    rw [← dl.length]
    exact len ds st Pd hs
  · obtain⟨t,ht,hb⟩:=hbody cdv A outer s H E hr
    k_dat 0"r34"
    exact⟨_,ht,φ,st,qe N ds,_,⟨R,qGA dl N⟩,hb ds st Pd hs,fun ρ' st' h' φ' H' σ' b' d'=>(hq _ st' h' φ' H' b').1 rfl _ D.qHa,fun ρ' st' h'=>h'.elim,fun ρ' st' h'=>h'.elim,hq⟩
end L3
namespace L3
open PySem PySem.Spec PyProof.Rows L2
section
variable {X:Cx} {pins:List (Addr×Obj)} {σ:L2.St} {H H':Hp} {s s1:Shared} {ea C G f:Addr} {dd:Option Addr} {B:Heap} {D:Ends} {ts:TS} {z g n:Str} {i:Nat} {p5 p6:Pos} {b0:Stmt} {suite:List Stmt} {E:Value→Shared→Prop}
theorem qLx (I:L2.Inv X pins σ H s) (O:qG7 X.K X.prog X.w X.stack H H' s ea C dd B s1) (hst:X.stack=X.env::X.outer) (hfr:X.env.frame=some X.env.locals) (hex:X.ex=[]) (bc:qFc X.K X.mg z C G f) (hz:qGe X.K z G) (hgz:Gl X z) (hdz:(z==("__debug__" : Str))=false)
    (nd:X.N.Nodup) (hi:X.N[i]? = some n) (hk:X.env.scope.names.lookup n=some .local) (hs:PSs (X.qER ea) (b0::suite) ts) (h:∀ oe:Obj,oe.cls = .ref C→(oe.dict=dd∧∃ vs,oe.data = .fields vs)→H' ea=none→ts (qMV i D) (σ.set i (some (.ref ea))) (upd H' ea (.frz oe (.own 0)))) :
    wpAny (model X.prog X.w) X.A (noteFrame (.ref ea) X.env) (fun _ s₂=>wpAny (model X.prog X.w) X.A (setFlight (.ref ea) none) (fun _ s₃=>wpAny (model X.prog X.w) X.A (handleBy (.ref ea) X.env [.ExceptHandler (some (.Name z p5)) (some n) (b0::suite) p6]) (SP X pins D) E s₃) E s₂) E s1:=by
  have hfr':X.A.frames=some (X.env::X.outer):=by rw [← hst];exact I.ok.frames
  have fl1:qDm B (X.env::X.outer) ea (.ref C) dd .none s1.heap:=by rw [← hst];exact O.fly
  obtain⟨o1,he1,hnB,hd1⟩:∃ o1,s1.heap.get? ea=some o1∧B.get? ea=none∧∃ vs,o1.data = .fields vs:=by
    obtain⟨_,hB,_,oe,vs,_,_,_,he,_,hd,_⟩:=O.fly
    exact⟨oe,he,hB,vs,hd⟩
  have nst:ea ∉ frs X.stack:=fun hb=>by
    obtain⟨o,ho,hd⟩:=(O.fly.2.2.1.mem hb).2
    rw [he1] at ho;cases ho
    obtain⟨vs,q⟩:=hd1
    exact hd vs q
  have hH:H' ea=none:=by
    cases q:H' ea with
    | none=>rfl
    | some u=>have:=O.inB ea o1 he1 (.inl (by rw [q];exact fun z=>nomatch z)) nst;rw [hnB] at this;cases this
  have hs0:s.heap.get? ea=none:=by
    cases q:s.heap.get? ea with
    | none=>rfl
    | some u=>have:=O.inB ea o1 he1 (.inr ⟨u,q⟩) nst;rw [hnB] at this;cases this
  have hX0:X.s₀.heap.get? ea=none:=by
    cases q:X.s₀.heap.get? ea with
    | none=>rfl
    | some u=>obtain⟨o',e'⟩:=I.base.there ea u q (by rw [hex];exact fun z=>nomatch z);rw [hs0] at e';cases e'
  have hpin:∀ p∈X.pn++pins,p.1≠ea:=fun p hp z=>by
    have:=(I.pin p hp).1
    rw [z,hs0] at this;cases this
  refine qIX hfr' hfr fl1 fun h4 hheld sm4=>?_
  refine qC2 (s:={ s1 with heap:=h4 }) hheld fun h5 hfl sm5=>?_
  have O5:=O.on (by rw [hst];exact hfl) (sm4.trans sm5)
  have I5:=O5.inv I
  refine wpAny_handleBy_cons (codeAny_handlers_test (qBN (X:=X.qER ea) (Inv.inE I5) hgz bc.mg ?_ hdz)) (by intro q;cases q)
  obtain⟨nm,qn,N,bs,hdct,sn,sub,ab,col,dc,k0,k1,k2,k3,k5,eC,nO,nI⟩:=bc.obj
  obtain⟨nm',qn',N',bs',bm',hdct',sn',sub',ab',col',dd',k0',k1',k2',k3',k5',mN',eZ,hN',hni',T'⟩:=qH8 I5.kIn hz.ok
  obtain⟨oe,he,hcls⟩:=hfl.there
  refine qIS (I5.kIn _ _ eC) (I5.kIn _ _ eZ) he hcls (T'.hasType PySem.F.excBase_ValueError.hasBase) (by simp) ?_
  refine codeAny_handlers_suite_as ?_
  refine qC2 (s:={ s1 with heap:=h5 }) hfl fun h6 hfl6 sm6=>?_
  have O6:=O5.on (by rw [hst];exact hfl6) sm6
  have I6:=O6.inv I
  obtain⟨oe6,vs6,he6,hc6,hx6,hd6⟩:∃ oe6 vs6,h6.get? ea=some oe6∧oe6.cls = .ref C∧oe6.dict=dd∧oe6.data = .fields vs6:=by
    obtain⟨_,_,_,oe,vs,_,_,_,he,hc,hd,_⟩:=hfl6
    exact⟨oe,vs,he,hc.1,hc.2,hd⟩
  have I7:=qE8 I6 he6 hd6 hH hX0 hpin
  refine qCs (X:=X.qER ea) (v:=.ref ea) (Inv.inE I7) nd hi (.inl hk) rfl (fun s7 I8 _=>?_) (.inr hk)
  refine wpAny_mono (hs pins s7 _ _ (qMV i D) I8 (h oe6 hc6 ⟨hx6,vs6,hd6⟩ hH)) (fun f s8 q=>?_) fun _ _ z=>False.elim z
  cases f with
  | next=>obtain⟨σ',H2,I9,q⟩:=q;exact qDN (Inv.qLO I.ok I9) nd hi hk fun s' I'=>⟨_,H2,I',q⟩
  | brk=>obtain⟨σ',H2,I9,q⟩:=q;exact qDN (Inv.qLO I.ok I9) nd hi hk fun s' I'=>⟨_,H2,I',q⟩
  | cont=>obtain⟨σ',H2,I9,q⟩:=q;exact qDN (Inv.qLO I.ok I9) nd hi hk fun s' I'=>⟨_,H2,I',q⟩
  | ret u=>obtain⟨v,σ',H2,I9,q⟩:=q;exact qDN (Inv.qLO I.ok I9) nd hi hk fun s' I'=>⟨v,_,H2,I',q⟩
end
def qJK (j:Nat) (sp:RDL) (t:TAD) (ts:TSD):TSD:=fun E ρ st=>t ρ st fun ds st1=>sp ds st1 fun d st2=>match isB d with
  | some i=>ts (qEp j E) (ρ.set j (some (.exc "BadRow" (some i)))) st2
  | none=>E.nx ρ st2
section
variable {X:Cx} {k kb:Nat} {sp:RDL} {y nm:Str} {t:TAD} {ts:TSD} {e:Expr} {es:List Expr} {b0:Stmt} {suite:List Stmt} {p2 p3 p4 p5 p6 p7:Pos}
theorem qLQ (j:Nat) (F:qD0 X.prog X.w X.K X.mg X.base y k sp) (hr:qAC k X.A) (bd:qGo X.prog X.w X.K X.mg X.base kb) (hz:∀ G,X.mg "GuestError" = some (.ref G)→qGe X.K "GuestError" G) (nd:X.N.Nodup) (ha:DA X.nox (e::es) t) (hs:∀ ea,DSs (X.qER ea) (b0::suite) ts) (hg:Gl X y) (hdb:(y==("__debug__" : Str))=false)
    (he:starEach (e::es) X.env=(false,eval e X.env)::starEach es X.env) (hpl:(backTo p3 (starEach es X.env)).any (·.1)=false) (hsw:swapsWith (.Call (.Name y p2) (e::es) [] p3) none p4.line X.env=pure false)
    (hst:X.stack=X.env::X.outer) (hfr:X.env.frame=some X.env.locals) (hex:X.ex=[]) (hgz:Gl X "GuestError") (hj:X.N[j]? = some nm) (hnl:X.env.scope.names.lookup nm=some .local) :
    DS X (.Try [.Expr (.Call (.Name y p2) (e::es) [] p3) p4] [.ExceptHandler (some (.Name "GuestError" p5)) (some nm) (b0::suite) p6] [] [] p7) (qJK j sp t ts):=by
  obtain⟨f,fd,ps,F,hm,hk,hb⟩:=F.ex
  obtain⟨C,G,fi,fdi,psi,bc,_,_,hmC,_,nsC⟩:=bd.ex
  k_dat 0"r9"
  k_dat 0"r2"
  refine wpAny_Try_except ?_
  refine wpAny_execs_cons (wpAny_Expr_any ?_ I.quiet hsw)
  refine wpAny_Call_Name_kw (qBN I hg hm ?_ hdb)
  refine W.callWith_K (h₀:=X.base) I.ok.mod.kin hk (wpAny_mono (ha p3 pins s σ H (fun vs H1=>∃ φ1 st1 ds,Bhd X.K φ st H φ1 st1 H1∧DL X.K φ1 st1.length H1 ds vs∧sp ds st1 fun d st2=>match isB d with | some i=>ts (qEp j P) (ρ.set j (some (.exc "BadRow" (some i)))) st2 | none=>P.nx ρ st2) (I.qD4 _) ⟨φ,st,ρ,_,pre,ht,fun ds st1 h1 φ1 H1 vs b1 dl=>⟨φ1,st1,ds,b1,dl,h1⟩⟩) (fun us s1 ⟨vs,H1,I1,rr,φ1,st1,ds,b1,dl,hsp⟩=>⟨I1.kIn,?_⟩) fun _ _ z=>False.elim z) he hpl
  have I1':L2.Inv X pins σ H1 s1:=I1.qBW
  have q:qB3 X.K sp vs H1 (fun _ H2=>∃ φ2 st2,Bhd X.K φ st H φ2 st2 H2∧P.nx ρ st2) (fun c dd H2=>∃ φ2 st2 i dx od H3,c = .ref C∧dd=some dx∧H2=upd H3 dx (.frz od (.own 0))∧H3 dx=none∧Bhd X.K φ st H φ2 st2 H3∧qCA od i∧ts (qEp j P) (ρ.set j (some (.exc "BadRow" (some i)))) st2):=by
    refine⟨φ1,st1,ds,_,b1.1,dl,hsp,fun d st2 h2 φ2 H2 b2=>⟨fun hx v dv=>?_,fun i hx C' dx od hC hn ri=>?_⟩⟩
    · rw [hx] at h2
      exact⟨φ2,st2,b1.trans b2,h2⟩
    · rw [hx] at h2
      have eC:C'=C:=by have z:=hC.symm.trans nsC;cases z;rfl
      subst eC
      exact⟨φ2,st2,i,dx,od,H2,rfl,rfl,rfl,hn,b1.trans b2,ri,h2⟩
  have hl:us.length=ps.length:=by rw [← rr.length];exact F.len _ _ _ _ q
  have hb':=hb s1 us I1'.kIn (by rw [List.append_nil];exact hl)
  rw [List.append_nil] at hb'
  refine wpAny_call (codeAny_mono (F.run X.A X.stack s1 H1 ⟨us,[]⟩ us vs _ _ hr I1'.qOf hb' rr q) fun r s' hq=>?_)
  cases r with
  | error e1 =>
    obtain⟨ea,C',H2,B,dd,rfl,O,φ2,st2,i,dx,od,H3,ec,ed,eH,hn,b2,ri,q2⟩:=hq
    cases ec
    subst ed eH
    refine qLx I1' O hst hfr hex bc (hz G bc.mg) hgz (by decide) nd hj hnl (hs ea) fun oe hcl hdd hea=>?_
    have b3:Bhd X.K φ2 st2 H3 φ2 st2 (upd H3 dx (.frz od (.own 0))):=⟨b2.1.laid hn,qAD hn⟩
    have b4:Bhd X.K φ2 st2 (upd H3 dx (.frz od (.own 0))) φ2 st2 (upd (upd H3 dx (.frz od (.own 0))) ea (.frz oe (.own 0))):=⟨b3.1.laid hea,qAD hea⟩
    have ne:dx≠ea:=fun z=>by subst z;rw [qQ] at hea;cases hea
    have dxx:L3.D X.K φ2 st2.length (upd (upd H3 dx (.frz od (.own 0))) ea (.frz oe (.own 0))) (.exc "BadRow" (some i)) (.ref ea):=L3.D.qKA qQ nsC hcl hdd (by rw [qL ne,qQ]) ri
    have b24:=b2.trans (b3.trans b4)
    refine⟨φ2,st2,ρ.set j (some (.exc "BadRow" (some i))),qEp j P,⟨b4.1,(pre.on b24).2.set dxx j⟩,q2,fun ρ3 st3 h3 φ3 H3 σ3 b5 d3=>n _ st3 h3 φ3 H3 _ (b24.trans b5) (d3.unset j),fun ρ3 st3 h3 φ3 H3 σ3 b5 d3=>b _ st3 h3 φ3 H3 _ (b24.trans b5) (d3.unset j),fun ρ3 st3 h3 φ3 H3 σ3 b5 d3=>c _ st3 h3 φ3 H3 _ (b24.trans b5) (d3.unset j),fun d3 st3 h3 φ3 H3 v b5 d3'=>r d3 st3 h3 φ3 H3 v (b24.trans b5) d3'⟩
  | ok fl =>
    cases fl with
    | ret u =>
      obtain⟨v,H2,I2,r2,φ2,st2,b2,q2⟩:=I1'.after hq
      exact wpAny_execs_nil (wpAny_execs_nil ⟨σ,H2,I2,n ρ st2 q2 φ2 H2 σ b2 (pre.on b2).2⟩)
    | next=>exact False.elim hq
    | brk=>exact False.elim hq
    | cont=>exact False.elim hq
end
end L3
namespace L3
open PySem PySem.W PySem.Spec PyProof.Rows L2
section
variable {prog:Program} {w:World} {A:Around} {E:Value→Shared→Prop} {s:Shared} {K:Frag} {x D:Addr} {ox:Obj} {od:Option Obj} {name:Str} {v:Value} {expr:Bool}
theorem qKS {nameV:Value} {Q:Unit→Shared→Prop} (X:K.In s.heap) (T:Looks (model prog w) s.heap (typeOf (.ref x)) (.ref D)) (ex:W.subIn K (.ref D) (.type "BaseException")=some true) (h:Q () s):wpAny (model prog w) A (checkBuiltinCall "BaseException.__getattribute__" ⟨[.ref x,nameV],[]⟩) Q E s:=by
  obtain⟨hh,g,dr,t,os⟩:=s
  have hk:builtinKind "BaseException.__getattribute__" = some .slot:=by decide +kernel
  k_dat 0"r73"
  have ha:=PySem.F.args_bexc_ga (.ref x) nameV
  have S:=looks_subIn (M:=model prog w) X ex
  simp only [checkBuiltinCall,hk,hsplit]
  refine wpAny_bind ?_
  unfold isInstance
  repeat (first | lk | wp_step)
  exact h
theorem qLC {Q:Value→Shared→Prop} (X:K.In s.heap) (I:InstAt s.heap x ox D od) (ga:findIn K (.ref D) "__getattribute__" = some (some (.builtin "BaseException.__getattribute__"))) (hook:findIn K (.ref D) "__getattr__" = some none) (ex:W.subIn K (.ref D) (.type "BaseException")=some true)
    (hf:findObj K D od name=some (.value v)) (hh:handedIn v=true) (h:Q v { s with toks:=s.toks+1 }):wpAny (model prog w) A (getAttr (.ref x) name expr) Q E s:=by
  obtain⟨hp,g,dr,t,os⟩:=s
  have L0:=I.type (M:=model prog w)
  have L1:=looks_findIn (M:=model prog w) X ga
  have L2:=looks_findIn (M:=model prog w) X hook
  have L3':=looks_find (M:=model prog w) X I hf
  have f3:=PySem.F.attrBase_ValueError.ga.bind (.ref x)
  unfold getAttr getAttrBy
  refine wpAny_bind (wpAny_mkText (wpAny_holding (wpAny_bind (L0.at (wpAny_bind (L1.at ?_))))))
  have hne:(onTheHeap (Value.ref D)&&Value.builtin "BaseException.__getattribute__" == Value.builtin "object.__getattribute__")=false:=by
    k_dat 0"r74"
  dsimp only
  rw [if_neg (by rw [hne];exact Bool.false_ne_true)]
  unfold getAttrByItsOwn hookBefore
  rw [if_pos (show onTheHeap (Value.ref D)=true from rfl)]
  refine wpAny_bind (L2.at (wpAny_bind (wpAny_attempt (wpAny_holding ?_))))
  unfold callGetattribute
  rw [if_neg (by rw [show onTheHeap (Value.builtin "BaseException.__getattribute__")=false from rfl,Bool.and_false];exact Bool.false_ne_true)]
  unfold boundAndCalled
  rw [f3]
  refine wpAny_bind (wpAny_pure (wpAny_call ?_))
  refine codeAny_call_builtin PySem.F.attrBase_ValueError.ga.plain PySem.F.entry_bexc_ga (qKS (K:=K) (D:=D) (s:=⟨hp,g,dr,t+1,os⟩) X L0 ex ?_)
  refine wpAny_bind (wpAny_pure (wpAny_bind (wpAny_pure (wpAny_bind (L0.at (wpAny_bind (L3'.at (wpAny_pure ?_))))))))
  show wpAny _ _ (handedOut v) _ _ _
  rw [handedOut_of hh];exact wpAny_pure h
end
structure qN7 (K:Frag) (D:Addr):Prop where
  ga:findIn K (.ref D) "__getattribute__" = some (some (.builtin "BaseException.__getattribute__"))
  hook:findIn K (.ref D) "__getattr__" = some none
  exc:W.subIn K (.ref D) (.type "BaseException")=some true
  no:findIn K (.ref D) "row" = some none
  hd:hasDictIn K D=true
structure qFW (K:Frag):Prop where
  ex:∀ D,nsIn K mainGlobals "BadRow" = some (some (.ref D))→qN7 K D
def qEr (te:TD):TD:=fun ρ st P=>te ρ st fun d st1=>∃ i,d = .exc "BadRow" (some i)∧P (.int i) st1
section
variable {X:Cx} {e:Expr} {te:TD} {pos:Pos}
theorem qLP (a:qFW X.K) (he:DE X e te) (hb:attributeBase e "row" X.env (eval e X.env)=eval e X.env):DE X (.Attribute e "row" pos) (qEr te):=by
  k_dat 0"r1"
  k_dat 0"r0"
  refine qLh hb (thn (he pins s σ H (fun v H1=>∃ φ1 st1 i,Bhd X.K φ st H φ1 st1 H1∧L3.D X.K φ1 st1.length H1 (.exc "BadRow" (some i)) v∧P (.int i) st1) I ⟨φ,st,ρ,_,pre,ht,fun d st1 h1 φ1 H1 v b1 dv=>?_⟩) fun u s1 ⟨v,H1,I1,r,φ1,st1,i,b1,dv,h1⟩=>?_)
  · obtain⟨i,e,h2⟩:=h1
    subst e
    exact⟨φ1,st1,i,b1,dv,h2⟩
  · obtain⟨ea,o,C,dx,od,rfl,ho,hn,hcl,hdx,hod,ri⟩:=dv.qNu
    cases r
    have h2:=(I1.hok ea _ ho).1
    have h3:=(I1.hok dx _ hod).1
    obtain⟨mA,t,ns,hm⟩:=ri _ _ h3
    obtain⟨od',h4,lk⟩:=qIE ns
    rw [h3] at h4;cases h4
    have ro:=a.ex C hn
    obtain⟨hdx,vs,hda⟩:=hdx
    have nc:notCls o=true:=by unfold notCls;rw [hda]
    exact qLC I1.kIn ⟨h2,hcl,nc,by rw [hdx];exact h3⟩ ro.ga ro.hook ro.exc (findObj_own ro.hd ro.no rfl (by rw [lk,hm])) rfl ⟨.int i,H1,I1.tok _,⟨t,rfl⟩,hq _ st1 h1 φ1 H1 _ b1 D.mkInt⟩
end
def qIP (n:String) (ta:TAD):TD:=fun ρ st P=>ta ρ st fun ds st1=>ds.length≤sizeLine∧P (.exc n none) st1
def qOo (ta:TAD):TD:=fun ρ st P=>ta ρ st fun ds st1=>∃ i,ds=[.int i]∧0≤i∧i<1000000∧P (.exc "BadRow" (some i)) st1
section
variable {X:Cx} {n:String} {ta:TAD} {e1:Expr} {np cpos:Pos}
theorem qHU {pins:List (Addr×Obj)} {σ:L2.St} {H:Hp} {s:Shared} {e:Addr} (I:L2.Inv X pins σ H s) (hex:X.ex=[]) (h:s.heap.get? e=none):H e=none∧X.s₀.heap.get? e=none∧∀ p∈X.pn++pins,p.1≠e:=by
  refine⟨?_,?_,fun p hp z=>?_⟩
  · cases q:H e with
    | none=>rfl
    | some u=>obtain⟨o,ho⟩:=qB4 (I.hok e u q);rw [h] at ho;cases ho
  · cases q:X.s₀.heap.get? e with
    | none=>rfl
    | some u=>obtain⟨o',e'⟩:=I.base.there e u q (by rw [hex];exact fun z=>nomatch z);rw [h] at e';cases e'
  · have:=(I.pin p hp).1
    rw [z,h] at this;cases this
theorem qNi (hx:qCB X.K X.mg n) (kp:∀ C,X.mg (Str.ofString n)=some (.ref C)→W.keepIn X.K (.ref C)=true) (hex:X.ex=[]) (ha:DA X [e1] ta) (hg:Gl X (Str.ofString n)) (hd:(Str.ofString n==("__debug__" : Str))=false) (he:starEach [e1] X.env=(false,eval e1 X.env)::starEach [] X.env) (hpl:(backTo cpos (starEach [] X.env)).any (·.1)=false) :
    DE X (.Call (.Name (Str.ofString n) np) [e1] [] cpos) (qIP n ta):=by
  obtain⟨C,hx,hm⟩:=hx.ex
  k_dat 0"r1"
  k_dat 0"r0"
  refine wpAny_Call_Name_kw (qBN I hg hm ?_ hd)
  refine W.callWith_K (h₀:=X.base) I.ok.mod.kin (kp C hm) (thn (ha cpos pins s σ H (fun vs H1=>∃ φ1 st1,Bhd X.K φ st H φ1 st1 H1∧vs.length≤sizeLine∧P (.exc n none) st1) I ⟨φ,st,ρ,_,pre,ht,fun ds st1 h1 φ1 H1 vs b1 dl=>⟨φ1,st1,b1,by rw [← dl.length];exact h1.1,h1.2⟩⟩) fun us s1 ⟨vs,H1,I1,r,φ1,st1,b1,hl,h1⟩=>⟨I1.kIn,?_⟩) he hpl
  obtain⟨nm,qn,N,bs,bm,hdct,sn,sub,ab,col,dd,k0,k1,k2,k3,k5,mN,hC,hN,hni,T⟩:=qH8 I1.kIn hx.ok
  have fin:∀ h' e,Heap.MadeExcOf s1.heap h' e (.ref C) us→EP X pins σ Q (.ref e) { s1 with heap:=h' }:=fun h' e m=>by
    obtain⟨o1,o2,o3⟩:=qHU I1 hex m.new
    obtain⟨t,et,_,_⟩:=m.there
    have I2:L2.Inv X pins σ H1 { s1 with heap:=h' }:=I1.kept (t':=s1.toks) m.keeps
    have I3:=qE8 I2 et rfl o1 o2 o3
    have b2:Bhd X.K φ1 st1 H1 φ1 st1 (upd H1 e (.frz (qu C none t) (.own 0))):=⟨b1.1.laid o1,qAD o1⟩
    exact⟨.ref e,_,I3,rfl,hq _ st1 h1 φ1 _ _ (b1.trans b2) (L3.D.qPh qQ hx.ns rfl)⟩
  obtain⟨hp,gs,dr,tk,os⟩:=s1
  exact wpAny_call_exc_subT (hrest:=by rw [List.nil_append,← r.length];exact hl) PySem.F.excBase_ValueError T (I1.kIn _ _ hC) hN hni fin
theorem qM6 {k:Nat} (b:qGo X.prog X.w X.K X.mg X.base k) (hr:qAC (k+1) X.A) (hex:X.ex=[]) (ha:DA X [e1] ta) (hg:Gl X "BadRow") (he:starEach [e1] X.env=(false,eval e1 X.env)::starEach [] X.env) (hpl:(backTo cpos (starEach [] X.env)).any (·.1)=false) :
    DE X (.Call (.Name "BadRow" np) [e1] [] cpos) (qOo ta):=by
  obtain⟨C,G,f,fd,ps,bc,F,hb,hm,kp,ns⟩:=b.ex
  k_dat 0"r1"
  k_dat 0"r0"
  refine wpAny_mono (qGP (R:=fun i H1=>∃ φ1 st1,Bhd X.K φ st H φ1 st1 H1∧P (.exc "BadRow" (some i)) st1) (np:=np) bc F hr hb hm kp hg (by decide) ha he hpl I ⟨φ,st,ρ,_,pre,ht,fun ds st1 h1 φ1 H1 vs b1 dl=>?_⟩) (fun v s' ⟨i,H1,s1,I1,⟨φ1,st1,b1,h1⟩,e,dx,od,t,ev,I2,n1,n2,ne,e0,et,ri⟩=>?_) fun _ _ z=>z
  · obtain⟨i,e,i0,i1,h2⟩:=h1
    subst e
    simp only [DL] at dl
    obtain⟨v,rr,rfl,dv,rfl⟩:=dl
    cases dv.int
    exact⟨i,rfl,i0,i1,φ1,st1,b1,h2⟩
  · subst ev
    obtain⟨o1,o2,o3⟩:=qHU I1 hex e0
    have hn:upd H1 dx (.frz od (.own 0)) e=none:=by rw [qL (Ne.symm ne)];exact n1
    have I3:=qE8 I2 et rfl hn o2 o3
    have b2:Bhd X.K φ1 st1 H1 φ1 st1 (upd H1 dx (.frz od (.own 0))):=⟨b1.1.laid n2,qAD n2⟩
    have b3:Bhd X.K φ1 st1 (upd H1 dx (.frz od (.own 0))) φ1 st1 (upd (upd H1 dx (.frz od (.own 0))) e (.frz (qu C (some dx) t) (.own 0))):=⟨b2.1.laid hn,qAD hn⟩
    exact⟨.ref e,_,I3,rfl,hq _ st1 h1 φ1 _ _ (b1.trans (b2.trans b3)) (L3.D.qKA qQ ns rfl ⟨rfl,_,rfl⟩ (by rw [qL ne,qQ]) ri)⟩
end
end L3
namespace L3
open PySem PySem.Spec PyProof.Rows L2
section
variable {X:Cx}
noncomputable def qQM:V→Option Int→Option Int→Hp→VK→Prop:=fun x lo hi H Q=>∃ z,x = .str z∧z.length≤sizeLine∧Q (.str (Txt.slice z lo hi)) H
theorem qOs:SlR X qQM:=by
  k_dat 0"r31"
  obtain⟨z,rfl,hz,q⟩:=h
  k_dat 0"r8"
  refine⟨"str",_,F.slot_str_getitem.lookup,typeIs_str _ _ _,?_⟩
  have k:∀ (l u:Option (Int×Tok)),(l.map (·.1))=lo→(u.map (·.1))=hi→s.heap.IsSliceOf sl (partValue l) (partValue u) (partValue none)→wpAny (model X.prog X.w) X.A (getItem (.str z t) (.ref sl)) (EP X pins σ Q) X.xe s:=fun l u el eu hs=>by
    refine wpAny_getItem_str_slice (l:=l) (u:=u) (st:=none) hs rfl ?_
    subst el eu
    refine post_val_or_str ⟨Nat.le_trans (Txt.slice_le z _ _) hz,fun t' k=>⟨.str _,H,I.tok _,⟨t',rfl⟩,q⟩⟩
  cases lo with
  | none =>
    cases hi with
    | none=>cases pl;cases pu;exact k none none rfl rfl hs
    | some j=>cases pl;cases pu;exact k none (some (_,_)) rfl rfl hs
  | some i =>
    cases pl
    cases hi with
    | none=>cases pu;exact k (some (_,_)) none rfl rfl hs
    | some j=>cases pu;exact k (some (_,_)) (some (_,_)) rfl rfl hs
def qAy (te:TD) (tl th:TOD):TD:=fun ρ st P=>te ρ st fun x st1=>tl ρ st1 fun lo st2=>th ρ st2 fun hi st3=>∃ z,x = .str z∧z.length≤sizeLine∧P (.str (Txt.slice z lo hi)) st3
theorem qIY {e:Expr} {lo hi:Option Expr} {te:TD} {tl th:TOD} {pos p2:Pos} (he:DE X e te) (hl:DO X lo tl) (hu:DO X hi th):DE X (.Subscript e (.Slice lo hi none p2) pos) (qAy te tl th):=by
  refine PE.imp (qFv qOs he hl hu) fun σ H Q h=>?_
  k_dat 0"r0"
  refine⟨φ,st,ρ,_,pre,ht,fun x st1 h1 φ1 H1 v b1 dx=>⟨φ1,st1,ρ,_,pre.on b1,h1,fun l st2 h2 φ2 H2 b2=>⟨φ2,st2,ρ,_,(pre.on b1).on b2,h2,fun u st3 h3 φ3 H3 b3=>?_⟩⟩⟩
  obtain⟨z,ex,hz,h4⟩:=h3
  subst ex
  exact⟨z,dx.str,hz,hq _ st3 h4 φ3 _ _ (b1.trans (b2.trans b3)) D.mkStr⟩
noncomputable def qQP:V→List V→Hp→VK→Prop:=fun x vs H Q=>∃ z,x = .str z∧vs=[]∧(Txt.upper z).length≤sizeLine∧Q (.str (Txt.upper z)) H
theorem qJX:MtR X "str.upper" qQP:=by
  k_dat 0"r24"
  obtain⟨z,rfl,rfl,hz,q⟩:=h
  k_dat 0"r8"
  cases rv
  exact call_gives F.slot_str_upper (typeIs_str s z t) F.entry_str_upper (F.args_str_upper_1 _) (gives_str_upper z t (decide_eq_false (Nat.not_lt.mpr hz))) ⟨hz,.str _,H,I.tok _,⟨_,rfl⟩,q⟩
def qGj (to:TD):TD:=fun ρ st P=>to ρ st fun o st1=>∃ z,o = .str z∧(Txt.upper z).length≤sizeLine∧P (.str (Txt.upper z)) st1
theorem qJt {o:Expr} {to:TD} {apos cpos:Pos} (ho:DE X o to) (hbase:attributeBase o "upper" X.env (eval o X.env)=eval o X.env) (hline:(apos.endLine==cpos.line)=true):DE X (.Call (.Attribute o "upper" apos) [] [] cpos) (qGj to):=by
  refine PE.imp (qMr PySem.F.plainAttrs_str PySem.F.slot_str_upper PySem.F.type_str_upper qJX ho hbase hline) fun σ H Q h=>?_
  k_dat 0"r0"
  k_dat 0"r12"
  obtain⟨z,ex,hz,h2⟩:=h1
  subst ex
  have ev:=dx.str
  subst ev
  exact⟨rfl,z,rfl,rfl,hz,hq _ st1 h2 φ1 _ _ b1 D.mkStr⟩
noncomputable def qHg (z y:Str):Int:=match Builtin.Str.occurrences z y 0 z.length 1 with | i::_=>(i:Int) | []=>-1
noncomputable def qOV:V→List V→Hp→VK→Prop:=fun x vs H Q=>∃ z y,x = .str z∧vs=[.str y]∧Q (.int (qHg z y)) H
theorem qKt:MtR X "str.find" qOV:=by
  k_dat 0"r24"
  obtain⟨z,y,rfl,rfl,q⟩:=h
  k_dat 0"r8"
  obtain⟨u,rfl,t2,rfl⟩:=rv.one
  exact call_gives F.slot_str_find (typeIs_str s z t) F.entry_str_find (F.args_str_find_2 _ _) (gives_str_find z y t t2) ⟨.int _,H,I.tok _,⟨_,rfl⟩,q⟩
def qMU (to te:TD):TD:=fun ρ st P=>to ρ st fun o st1=>∃ z,o = .str z∧te ρ st1 fun d st2=>∃ y,d = .str y∧P (.int (qHg z y)) st2
section
variable {o e:Expr} {to te:TD} {apos cpos:Pos}
theorem qMD (ho:DE X o to) (he:DE X e te)
    (hbase:attributeBase o "find" X.env (eval o X.env)=eval o X.env)
    (hfew:((backTo cpos (starEach [e] X.env)).all (fun x=>!x.1)&&(backToKw cpos (keywordEach [] X.env)).all (fun x=>x.1.isSome)
      && decide (([e]:List Expr).length+([]:List Keyword).length+(if ([]:List Keyword).isEmpty then 0 else 1)<30))=true)
    (hline:(apos.endLine==cpos.line)=true) (hs:starEach [e] X.env=(false,eval e X.env)::starEach [] X.env) (hplain:(backTo cpos (starEach ([]:List Expr) X.env)).any (·.1)=false) :
    DE X (.Call (.Attribute o "find" apos) [e] [] cpos) (qMU to te):=by
  refine PE.imp (qEW PySem.F.plainAttrs_str PySem.F.slot_str_find PySem.F.type_str_find qKt ho (qAk he qBR hs) hbase hfew hline hs hplain) fun σ H Q h=>?_
  k_dat 0"r0"
  k_dat 0"r12"
  obtain⟨z,ex,h2⟩:=h1
  subst ex
  have ev:=dx.str
  subst ev
  refine⟨rfl,φ1,st1,ρ,fun ds st2=>∃ y,ds=[.str y]∧P (.int (qHg z y)) st2,pre.on b1,?_,fun ds st2 h3 φ2 H2 zs b2 dz=>?_⟩
  · simp only [qA,qG]
    refine cast (congrArg (te ρ st1) (funext fun d=>funext fun st2=>?_)) h2
    simp
  · obtain⟨y,e,h4⟩:=h3
    subst e
    obtain⟨y',rfl,dy⟩:=dz.one
    exact⟨z,y,rfl,by rw [dy.str],hq _ st2 h4 φ2 _ _ (b1.trans b2) D.mkInt⟩
noncomputable def qP3:V→List V→Hp→VK→Prop:=fun v xs H Q=>∃ a ws y j,v = .ref a∧H a=some (.lst ws)∧xs=[y]∧qA1 y=true∧ws.all qA1=true∧(∃ hj:j<ws.length,L2.eqV ws[j] y=true∧∀ m (hm:m<ws.length),m<j→L2.eqV ws[m] y=false)∧Q (.int (j:Nat)) H
theorem qLN:MtR X "list.index" qP3:=by
  intro pins s σ H v xs u us Q I r rv h
  obtain⟨a,ws,y,j,rfl,hH,rfl,fy,fw,⟨hj,hit,hno⟩,q⟩:=h
  cases r
  obtain⟨uy,rfl,ry⟩:=rv.one
  obtain⟨z,its,n,h7,hlen,ho⟩:=I.qJQ hH
  have ev:∀ m (hm:m<its.toArray.size) (hm':m<ws.length),eqU y its.toArray[m]=L2.eqV ws[m] y:=fun m hm hm'=>by
    obtain⟨u,eu,ru⟩:=h7.get (show ws[m]? = some ws[m] by simp [hm'])
    have:its.toArray[m]=u:=by
      have:its[m]? = some its.toArray[m]:=by simp
      rw [eu] at this
      exact (Option.some.inj this).symm
    rw [this]
    exact qFU ru (List.all_eq_true.mp fw _ (List.getElem_mem hm'))
  have hsz:its.toArray.size=ws.length:=by rw [List.size_toArray,hlen]
  have hbig:(j:Int)<2 ^ 63 - 1:=by
    have:=sizeLine_eq
    lia
  refine call_meets F.slot_list_index ⟨_,ho,rfl⟩ F.entry_list_index (F.args_list_index_2 _ _) (SeqAt.list_indexAt a its.toArray n none #[] uy (eqU y) j (by lia) hbig (by rw [ev j (by lia) hj];exact hit) (fun m hm hmj=>by rw [ev m hm (by lia)];exact hno m (by lia) hmj))
    ⟨ho,fun z hz=>qAm ry fy h7 fw z (by simpa using hz),⟨.int (j:Nat),H,I.tok _,⟨_,rfl⟩,q⟩⟩
def qBz (to te:TD):TD:=fun ρ st P=>to ρ st fun o st1=>∃ n,o = .lst n∧te ρ st1 fun y st2=>∃ xs j,st2[n]? = some (.rw xs)∧okD 0 y=true∧xs.all (okD 0)=true∧xs.findIdx? (fun z=>eqD 0 z y)=some j∧P (.int (j:Nat)) st2
theorem qIH (ho:DE X o to) (he:DE X e te)
    (hbase:attributeBase o "index" X.env (eval o X.env)=eval o X.env)
    (hfew:((backTo cpos (starEach [e] X.env)).all (fun x=>!x.1)&&(backToKw cpos (keywordEach [] X.env)).all (fun x=>x.1.isSome)
      && decide (([e]:List Expr).length+([]:List Keyword).length+(if ([]:List Keyword).isEmpty then 0 else 1)<30))=true)
    (hline:(apos.endLine==cpos.line)=true) (hs:starEach [e] X.env=(false,eval e X.env)::starEach [] X.env) (hplain:(backTo cpos (starEach ([]:List Expr) X.env)).any (·.1)=false) :
    DE X (.Call (.Attribute o "index" apos) [e] [] cpos) (qBz to te):=by
  refine PE.imp (qEW PySem.F.plainAttrs_list PySem.F.slot_list_index PySem.F.type_list_index qLN ho (qAk he qBR hs) hbase hfew hline hs hplain) fun σ H Q h=>?_
  k_dat 0"r0"
  k_dat 0"r12"
  obtain⟨n,ex,h2⟩:=h1
  subst ex
  have hn:=dx.lst.1
  obtain⟨so,eo⟩:∃ so,st1[n]? = some so:=⟨st1[n],by simp [hn]⟩
  obtain⟨ws,hws,_⟩:=b1.1.seq eo dx.isL
  refine⟨by rw [dx.lst.2];exact .inl ⟨rfl,ws,hws⟩,φ1,st1,ρ,fun ds st2=>∃ y,ds=[y]∧∃ xs j,st2[n]? = some (.rw xs)∧okD 0 y=true∧xs.all (okD 0)=true∧xs.findIdx? (fun z=>eqD 0 z y)=some j∧P (.int (j:Nat)) st2,pre.on b1,?_,fun ds st2 h3 φ2 H2 zs b2 dz=>?_⟩
  · simp only [qA,qG]
    refine cast (congrArg (te ρ st1) (funext fun d=>funext fun st2=>?_)) h2
    simp
  · obtain⟨y,e,xs,j,ex,o1,o2,ej,h4⟩:=h3
    subst e
    obtain⟨v',rfl,dv⟩:=dz.one
    obtain⟨vs,hv,dl⟩:=b2.1.rw n _ ex
    have dx2:=dx.evo b2.2
    obtain⟨hj,hit,hno⟩:=find_spec ej
    have hl:=dl.length
    have ev:∀ m (hm:m<xs.length) (hm':m<vs.length),L2.eqV vs[m] v'=eqD 0 xs[m] y:=fun m hm hm'=>by
      obtain⟨z,ez,dz⟩:=dl.get (show xs[m]? = some xs[m] by simp [hm])
      have:vs[m]=z:=by
        have:vs[m]? = some vs[m]:=by simp [hm']
        rw [ez] at this
        exact (Option.some.inj this).symm
      rw [this]
      exact qG2 dz dv (List.all_eq_true.mp o2 _ (List.getElem_mem hm)) o1
    exact⟨φ2 n,vs,v',j,dx2.lst.2,hv,rfl,qCj dv o1,qBi dl o2,⟨by lia,by rw [ev j hj (by lia)];exact hit,fun m hm hmj=>by rw [ev m (by lia) hm];exact hno m (by lia) hmj⟩,hq _ st2 h4 φ2 _ _ (b1.trans b2) D.mkInt⟩
end
noncomputable def qLn (z:Str) (k:Int):Str:=⟨(List.replicate k.toNat z.cps).foldl (· ++ ·) #[]⟩
def qGI:RD2:=fun x y st P=>∃ z k,x = .str z∧y = .int k∧2≤k∧k<1000∧0<z.length∧¬ ((z.length:Int) > (2 ^ 63 - 1) / k)∧z.length * k.toNat≤sizeLine∧(qLn z k).length≤sizeLine∧P (.str (qLn z k)) st
theorem qKv:OpD X (binaryOp .Mult) qGI:=by
  k_dat 0"r5"
  obtain⟨φ,st,x,y,P,R,dx,dy,⟨z,k,ex,ey,k0,k1,z0,z1,z2,z3,hp⟩,hq⟩:=h
  subst ex ey
  have e1:=dx.str
  have e2:=dy.int
  subst e1 e2
  obtain⟨t,rfl⟩:=r1
  obtain⟨t2,rfl⟩:=r2
  have n1:¬ (k==1 || z.length==0)=true:=by
    rw [Bool.or_eq_true,beq_iff_eq,beq_iff_eq]
    lia
  refine PySem.P.mul_str (by rw [decide_eq_false (by lia),decide_eq_false (by lia)];rfl) (fun _ _=>z1) (fun _ _=>decide_eq_false (Nat.not_lt.mpr z2)) ?_
  rw [if_neg (by lia),if_neg n1]
  exact⟨z3,.str _,H,I.tok _,⟨_,rfl⟩,hq _ st hp φ _ _ (.refl R) D.mkStr⟩
theorem qLc {a b:Expr} {ta tb:TD} {pos:Pos} (ha:DE X a ta) (hb:DE X b tb):DE X (.BinOp a .Mult b pos) (qD qGI ta tb):=qD3 qKv ha hb
end
end L3
namespace K01
open PySem L2 L3
noncomputable def qA8:List Str:=["halt", "put", "add", "sub", "mul", "bad", "div", "get", "set", "jump", "when", "go", "tell", "hear", "right", "back"]
noncomputable def q8:List Dt:=qA8.map .str
noncomputable def wordOf (i:Int):Str:=qA8.getD i.toNat ""
def qBZ:RDL:=fun ds st P=>∃ (k:Nat) (a b c:Int),k<16∧ds=[.tup [.str (wordOf k),.int a,.int b,.int c]]∧P (.int ((k:Int) * 4096+a * 512+b * 64+c)) st
def qv:RDL:=fun ds st P=>ds=[]∧∀ st' n,qP st st'→st'[n]? = some (.rw q8)→P (.lst n) st'
end K01
set_option maxHeartbeats 1000000
namespace K02
open PySem L2 L3
noncomputable abbrev cs (z:Str):List Nat:=z.cps.toList
noncomputable abbrev one (c:Nat):Str:=⟨#[c]⟩
theorem ext {a b:Str} (h:cs a=cs b):a=b:=PyProof.Rows.ext_toList h
theorem qCG (a b:Str):cs (a++b)=cs a++cs b:=W.KT.app_list a b
theorem qHf {c:Nat}:∀ {p q r s:List Nat},c ∉ p→c ∉ q→p++c::r=q++c::s→p=q∧r=s
  | [],[],r,s,_,_,h=>by simpa using h
  | [],y::q,r,s,_,hq,h=>by
    simp at h
    exact absurd (h.1 ▸ List.mem_cons_self) hq
  | x::p,[],r,s,hp,_,h=>by
    simp at h
    exact absurd (h.1 ▸ List.mem_cons_self) hp
  | x::p,y::q,r,s,hp,hq,h=>by
    simp at h
    obtain⟨e,h⟩:=h
    obtain⟨e1,e2⟩:=qHf (fun z=>hp (List.mem_cons_of_mem _ z)) (fun z=>hq (List.mem_cons_of_mem _ z)) h
    exact⟨by rw [e,e1],e2⟩
theorem qD9 (sep x y:Str) (r:List Str):sep.join (x::y::r)=x++sep++sep.join (y::r):=by
  rw [Str.join.eq_def]
theorem join_one (sep x:Str):sep.join [x]=x:=by rw [Str.join.eq_def]
theorem qAW {c:Nat} {x y:Str} {r:List Str}:cs ((one c).join (x::y::r))=cs x++c::cs ((one c).join (y::r)):=by
  rw [qD9,qCG,qCG,List.append_assoc]
  rfl
theorem qEu {c:Nat} {x:Str} {y:Str} {r:List Str}:c∈cs ((one c).join (x::y::r)):=by
  rw [qAW];simp
theorem qF7 {c:Nat}:∀ {ps qs:List Str},ps≠[]→qs≠[]→(∀ p∈ps,c ∉ cs p)→(∀ p∈qs,c ∉ cs p)→(one c).join ps=(one c).join qs→ps=qs
  | [],_,h,_,_,_,_=>absurd rfl h
  | _,[],_,h,_,_,_=>absurd rfl h
  | [x],[y],_,_,_,_,h=>by rw [join_one,join_one] at h;rw [h]
  | [x],y::z::r,_,_,hp,_,h=>by
    rw [join_one] at h
    have:=qEu (c:=c) (x:=y) (y:=z) (r:=r)
    rw [← h] at this
    exact absurd this (hp x (by simp))
  | x::z::r,[y],_,_,_,hq,h=>by
    rw [join_one] at h
    have:=qEu (c:=c) (x:=x) (y:=z) (r:=r)
    rw [h] at this
    exact absurd this (hq y (by simp))
  | x::x2::r,y::y2::s,_,_,hp,hq,h=>by
    have e:=congrArg cs h
    rw [qAW,qAW] at e
    obtain⟨e1,e2⟩:=qHf (hp x (by simp)) (hq y (by simp)) e
    have h2:=qF7 (ps:=x2::r) (qs:=y2::s) (by simp) (by simp) (fun p hp'=>hp p (List.mem_cons_of_mem _ hp')) (fun p hp'=>hq p (List.mem_cons_of_mem _ hp')) (ext e2)
    rw [ext e1,h2]
theorem qJ5 (x y:Str):Txt.split x y≠[]:=by
  unfold Txt.split
  split
  · simp
  · split
    · simp
    · rw [StrLaws.partsBetween_eq]
      obtain⟨p,r,e⟩:=StrLaws.partsFrom_ne x y.length 0 (Builtin.Str.occurrences x y 0 x.length (x.length+1))
      rw [e];simp
theorem qCN {c:Nat} {ps:List Str} (hn:ps≠[]) (hf:∀ p∈ps,c ∉ cs p):Txt.split ((one c).join ps) (one c)=ps :=
  qF7 (qJ5 _ _) hn (fun p hp=>StrLaws.split_free _ c p hp) hf (StrLaws.join_split _ _)
theorem qEs (x:Str) (w:Nat):∀ (cuts:List Nat) (a:Nat),(StrLaws.partsFrom x w a cuts).length=cuts.length+1
  | [],a=>by rw [StrLaws.partsFrom];rfl
  | c::r,a=>by rw [StrLaws.partsFrom];simp [qEs x w r]
theorem qAQ (x y:Str):(Builtin.Str.partsBetween x (Builtin.Str.occurrences x y 0 x.length (x.length+1)) y.length).length≤x.length+2:=by
  rw [StrLaws.partsBetween_eq,qEs]
  have:=StrLaws.occ_length_le x y 0 x.length (x.length+1)
  lia
theorem split_len (x y:Str):(Txt.split x y).length≤x.length+2:=by
  unfold Txt.split
  split
  · simp
  · split
    · simp
    · exact qAQ x y
noncomputable abbrev qAM:List Nat→Nat:=NumText.digitsVal
noncomputable def qAA (n:Nat):List Nat:=(Nat.toDigits 10 n).map Char.toNat
noncomputable def fig (n:Int):Str:=Str.ofString (toString n)
theorem qCz (n:Nat):cs (fig (n:Int))=qAA n:=W.KIN.signs_num n
theorem qGV (n:Nat):qAM (qAA n)=n:=W.KIN.val_back n
noncomputable def qg (c:Nat):Bool:=decide (48≤c)&&decide (c≤57)
theorem qIx (c:Char) (h:c.isDigit=true):qg c.toNat=true:=by
  unfold Char.isDigit at h
  unfold qg
  simp only [Bool.and_eq_true,decide_eq_true_eq] at h ⊢
  obtain⟨h1,h2⟩:=h
  exact⟨h1,h2⟩
theorem qDZ (n:Nat):∀ c∈qAA n,qg c=true:=by
  intro c hc
  unfold qAA at hc
  obtain⟨d,hd,rfl⟩:=List.mem_map.mp hc
  exact qIx d (Nat.isDigit_of_mem_toDigits (b:=10) (by decide) (by decide) hd)
theorem qDX (n:Nat):qAA n≠[]:=by
  unfold qAA
  intro h
  exact Nat.toDigits_ne_nil (List.map_eq_nil_iff.mp h)
theorem qCg {n k:Nat} (h0:0<k) (h:n<10 ^ k):(qAA n).length≤k:=by
  unfold qAA
  rw [List.length_map]
  exact (Nat.length_toDigits_le_iff (by decide) h0).mpr h
theorem qIK:∀ (n:Nat) (r:List Nat),qAA n=48::r→r=[]:=by
  intro n
  induction n using Nat.strongRecOn with
  | ind n ih =>
    intro r h
    unfold qAA at h
    rw [Nat.toDigits_eq_if (by decide)] at h
    split at h
    · simp at h;exact h.2
    · rename_i hn
      rw [List.map_append] at h
      have hq:qAA (n / 10)++[((n%10).digitChar).toNat]=48::r:=h
      have h0:0<n / 10:=by lia
      cases e:qAA (n / 10) with
      | nil=>exact absurd e (qDX _)
      | cons c s =>
        rw [e] at hq
        simp at hq
        obtain⟨rfl,_⟩:=hq
        have:=ih (n / 10) (by lia) s e
        subst this
        have hv:=qGV (n / 10)
        rw [e] at hv
        have:qAM [48]=0:=by decide
        lia
end K02
namespace K02
open PySem L2 L3
theorem qFp {c:Nat}:∀ {ps:List Str} {p:Str},p∈ps→∃ a b,cs ((one c).join ps)=a++cs p++b
  | [x],p,h=>by
    have:p=x:=by simpa using h
    subst this
    exact⟨[],[],by rw [join_one];simp⟩
  | x :: y::r,p,h=>by
    rw [qAW]
    rcases List.mem_cons.mp h with rfl | h
    · exact⟨[],c::cs ((one c).join (y::r)),by simp⟩
    · obtain⟨a,b,e⟩:=qFp (c:=c) h
      exact⟨cs x++c::a,b,by rw [e];simp⟩
def Asc (z:Str):Prop:=(z.cps.all fun c=>decide (c<128))=true
theorem qA6 {z:Str}:Asc z↔∀ c∈cs z,c<128:=by
  unfold Asc
  rw [← Array.all_toList,List.all_eq_true]
  exact⟨fun h c hc=>by simpa using h c hc,fun h c hc=>by simpa using h c hc⟩
theorem qBA (z:Str):(cs z).length=z.length:=Array.length_toList
theorem qEE {z p:Str} {c:Nat} (hz:Asc z) (h:p∈Txt.split z (one c)):Asc p∧p.length≤z.length:=by
  obtain⟨a,b,e⟩:=qFp (c:=c) h
  rw [StrLaws.join_split] at e
  refine⟨qA6.mpr fun d hd=>qA6.mp hz d (by rw [e];simp [hd]),?_⟩
  rw [← qBA,← qBA,e]
  simp
  lia
theorem qGc {c:Nat} (hc:c<128):∀ {ps:List Str},(∀ p∈ps,Asc p)→Asc ((one c).join ps)
  | [],_=>by rw [Str.join.eq_def];exact qA6.mpr fun c hc=>by simp [Str.empty] at hc
  | [x],h=>by rw [join_one];exact h x (by simp)
  | x :: y::r,h=>by
    refine qA6.mpr fun d hd=>?_
    rw [qAW] at hd
    rcases List.mem_append.mp hd with hd | hd
    · exact qA6.mp (h x (by simp)) d hd
    · rcases List.mem_cons.mp hd with rfl | hd
      · exact hc
      · exact qA6.mp (qGc hc (fun p hp=>h p (List.mem_cons_of_mem _ hp))) d hd
theorem qBm {c B:Nat}:∀ {ps:List Str},(∀ p∈ps,p.length≤B)→((one c).join ps).length≤ps.length * (B+1)
  | [],_=>by rw [Str.join.eq_def];exact Nat.zero_le _
  | [x],h=>by rw [join_one];have:=h x (by simp);simp;lia
  | x::y::r,h=>by
    have h1:=h x (by simp)
    have h2:=qBm (c:=c) (fun p hp=>h p (List.mem_cons_of_mem _ hp))
    rw [← qBA] at h1 h2 ⊢
    rw [qAW]
    simp only [List.length_append,List.length_cons] at h2 ⊢
    have e:(r.length+1+1) * (B+1)=(r.length+1) * (B+1)+(B+1):=Nat.succ_mul _ _
    rw [e]
    lia
noncomputable def qAJ (l:List Nat):Bool:=!l.isEmpty&&l.all qg && !(l.head? == some 48&&l != [48])
noncomputable def qJ (z:Str) (g:Nat):Option Nat:=if qAJ (cs z)&&decide ((cs z).length≤(qAA g).length)&&decide (qAM (cs z)≤g) then some (qAM (cs z)) else none
theorem qF9:∀ {l:List Nat},(∀ c∈l,48≤c∧c≤57)→(l.map Char.ofNat).map Char.toNat=l
  | [],_=>rfl
  | c :: r,h=>by
    simp only [List.map_cons]
    rw [qF9 fun d hd=>h d (List.mem_cons_of_mem _ hd)]
    have hc:=h c (by simp)
    obtain⟨k,rfl⟩:∃ k:Nat,c=48+k:=⟨c - 48,by lia⟩
    have hk:k≤9:=by lia
    have:(Char.ofNat (48+k)).toNat=48+k:=by
      rcases k with _ | _ | _ | _ | _ | _ | _ | _ | _ | _ | k<;>first | rfl | lia
    rw [this]
theorem qEh {l:List Nat} (h:qAJ l=true):qAA (qAM l)=l:=by
  unfold qAJ at h
  simp only [Bool.and_eq_true,Bool.not_eq_true',List.all_eq_true] at h
  obtain⟨⟨h0,h1⟩,h2⟩:=h
  have hd:∀ c∈l,48≤c∧c≤57:=fun c hc=>by
    have:=h1 c hc
    unfold qg at this
    simpa using this
  cases l with
  | nil=>simp at h0
  | cons c r =>
    unfold qAA
    rw [NumText.toDigits_digitsVal r.length (c::r) rfl hd ?_,qF9 hd]
    cases r with
    | nil=>exact .inl rfl
    | cons d s =>
      refine .inr ⟨c,d::s,rfl,?_⟩
      have:=(hd c (by simp)).1
      rcases Nat.lt_or_ge 48 c with q | q
      · exact q
      · have:c=48:=by lia
        subst this
        simp at h2
theorem qLv (n:Nat):qAJ (qAA n)=true:=by
  unfold qAJ
  simp only [Bool.and_eq_true,Bool.not_eq_true',List.all_eq_true]
  refine⟨⟨?_,fun c hc=>qDZ n c hc⟩,?_⟩
  · cases e:qAA n with
    | nil=>exact absurd e (qDX n)
    | cons=>rfl
  · cases e:qAA n with
    | nil=>exact absurd e (qDX n)
    | cons c r =>
      cases h:(c==48) with
      | false=>simp;intro q;rw [q] at h;simp at h
      | true =>
        have:c=48:=by simpa using h
        subst this
        have:=qIK n r e
        subst this
        simp
theorem qEb {n g:Nat} (h:n≤g):(qAA n).length≤(qAA g).length:=by
  have h0:0<(qAA g).length:=List.length_pos_iff.mpr (qDX g)
  refine qCg h0 (Nat.lt_of_le_of_lt h ?_)
  have:=(Nat.length_toDigits_le_iff (b:=10) (n:=g) (k:=(qAA g).length) (by decide) h0).mp (by unfold qAA;rw [List.length_map];exact Nat.le_refl _)
  exact this
theorem qB7 {n g:Nat} (h:n≤g):qJ (fig (n:Int)) g=some n:=by
  unfold qJ
  rw [qCz,qLv,qGV]
  simp [qEb h,h]
theorem qIt {c n:Nat} (h:qg c=false):c ∉ cs (fig (n:Int)):=by
  rw [qCz]
  intro q
  rw [qDZ n c q] at h
  cases h
theorem qHj {n k:Nat} (h0:0<k) (h:n<10 ^ k):(fig (n:Int)).length≤k:=by
  rw [← qBA,qCz];exact qCg h0 h
noncomputable def wordAt (z:Str):Option Nat:=K01.qA8.findIdx? (· == z)
noncomputable def qT (z:Str):Option Nat:=match Txt.split z (one 32) with
  | [w,n]=>if w==("cell" : Str) then qJ n 65535 else none
  | [w,a,b,c]=>(match wordAt w with
    | some k=>(match qJ a 7,qJ b 7,qJ c 63 with
      | some a,some b,some c=>some (k * 4096+a * 512+b * 64+c)
      | _,_,_=>none)
    | none=>none)
  | _=>none
noncomputable def qV:Option Nat→Dt
  | some n=>.int (n:Int)
  | none=>.non
def qA4:RDL:=fun ds st P=>∃ (z:Str) (g:Nat),ds=[.str z,.int (g:Int)]∧Asc z∧z.length≤sizeLine∧(g=7∨g=63∨g=65535)∧∀ st',qP st st'→P (qV (qJ z g)) st'
def qD2:RDL:=fun ds st P=>∃ z:Str,ds=[.str z]∧Asc z∧z.length+2≤sizeLine∧∀ st',qP st st'→P (qV (qT z)) st'
end K02
namespace KH
open PySem L2 L3
end KH
namespace K19
open PySem L2 L3 KH
end K19
namespace KH
open PySem PySem.Spec PyProof.Rows L2 L3
end KH
namespace K02
open PySem PySem.Spec PyProof.Rows L2 L3
section
variable {E:qAZ} {ρ:Rho} {st st':Sto} {A C:TSD}
theorem qKw (h:A { E with nx:=C E } ρ st):tseq A C E ρ st:=h
theorem ifS {c:TBD} {b:Bool} (h1:∀ P:Bool→Sto→Prop,P b st'→c ρ st P) (qt:b=true→A E ρ st') (qf:b=false→C E ρ st'):qi c A C E ρ st:=by
  unfold qi
  refine h1 _ ?_
  cases b
  · exact qB8 (qf rfl)
  · exact qBw (qt rfl)
theorem qh {N:TSD} {c:TBD} {b:Bool} (h1:∀ P:Bool→Sto→Prop,P b st'→c ρ st P) (qt:b=true→A { E with nx:=N E } ρ st') (qf:b=false→N E ρ st'):tseq (qi c A qM) N E ρ st:=qKw (ifS h1 qt qf)
theorem orB {c1 c2:TBD} {b1 b2:Bool} (h1:∀ P:Bool→Sto→Prop,P b1 st→c1 ρ st P) (h2:b1=false→∀ P:Bool→Sto→Prop,P b2 st→c2 ρ st P):∀ P:Bool→Sto→Prop,P (b1 || b2) st→qBG c1 c2 ρ st P:=by
  intro P hp
  unfold qBG
  refine h1 _ ?_
  cases b1
  · exact qB8 (h2 rfl _ (by simpa using hp))
  · exact qBw (by simpa using hp)
theorem qPk {c1 c2:TBD} {b1 b2:Bool} (h1:∀ P:Bool→Sto→Prop,P b1 st→c1 ρ st P) (h2:b1=true→∀ P:Bool→Sto→Prop,P b2 st→c2 ρ st P):∀ P:Bool→Sto→Prop,P (b1&&b2) st→qBa c1 c2 ρ st P:=by
  intro P hp
  unfold qBa
  refine h1 _ ?_
  cases b1
  · exact qB8 (by simpa using hp)
  · exact qBw (h2 rfl _ (by simpa using hp))
theorem eqS {x:TD} {a b:Str} (hx:∀ P:VD,P (.str a) st→x ρ st P):∀ P:Bool→Sto→Prop,P (a==b) st→qN (qD (qc false) x (qC (.str b))) ρ st P:=by
  intro P hp
  simp only [qN,qD,qC]
  refine hx _ ⟨rfl,rfl,?_⟩
  show P ((a==b) != false) st
  simpa using hp
theorem neS {x:TD} {a b:Str} (hx:∀ P:VD,P (.str a) st→x ρ st P):∀ P:Bool→Sto→Prop,P (a != b) st→qN (qD (qc true) x (qC (.str b))) ρ st P:=by
  intro P hp
  simp only [qN,qD,qC]
  refine hx _ ⟨rfl,rfl,?_⟩
  show P ((a==b) != true) st
  have:((a==b) != true)=(a != b):=by unfold bne;cases (a==b)<;>rfl
  rw [this];exact hp
theorem eqI {x:TD} {a b:Int} (hx:∀ P:VD,P (.int a) st→x ρ st P):∀ P:Bool→Sto→Prop,P (decide (a=b)) st→qN (qD (qc false) x (qC (.int b))) ρ st P:=by
  intro P hp
  simp only [qN,qD,qC]
  refine hx _ ⟨rfl,rfl,?_⟩
  show P ((a==b) != false) st
  have:((a==b) != false)=decide (a=b):=by by_cases e:a=b<;>simp [e]
  rw [this];exact hp
theorem neI {x:TD} {a b:Int} (hx:∀ P:VD,P (.int a) st→x ρ st P):∀ P:Bool→Sto→Prop,P (!decide (a=b)) st→qN (qD (qc true) x (qC (.int b))) ρ st P:=by
  intro P hp
  simp only [qN,qD,qC]
  refine hx _ ⟨rfl,rfl,?_⟩
  show P ((a==b) != true) st
  have:((a==b) != true) = !decide (a=b):=by by_cases e:a=b<;>simp [e]
  rw [this];exact hp
end
theorem qHI {a b:Str}:(a==b)=decide (a=b):=by
  by_cases e:a=b
  · subst e;simp
  · rw [decide_eq_false e]
    cases h:(a==b) with
    | false=>rfl
    | true=>exact absurd (eq_of_beq h) e
theorem eq_empty {z:Str}:(z==("" : Str))=(cs z).isEmpty:=by
  rw [qHI]
  cases h:(cs z).isEmpty with
  | true =>
    have:cs z=[]:=by simpa using h
    exact decide_eq_true (ext this)
  | false=>exact decide_eq_false fun q=>by subst q;simp [cs] at h;exact h rfl
theorem qCt {z:Str} {c:Nat} {r:List Nat} (e:cs z=c::r):((⟨#[c]⟩:Str)==("0" : Str))=(c==48):=by
  rw [qHI]
  by_cases h:c=48
  · subst h;exact decide_eq_true rfl
  · rw [decide_eq_false (fun q=>h (by have h2:[c]=[48]:=congrArg cs q;simpa using h2))]
    simp [h]
theorem ne_zero {z:Str}:(z != ("0" : Str))=(cs z != [48]):=by
  unfold bne
  rw [qHI]
  congr 1
  by_cases h:cs z=[48]
  · rw [h];exact decide_eq_true (ext h)
  · rw [decide_eq_false (fun q=>h (by rw [q];rfl))]
    simp [h]
theorem qHi (c:Nat):((!(Builtin.Str.occurrences ("0123456789" : Str) ⟨#[c]⟩ 0 ("0123456789" : Str).length 1).isEmpty) != true) = !qg c:=by
  rw [StrLaws.found_one]
  have:(("0123456789" : Str)).cps.toList=[48,49,50,51,52,53,54,55,56,57]:=by decide +kernel
  rw [this]
  unfold qg
  by_cases h:48≤c∧c≤57
  · have h1:c∈[48,49,50,51,52,53,54,55,56,57]:=by simp;lia
    simp [h1,h.1,h.2]
  · have h1:c ∉ [48,49,50,51,52,53,54,55,56,57]:=by simp;omega
    simp only [h1,decide_false]
    have:(decide (48≤c)&&decide (c≤57))=false:=by simp;lia
    rw [this];rfl
theorem qIm {g:Nat} (h:g≤65535):((g:Int).natAbs).log2<1920:=by
  have:(g:Int).natAbs=g:=rfl
  rw [this]
  rcases Nat.eq_zero_or_pos g with h0 | h0
  · subst h0;decide
  · exact Nat.lt_of_le_of_lt (show g.log2≤16 from by
      have:=(Nat.log2_lt (by lia)).mpr (show g<2 ^ 17 by lia);lia) (by decide)
abbrev qBo:TSD:=(tseq (qi (qBG (qN (qD (qc false) (qE 0) (qC (Dt.str "")))) (qN (qD (qAe fun i j=>decide (j<i)) (qI qAO (qA (qE 0) qG)) (qI qAO (qA (qI qCF (qA (qE 1) qG)) qG))))) (tseq (qo (qC Dt.non)) qM) qM) (tseq (qi (qN (qI qJG (qA (qCh (qMk (qE 0)) (fun x st P=>P true st) (qD (qBj true) (qE 0) (qC (Dt.str "0123456789"))) []) qG))) (tseq (qo (qC Dt.non)) qM) qM) (tseq (qi (qBa (qN (qD (qc false) (qD qX (qE 0) (qC (Dt.int 0))) (qC (Dt.str "0")))) (qN (qD (qc true) (qE 0) (qC (Dt.str "0"))))) (tseq (qo (qC Dt.non)) qM) qM) (tseq (qZ (qI qKQ (qA (qE 0) qG)) (qR 2)) (tseq (qo (qLG (qN (qD (qAe fun i j=>decide (i≤j)) (qE 2) (qE 1))) (qE 2) (qC Dt.non))) qM)))))
theorem qFB {ds:List Dt} {st:Sto} {Pd:VD} (h:qA4 ds st Pd):qBo (Ed Pd) (qe ["figures", "greatest", "number"] ds) st:=by
  obtain⟨z,g,rfl,ha,hl,hg,hP⟩:=h
  have hg':g≤65535:=by lia
  show qBo (Ed Pd) [some (.str z),some (.int (g:Int)),none] st
  refine qh (orB (b2:=decide ((qAA g).length<(cs z).length)) (eqS fun P hp=>hp) fun _=>?_) ?_ ?_
  · intro P hp
    show z.length≤sizeLine∧((g:Int).natAbs.log2<1920∧((fig (g:Int)).length≤sizeLine∧P (decide (((fig (g:Int)).length:Int)<(z.length:Int))) st))
    have hf:(fig (g:Int)).length≤5:=qHj (by decide) (by lia)
    refine⟨hl,qIm hg',by rw [sizeLine_eq];lia,?_⟩
    rw [← qBA,← qBA,qCz]
    have:decide (((qAA g).length:Int)<((cs z).length:Int))=decide ((qAA g).length<(cs z).length):=by
      by_cases e:(qAA g).length<(cs z).length
      · rw [decide_eq_true e,decide_eq_true (by lia)]
      · rw [decide_eq_false e,decide_eq_false (by lia)]
    rw [this];exact hp
  · intro q
    have hn:qJ z g=none:=by
      unfold qJ
      rw [eq_empty] at q
      rcases (Bool.or_eq_true _ _).mp q with q | q
      · have:qAJ (cs z)=false:=by unfold qAJ;rw [q];rfl
        rw [this];rfl
      · have:¬ (cs z).length≤(qAA g).length:=by have:=of_decide_eq_true q;lia
        rw [decide_eq_false this];simp
    show Pd .non st
    have:=hP st (.refl _)
    rw [hn] at this;exact this
  · intro q
    rw [eq_empty] at q
    obtain⟨q1,q2⟩:=(Bool.or_eq_false_iff).mp q
    have q2:(cs z).length≤(qAA g).length:=by have:=of_decide_eq_false q2;lia
    refine qh (b:=((cs z).map fun c=>!qg c).any id) (st':=st++[.rw (((cs z).map fun c=>!qg c).map .bl)]) ?_ ?_ ?_
    · intro P hp
      show (z.cps.all fun c=>decide (c<128))=true∧_
      refine⟨ha,?_⟩
      refine⟨fun i ys s'=>ys=(((cs z).take i).map fun c=>!qg c).map Dt.bl∧s'=st,⟨rfl,rfl⟩,fun _ _ _ _ _=>trivial,?_,?_⟩
      · rintro i d ys s' hd ⟨rfl,rfl⟩
        obtain⟨c,hc,rfl⟩:∃ c,(cs z)[i]? = some c∧d = .str ⟨#[c]⟩:=by
          unfold qAS at hd
          rw [List.getElem?_map] at hd
          cases e:z.cps.toList[i]? with
          | none=>rw [e] at hd;cases hd
          | some c=>rw [e] at hd;exact⟨c,rfl,(Option.some.inj hd).symm⟩
        have hi:i<(cs z).length:=(List.getElem?_eq_some_iff.mp hc).1
        refine⟨?_,qBw ?_⟩
        · simp only [List.length_map,List.length_take]
          have:z.length≤sizeLine:=hl
          rw [← qBA] at this
          lia
        · show (_∧_)
          refine⟨?_,rfl⟩
          rw [qHi,List.take_add_one,hc]
          simp
      · rintro ys s' ⟨rfl,rfl⟩
        have e:(qAS z).length=(cs z).length:=by simp [qAS]
        rw [e,List.take_length]
        show (match (s'++[SO.rw (((cs z).map fun c=>!qg c).map Dt.bl)])[s'.length]? with
          | some o=>∃ bs:List Bool,o.items=bs.map .bl∧P (bs.any id) (s'++[SO.rw (((cs z).map fun c=>!qg c).map Dt.bl)])
          | none=>False)
        rw [qU]
        exact⟨_,rfl,hp⟩
    · intro q3
      have hn:qJ z g=none:=by
        unfold qJ
        have:qAJ (cs z)=false:=by
          unfold qAJ
          have:(cs z).all qg=false:=by
            rw [List.any_map] at q3
            rw [List.any_eq_true] at q3
            obtain⟨c,hc,h⟩:=q3
            rw [List.all_eq_false]
            exact⟨c,hc,by simpa using h⟩
          rw [this];simp
        rw [this];rfl
      show Pd .non _
      have:=hP _ (.app st (.rw (((cs z).map fun c=>!qg c).map .bl)))
      rw [hn] at this;exact this
    · intro q3
      have hall:(cs z).all qg=true:=by
        rw [List.any_map,List.any_eq_false] at q3
        rw [List.all_eq_true]
        intro c hc
        have:=q3 c hc
        simpa using this
      obtain⟨c,r,ez⟩:∃ c r,cs z=c::r:=by
        cases e:cs z with
        | nil=>rw [e] at q1;simp at q1
        | cons c r=>exact⟨c,r,rfl⟩
      refine qh (qPk (eqS (a:=⟨#[c]⟩) fun P hp=>?_) fun _=>neS fun P hp=>hp) ?_ ?_
      · show z.length≤sizeLine∧_
        refine⟨hl,?_⟩
        have:atI z.cps.toList 0=some c:=by
          have e2:z.cps.toList=c::r:=ez
          rw [e2];exact qHQ (j:=0) rfl
        rw [this];exact hp
      · intro q4
        rw [qCt ez,ne_zero] at q4
        have hn:qJ z g=none:=by
          unfold qJ
          have:qAJ (cs z)=false:=by
            unfold qAJ
            have e:((cs z).head? == some 48)=(c==48):=by rw [ez];rfl
            rw [e,q4];simp
          rw [this];rfl
        show Pd .non _
        have:=hP _ (.app st (.rw (((cs z).map fun c=>!qg c).map .bl)))
        rw [hn] at this;exact this
      · intro q4
        rw [qCt ez,ne_zero] at q4
        have hok:qAJ (cs z)=true:=by
          unfold qAJ
          have e:((cs z).head? == some 48)=(c==48):=by rw [ez];rfl
          rw [e,q4,q1,hall];rfl
        have hb:=qEh hok
        have hzf:z=fig ((qAM (cs z):Nat):Int):=ext (by rw [qCz,hb])
        have hsm:qAM (cs z)<10 ^ 5:=by
          refine (Nat.length_toDigits_le_iff (b:=10) (by decide) (by decide)).mp ?_
          have h1:(qAA (qAM (cs z))).length≤5:=by
            rw [hb];exact Nat.le_trans q2 (qCg (by decide) (by lia))
          unfold qAA at h1
          rw [List.length_map] at h1
          exact h1
        refine qKw ?_
        show ∃ n:Int,0≤n∧n<10 ^ 10∧z=Str.ofString (toString n)∧_
        refine⟨((qAM (cs z):Nat):Int),by lia,by lia,hzf,?_⟩
        show (if decide (((qAM (cs z):Nat):Int)≤(g:Int))=true then Pd (.int ((qAM (cs z):Nat):Int)) _ else Pd .non _)
        have hh:=hP _ (.app st (.rw (((cs z).map fun c=>!qg c).map .bl)))
        unfold qJ at hh
        rw [hok,decide_eq_true q2] at hh
        by_cases hle:qAM (cs z)≤g
        · rw [if_pos (decide_eq_true (by lia))]
          rw [decide_eq_true hle] at hh
          exact hh
        · rw [if_neg (by rw [decide_eq_false (by lia)];exact Bool.false_ne_true)]
          rw [decide_eq_false hle] at hh
          exact hh
end K02
namespace K02
open PySem PySem.Spec PyProof.Rows L2 L3
section
variable {E:qAZ} {ρ:Rho} {st st':Sto} {A C:TSD}
theorem ixL {i j n:Nat} {d:Dt} {o:SO} (hv:ρ[i]? = some (some (.lst n))) (hn:st[n]? = some o) (hd:o.items[j]? = some d):∀ P:VD,P d st→qD qX (qE i) (qC (.int (j:Int))) ρ st P:=by
  intro P hp
  simp only [qD,qE,qC,hv]
  show (match qAB st (.lst n) with
      | some xs=>(match atI xs (j:Int) with
        | some d=>P d st
        | none=>False)
      | none=>False)
  have e:qAB st (.lst n)=some o.items:=by
    show (st[n]?).map SO.items=_
    rw [hn];rfl
  rw [e]
  show (match atI o.items (j:Int) with
        | some d=>P d st
        | none=>False)
  rw [qHQ hd]
  exact hp
theorem qP7 {i n:Nat} {o:SO} (hv:ρ[i]? = some (some (.lst n))) (hn:st[n]? = some o):∀ P:VD,P (.int (o.items.length:Int)) st→qI qAO (qA (qE i) qG) ρ st P:=by
  intro P hp
  simp only [qI,qA,qG,qE,hv]
  show (match qAB st (.lst n) with
    | some xs=>P (.int xs.length) st
    | none=>False)
  have e:qAB st (.lst n)=some o.items:=by
    show (st[n]?).map SO.items=_
    rw [hn];rfl
  rw [e]
  exact hp
theorem isN {i:Nat} {o:Option Nat} (hv:ρ[i]? = some (some (qV o))):∀ P:Bool→Sto→Prop,P o.isNone st→qN (qD (qEQ false) (qE i) (qC .non)) ρ st P:=by
  intro P hp
  simp only [qN,qD,qE,qC,hv]
  cases o with
  | none=>exact hp
  | some n=>exact hp
theorem qz {N:TSD} {te:TD} {i:Nat} (h:te ρ st fun d s1=>N E (ρ.set i (some d)) s1):tseq (qZ te (qR i)) N E ρ st:=h
theorem qLF {j n i:Nat} {g:Nat} {p:Str} {o:SO} {P:VD} (hv:ρ[i]? = some (some (.lst n))) (hn:st[n]? = some o) (hd:o.items[j]? = some (.str p)) (ha:Asc p) (hl:p.length≤sizeLine) (hg:g=7∨g=63∨g=65535)
    (h:∀ st',qP st st'→P (qV (qJ p g)) st'):qI qA4 (qA (qD qX (qE i) (qC (.int (j:Int)))) (qA (qC (.int (g:Int))) qG)) ρ st P:=by
  simp only [qI,qA,qG]
  exact ixL hv hn hd _ ⟨p,g,rfl,ha,hl,hg,h⟩
end
noncomputable def qJy (ps:List Str) (f:Str→Bool):Bool:=match ps with
  | w::_=>f w
  | []=>false
noncomputable abbrev R5 (z:Str) (n:Nat) (a b c:Option Dt):Rho:=[some (.str z),some (.lst n),a,b,c]
theorem qH3 {w:Str}:K01.q8.any (fun z=>eqD 0 z (.str w))=(wordAt w).isSome:=by
  unfold wordAt K01.q8
  rw [List.any_map]
  show K01.qA8.any (fun z=>z==w)=_
  cases h:K01.qA8.findIdx? (· == w) with
  | none =>
    rw [List.findIdx?_eq_none_iff] at h
    rw [List.any_eq_false.mpr fun x hx=>by rw [h x hx];exact Bool.false_ne_true];rfl
  | some k =>
    obtain⟨hk,h1,_⟩:=List.findIdx?_eq_some_iff_getElem.mp h
    rw [List.any_eq_true.mpr ⟨_,List.getElem_mem hk,h1⟩];rfl
theorem qDW {w:Str} {k:Nat} (h:wordAt w=some k):k<16∧K01.wordOf (k:Int)=w:=by
  unfold wordAt at h
  obtain⟨hk,h1,_⟩:=List.findIdx?_eq_some_iff_getElem.mp h
  refine⟨hk,?_⟩
  unfold K01.wordOf
  rw [Int.toNat_natCast]
  have e:K01.qA8[k]=w:=eq_of_beq h1
  rw [List.getD_eq_getElem?_getD,List.getElem?_eq_getElem hk,Option.getD_some]
  exact e
abbrev qAa:TSD:=(tseq (qZ (qC5 (qE 0) (qC (Dt.str " "))) (qR 1)) (tseq (qi (qBa (qN (qD (qc false) (qI qAO (qA (qE 1) qG)) (qC (Dt.int 2)))) (qN (qD (qc false) (qD qX (qE 1) (qC (Dt.int 0))) (qC (Dt.str "cell"))))) (tseq (qo (qI qA4 (qA (qD qX (qE 1) (qC (Dt.int 1))) (qA (qC (Dt.int 65535)) qG)))) qM) qM) (tseq (qi (qBG (qN (qD (qc true) (qI qAO (qA (qE 1) qG)) (qC (Dt.int 4)))) (qN (qD (qBj true) (qD qX (qE 1) (qC (Dt.int 0))) (qC (Dt.tup K01.q8))))) (tseq (qo (qC Dt.non)) qM) qM) (tseq (qZ (qI qA4 (qA (qD qX (qE 1) (qC (Dt.int 1))) (qA (qC (Dt.int 7)) qG))) (qR 2)) (tseq (qZ (qI qA4 (qA (qD qX (qE 1) (qC (Dt.int 2))) (qA (qC (Dt.int 7)) qG))) (qR 3)) (tseq (qZ (qI qA4 (qA (qD qX (qE 1) (qC (Dt.int 3))) (qA (qC (Dt.int 63)) qG))) (qR 4)) (tseq (qi (qBG (qN (qD (qEQ false) (qE 2) (qC Dt.non))) (qBG (qN (qD (qEQ false) (qE 3) (qC Dt.non))) (qN (qD (qEQ false) (qE 4) (qC Dt.non))))) (tseq (qo (qC Dt.non)) qM) qM) (tseq (qo (qI K01.qBZ (qA (qIf (qA (qD qX (qE 1) (qC (Dt.int 0))) (qA (qE 2) (qA (qE 3) (qA (qE 4) qG))))) qG))) qM))))))))
theorem qDM:(Str.ofString " ")=one 32:=by decide +kernel
theorem qCp:(Str.ofString "\n")=one 10:=by decide +kernel
theorem qCf {ds:List Dt} {st:Sto} {Pd:VD} (h:qD2 ds st Pd):qAa (Ed Pd) (qe ["line", "parts", "a", "b", "c"] ds) st:=by
  obtain⟨z,rfl,ha,hl,hP⟩:=h
  obtain⟨ps,eps⟩:∃ ps,Txt.split z (one 32)=ps:=⟨_,rfl⟩
  have hA:∀ p∈ps,Asc p∧p.length≤sizeLine:=fun p hp=>by
    rw [← eps] at hp
    obtain⟨h1,h2⟩:=qEE ha hp
    exact⟨h1,by lia⟩
  have hpl:ps.length≤z.length+2:=by rw [← eps];exact split_len _ _
  show qAa (Ed Pd) [some (.str z),none,none,none,none] st
  refine qKw ?_
  show ((Str.ofString " ").length==0)=false∧z.length≤sizeLine∧(Txt.split z (Str.ofString " ")).length≤sizeLine∧_∧_
  rw [qDM,eps]
  refine⟨rfl,by lia,by lia,Nat.le_trans (qAQ _ _) hl,?_⟩
  show tseq _ _ (Ed Pd) (R5 z st.length none none none) (st++[SO.rw (ps.map .str)])
  have hn:(st++[SO.rw (ps.map .str)])[st.length]? = some (.rw (ps.map .str)):=qU
  have hx:qP st (st++[SO.rw (ps.map .str)]):=.app _ _
  have hN:(∀ n,qT z≠some n)→∀ st',qP st st'→Pd .non st':=fun hno st' hs=>by
    have:=hP st' hs
    cases e:qT z with
    | none=>rw [e] at this;exact this
    | some n=>exact absurd e (hno n)
  have hlen:∀ P:VD,P (.int (ps.length:Int)) (st++[SO.rw (ps.map .str)])→qI qAO (qA (qE 1) qG) (R5 z st.length none none none) (st++[SO.rw (ps.map .str)]) P:=fun P hp=>by
    refine qP7 (i:=1) (n:=st.length) rfl hn P ?_
    show P (.int ((ps.map Dt.str).length:Int)) _
    rw [List.length_map];exact hp
  refine qh (qPk (b2:=qJy ps fun w=>w==("cell" : Str)) (eqI hlen) fun h2=>?_) ?_ ?_
  · rcases ps with _ | ⟨w,r⟩
    · simp at h2
    · exact eqS (a:=w) (ixL (ρ:=R5 z st.length none none none) (i:=1) (n:=st.length) (j:=0) rfl hn rfl)
  · intro q
    obtain⟨q1,q2⟩:=(Bool.and_eq_true _ _).mp q
    have q1:=of_decide_eq_true q1
    rcases ps with _ | ⟨w,_ | ⟨n,_ | ⟨x,r⟩⟩⟩
    · simp at q1
    · simp at q1
    rotate_left
    · simp at q1;lia
    · have q2:(w==("cell" : Str))=true:=q2
      have hw:=hA n (by simp)
      refine qLF (ρ:=R5 z st.length none none none) (i:=1) (n:=st.length) (j:=1) (g:=65535) rfl hn rfl hw.1 hw.2 (by simp) fun st' hs=>?_
      have:=hP st' (hx.trans hs)
      unfold qT at this
      rw [eps] at this
      simp only [q2,if_true] at this
      exact this
  · intro q
    refine qh (orB (b2:=qJy ps fun w=>!(wordAt w).isSome) (neI hlen) fun h2=>?_) ?_ ?_
    · rcases ps with _ | ⟨w,r⟩
      · simp at h2
      · intro P hp
        simp only [qN,qD]
        refine ixL (ρ:=R5 z st.length none none none) (i:=1) (n:=st.length) (j:=0) rfl hn rfl _ ?_
        show okD 0 (.str w)=true∧K01.q8.all (okD 0)=true∧P (K01.q8.any (fun z=>eqD 0 z (.str w)) != true) _
        refine⟨rfl,by decide,?_⟩
        rw [qH3]
        have e:((wordAt w).isSome != true) = !(wordAt w).isSome:=by cases (wordAt w).isSome<;>rfl
        rw [e];exact hp
    · intro q3
      show Pd .non _
      refine hN (fun n hn=>?_) _ hx
      unfold qT at hn
      rw [eps] at hn
      rcases ps with _ | ⟨w,_ | ⟨a,_ | ⟨b,_ | ⟨c,_ | ⟨d,r⟩⟩⟩⟩⟩
      · cases hn
      · cases hn
      · have q:(decide (((2:Nat):Int)=2)&&(w==("cell" : Str)))=false:=q
        simp only [] at hn
        have q:(w==("cell" : Str))=false:=by
          cases e:(w==("cell" : Str)) with
          | false=>rfl
          | true=>rw [e] at q;exact absurd q (by decide)
        rw [q] at hn
        cases hn
      · cases hn
      · have q3:(!decide (((4:Nat):Int)=4) || !(wordAt w).isSome)=true:=q3
        simp only [] at hn
        cases e:wordAt w with
        | none=>rw [e] at hn;cases hn
        | some k=>rw [e] at q3;simp at q3
      · cases hn
    · intro q3
      rcases ps with _ | ⟨w,_ | ⟨a,_ | ⟨b,_ | ⟨c,_ | ⟨d,r⟩⟩⟩⟩⟩
      · simp at q3
      · simp at q3
      · simp at q3
      · simp at q3
      rotate_left
      · simp at q3;lia
      have q3:(!decide (((4:Nat):Int)=4) || !(wordAt w).isSome)=false:=q3
      obtain⟨k,ek⟩:∃ k,wordAt w=some k:=by
        cases e:wordAt w with
        | none=>rw [e] at q3;simp at q3
        | some k=>exact⟨k,rfl⟩
      obtain⟨hk,ew⟩:=qDW ek
      have hwa:=hA a (by simp)
      have hwb:=hA b (by simp)
      have hwc:=hA c (by simp)
      have hL:qT z=(match qJ a 7,qJ b 7,qJ c 63 with
        | some a,some b,some c=>some (k * 4096+a * 512+b * 64+c)
        | _,_,_=>none):=by
        unfold qT
        rw [eps]
        simp only [ek]<;>rfl
      refine qz (qLF (ρ:=R5 z st.length none none none) (i:=1) (n:=st.length) (j:=1) (g:=7) rfl hn rfl hwa.1 hwa.2 (by simp) fun s1 x1=>?_)
      show tseq _ _ (Ed Pd) (R5 z st.length (some (qV (qJ a 7))) none none) s1
      refine qz (qLF (ρ:=R5 z st.length (some (qV (qJ a 7))) none none) (i:=1) (n:=st.length) (j:=2) (g:=7) rfl (x1 _ _ hn) rfl hwb.1 hwb.2 (by simp) fun s2 x2=>?_)
      show tseq _ _ (Ed Pd) (R5 z st.length (some (qV (qJ a 7))) (some (qV (qJ b 7))) none) s2
      refine qz (qLF (ρ:=R5 z st.length (some (qV (qJ a 7))) (some (qV (qJ b 7))) none) (i:=1) (n:=st.length) (j:=3) (g:=63) rfl (x2 _ _ (x1 _ _ hn)) rfl hwc.1 hwc.2 (by simp) fun s3 x3=>?_)
      show tseq _ _ (Ed Pd) (R5 z st.length (some (qV (qJ a 7))) (some (qV (qJ b 7))) (some (qV (qJ c 63)))) s3
      have hx3:qP st s3:=hx.trans (x1.trans (x2.trans x3))
      have hn3:=x3 _ _ (x2 _ _ (x1 _ _ hn))
      refine qh (orB (b1:=(qJ a 7).isNone) (b2:=(qJ b 7).isNone || (qJ c 63).isNone) ?_ fun _=>orB (b1:=(qJ b 7).isNone) (b2:=(qJ c 63).isNone) ?_ fun _=>?_) ?_ ?_
      · exact isN (ρ:=R5 z st.length (some (qV (qJ a 7))) (some (qV (qJ b 7))) (some (qV (qJ c 63)))) (i:=2) rfl
      · exact isN (ρ:=R5 z st.length (some (qV (qJ a 7))) (some (qV (qJ b 7))) (some (qV (qJ c 63)))) (i:=3) rfl
      · exact isN (ρ:=R5 z st.length (some (qV (qJ a 7))) (some (qV (qJ b 7))) (some (qV (qJ c 63)))) (i:=4) rfl
      · intro q4
        show Pd .non s3
        refine hN (fun n hn=>?_) _ hx3
        rw [hL] at hn
        cases e1:qJ a 7 with
        | none=>rw [e1] at hn;cases hn
        | some x =>
          cases e2:qJ b 7 with
          | none=>rw [e1,e2] at hn;cases hn
          | some y =>
            cases e3:qJ c 63 with
            | none=>rw [e1,e2,e3] at hn;cases hn
            | some v=>rw [e1,e2,e3] at q4;cases q4
      · intro q4
        cases e1:qJ a 7 with
        | none=>rw [e1] at q4;simp at q4
        | some x =>
          cases e2:qJ b 7 with
          | none=>rw [e1,e2] at q4;simp at q4
          | some y =>
            cases e3:qJ c 63 with
            | none=>rw [e1,e2,e3] at q4;simp at q4
            | some v =>
              rw [e1,e2,e3] at hL
              have hh:=hP s3 hx3
              rw [hL] at hh
              refine qKw ?_
              simp only [qo,qI,qIf,qA,qG]
              refine ixL (ρ:=R5 z st.length (some (qV (qJ a 7))) (some (qV (qJ b 7))) (some (qV (qJ c 63)))) (i:=1) (n:=st.length) (j:=0) rfl hn3 rfl _ ?_
              refine⟨by show 4≤sizeLine;rw [sizeLine_eq];decide,?_⟩
              refine⟨k,x,y,v,hk,by rw [ew];rfl,?_⟩
              have e:((k * 4096+x * 512+y * 64+v:Nat):Int)=(k:Int) * 4096+(x:Int) * 512+(y:Int) * 64+(v:Int):=by push_cast;rfl
              have hh:Pd (.int ((k * 4096+x * 512+y * 64+v:Nat):Int)) s3:=hh
              rw [e] at hh
              exact hh
end K02
namespace K02
open PySem L2 L3
end K02
namespace K02
open PySem PySem.Spec PyProof.Rows L2 L3
def rb:TSD:=(tseq (qZ (qI qD2 (qA (qE 3) qG)) (qR 4)) (tseq (qi (qN (qD (qEQ false) (qE 4) (qC Dt.non))) (tseq qNJ qM) qM) (tseq (qDi (qAj (qE 1) (qE 4))) qM)))
noncomputable abbrev RR (z:Str) (c:Nat) (a b d:Option Dt):Rho:=[some (.str z),some (.lst c),a,b,d]
end K02
namespace K02
open PySem PySem.Spec PyProof.Rows L2 L3
end K02
namespace K02
open PySem PySem.Spec PyProof.Rows L2 L3
end K02
namespace K03
open PySem PySem.Spec PyProof.Rows L2 L3
open K02 (cs one Asc qT qJ qV fig qAA qA6 qBA qBm)
noncomputable def prB (z:Str):Bool:=(cs z).all fun c=>decide (32≤c)&&decide (c<127)
structure T (B:Nat) (z:Str):Prop where
  p:∀ c∈cs z,32≤c∧c<127
  l:z.length≤B
theorem T.of {B:Nat} {z:Str} (h:prB z=true) (l:z.length≤B):T B z:=⟨fun c hc=>by
  have:=List.all_eq_true.mp h c hc
  simpa using this,l⟩
theorem T.mono {a b:Nat} {z:Str} (h:T a z) (l:a≤b):T b z:=⟨h.p,Nat.le_trans h.l l⟩
theorem T.app {a b:Nat} {x y:Str} (h:T a x) (h2:T b y):T (a+b) (x++y):=⟨fun c hc=>by
  rw [K02.qCG] at hc
  rcases List.mem_append.mp hc with q | q
  · exact h.p c q
  · exact h2.p c q,by rw [strLen_append];have:=h.l;have:=h2.l;lia⟩
theorem T.asc {B:Nat} {z:Str} (h:T B z):Asc z:=qA6.mpr fun c hc=>by have:=h.p c hc;lia
theorem T.nl {B:Nat} {z:Str} (h:T B z):10 ∉ cs z:=fun q=>by have:=h.p 10 q;lia
theorem qPA {n k:Nat} (h0:0<k) (h:n<10 ^ k):T k (fig (n:Int)):=⟨fun c hc=>by
  rw [K02.qCz] at hc
  have:=K02.qDZ n c hc
  unfold K02.qg at this
  simp at this
  lia,K02.qHj h0 h⟩
theorem qMI {i:Int} {k:Nat} (h0:0<k) (i0:0≤i) (h:i<(10:Int) ^ k):T k (fig i):=by
  obtain⟨n,rfl⟩:=Int.eq_ofNat_of_zero_le i0
  exact qPA h0 (by exact_mod_cast h)
theorem qIN {z:Str} {lo hi:Option Int} {c:Nat} (h:c∈cs (Txt.slice z lo hi)):c∈cs z:=by
  unfold Txt.slice at h
  split at h
  · exact h
  · have h:c∈(List.filterMap (z.cps[·]?) (Builtin.Str.strSliceIndices lo hi 1 z.length)):=by simpa [cs] using h
    obtain⟨i,_,q⟩:=List.mem_filterMap.mp h
    have:=Array.mem_of_getElem? q
    exact Array.mem_toList_iff.mpr this
theorem qNm {B:Nat} {z:Str} {lo hi:Option Int} (h:T B z):T B (Txt.slice z lo hi):=⟨fun c hc=>h.p c (qIN hc),Nat.le_trans (Txt.slice_le _ _ _) h.l⟩
theorem qJV {B:Nat} {ps:List Str} {m:Nat} (h:∀ p∈ps,T B p) (hm:ps.length≤m):T (m * (B+1)) ((one 32).join ps):=by
  refine⟨?_,Nat.le_trans (qBm fun p hp=>(h p hp).l) (Nat.mul_le_mul_right _ hm)⟩
  clear hm
  induction ps with
  | nil=>intro c hc;rw [Str.join.eq_def] at hc;simp [Str.empty,cs] at hc
  | cons x r ih =>
    intro c hc
    cases r with
    | nil=>rw [K02.join_one] at hc;exact (h x (by simp)).p c hc
    | cons y r =>
      rw [K02.qAW] at hc
      rcases List.mem_append.mp hc with q | q
      · exact (h x (by simp)).p c q
      · rcases List.mem_cons.mp q with rfl | q
        · exact⟨by decide,by decide⟩
        · exact ih (fun p hp=>h p (List.mem_cons_of_mem _ hp)) c q
theorem qQD {c:Nat} (h:32≤c) (h2:c<127):T 1 ⟨#[c]⟩:=⟨fun d hd=>by
  have:d=c:=by simpa [cs] using hd
  subst this;exact⟨h,h2⟩,Nat.le_refl _⟩
theorem qMn {B:Nat} {z p:Str} (h:T B z) (hp:p∈Txt.split z (one 32)):T B p:=by
  obtain⟨a,b,e⟩:=K02.qFp (c:=32) hp
  rw [StrLaws.join_split] at e
  refine⟨fun c hc=>h.p c (by rw [e];simp [hc]),?_⟩
  have:=h.l
  rw [← qBA] at this ⊢
  rw [e,List.length_append,List.length_append] at this
  lia
theorem qBB (k:Nat) (h:k<16):T 5 (K01.wordOf (k:Nat)):=by
  k_dat 0"r75"
theorem qHm (k:Nat) (h:k<16):T 8 (Txt.upper (K01.wordOf (k:Nat))):=by
  k_dat 0"r75"
noncomputable def qDD (c:Int):Int:=if c / 196608%3=0 then c / 3%65536 else if c / 196608%3=1 then c / 3%10 else 65535
noncomputable def parts (c:Int):List Str:=if c%3=1 then ["cell",fig (qDD c)] else [K01.wordOf (c / 3%16),fig (c / 3 / 16%8),fig (c / 3 / 128%8),fig (c / 3 / 1024%64)]
noncomputable def qAL (c:Int):Str:=(one 32).join (parts c)
theorem qD5 (c:Int):0≤qDD c∧qDD c<65536:=by
  unfold qDD
  split
  · lia
  · split<;>lia
theorem qJF {i:Int} (i0:0≤i) (i1:i<100000):T 5 (fig i)∧32 ∉ cs (fig i):=by
  obtain⟨n,rfl⟩:=Int.eq_ofNat_of_zero_le i0
  exact⟨qPA (by decide) (by lia),K02.qIt (by decide)⟩
theorem qL7 (k:Nat) (h:k<16):32 ∉ cs (K01.wordOf (k:Nat)):=by
  k_dat 0"r47"
theorem qDW (k:Nat) (h:k<16):K02.wordAt (K01.wordOf (k:Nat))=some k:=by
  k_dat 0"r47"
theorem qBK (c:Int):(∀ p∈parts c,T 5 p∧32 ∉ cs p)∧parts c≠[]∧(parts c).length≤4:=by
  k_dat 0"r76"
  have hc:=qD5 c
  unfold parts
  rw [hk]
  split
  · refine⟨fun p hp=>?_,by simp,by simp⟩
    rcases List.mem_cons.mp hp with rfl | hp
    · exact⟨T.of (by decide +kernel) (by decide +kernel),by decide +kernel⟩
    · rw [List.mem_singleton.mp hp];exact qJF hc.1 (by lia)
  · refine⟨fun p hp=>?_,by simp,by simp⟩
    simp only [List.mem_cons,List.not_mem_nil,or_false] at hp
    rcases hp with rfl | rfl | rfl | rfl
    · exact⟨qBB k h16,qL7 k h16⟩
    · exact qJF (by lia) (by lia)
    · exact qJF (by lia) (by lia)
    · exact qJF (by lia) (by lia)
theorem qED (c:Int):T 24 (qAL c):=qJV (fun p hp=>((qBK c).1 p hp).1) (qBK c).2.2
theorem qDa (c:Int):Txt.split (qAL c) (one 32)=parts c:=K02.qCN (qBK c).2.1 fun p hp=>((qBK c).1 p hp).2
theorem qI7 (c:Int):(qT (qAL c)).isSome=true:=by
  unfold qT
  rw [qDa]
  unfold parts
  by_cases h:c%3=1
  · rw [if_pos h]
    show (if (("cell" : Str)==("cell" : Str))=true then qJ (fig (qDD c)) 65535 else none).isSome=true
    rw [if_pos (by decide +kernel)]
    obtain⟨h0,h1⟩:=qD5 c
    obtain⟨k,hk⟩:=Int.eq_ofNat_of_zero_le h0
    rw [hk] at h1 ⊢
    rw [K02.qB7 (by lia)];rfl
  · rw [if_neg h]
    k_dat 0"r76"
    obtain⟨a,ha,a8⟩:∃ k:Nat,c / 3 / 16%8=(k:Int)∧k≤7:=⟨(c / 3 / 16%8).toNat,by lia,by lia⟩
    obtain⟨b,hb,b8⟩:∃ k:Nat,c / 3 / 128%8=(k:Int)∧k≤7:=⟨(c / 3 / 128%8).toNat,by lia,by lia⟩
    obtain⟨d,hd,d8⟩:∃ k:Nat,c / 3 / 1024%64=(k:Int)∧k≤63:=⟨(c / 3 / 1024%64).toNat,by lia,by lia⟩
    rw [hk,ha,hb,hd]
    simp only [qDW k h16,K02.qB7 a8,K02.qB7 b8,K02.qB7 d8]
    rfl
noncomputable def fb (l:List (Option Nat)):Option Nat:=(l.findIdx? Option.isNone).map (· + 1)
noncomputable def nums (z:Str):List (Option Nat):=(Txt.split z (one 10)).map qT
noncomputable def qHb (z:Str):Dt:=match fb (nums z) with
  | some i=>.exc "BadRow" (some (i:Int))
  | none=>.tup ((nums z).map qV)
structure Okz (z:Str):Prop where
  a:Asc z
  l:z.length≤100000
def qB1:RDL:=fun ds st P=>∃ z:Str,ds=[.str z]∧Okz z∧∀ st',qP st st'→P (qHb z) st'
def qCC:RDL:=fun ds st P=>∃ c:Int,ds=[.int c]∧∀ st',qP st st'→P (.str (qAL c)) st'
def qDr (B:Nat) (q:List Dt→Prop):RDL:=fun ds st P=>q ds∧∀ z st',T B z→qP st st'→P (.str z) st'
def qDU:RDL:=qDr 40 fun ds=>∃ (k:Nat) (c:Int),k<16∧ds=[.str (K01.wordOf (k:Nat)),.int c]
def qES:RDL:=qDr 80 fun ds=>∃ c m:Int,ds=[.int c,.int m]∧(m=7∨m=63∨m=65535)
def qFC:RDL:=qDr 600 fun ds=>∃ c:Int,ds=[.int c]
def qFQ:RDL:=qDr 600 fun ds=>∃ c:Int,ds=[.int c]
def qC8:RDL:=fun ds st P=>∃ (z:Str) (g:Nat),ds=[.str z,.int (g:Int)]∧(∃ B,B≤1000∧T B z)∧(g=7∨g=63∨g=65535)∧∀ st',qP st st'→P (qV (qJ z g)) st'
def qB0:RDL:=fun ds st P=>∃ z:Str,ds=[.str z]∧T 600 z∧∀ st',qP st st'→P (qV (qT z)) st'
def qAI:RDL:=fun ds st P=>∃ (z:Str) (i:Nat),ds=[.str z,.int (i:Int)]∧Okz z∧fb (nums z)=some i∧∀ st',qP st st'→P (.bl true) st'
def qAz:RDL:=fun ds st P=>∃ (n:Nat) (zs:List Str),ds=[.lst n]∧st[n]? = some (.rw (zs.map .str))∧(∀ z∈zs,T 600 z)∧0<zs.length∧zs.length≤130∧∀ st',qP st st'→P (.bl true) st'
def qEB:RDL:=fun ds st P=>ds=[]∧∀ st',qP st st'→P (.bl true) st'
end K03
namespace K03
open PySem PySem.Spec PyProof.Rows L2 L3
open K02 (cs one fig)
abbrev Ev (te:TD) (ρ:Rho) (st:Sto) (d:Dt):Prop:=∀ P:VD,P d st→te ρ st P
abbrev EvB (c:TBD) (ρ:Rho) (st:Sto) (b:Bool):Prop:=∀ P:Bool→Sto→Prop,P b st→c ρ st P
abbrev EvX (te:TD) (ρ:Rho) (st:Sto) (d:Dt):Prop:=∀ P:VD,(∀ st',qP st st'→P d st')→te ρ st P
abbrev EvT (te:TD) (ρ:Rho) (st:Sto) (B:Nat):Prop:=∀ P:VD,(∀ z st',T B z→qP st st'→P (.str z) st')→te ρ st P
abbrev EaT (t:TAD) (ρ:Rho) (st:Sto) (B n:Nat):Prop:=∀ P:List Dt→Sto→Prop,(∀ zs:List Str,∀ st',zs.length=n→(∀ z∈zs,T B z)→qP st st'→P (zs.map .str) st')→t ρ st P
section
variable {ρ:Rho} {st:Sto} {ta tb te:TD} {t:TAD} {c c1 c2:TBD} {b b1 b2:Bool} {d:Dt} {i n B C:Nat} {x y:Int} {E:qAZ} {N A:TSD} {z:Str}
theorem qF (h:ρ[i]? = some (some d)):Ev (qE i) ρ st d:=fun P hp=>by unfold qE;rw [h];exact hp
theorem qH:Ev (qC d) ρ st d:=fun P hp=>hp
theorem qAP (h:Ev ta ρ st (.int x)) (h2:Ev tb ρ st (.int y)):Ev (qD L3.qa ta tb) ρ st (.int (x+y)):=fun P hp=>h _ (h2 _ hp)
theorem qMg (h:Ev ta ρ st (.int x)) (h2:Ev tb ρ st (.int y)):Ev (qD L3.qL8 ta tb) ρ st (.int (x - y)):=fun P hp=>h _ (h2 _ hp)
theorem qDd (h:Ev ta ρ st (.int x)) (h2:Ev tb ρ st (.int y)) (hc:qFM x y):Ev (qD qBb ta tb) ρ st (.int (x * y)):=fun P hp=>h _ (h2 _ ⟨hc,hp⟩)
theorem qW (h:Ev ta ρ st (.int x)) (h2:Ev tb ρ st (.int y)) (h0:0<y) (h1:y<1073741824):Ev (qD qm ta tb) ρ st (.int (x / y)):=fun P hp=>h _ (h2 _ ⟨⟨h0,h1⟩,hp⟩)
theorem qY (h:Ev ta ρ st (.int x)) (h2:Ev tb ρ st (.int y)) (h0:0<y):Ev (qD qk ta tb) ρ st (.int (x%y)):=fun P hp=>h _ (h2 _ ⟨h0,hp⟩)
theorem qBS (h:Ev ta ρ st (.int x)) (h2:Ev tb ρ st (.int y)):Ev (qD (qc false) ta tb) ρ st (.bl (decide (x=y))):=fun P hp=>h _ (h2 _ ⟨rfl,rfl,by
  show P (.bl ((x==y) != false)) st
  have:((x==y) != false)=decide (x=y):=by by_cases e:x=y<;>simp [e]
  rw [this];exact hp⟩)
theorem qKJ (h:Ev ta ρ st (.int x)) (h2:Ev tb ρ st (.int y)):Ev (qD (qAe fun i j=>decide (i<j)) ta tb) ρ st (.bl (decide (x<y))):=fun P hp=>h _ (h2 _ hp)
theorem qKU (h:Ev ta ρ st (.int x)) (h2:Ev tb ρ st (.int y)):Ev (qD (qAe fun i j=>decide (j<i)) ta tb) ρ st (.bl (decide (y<x))):=fun P hp=>h _ (h2 _ hp)
theorem qKd {a:Str} (h:Ev te ρ st (.str a)):Ev (qD (qc false) te (qC (.str z))) ρ st (.bl (a==z)):=fun P hp=>h _ ⟨rfl,rfl,by show P (.bl ((a==z) != false)) st;simpa using hp⟩
theorem qNX {a:Str} (h:Ev te ρ st (.str a)):Ev (qD (qc true) te (qC (.str z))) ρ st (.bl (!(a==z))):=fun P hp=>h _ ⟨rfl,rfl,by show P (.bl ((a==z) != true)) st;simpa using hp⟩
theorem evb (h:Ev te ρ st (.bl b)):EvB (qN te) ρ st b:=fun P hp=>h _ hp
theorem qCS (h:EvB c ρ st b):EvB (qAw c) ρ st (!b):=fun P hp=>h _ hp
theorem qC4 (h1:EvB c1 ρ st b1) (h2:b1=false→EvB c2 ρ st b2):EvB (qBG c1 c2) ρ st (b1 || b2):=fun P hp=>h1 _ (by
  cases b1
  · exact qB8 (h2 rfl _ (by simpa using hp))
  · exact qBw (by simpa using hp))
theorem qHn (h1:EvB c1 ρ st b1) (h2:b1=true→EvB c2 ρ st b2):EvB (qBa c1 c2) ρ st (b1&&b2):=fun P hp=>h1 _ (by
  cases b1
  · exact qB8 (by simpa using hp)
  · exact qBw (h2 rfl _ (by simpa using hp)))
theorem seq1 (h:A { E with nx:=N E } ρ st):tseq A N E ρ st:=h
theorem qz (h:te ρ st fun d s1=>N E (ρ.set i (some d)) s1):tseq (qZ te (qR i)) N E ρ st:=h
theorem ifS {D:TSD} (h1:EvB c ρ st b) (qt:b=true→A E ρ st) (qf:b=false→D E ρ st):qi c A D E ρ st:=by
  unfold qi
  refine h1 _ ?_
  cases b
  · exact qB8 (qf rfl)
  · exact qBw (qt rfl)
theorem qh (h1:EvB c ρ st b) (qt:b=true→A { E with nx:=N E } ρ st) (qf:b=false→N E ρ st):tseq (qi c A qM) N E ρ st:=seq1 (ifS h1 qt qf)
theorem rdR (h:Ev te ρ st d) (hp:E.rt d st):tseq (qo te) N E ρ st:=h _ hp
theorem qML (h:T B z):EvT (qC (.str z)) ρ st B:=fun P hp=>hp z st h (.refl _)
theorem qJY (h:ρ[i]? = some (some (.str z))) (hT:T B z):EvT (qE i) ρ st B:=fun P hp=>qF h _ (hp z st hT (.refl _))
theorem qBV (h:EvT te ρ st B) (l:B≤C):EvT te ρ st C:=fun P hp=>h P fun z st' t x=>hp z st' (t.mono l) x
theorem qCi (h:EvT ta ρ st B) (h2:∀ st',qP st st'→EvT tb ρ st' C) (l:B+C≤100000):EvT (qD L3.qa ta tb) ρ st (B+C):=fun P hp=>h _ fun z s1 t1 x1=>h2 s1 x1 _ fun y s2 t2 x2=>⟨by have:=t1.l;have:=t2.l;rw [sizeLine_eq];lia,hp _ s2 (t1.app t2) (x1.trans x2)⟩
theorem qHC {x:Int} {k:Nat} (x0:0≤x) (h:x<(10:Int) ^ k) (hk:k≤100):x.natAbs.log2<1920:=by
  obtain⟨m,rfl⟩:=Int.eq_ofNat_of_zero_le x0
  rw [Int.natAbs_natCast]
  have h1:m<10 ^ k:=by exact_mod_cast h
  have h2:m<2 ^ 1920:=Nat.lt_of_lt_of_le h1 (Nat.le_trans (Nat.pow_le_pow_right (by decide) hk) (by decide +kernel))
  by_cases q:m=0
  · subst q;decide
  · exact (Nat.log2_lt q).mpr h2
theorem qEj {k:Nat} (h:Ev te ρ st (.int x)) (x0:0≤x) (h1:x<(10:Int) ^ k) (k0:0<k) (hk:k≤100):EvT (qI qCF (qA te qG)) ρ st k:=fun P hp=>h _ ⟨qHC x0 h1 hk,hp _ st (qMI k0 x0 h1) (.refl _)⟩
theorem qAE:EaT qG ρ st B 0:=fun P hp=>hp [] st rfl (fun z hz=>nomatch hz) (.refl _)
theorem qK (h:EvT te ρ st B) (h2:∀ st',qP st st'→EaT t ρ st' B n):EaT (qA te t) ρ st B (n+1):=fun P hp=>h _ fun z s1 t1 x1=>h2 s1 x1 _ fun zs s2 l ts x2=>hp (z::zs) s2 (by rw [List.length_cons,l]) (fun y hy=>by
  rcases List.mem_cons.mp hy with rfl | hy
  · exact t1
  · exact ts y hy) (x1.trans x2)
theorem qEe {P:VD} (h:EaT t ρ st B n) (l:n≤1000) (q:∀ (zs:List Str) st',zs.length=n→(∀ z∈zs,T B z)→qP st st'→P (.lst st'.length) (st'++[.rw (zs.map .str)])):qj t ρ st P:=h _ fun zs s1 e ts x=>⟨by rw [List.length_map,e,sizeLine_eq];lia,q zs s1 e ts x⟩
theorem atN {α:Type} {l:List α} {k:Nat} {d:α} (h:l[k]? = some d):L2.atI l (k:Int)=some d:=by
  have hk:=(List.getElem?_eq_some_iff.mp h).1
  unfold L2.atI L2.ixN
  rw [if_pos (Int.natCast_nonneg k),if_pos (by exact_mod_cast hk)]
  exact h
theorem qPH {l:List Nat} {c:Nat} (h:l[0]? = some c):L2.atI l 0=some c:=atN (k:=0) h
theorem qPB {l:List Dt} {v:Int} {k:Nat} (e:v=(k:Nat)) (hk:l[k]? = some d):L2.atI l v=some d:=by
  subst e
  exact atN hk
theorem qKb {zs:List Str} {v:Int} (h0:0≤v) (h1:v<zs.length):∃ z∈zs,L2.atI (zs.map Dt.str) v=some (.str z):=by
  obtain⟨k,rfl⟩:=Int.eq_ofNat_of_zero_le h0
  have hk:k<zs.length:=by exact_mod_cast h1
  exact⟨zs[k],List.getElem_mem hk,qPB rfl (by rw [List.getElem?_map,List.getElem?_eq_getElem hk];rfl)⟩
theorem qPY {v:Int} (h:EaT t ρ st B n) (l:n≤1000) (h2:∀ st',qP st st'→Ev tb ρ st' (.int v)) (v0:0≤v) (v1:v<n):EvT (qD qX (qj t) tb) ρ st B:=fun P hp=>qEe h l fun zs s1 e ts x=>h2 _ (x.trans (.app _ _)) _ (by
  obtain⟨z,hz,ez⟩:=qKb (zs:=zs) v0 (by rw [e];exact v1)
  show (match qAB (s1++[SO.rw (zs.map .str)]) (.lst s1.length) with
    | some xs=>(match L2.atI xs v with
      | some d=>P d _
      | none=>False)
    | none=>False)
  show (match ((s1++[SO.rw (zs.map .str)])[s1.length]?).map SO.items with
    | some xs=>(match L2.atI xs v with
      | some d=>P d _
      | none=>False)
    | none=>False)
  rw [qU]
  show (match L2.atI (zs.map Dt.str) v with
      | some d=>P d _
      | none=>False)
  rw [ez]
  exact hp z _ (ts z hz) (x.trans (.app _ _)))
theorem qLA {v:Int} {zs:List Str} {k:Nat} (h:Ev ta ρ st (.lst k)) (hk:st[k]? = some (.rw (zs.map .str))) (h2:Ev tb ρ st (.int v)) (ts:∀ z∈zs,T B z) (v0:0≤v) (v1:v<zs.length):EvT (qD qX ta tb) ρ st B:=fun P hp=>h _ (h2 _ (by
  obtain⟨z,hz,ez⟩:=qKb v0 v1
  show (match (st[k]?).map SO.items with
    | some xs=>(match L2.atI xs v with
      | some d=>P d _
      | none=>False)
    | none=>False)
  rw [hk]
  show (match L2.atI (zs.map Dt.str) v with
      | some d=>P d _
      | none=>False)
  rw [ez]
  exact hp z _ (ts z hz) (.refl _)))
theorem qBy {tl th:TOD} {lo hi:Option Int} (h:Ev ta ρ st (.str z)) (hT:T B z) (hl:B≤100000) (h1:∀ P:Option Int→Sto→Prop,P lo st→tl ρ st P) (h2:∀ P:Option Int→Sto→Prop,P hi st→th ρ st P):EvT (qAy ta tl th) ρ st B:=fun P hp=>h _ (h1 _ (h2 _ ⟨z,rfl,by have:=hT.l;rw [sizeLine_eq];lia,hp _ st (qNm hT) (.refl _)⟩))
theorem qAh:∀ P:Option Int→Sto→Prop,P none st→qw ρ st P:=fun P hp=>hp
theorem qAg (h:Ev te ρ st (.int x)):∀ P:Option Int→Sto→Prop,P (some x) st→qy te ρ st P:=fun P hp=>h _ hp
theorem qOE {z:Str} {v:Int} (v0:0≤v) (v1:v<z.length):∃ c∈cs z,L2.atI z.cps.toList v=some c:=by
  obtain⟨k,rfl⟩:=Int.eq_ofNat_of_zero_le v0
  have hk:k<z.cps.toList.length:=by rw [Array.length_toList];exact_mod_cast v1
  exact⟨z.cps.toList[k],List.getElem_mem hk,atN (List.getElem?_eq_getElem hk)⟩
theorem qIs {v:Int} (h:Ev ta ρ st (.str z)) (h2:Ev tb ρ st (.int v)) (hT:T B z) (hl:B≤100000) (v0:0≤v) (v1:v<z.length):EvT (qD qX ta tb) ρ st 1:=fun P hp=>h _ (h2 _ ⟨by have:=hT.l;rw [sizeLine_eq];lia,by
  obtain⟨c,hc,e⟩:=qOE v0 v1
  rw [e]
  have:=hT.p c hc
  exact hp _ st (qQD this.1 this.2) (.refl _)⟩)
theorem qHD {zs:List Str} {k m:Nat} (h:Ev te ρ st (.lst k)) (hk:st[k]? = some (.rw (zs.map .str))) (ts:∀ z∈zs,T B z) (hm:zs.length≤m) (l:m * (B+1)≤100000):Ev (qCZ (qC (.str " ")) te) ρ st (.str ((one 32).join zs)):=fun P hp=>h _ (by
  show (match st[k]? with
    | some so=>∃ zs:List Str,so.items=zs.map .str∧JoinOk (Str.ofString " ") zs=true∧P (.str (Txt.join (Str.ofString " ") zs)) st
    | none=>False)
  rw [hk]
  have hl:zs.length * (B+1)≤100000:=Nat.le_trans (Nat.mul_le_mul_right _ hm) l
  refine⟨zs,rfl,?_,?_⟩
  · unfold JoinOk
    rw [StrLaws.joinFits (B:=B) (fun p hp=>(ts p hp).l)]
    · rfl
    · have:(Str.ofString " ").length=1:=by decide +kernel
      rw [this]
      rw [Nat.mul_succ] at hl
      lia
  · unfold Txt.join
    rw [StrLaws.glued_eq_join,K02.qDM]
    exact hp)
end
end K03
namespace L3
open PySem PySem.Spec PyProof.Rows L2
section
variable {P:Program} {w:World} {K:W.Frag} {mg:Str→Option Value} {base h:Heap} {n q nm:Str} {st:Stmt} {k:Nat} {sp spB:RDL} {ps:List Str} {C G:Addr}
theorem qAH.okB (X:K.In h) (G:h.Ns mainGlobals mg) (a:qAH K n st) (ok:∀ {f fd},Fun K n n st f fd→qAG P w K mg base (CXD K P w) k f fd ps (qB3 K sp)) (hb:Bnd n n st ps):qD0 P w K mg base n k sp:=by
  obtain⟨f,fd,h1,F⟩:=a.ex
  exact⟨f,fd,ps,ok F,W.mg_of X G h1,F.kp,F.binds hb⟩
theorem qD0.plain (a:qD0 P w K mg base n k spB) (h:∀ ds st Pd,sp ds st Pd→spB ds st fun d st'=>isB d=none∧Pd d st'):qx P w K mg base n k sp:=by
  obtain⟨f,fd,ps,F,hm,hk,hb⟩:=a.ex
  have lift:∀ vs H Q E,qd K sp vs H Q E→qB3 K spB vs H Q E0:=fun vs H Q E ⟨φ,st,ds,Pd,R,dl,hs,hq⟩=>⟨φ,st,ds,_,R,dl,h _ _ _ hs,fun d st' hd φ' H' b=>⟨fun _ v dv=>hq d st' hd.2 φ' H' v b dv,fun i hi=>by rw [hd.1] at hi;cases hi⟩⟩
  refine⟨f,fd,ps,⟨fun vs H Q E hl=>F.len vs H Q E0 (lift vs H Q E hl),fun A outer s H args us vs Q E hr he hb hv hl=>?_⟩,hm,hk,hb⟩
  refine codeAny_mono (F.run A outer s H args us vs Q E0 hr he hb hv (lift vs H Q E hl)) fun r s' hq=>?_
  cases r with
  | ok v=>cases v<;>exact hq
  | error e =>
    obtain⟨_,_,_,_,_,_,_,z⟩:=hq
    exact z.elim
end
theorem b0 {n q:Str} {st:Stmt} {ps:List Str} (hp:ps.length=0) (h:∀ kV doc pm an cdv ct,bindArgs (W.fnOf n q (qAK st) (qq st) (qO st) .none kV doc pm an cdv ct) ⟨[],[]⟩=pure (ps.zip [])):Bnd n q st ps:=fun _ _ _ _ _ _ us hl=>by
  rw [hp] at hl
  obtain rfl:=List.length_eq_zero_iff.mp hl
  exact h _ _ _ _ _ _
end L3
namespace K01
open PySem PySem.Spec PyProof.Rows L2 L3
abbrev qC9:TSD:=(tseq (qo (qD L3.qa (qD L3.qa (qD L3.qa (qD qBb (qFO q8 (qD qX (qE 0) (qC (Dt.int 0)))) (qC (Dt.int 4096))) (qD qBb (qD qX (qE 0) (qC (Dt.int 1))) (qC (Dt.int 512)))) (qD qBb (qD qX (qE 0) (qC (Dt.int 2))) (qC (Dt.int 64)))) (qD qX (qE 0) (qC (Dt.int 3))))) qM)
abbrev qCT:TSD:=(tseq (qZ (qj (qA (qC (Dt.str "halt")) (qA (qC (Dt.str "put")) (qA (qC (Dt.str "add")) (qA (qC (Dt.str "sub")) (qA (qC (Dt.str "mul")) (qA (qC (Dt.str "bad")) (qA (qC (Dt.str "div")) (qA (qC (Dt.str "get")) qG))))))))) (qR 0)) (tseq (qo (qD L3.qa (qE 0) (qj (qA (qC (Dt.str "set")) (qA (qC (Dt.str "jump")) (qA (qC (Dt.str "when")) (qA (qC (Dt.str "go")) (qA (qC (Dt.str "tell")) (qA (qC (Dt.str "hear")) (qA (qC (Dt.str "right")) (qA (qC (Dt.str "back")) qG))))))))))) qM))
theorem qL6 {k:Nat} (h:k<16):q8.findIdx? (fun z=>eqD 0 z (.str (wordOf k)))=some k:=by
  have key:∀ k:Nat,k<16→qA8.findIdx? (fun z=>z==wordOf (k:Int))=some k:=by decide +kernel
  have e:q8.findIdx? (fun z=>eqD 0 z (.str (wordOf k)))=qA8.findIdx? (fun z=>z==wordOf (k:Int)):=by
    unfold q8
    rw [List.findIdx?_map]
    rfl
  rw [e,key k h]
theorem qJi:q8.all (okD 0)=true:=by decide +kernel
theorem qDt {ds:List Dt} {st:Sto} {Pd:VD} (h:qBZ ds st Pd):qC9 (Ed Pd) (qe ["row"] ds) st:=by
  obtain⟨k,a,b,c,hk,rfl,h⟩:=h
  k_dat 0"r77"
  simp only [show atI [Dt.str (wordOf k),.int a,.int b,.int c] 0=some (.str (wordOf k)) from rfl,show atI [Dt.str (wordOf k),.int a,.int b,.int c] 1=some (.int a) from rfl,show atI [Dt.str (wordOf k),.int a,.int b,.int c] 2=some (.int b) from rfl,
    show atI [Dt.str (wordOf k),.int a,.int b,.int c] 3=some (.int c) from rfl]
  rw [qL6 hk]
  exact⟨rfl,qJi,qFo (by decide) (by decide),qFo (by decide) (by decide),qFo (by decide) (by decide),h⟩
theorem qGu {ds:List Dt} {st:Sto} {Pd:VD} (h:qv ds st Pd):qCT (Ed Pd) (qe ["some"] ds) st:=by
  obtain⟨rfl,h⟩:=h
  refine⟨by show 8≤sizeLine;decide,by show 8≤sizeLine;decide,?_⟩
  k_dat 0"r77"
  rw [qAd (qU (st:=st)),qU]
  refine⟨by show 16≤sizeLine;decide,h _ _ (((qP.app st _).trans (qP.app _ _)).trans (qP.app _ _)) qU⟩
end K01
namespace K03
open PySem PySem.Spec PyProof.Rows L2 L3
open K02 (cs one fig)
abbrev qCL:TSD:=(tseq (qi (qN (qD (qc false) (qD qk (qE 0) (qC (Dt.int 3))) (qC (Dt.int 1)))) (tseq (qo (qD L3.qa (qC (Dt.str "cell ")) (qI qCF (qA (qD qX (qj (qA (qD qk (qD qm (qE 0) (qC (Dt.int 3))) (qC (Dt.int 65536))) (qA (qD qk (qD qm (qE 0) (qC (Dt.int 3))) (qC (Dt.int 10))) (qA (qC (Dt.int 65535)) qG)))) (qD qk (qD qm (qE 0) (qC (Dt.int 196608))) (qC (Dt.int 3)))) qG)))) qM) qM) (tseq (qZ (qD qm (qE 0) (qC (Dt.int 3))) (qR 1)) (tseq (qo (qCZ (qC (Dt.str " ")) (qj (qA (qD qX (qI K01.qv qG) (qD qk (qE 1) (qC (Dt.int 16)))) (qA (qI qCF (qA (qD qk (qD qm (qE 1) (qC (Dt.int 16))) (qC (Dt.int 8))) qG)) (qA (qI qCF (qA (qD qk (qD qm (qE 1) (qC (Dt.int 128))) (qC (Dt.int 8))) qG)) (qA (qI qCF (qA (qD qk (qD qm (qE 1) (qC (Dt.int 1024))) (qC (Dt.int 64))) qG)) qG))))))) qM)))
abbrev ow7:TSD:=(tseq (qi (qN (qD (qBj false) (qE 5) (qD L3.qa (qI K01.qv qG) (qj (qA (qC (Dt.str "cell")) qG))))) (tseq (qZ (qD L3.qa (qE 5) (qC (Dt.str "x"))) (qR 5)) qM) qM) (tseq (qo (qE 5)) qM))
abbrev ow6:TSD:=(tseq (qi (qN (qD (qc false) (qD qk (qE 1) (qC (Dt.int 5))) (qC (Dt.int 3)))) (tseq (qZ (qD L3.qa (qD L3.qa (qAy (qE 0) qw (qy (qE 4))) (qD qX (qE 2) (qD qk (qD qm (qE 1) (qC (Dt.int 40))) (qC (Dt.int 30))))) (qAy (qE 0) (qy (qE 4)) qw)) (qR 5)) qM) qM) ow7)
abbrev ow5:TSD:=(tseq (qi (qN (qD (qc false) (qD qk (qE 1) (qC (Dt.int 5))) (qC (Dt.int 2)))) (tseq (qZ (qD L3.qa (qD L3.qa (qAy (qE 0) qw (qy (qE 4))) (qD qX (qE 2) (qD qk (qD qm (qE 1) (qC (Dt.int 40))) (qC (Dt.int 30))))) (qAy (qE 0) (qy (qD L3.qa (qE 4) (qC (Dt.int 1)))) qw)) (qR 5)) qM) qM) ow6)
abbrev ow4:TSD:=(tseq (qi (qN (qD (qc false) (qD qk (qE 1) (qC (Dt.int 5))) (qC (Dt.int 1)))) (tseq (qZ (qD L3.qa (qAy (qE 0) qw (qy (qE 4))) (qAy (qE 0) (qy (qD L3.qa (qE 4) (qC (Dt.int 1)))) qw)) (qR 5)) qM) qM) ow5)
abbrev qAR:TSD:=(tseq (qZ (qC (Dt.str "abcdefghijklmnopqrstuvwxyzA1-_")) (qR 2)) (tseq (qZ (qj (qA (qC (Dt.str "nop")) (qA (qC (Dt.str "cel")) (qA (qC (Dt.str "cells")) (qA (qC (Dt.str "jmp")) (qA (qC (Dt.str "stop")) (qA (qC (Dt.str "load")) (qA (qC (Dt.str "7")) (qA (qC (Dt.str "mull")) (qA (qGj (qE 0)) (qA (qD L3.qa (qE 0) (qC (Dt.str "s"))) (qA (qC (Dt.str "Cell")) (qA (qC (Dt.str "row")) qG))))))))))))) (qR 3)) (tseq (qZ (qD qk (qD qm (qE 1) (qC (Dt.int 5))) (qI qAO (qA (qE 0) qG))) (qR 4)) (tseq (qZ (qD qX (qE 3) (qD qk (qD qm (qE 1) (qC (Dt.int 5))) (qC (Dt.int 12)))) (qR 5)) ow4))))
abbrev qAY:TSD:=(tseq (qZ (qj (qA (qD L3.qa (qC (Dt.str "0")) (qI qCF (qA (qD qk (qD qm (qE 0) (qC (Dt.int 20))) (qC (Dt.int 8))) qG))) (qA (qC (Dt.str "00")) (qA (qC (Dt.str "-1")) (qA (qC (Dt.str "+1")) (qA (qC (Dt.str "-0")) (qA (qC (Dt.str "1.0")) (qA (qC (Dt.str "x")) (qA (qC (Dt.str "1_0")) (qA (qC (Dt.str "")) (qA (qC (Dt.str "0x1")) (qA (qC (Dt.str "a")) (qA (qI qCF (qA (qD L3.qa (qE 1) (qC (Dt.int 1))) qG)) qG))))))))))))) (qR 2)) (tseq (qZ (qD L3.qa (qE 2) (qj (qA (qI qCF (qA (qD L3.qa (qD L3.qa (qE 1) (qC (Dt.int 1))) (qD qk (qD qm (qE 0) (qC (Dt.int 20))) (qD qOu (qC (Dt.int 10)) (qC (Dt.int 30))))) qG)) (qA (qI qCF (qA (qD L3.qa (qD qBb (qE 1) (qC (Dt.int 10))) (qC (Dt.int 9))) qG)) (qA (qD qGI (qC (Dt.str "0")) (qC (Dt.int 6))) (qA (qD qGI (qC (Dt.str "9")) (qC (Dt.int 70))) (qA (qC (Dt.str "1e1")) (qA (qC (Dt.str "7,")) qG)))))))) (qR 2)) (tseq (qo (qD qX (qE 2) (qD qk (qE 0) (qC (Dt.int 18))))) qM)))
abbrev Ea (t:TAD) (ρ:Rho) (st:Sto) (ds:List Dt):Prop:=∀ P:List Dt→Sto→Prop,P ds st→t ρ st P
section
variable {ρ:Rho} {st:Sto} {ta tb te:TD} {t:TAD} {d:Dt} {ds:List Dt} {v:Int}
theorem qFt:Ea qG ρ st []:=fun P hp=>hp
theorem qA9 (h:Ev te ρ st d) (h2:Ea t ρ st ds):Ea (qA te t) ρ st (d::ds):=fun P hp=>h _ (h2 _ hp)
theorem qMa (h:Ea t ρ st ds) (l:ds.length≤1000) (h2:∀ st',qP st st'→Ev tb ρ st' (.int v)) (e:L2.atI ds v=some d):EvX (qD qX (qj t) tb) ρ st d:=fun P hp=>h _ ⟨by rw [sizeLine_eq];lia,h2 _ (.app _ _) _ (by
  show (match ((st++[SO.rw ds])[st.length]?).map SO.items with
    | some xs=>(match L2.atI xs v with
      | some d=>P d _
      | none=>False)
    | none=>False)
  rw [qU]
  show (match L2.atI ds v with
      | some d=>P d _
      | none=>False)
  rw [e]
  exact hp _ (.app _ _))⟩
theorem qHr {x:Int} {k:Nat} (h:EvX te ρ st (.int x)) (x0:0≤x) (h1:x<(10:Int) ^ k) (hk:k≤100):EvX (qI qCF (qA te qG)) ρ st (.str (fig x)):=fun P hp=>h _ fun st' x'=>⟨qHC x0 h1 hk,hp st' x'⟩
theorem qHH (h:Ev te ρ st d):EvX te ρ st d:=fun P hp=>h P (hp st (.refl _))
theorem rdX {E:qAZ} {N:TSD} (h:EvX te ρ st d) (hp:∀ st',qP st st'→E.rt d st'):tseq (qo te) N E ρ st:=h _ hp
theorem qOT {a z:Str} (h:Ev ta ρ st (.str a)) (h2:EvX tb ρ st (.str z)) (l:a.length+z.length≤100000):EvX (qD L3.qa ta tb) ρ st (.str (a++z)):=fun P hp=>h _ (h2 _ fun st' x=>⟨by rw [sizeLine_eq];lia,hp st' x⟩)
theorem qJO {k:Nat} (h16:k<16) (h2:∀ st',qP st st'→Ev tb ρ st' (.int (k:Nat))):EvX (qD qX (qI K01.qv qG) tb) ρ st (.str (K01.wordOf (k:Nat))):=fun P hp=>by
  simp only [qD,qI,qG]
  refine⟨rfl,fun s1 n x hn=>h2 s1 x _ ?_⟩
  show (match (s1[n]?).map SO.items with
    | some xs=>(match L2.atI xs (k:Int) with
      | some d=>P d _
      | none=>False)
    | none=>False)
  rw [hn]
  have e:L2.atI K01.q8 (k:Int)=some (.str (K01.wordOf (k:Nat))):=by
    refine atN ?_
    unfold K01.q8 K01.wordOf
    rw [List.getElem?_map,Int.toNat_natCast,List.getD_eq_getElem?_getD,List.getElem?_eq_getElem (show k<K01.qA8.length from h16)]
    rfl
  show (match L2.atI K01.q8 (k:Int) with
      | some d=>P d _
      | none=>False)
  rw [e]
  exact hp s1 x
end
theorem qJ4 (c:Int) (h:c%3=1):qAL c=("cell " : Str)++fig (qDD c):=by
  unfold qAL parts
  rw [if_pos h,K02.qD9,K02.join_one]
  rw [show (("cell" : Str)++one 32)=("cell " : Str) by decide +kernel]
theorem qHB {v:Int} {n:Nat} (h:0<n):∃ k:Nat,v%(n:Int)=(k:Nat)∧k<n:=⟨(v%(n:Int)).toNat,by have:=Int.emod_nonneg v (b:=(n:Int)) (by lia);lia,by have:=Int.emod_lt_of_pos v (b:=(n:Int)) (by lia);have:=Int.emod_nonneg v (b:=(n:Int)) (by lia);lia⟩
theorem qF8 {ds:List Dt} {st:Sto} {Pd:VD} (h:qCC ds st Pd):qCL (Ed Pd) (qe ["cell", "rest"] ds) st:=by
  obtain⟨c,rfl,hP⟩:=h
  show qCL (Ed Pd) [some (.int c),none] st
  refine qh (b:=decide (c%3=1)) (evb (qBS (qY (qF rfl) qH (by decide)) qH)) (fun h=>?_) fun h=>?_
  · have h:=of_decide_eq_true h
    rw [qJ4 c h] at hP
    have hc:=qD5 c
    refine rdX (qOT qH (qHr (x:=qDD c) (k:=5) (qMa (qA9 (qY (qW (qF rfl) qH (by decide) (by decide)) qH (by decide)) (qA9 (qY (qW (qF rfl) qH (by decide) (by decide)) qH (by decide)) (qA9 qH qFt))) (by simp) (fun _ _=>qY (qW (qF rfl) qH (by decide) (by decide)) qH (by decide)) ?_) hc.1 (by lia) (by decide)) ?_) hP
    · obtain⟨k,hk,h3⟩:=qHB (v:=c / 196608) (n:=3) (by decide)
      have hk':c / 196608%3=(k:Int):=hk
      unfold qDD
      rw [hk']
      rcases k with _ | _ | _ | k
      · rfl
      · rfl
      · rfl
      · lia
    · have:=(qJF hc.1 (by lia)).1.l
      have e:(Str.ofString "cell ").length=5:=by decide +kernel
      rw [e];lia
  · have h:=of_decide_eq_false h
    refine qz ((qW (qF rfl) qH (by decide) (by decide)) _ ?_)
    show tseq _ _ (Ed Pd) [some (.int c),some (.int (c / 3))] st
    obtain⟨k,hk,h16⟩:=qHB (v:=c / 3) (n:=16) (by decide)
    have hk':c / 3%16=(k:Int):=hk
    have rw1:qAL c=(one 32).join [K01.wordOf (k:Nat),fig (c / 3 / 16%8),fig (c / 3 / 128%8),fig (c / 3 / 1024%64)]:=by unfold qAL parts;rw [if_neg h,hk']
    rw [rw1] at hP
    simp only [tseq,qo,qCZ,qC,qj]
    refine qJO h16 (fun _ _=>by rw [← hk'];exact qY (qF rfl) qH (by decide)) _ fun s1 x1=>?_
    refine qHr (k:=1) (qHH (qY (qW (qF rfl) qH (by decide) (by decide)) qH (by decide))) (by lia) (by lia) (by decide) _ fun s2 x2=>?_
    refine qHr (k:=1) (qHH (qY (qW (qF rfl) qH (by decide) (by decide)) qH (by decide))) (by lia) (by lia) (by decide) _ fun s3 x3=>?_
    refine qHr (k:=2) (qHH (qY (qW (qF rfl) qH (by decide) (by decide)) qH (by decide))) (by lia) (by lia) (by decide) _ fun s4 x4=>?_
    refine⟨by show 4≤sizeLine;decide,?_⟩
    have pk:=(qBK c).1
    unfold parts at pk
    rw [if_neg h,hk'] at pk
    refine qHD (te:=qC (.lst s4.length)) (ρ:=[]) (B:=5) (m:=4) (zs:=[K01.wordOf (k:Nat),fig (c / 3 / 16%8),fig (c / 3 / 128%8),fig (c / 3 / 1024%64)]) qH qU (fun z hz=>(pk z hz).1) (by simp) (by decide) _ ?_
    exact hP _ (x1.trans (x2.trans (x3.trans (x4.trans (.app _ _)))))
theorem qNU (k:Nat) (h:k<16):0<(K01.wordOf (k:Nat)).length∧(K01.wordOf (k:Nat)).length≤5:=by
  k_dat 0"r47"
theorem qHK {ρ:Rho} {st:Sto} {te:TD} {z:Str} (h:Ev te ρ st (.str z)) (l:z.length≤100000):Ev (qI qAO (qA te qG)) ρ st (.int (z.length:Nat)):=fun P hp=>h _ ⟨by rw [sizeLine_eq];lia,hp⟩
theorem qGZ {E:qAZ} {N:TSD} {ρ:Rho} {st:Sto} {te:TD} {i B:Nat} (h:EvT te ρ st B) (q:∀ z st',T B z→qP st st'→N E (ρ.set i (some (.str z))) st'):tseq (qZ te (qR i)) N E ρ st:=h _ q
theorem qOP {E:qAZ} {N A:TSD} {ρ:Rho} {st:Sto} {c:TBD} (h:∀ P:Bool→Sto→Prop,(∀ b st',qP st st'→P b st')→c ρ st P) (qt:∀ st',qP st st'→A { E with nx:=N E } ρ st') (qf:∀ st',qP st st'→N E ρ st'):tseq (qi c A qM) N E ρ st:=by
  refine seq1 ?_
  unfold qi
  refine h _ fun b st' x=>?_
  cases b
  · exact qB8 (qf st' x)
  · exact qBw (qt st' x)
section
variable {st:Sto} {Pd:VD} {k:Nat} {c at_:Int} {o:Option Dt}
noncomputable abbrev OW (k:Nat) (c:Int) (o:Option Dt) (at_:Int) (z:Str):Rho:=[some (.str (K01.wordOf (k:Nat))),some (.int c),some (.str "abcdefghijklmnopqrstuvwxyzA1-_"),o,some (.int at_),some (.str z)]
theorem qJN (hP:∀ z st',T 40 z→qP st st'→Pd (.str z) st') {z:Str} {s:Sto} (hz:T 20 z) (x:qP st s):ow7 (Ed Pd) (OW k c o at_ z) s:=by
  refine qOP (fun P hp=>?_) (fun s1 x1=>?_) fun s1 x1=>rdR (qF rfl) (hP z s1 (hz.mono (by decide)) (x.trans x1))
  · simp only [qN,qD,qE,qI,qG,qj,qA,qC]
    refine⟨rfl,fun s1 n x1 hn=>⟨by decide,?_⟩⟩
    show (match (s1++[SO.rw [Dt.str "cell"]])[n]?,(s1++[SO.rw [Dt.str "cell"]])[s1.length]? with
      | some (.rw xs),some (.rw ys)=>xs.length+ys.length≤sizeLine∧_
      | _,_=>False)
    rw [qAd hn,qU]
    refine⟨by decide,?_⟩
    generalize hs2:s1++[SO.rw [Dt.str "cell"]]=s2
    have x2:qP s s2:=by rw [← hs2];exact x1.trans (.app _ _)
    show (match ((s2++[SO.rw (K01.q8++[Dt.str "cell"])])[s2.length]?).map SO.items with
      | some xs=>okD 0 (.str z)=true∧xs.all (okD 0)=true∧_
      | none=>False)
    rw [qU]
    exact⟨rfl,by decide,hp _ _ (x2.trans (.app _ _))⟩
  · refine qGZ (qCi (B:=20) (C:=1) (qJY rfl hz) (fun _ _=>qML (T.of (by decide +kernel) (by decide +kernel))) (by decide)) fun z2 s2 t2 x2=>?_
    show tseq (qo (qE 5)) qM (Ed Pd) (OW k c o at_ z2) s2
    exact rdR (qF rfl) (hP z2 s2 (t2.mono (by decide)) (x.trans (x1.trans x2)))
theorem qHw:(Str.ofString "abcdefghijklmnopqrstuvwxyzA1-_").length=30:=by decide +kernel
theorem qMY:T 30 ("abcdefghijklmnopqrstuvwxyzA1-_" : Str):=T.of (by decide +kernel) (by decide +kernel)
theorem qKV (h16:k<16) (hP:∀ z st',T 40 z→qP st st'→Pd (.str z) st') {z:Str} {s:Sto} (hz:T 20 z) (x:qP st s):ow6 (Ed Pd) (OW k c o at_ z) s:=by
  refine qh (b:=decide (c%5=3)) (evb (qBS (qY (qF rfl) qH (by decide)) qH)) (fun _=>?_) fun _=>qJN hP hz x
  refine qGZ (qCi (B:=6) (C:=5) (qCi (B:=5) (C:=1) (qBy (qF rfl) (qBB k h16) (by decide) qAh (qAg (qF rfl))) (fun _ _=>qIs (qF rfl) (qY (qW (qF rfl) qH (by decide) (by decide)) qH (by decide)) qMY (by decide) (by lia) (by rw [qHw];lia)) (by decide)) (fun _ _=>qBy (qF rfl) (qBB k h16) (by decide) (qAg (qF rfl)) qAh) (by decide)) fun z2 s2 t2 x2=>?_
  exact qJN hP (t2.mono (by decide)) (x.trans x2)
theorem qKG (h16:k<16) (hP:∀ z st',T 40 z→qP st st'→Pd (.str z) st') {z:Str} {s:Sto} (hz:T 20 z) (x:qP st s):ow5 (Ed Pd) (OW k c o at_ z) s:=by
  refine qh (b:=decide (c%5=2)) (evb (qBS (qY (qF rfl) qH (by decide)) qH)) (fun _=>?_) fun _=>qKV h16 hP hz x
  refine qGZ (qCi (B:=6) (C:=5) (qCi (B:=5) (C:=1) (qBy (qF rfl) (qBB k h16) (by decide) qAh (qAg (qF rfl))) (fun _ _=>qIs (qF rfl) (qY (qW (qF rfl) qH (by decide) (by decide)) qH (by decide)) qMY (by decide) (by lia) (by rw [qHw];lia)) (by decide)) (fun _ _=>qBy (qF rfl) (qBB k h16) (by decide) (qAg (qAP (qF rfl) qH)) qAh) (by decide)) fun z2 s2 t2 x2=>?_
  exact qKV h16 hP (t2.mono (by decide)) (x.trans x2)
theorem qNK (h16:k<16) (hP:∀ z st',T 40 z→qP st st'→Pd (.str z) st') {z:Str} {s:Sto} (hz:T 20 z) (x:qP st s):ow4 (Ed Pd) (OW k c o at_ z) s:=by
  refine qh (b:=decide (c%5=1)) (evb (qBS (qY (qF rfl) qH (by decide)) qH)) (fun _=>?_) fun _=>qKG h16 hP hz x
  refine qGZ (qCi (B:=5) (C:=5) (qBy (qF rfl) (qBB k h16) (by decide) qAh (qAg (qF rfl))) (fun _ _=>qBy (qF rfl) (qBB k h16) (by decide) (qAg (qAP (qF rfl) qH)) qAh) (by decide)) fun z2 s2 t2 x2=>?_
  exact qKG h16 hP (t2.mono (by decide)) (x.trans x2)
end
theorem qK0 {ρ:Rho} {st:Sto} {te:TD} {k:Nat} (h16:k<16) (h:Ev te ρ st (.str (K01.wordOf (k:Nat)))):EvT (qGj te) ρ st 8:=fun P hp=>h _ ⟨_,rfl,by have:=(qHm k h16).l;rw [sizeLine_eq];lia,hp _ st (qHm k h16) (.refl _)⟩
theorem lit {ρ:Rho} {st:Sto} {z:Str} {B:Nat} (h:(prB z&&decide (z.length≤B))=true):EvT (qC (.str z)) ρ st B:=by
  rw [Bool.and_eq_true] at h
  exact qML (T.of h.1 (of_decide_eq_true h.2))
theorem qCH {ds:List Dt} {st:Sto} {Pd:VD} (h:qDU ds st Pd):qAR (Ed Pd) (qe ["word", "cell", "letters", "others", "at", "found"] ds) st:=by
  obtain⟨⟨k,c,h16,rfl⟩,hP⟩:=h
  show qAR (Ed Pd) [some (.str (K01.wordOf (k:Nat))),some (.int c),none,none,none,none] st
  refine qz ?_
  show tseq _ _ (Ed Pd) [some (.str (K01.wordOf (k:Nat))),some (.int c),some (.str "abcdefghijklmnopqrstuvwxyzA1-_"),none,none,none] st
  refine qz (qEe (B:=20) (n:=12) (qK (lit (by decide +kernel)) fun _ _=>qK (lit (by decide +kernel)) fun _ _=>qK (lit (by decide +kernel)) fun _ _=>qK (lit (by decide +kernel)) fun _ _=>qK (lit (by decide +kernel)) fun _ _=>qK (lit (by decide +kernel)) fun _ _=>qK (lit (by decide +kernel)) fun _ _=>qK (lit (by decide +kernel)) fun _ _ =>
    qK (qBV (qK0 h16 (qF rfl)) (by decide)) fun _ _=>qK (qBV (qCi (B:=5) (C:=1) (qJY rfl (qBB k h16)) (fun _ _=>lit (by decide +kernel)) (by decide)) (by decide)) fun _ _=>qK (lit (by decide +kernel)) fun _ _=>qK (lit (by decide +kernel)) fun _ _=>qAE) (by decide) fun zs s1 e ts x1=>?_)
  have wl:=qNU k h16
  refine qz (qY (qW (qF rfl) qH (by decide) (by decide)) (qHK (qF rfl) (by lia)) (by lia) _ ?_)
  refine qz (qLA (B:=20) (zs:=zs) (k:=s1.length) (qF rfl) qU (qY (qW (qF rfl) qH (by decide) (by decide)) qH (by decide)) ts (by lia) (by rw [e];lia) _ fun z s2 tz x2=>?_)
  exact qNK h16 hP tz (x1.trans ((qP.app _ _).trans x2))
theorem qMJ {ρ:Rho} {st:Sto} {a:Str} {k:Int} {B:Nat} (h:(decide (2≤k)&&decide (k<1000)&&decide (0<a.length) && !decide ((a.length:Int) > (2 ^ 63 - 1) / k)&&decide (a.length * k.toNat≤1000)&&prB (qLn a k)&&decide ((qLn a k).length≤B))=true) (hB:B≤1000):EvT (qD qGI (qC (.str a)) (qC (.int k))) ρ st B:=fun P hp=>by
  simp only [Bool.and_eq_true,decide_eq_true_eq,Bool.not_eq_true',decide_eq_false_iff_not] at h
  obtain⟨⟨⟨⟨⟨⟨h1,h2⟩,h3⟩,h4⟩,h5⟩,h6⟩,h7⟩:=h
  refine⟨a,k,rfl,rfl,h1,h2,h3,h4,by rw [sizeLine_eq];lia,by rw [sizeLine_eq];lia,hp _ st (T.of h6 h7) (.refl _)⟩
theorem qCI {ds:List Dt} {st:Sto} {Pd:VD} (h:qES ds st Pd):qAY (Ed Pd) (qe ["cell", "most", "some"] ds) st:=by
  obtain⟨⟨c,m,rfl,hm⟩,hP⟩:=h
  have m0:0≤m:=by rcases hm with rfl | rfl | rfl<;>decide
  have m1:m<65536:=by rcases hm with rfl | rfl | rfl<;>decide
  show qAY (Ed Pd) [some (.int c),some (.int m),none] st
  refine qz (qEe (B:=80) (n:=12) (qK (qBV (qCi (B:=1) (C:=1) (lit (by decide +kernel)) (fun _ _=>qEj (qY (qW (qF rfl) qH (by decide) (by decide)) qH (by decide)) (by lia) (by lia) (by decide) (by decide)) (by decide)) (by decide)) fun _ _=>qK (lit (by decide +kernel)) fun _ _=>qK (lit (by decide +kernel)) fun _ _=>qK (lit (by decide +kernel)) fun _ _=>qK (lit (by decide +kernel)) fun _ _=>qK (lit (by decide +kernel)) fun _ _=>qK (lit (by decide +kernel)) fun _ _=>qK (lit (by decide +kernel)) fun _ _=>qK (lit (by decide +kernel)) fun _ _=>qK (lit (by decide +kernel)) fun _ _=>qK (lit (by decide +kernel)) fun _ _ =>
    qK (qBV (qEj (k:=5) (qAP (qF rfl) qH) (by lia) (by lia) (by decide) (by decide)) (by decide)) fun _ _=>qAE) (by decide) fun zs s1 e ts x1=>?_)
  have big:(0:Int)<10 ^ (30:Int).toNat:=by decide
  have bg:(10:Int) ^ (30:Int).toNat+65537<10 ^ 31:=by decide +kernel
  have md:=Int.emod_nonneg (c / 20) (b:=10 ^ (30:Int).toNat) (by lia)
  have ml:=Int.emod_lt_of_pos (c / 20) big
  refine qz ?_
  simp only [qD,qE,List.getElem?_cons_succ,List.getElem?_cons_zero,List.set_cons_succ,List.set_cons_zero]
  refine qEe (B:=80) (n:=6) (qK (qBV (qEj (k:=31) (x:=m+1+c / 20%10 ^ (30:Int).toNat) (qAP (qAP (qF (d:=.int m) rfl) qH) (qY (qW (qF rfl) qH (by decide) (by decide)) (fun P hp=>⟨⟨by decide,by decide,by decide⟩,hp⟩) big)) (by lia) (by lia) (by decide) (by decide)) (by decide)) fun _ _ =>
    qK (qBV (qEj (k:=6) (x:=m * 10+9) (qAP (qDd (qF (d:=.int m) rfl) qH (.inr ⟨by decide,by decide⟩)) qH) (by lia) (by lia) (by decide) (by decide)) (by decide)) fun _ _=>qK (qMJ (by decide +kernel) (by decide)) fun _ _=>qK (qMJ (by decide +kernel) (by decide)) fun _ _=>qK (lit (by decide +kernel)) fun _ _=>qK (lit (by decide +kernel)) fun _ _=>qAE) (by decide) fun ys s2 e2 ts2 x2=>?_
  show (match (s2++[SO.rw (ys.map Dt.str)])[s1.length]?,(s2++[SO.rw (ys.map Dt.str)])[s2.length]? with
      | some (.rw xs),some (.rw ys)=>xs.length+ys.length≤sizeLine∧_
      | _,_=>False)
  rw [qAd (x2 _ _ qU),qU]
  refine⟨by rw [List.length_map,List.length_map,e,e2];decide,?_⟩
  refine qLA (B:=80) (zs:=zs++ys) (k:=(s2++[SO.rw (ys.map Dt.str)]).length) (ta:=qE 2) (ρ:=[some (.int c),some (.int m),some (.lst (s2++[SO.rw (ys.map Dt.str)]).length)]) (qF rfl) (by rw [List.map_append];exact qU) (tb:=qD qk (qE 0) (qC (Dt.int 18))) (v:=c%18) (qY (qF rfl) qH (by decide)) (fun z hz=>?_) (by lia) (by rw [List.length_append,e,e2];lia) _ fun z s3 tz x3=>hP z s3 tz (x1.trans ((qP.app _ _).trans (x2.trans ((qP.app _ _).trans ((qP.app _ _).trans x3)))))
  rcases List.mem_append.mp hz with q | q
  · exact ts z q
  · exact ts2 z q
end K03
namespace K03
open PySem PySem.Spec PyProof.Rows L2 L3
open K02 (cs one fig)
abbrev nwb:TSD:=(tseq (qo (qCZ (qC (Dt.str " ")) (qE 2))) qM)
abbrev nwa:TSD:=(tseq (qi (qN (qD (qc false) (qE 3) (qC (Dt.int 9)))) (tseq (qZ (qD qX (qj (qA (qj (qA (qC (Dt.str "cell 5")) (qA (qC (Dt.str "cell")) qG))) (qA (qAN (qE 2) (qy (qC (Dt.int 1))) qw) (qA (qj (qA (qC (Dt.str "cell")) (qA (qD qX (qE 2) (qC (Dt.int 0))) qG))) (qA (qj (qA (qD qX (qE 2) (qC (Dt.int 0))) (qA (qC (Dt.str "cell")) (qA (qC (Dt.str "1")) (qA (qC (Dt.str "1")) qG))))) qG))))) (qD qk (qD qm (qE 1) (qC (Dt.int 1024))) (qC (Dt.int 4)))) (qR 2)) qM) qM) nwb)
abbrev nw9:TSD:=(tseq (qi (qN (qD (qc false) (qE 3) (qC (Dt.int 8)))) (tseq (qZ (qD L3.qa (qj (qA (qD qX (qE 2) (qC (Dt.int 1))) (qA (qD qX (qE 2) (qC (Dt.int 0))) qG))) (qAN (qE 2) (qy (qC (Dt.int 2))) qw)) (qR 2)) qM) qM) nwa)
abbrev nw8:TSD:=(tseq (qi (qN (qD (qc false) (qE 3) (qC (Dt.int 7)))) (tseq (qZ (qj (qA (qC (Dt.str "")) qG)) (qR 2)) qM) qM) nw9)
abbrev nw7:TSD:=(tseq (qi (qN (qD (qc false) (qE 3) (qC (Dt.int 6)))) (tseq (qZ (qj (qA (qD L3.qa (qj (qA (qC (Dt.str "")) qG)) (qE 2)) (qA (qD L3.qa (qE 2) (qj (qA (qC (Dt.str "")) qG))) (qA (qD L3.qa (qD L3.qa (qAN (qE 2) qw (qy (qC (Dt.int 2)))) (qj (qA (qC (Dt.str "")) qG))) (qAN (qE 2) (qy (qC (Dt.int 2))) qw)) (qA (qj (qA (qC (Dt.str "")) (qA (qC (Dt.str "")) qG))) (qA (qj (qA (qC (Dt.str "cell")) (qA (qC (Dt.str "")) (qA (qC (Dt.str "5")) qG)))) qG)))))) (qR 4)) (tseq (qZ (qD qX (qE 4) (qD qk (qD qm (qE 1) (qC (Dt.int 1024))) (qC (Dt.int 5)))) (qR 2)) qM)) qM) nw8)
abbrev nw6:TSD:=(tseq (qi (qN (qD (qc false) (qE 3) (qC (Dt.int 5)))) (tseq (qZ (qD qX (qj (qA (qAN (qE 2) qw (qy (qC (Dt.int 3)))) (qA (qAN (qE 2) qw (qy (qC (Dt.int 1)))) (qA (qj (qA (qC (Dt.str "cell")) qG)) (qA (qD L3.qa (qE 2) (qj (qA (qC (Dt.str "0")) qG))) (qA (qj (qA (qC (Dt.str "cell")) (qA (qC (Dt.str "5")) (qA (qC (Dt.str "5")) qG)))) (qA (qAN (qE 2) qw (qy (qC (Dt.int 2)))) qG))))))) (qD qk (qD qm (qE 1) (qC (Dt.int 1024))) (qC (Dt.int 6)))) (qR 2)) qM) qM) nw7)
abbrev nw5:TSD:=(tseq (qi (qN (qD (qc false) (qE 3) (qC (Dt.int 4)))) (tseq (qZ (qj (qA (qC (Dt.str "cell")) (qA (qI K03.qES (qA (qE 1) (qA (qC (Dt.int 65535)) qG))) qG))) (qR 2)) qM) qM) nw6)
abbrev nw4:TSD:=(tseq (qi (qN (qD (qBj false) (qE 3) (qIf (qA (qC (Dt.int 1)) (qA (qC (Dt.int 2)) (qA (qC (Dt.int 3)) qG)))))) (tseq (qZ (qI K03.qES (qA (qD qm (qE 1) (qC (Dt.int 1024))) (qA (qD qX (qj (qA (qC (Dt.int 7)) (qA (qC (Dt.int 7)) (qA (qC (Dt.int 63)) qG)))) (qD L3.qL8 (qE 3) (qC (Dt.int 1)))) qG))) (qLE (qE 2) (qE 3))) qM) qM) nw5)
abbrev nw3:TSD:=(tseq (qi (qN (qD (qc false) (qE 3) (qC (Dt.int 0)))) (tseq (qZ (qI K03.qDU (qA (qD qX (qE 2) (qC (Dt.int 0))) (qA (qD qm (qE 1) (qC (Dt.int 1024))) qG))) (qLE (qE 2) (qC (Dt.int 0)))) qM) qM) nw4)
abbrev qBd:TSD:=(tseq (qZ (qD qm (qE 0) (qC (Dt.int 10))) (qR 1)) (tseq (qZ (qC5 (qI K03.qCC (qA (qD L3.qa (qD qBb (qD qk (qE 1) (qC (Dt.int 98304))) (qC (Dt.int 3))) (qC (Dt.int 2))) qG)) (qC (Dt.str " "))) (qR 2)) (tseq (qZ (qD qk (qE 0) (qC (Dt.int 10))) (qR 3)) nw3)))
def Ls (st:Sto) (n B m:Nat):Prop:=∃ zs:List Str,st[n]? = some (.rw (zs.map .str))∧(∀ z∈zs,T B z)∧zs.length≤m
theorem Ls.ext {st st':Sto} {n B m:Nat} (h:Ls st n B m) (x:qP st st'):Ls st' n B m:=by
  obtain⟨zs,e,t,l⟩:=h
  exact⟨zs,x _ _ e,t,l⟩
abbrev EvL (te:TD) (ρ:Rho) (st:Sto) (B m:Nat):Prop:=∀ P:VD,(∀ n st',Ls st' n B m→qP st st'→P (.lst n) st')→te ρ st P
abbrev EaL (t:TAD) (ρ:Rho) (st:Sto) (B m k:Nat):Prop:=∀ P:List Dt→Sto→Prop,(∀ (ns:List Nat) st',ns.length=k→(∀ n∈ns,Ls st' n B m)→qP st st'→P (ns.map .lst) st')→t ρ st P
section
variable {ρ:Rho} {st:Sto} {ta tb te:TD} {t:TAD} {B m m2 k:Nat} {v:Int}
theorem qA7 (h:EaT t ρ st B k) (hk:k≤m) (hm:m≤1000):EvL (qj t) ρ st B m:=fun P hp=>qEe h (by lia) fun zs s1 e ts x=>hp s1.length _ ⟨zs,qU,ts,by lia⟩ (x.trans (.app _ _))
theorem qBh (h:EvL te ρ st B m) (l:m≤m2):EvL te ρ st B m2:=fun P hp=>h P fun n st' ⟨zs,e,t,q⟩ x=>hp n st' ⟨zs,e,t,by lia⟩ x
theorem qJq {i n:Nat} (h:ρ[i]? = some (some (.lst n))) (l:Ls st n B m):EvL (qE i) ρ st B m:=fun P hp=>qF h _ (hp n st l (.refl _))
theorem qHZ {zs:List Str} {lo hi:Option Int}:L3.cutD (zs.map Dt.str) lo hi=((zs.drop (HT.sIx zs.length 0 lo)).take (HT.sIx zs.length zs.length hi - HT.sIx zs.length 0 lo)).map Dt.str:=by
  unfold L3.cutD
  rw [List.length_map,List.map_take,List.map_drop]
theorem qEx {i n:Nat} {tl th:TOD} {lo hi:Option Int} (h:ρ[i]? = some (some (.lst n))) (l:Ls st n B m) (h1:∀ P:Option Int→Sto→Prop,P lo st→tl ρ st P) (h2:∀ P:Option Int→Sto→Prop,P hi st→th ρ st P):EvL (qAN (qE i) tl th) ρ st B m:=fun P hp=>qF h _ (h1 _ (h2 _ (by
  obtain⟨zs,e,ts,q⟩:=l
  show (match st[n]? with
    | some o=>P (.lst st.length) (st++[.rw (L3.cutD o.items lo hi)])
    | none=>False)
  rw [e]
  show P (.lst st.length) (st++[.rw (L3.cutD (zs.map Dt.str) lo hi)])
  rw [qHZ]
  k_dat 0"r78"
  rw [List.length_take,List.length_drop]
  lia)))
theorem qNy {i n:Nat} (h:ρ[i]? = some (some (.lst n))) (l:Ls st n B m):EvL (qAN (qE i) qw (qy (qC (Dt.int 2)))) ρ st B 2:=fun P hp=>qF h _ (by
  obtain⟨zs,e,ts,q⟩:=l
  show (match st[n]? with
    | some o=>P (.lst st.length) (st++[.rw (L3.cutD o.items none (some 2))])
    | none=>False)
  rw [e]
  show P (.lst st.length) (st++[.rw (L3.cutD (zs.map Dt.str) none (some 2))])
  rw [qHZ]
  k_dat 0"r78"
  rw [List.length_take]
  have:HT.sIx zs.length zs.length (some 2)=min 2 zs.length:=HT.qLd _ _ 2
  rw [this]
  lia)
theorem qEk {m1:Nat} (h:EvL ta ρ st B m1) (h2:∀ st',qP st st'→EvL tb ρ st' B m2) (l:m1+m2≤1000):EvL (qD L3.qa ta tb) ρ st B (m1+m2):=fun P hp=>h _ fun n s1 l1 x1=>h2 s1 x1 _ fun k s2 l2 x2=>by
  obtain⟨zs,e1,t1,q1⟩:=l1.ext x2
  obtain⟨ys,e2,t2,q2⟩:=l2
  show (match s2[n]?,s2[k]? with
    | some (.rw xs),some (.rw ys)=>xs.length+ys.length≤sizeLine∧P (.lst s2.length) (s2++[.rw (xs++ys)])
    | _,_=>False)
  rw [e1,e2]
  refine⟨by rw [List.length_map,List.length_map,sizeLine_eq];lia,?_⟩
  rw [← List.map_append]
  exact hp _ _ ⟨zs++ys,qU,fun z hz=>(List.mem_append.mp hz).elim (t1 z) (t2 z),by rw [List.length_append];lia⟩ (x1.trans (x2.trans (.app _ _)))
theorem qHA:EaL qG ρ st B m 0:=fun P hp=>hp [] st rfl (fun _ h=>nomatch h) (.refl _)
theorem qAF (h:EvL te ρ st B m) (h2:∀ st',qP st st'→EaL t ρ st' B m k):EaL (qA te t) ρ st B m (k+1):=fun P hp=>h _ fun n s1 l1 x1=>h2 s1 x1 _ fun ns s2 e ls x2=>hp (n::ns) s2 (by rw [List.length_cons,e]) (fun y hy=>by
  rcases List.mem_cons.mp hy with rfl | hy
  · exact l1.ext x2
  · exact ls y hy) (x1.trans x2)
theorem qHo {ns:List Nat} (h0:0≤v) (h1:v<ns.length):∃ n∈ns,L2.atI (ns.map Dt.lst) v=some (.lst n):=by
  obtain⟨k,rfl⟩:=Int.eq_ofNat_of_zero_le h0
  have hk:k<ns.length:=by exact_mod_cast h1
  exact⟨ns[k],List.getElem_mem hk,atN (by rw [List.getElem?_map,List.getElem?_eq_getElem hk];rfl)⟩
theorem qPX {P:VD} (h:EaL t ρ st B m k) (l:k≤1000) (q:∀ (ns:List Nat) st',ns.length=k→(∀ n∈ns,Ls st' n B m)→qP st st'→P (.lst st'.length) (st'++[.rw (ns.map .lst)])):qj t ρ st P:=h _ fun ns s1 e ls x=>⟨by rw [List.length_map,e,sizeLine_eq];lia,q ns s1 e ls x⟩
theorem qQI {i a:Nat} {ns:List Nat} (h:ρ[i]? = some (some (.lst a))) (ha:st[a]? = some (.rw (ns.map .lst))) (h2:Ev tb ρ st (.int v)) (ls:∀ n∈ns,Ls st n B m) (v0:0≤v) (v1:v<ns.length):EvL (qD qX (qE i) tb) ρ st B m:=fun P hp=>qF h _ (h2 _ (by
  obtain⟨n,hn,e⟩:=qHo v0 v1
  show (match (st[a]?).map SO.items with
    | some xs=>(match L2.atI xs v with
      | some d=>P d _
      | none=>False)
    | none=>False)
  rw [ha]
  show (match L2.atI (ns.map Dt.lst) v with
      | some d=>P d _
      | none=>False)
  rw [e]
  exact hp n _ (ls n hn) (.refl _)))
theorem qKC (h:EaL t ρ st B m k) (l:k≤1000) (h2:∀ st',qP st st'→Ev tb ρ st' (.int v)) (v0:0≤v) (v1:v<k):EvL (qD qX (qj t) tb) ρ st B m:=fun P hp=>qPX h l fun ns s1 e ls x=>h2 _ (x.trans (.app _ _)) _ (by
  obtain⟨n,hn,ez⟩:=qHo (ns:=ns) v0 (by rw [e];exact v1)
  show (match ((s1++[SO.rw (ns.map .lst)])[s1.length]?).map SO.items with
    | some xs=>(match L2.atI xs v with
      | some d=>P d _
      | none=>False)
    | none=>False)
  rw [qU]
  show (match L2.atI (ns.map Dt.lst) v with
      | some d=>P d _
      | none=>False)
  rw [ez]
  exact hp n _ ((ls n hn).ext (.app _ _)) (x.trans (.app _ _)))
theorem qEy {E:qAZ} {N:TSD} {i:Nat} (h:EvL te ρ st B m) (q:∀ n st',Ls st' n B m→qP st st'→N E (ρ.set i (some (.lst n))) st'):tseq (qZ te (qR i)) N E ρ st:=h _ q
end
section
variable {st s:Sto} {Pd:VD} {c:Int} {n:Nat} {o:Option Dt}
noncomputable abbrev NW (c:Int) (n:Nat) (o:Option Dt):Rho:=[some (.int c),some (.int (c / 10)),some (.lst n),some (.int (c%10)),o]
structure W4 (s:Sto) (n:Nat) (c:Int) (j:Int):Prop where
  l:Ls s n 80 7
  f:(∃ zs:List Str,s[n]? = some (.rw (zs.map .str))∧zs.length=4)∨c%10<j
theorem W4.on {j j':Int} (h:W4 s n c j) (q:¬ (c%10<j')→¬ c%10<j):W4 s n c j':=⟨h.l,h.f.elim .inl fun z=>by
  by_cases y:c%10<j'
  · exact .inr y
  · exact absurd z (q y)⟩
theorem W4.new {n:Nat} {j:Int} (l:Ls s n 80 7) (q:c%10<j):W4 s n c j:=⟨l,.inr q⟩
theorem qCJ {j:Int}:EvB (qN (qD (qc false) (qE 3) (qC (Dt.int j)))) (NW c n o) s (decide (c%10=j)):=evb (qBS (qF rfl) qH)
theorem W4.two {j:Int} (h:W4 s n c j) (hj:¬ c%10<j) {i:Nat} (hi:i<4):EvT (qD qX (qE 2) (qC (Dt.int (i:Int)))) (NW c n o) s 80:=by
  obtain⟨zs,e,ts,_⟩:=h.l
  rcases h.f with ⟨ys,e2,l4⟩ | z
  · rw [e] at e2
    have:zs.length=ys.length:=by
      k_dat 0"r37"
      simpa [SO.items] using this
    exact qLA (zs:=zs) (qF rfl) e qH ts (by lia) (by rw [this,l4];exact_mod_cast hi)
  · exact absurd z hj
theorem qKN (hP:∀ z st',T 600 z→qP st st'→Pd (.str z) st') (h:W4 s n c 10) (x:qP st s):nwb (Ed Pd) (NW c n o) s:=by
  obtain⟨zs,e,ts,l⟩:=h.l
  exact rdR (qHD (m:=7) (qF rfl) e ts l (by decide)) (hP _ s ((qJV ts l).mono (by decide)) x)
theorem qKD (hP:∀ z st',T 600 z→qP st st'→Pd (.str z) st') (h:W4 s n c 9) (x:qP st s):nwa (Ed Pd) (NW c n o) s:=by
  refine qh qCJ (fun q=>?_) fun q=>qKN hP (h.on fun y=>by lia) x
  k_dat 0"r13"
  refine qEy (qKC (k:=4) (m:=7) (B:=80) (qAF (qA7 (k:=2) (qK (lit (by decide +kernel)) fun _ _=>qK (lit (by decide +kernel)) fun _ _=>qAE) (by decide) (by decide)) fun s1 x1=>qAF (qEx rfl (h.l.ext x1) (qAg qH) qAh) fun s2 x2 =>
    qAF (qA7 (k:=2) (qK (lit (by decide +kernel)) fun s3 x3=>qK (W4.two (i:=0) ⟨h.l.ext (x1.trans (x2.trans x3)),h.f.imp (fun ⟨zs,e,l⟩=>⟨zs,(x1.trans (x2.trans x3)) _ _ e,l⟩) id⟩ (by lia) (by decide)) fun _ _=>qAE) (by decide) (by decide)) fun s3 x3 =>
    qAF (qA7 (k:=4) (qK (W4.two (i:=0) ⟨h.l.ext (x1.trans (x2.trans x3)),h.f.imp (fun ⟨zs,e,l⟩=>⟨zs,(x1.trans (x2.trans x3)) _ _ e,l⟩) id⟩ (by lia) (by decide)) fun _ _=>qK (lit (by decide +kernel)) fun _ _=>qK (lit (by decide +kernel)) fun _ _=>qK (lit (by decide +kernel)) fun _ _=>qAE) (by decide) (by decide)) fun _ _=>qHA) (by decide) (fun _ _=>qY (qW (qF rfl) qH (by decide) (by decide)) qH (by decide)) (by lia) (by lia)) fun k s1 l1 x1=>qKN (c:=c) (o:=o) hP (.new l1 (by lia)) (x.trans x1)
theorem qI4 (hP:∀ z st',T 600 z→qP st st'→Pd (.str z) st') (h:W4 s n c 8) (x:qP st s):nw9 (Ed Pd) (NW c n o) s:=by
  refine qh qCJ (fun q=>?_) fun q=>qKD hP (h.on fun y=>by have:=of_decide_eq_false q;lia) x
  k_dat 0"r13"
  have two:∀ s1,qP s s1→W4 s1 n c 8:=fun s1 x1=>⟨h.l.ext x1,h.f.imp (fun ⟨zs,e,l⟩=>⟨zs,x1 _ _ e,l⟩) id⟩
  have sh:∀ m,m≤1000→True:=fun _ _=>trivial
  obtain⟨zs,e,l4⟩:∃ zs:List Str,s[n]? = some (.rw (zs.map .str))∧zs.length=4:=h.f.elim id fun z=>absurd z (by lia)
  have l:Ls s n 80 4:=by
    obtain⟨ys,e2,ts,_⟩:=h.l
    refine⟨ys,e2,ts,?_⟩
    rw [e] at e2
    k_dat 0"r37"
    k_dat 0"r48"
    lia
  refine qEy (qBh (qEk (m1:=2) (m2:=4) (B:=80) (qA7 (k:=2) (qK (W4.two (i:=1) h (by lia) (by decide)) fun s1 x1=>qK (W4.two (i:=0) (two s1 x1) (by lia) (by decide)) fun _ _=>qAE) (by decide) (by decide)) (fun s1 x1=>qEx rfl (l.ext x1) (qAg qH) qAh) (by decide)) (by decide)) fun k s1 l1 x1=>qKD (c:=c) (o:=o) hP (.new l1 (by lia)) (x.trans x1)
theorem qI9 (hP:∀ z st',T 600 z→qP st st'→Pd (.str z) st') (h:W4 s n c 7) (x:qP st s):nw8 (Ed Pd) (NW c n o) s:=by
  refine qh qCJ (fun q=>?_) fun q=>qI4 hP (h.on fun y=>by have:=of_decide_eq_false q;lia) x
  k_dat 0"r13"
  exact qEy (qA7 (B:=80) (m:=7) (k:=1) (qK (lit (by decide +kernel)) fun _ _=>qAE) (by decide) (by decide)) fun k s1 l1 x1=>qI4 (c:=c) (o:=o) hP (.new l1 (by lia)) (x.trans x1)
theorem W4.four {j:Int} (h:W4 s n c j) (hj:¬ c%10<j):Ls s n 80 4:=by
  obtain⟨zs,e,l4⟩:∃ zs:List Str,s[n]? = some (.rw (zs.map .str))∧zs.length=4:=h.f.elim id fun z=>absurd z hj
  obtain⟨ys,e2,ts,_⟩:=h.l
  refine⟨ys,e2,ts,?_⟩
  rw [e] at e2
  k_dat 0"r37"
  k_dat 0"r48"
  lia
theorem qJe (hP:∀ z st',T 600 z→qP st st'→Pd (.str z) st') (h:W4 s n c 6) (x:qP st s):nw7 (Ed Pd) (NW c n o) s:=by
  refine qh qCJ (fun q=>?_) fun q=>qI9 hP (h.on fun y=>by have:=of_decide_eq_false q;lia) x
  k_dat 0"r13"
  have l:=h.four (by lia)
  refine qz (qPX (B:=80) (m:=7) (k:=5) (qAF (qBh (qEk (m1:=1) (m2:=4) (qA7 (k:=1) (qK (lit (by decide +kernel)) fun _ _=>qAE) (by decide) (by decide)) (fun s1 x1=>qJq rfl (l.ext x1)) (by decide)) (by decide)) fun s1 x1 =>
    qAF (qBh (qEk (m1:=4) (m2:=1) (qJq rfl (l.ext x1)) (fun _ _=>qA7 (k:=1) (qK (lit (by decide +kernel)) fun _ _=>qAE) (by decide) (by decide)) (by decide)) (by decide)) fun s2 x2 =>
    qAF (qBh (qEk (m1:=3) (m2:=4) (qEk (m1:=2) (m2:=1) (qNy rfl (l.ext (x1.trans x2))) (fun _ _=>qA7 (k:=1) (qK (lit (by decide +kernel)) fun _ _=>qAE) (by decide) (by decide)) (by decide)) (fun s3 x3=>qEx rfl (l.ext (x1.trans (x2.trans x3))) (qAg qH) qAh) (by decide)) (by decide)) fun s3 x3 =>
    qAF (qA7 (k:=2) (qK (lit (by decide +kernel)) fun _ _=>qK (lit (by decide +kernel)) fun _ _=>qAE) (by decide) (by decide)) fun s4 x4 =>
    qAF (qA7 (k:=3) (qK (lit (by decide +kernel)) fun _ _=>qK (lit (by decide +kernel)) fun _ _=>qK (lit (by decide +kernel)) fun _ _=>qAE) (by decide) (by decide)) fun _ _=>qHA) (by decide) fun ns s1 e ls x1=>?_)
  refine qEy (qQI (ns:=ns) (a:=s1.length) rfl qU (qY (qW (qF rfl) qH (by decide) (by decide)) qH (by decide)) (fun k hk=>(ls k hk).ext (.app _ _)) (by lia) (by rw [e];lia)) fun k s2 l2 x2=>qI9 (c:=c) (o:=some (.lst s1.length)) hP (.new l2 (by lia)) (x.trans (x1.trans ((qP.app _ _).trans x2)))
theorem qJa (hP:∀ z st',T 600 z→qP st st'→Pd (.str z) st') (h:W4 s n c 5) (x:qP st s):nw6 (Ed Pd) (NW c n o) s:=by
  refine qh qCJ (fun q=>?_) fun q=>qJe hP (h.on fun y=>by have:=of_decide_eq_false q;lia) x
  k_dat 0"r13"
  have l:=h.four (by lia)
  refine qEy (qKC (k:=6) (m:=7) (B:=80) (qAF (qBh (qEx rfl l qAh (qAg qH)) (by decide)) fun s1 x1=>qAF (qBh (qEx rfl (l.ext x1) qAh (qAg qH)) (by decide)) fun s2 x2=>qAF (qA7 (k:=1) (qK (lit (by decide +kernel)) fun _ _=>qAE) (by decide) (by decide)) fun s3 x3 =>
    qAF (qBh (qEk (m1:=4) (m2:=1) (qJq rfl (l.ext (x1.trans (x2.trans x3)))) (fun _ _=>qA7 (k:=1) (qK (lit (by decide +kernel)) fun _ _=>qAE) (by decide) (by decide)) (by decide)) (by decide)) fun s4 x4 =>
    qAF (qA7 (k:=3) (qK (lit (by decide +kernel)) fun _ _=>qK (lit (by decide +kernel)) fun _ _=>qK (lit (by decide +kernel)) fun _ _=>qAE) (by decide) (by decide)) fun s5 x5=>qAF (qBh (qEx rfl (l.ext (x1.trans (x2.trans (x3.trans (x4.trans x5))))) qAh (qAg qH)) (by decide)) fun _ _=>qHA) (by decide) (fun _ _=>qY (qW (qF rfl) qH (by decide) (by decide)) qH (by decide)) (by lia) (by lia)) fun k s1 l1 x1=>qJe (c:=c) (o:=o) hP (.new l1 (by lia)) (x.trans x1)
theorem qG0 {ρ:Rho} {sp:RDL} {t:TAD} {B:Nat} {q:List Dt→Prop} {ds:List Dt} (h:Ea t ρ s ds) (hq:q ds):EvT (qI (qDr B q) t) ρ s B:=fun P hp=>h _ ⟨hq,fun z st' t x=>hp z st' t x⟩
theorem qKF (hP:∀ z st',T 600 z→qP st st'→Pd (.str z) st') (h:W4 s n c 4) (x:qP st s):nw5 (Ed Pd) (NW c n o) s:=by
  refine qh qCJ (fun q=>?_) fun q=>qJa hP (h.on fun y=>by have:=of_decide_eq_false q;lia) x
  k_dat 0"r13"
  exact qEy (qA7 (B:=80) (m:=7) (k:=2) (qK (lit (by decide +kernel)) fun _ _=>qK (qG0 (sp:=qES) (qA9 (qF rfl) (qA9 qH qFt)) ⟨_,_,rfl,.inr (.inr rfl)⟩) fun _ _=>qAE) (by decide) (by decide)) fun k s1 l1 x1=>qJa (c:=c) (o:=o) hP (.new l1 (by lia)) (x.trans x1)
end
end K03
namespace K03
open PySem PySem.Spec PyProof.Rows L2 L3
open K02 (cs one fig)
abbrev fr1:TSD:=(tseq (qo (qCZ (qC (Dt.str " ")) (qE 3))) qM)
abbrev fr4:TSD:=(tseq (qZ (qD qm (qE 2) (qC (Dt.int 94))) (qR 2)) (tseq (qZ (qD L3.qa (qE 6) (qD qX (qE 1) (qD qk (qE 2) (qC (Dt.int 94))))) (qR 6)) qM))
abbrev fr3:TSD:=(tseq (qZ (qD qX (qj (qA (qC (Dt.str "")) (qA (qC (Dt.str "cell ")) (qA (qI K03.qCC (qA (qD qm (qE 2) (qC (Dt.int 4))) qG)) (qA (qC (Dt.str "")) qG))))) (qD qk (qE 2) (qC (Dt.int 4)))) (qR 6)) (tseq (qDE (qCD (qD qk (qD qm (qE 2) (qC (Dt.int 4))) (qC (Dt.int 14)))) (qR 4) fr4) (tseq (qo (qE 6)) qM)))
abbrev fr0:TSD:=(tseq (qZ (qD qm (qE 2) (qC (Dt.int 7))) (qR 2)) (tseq (qZ (qj (qA (qC (Dt.str "cell")) (qA (qD qX (qI K01.qv qG) (qD qk (qD qm (qE 2) (qC (Dt.int 6))) (qC (Dt.int 16)))) (qA (qI qCF (qA (qD qk (qD qm (qE 2) (qC (Dt.int 6))) (qC (Dt.int 71))) qG)) (qA (qI qCF (qA (qD L3.qa (qC (Dt.int 65500)) (qD qk (qD qm (qE 2) (qC (Dt.int 6))) (qC (Dt.int 40)))) qG)) (qA (qC (Dt.str "cell")) (qA (qC (Dt.str "")) qG))))))) (qR 5)) (tseq (qDi (qAj (qE 3) (qD qX (qE 5) (qD qk (qE 2) (qC (Dt.int 6)))))) (tseq (qZ (qD qm (qE 2) (qC (Dt.int 6))) (qR 2)) qM))))
abbrev qBu:TSD:=(tseq (qZ (qC (Dt.str (Str.ofString " !\"#$&'()*+,-./0123456789:;<=>?@ABCDEFGHIJKLMNOPQRSTUVWXYZ[\\]^_`abcdefghijklmnopqrstuvwxyz{|}~"))) (qR 1)) (tseq (qZ (qD qm (qE 0) (qC (Dt.int 4))) (qR 2)) (tseq (qi (qN (qD (qAe fun i j=>decide (i<j)) (qD qk (qE 0) (qC (Dt.int 4))) (qC (Dt.int 2)))) (tseq (qZ (qj qG) (qR 3)) (tseq (qDE (qCD (qD qk (qE 2) (qC (Dt.int 7)))) (qR 4) fr0) fr1)) qM) fr3)))
theorem qFJ {st s:Sto} {n:Nat} {o:SO} (x:qP st s) (h:st.length≤n):qP st (s.set n o):=fun i q e=>by
  have hi:=(List.getElem?_eq_some_iff.mp e).1
  rw [List.getElem?_set_ne (by lia)]
  exact x i q e
section
variable {E:qAZ} {N:TSD} {ρ:Rho} {st:Sto} {te:TD} {g:TGD} {t:TAD} {sp:RDL} {P:VD} {R:List Dt→Sto→Prop} {d:Dt} {B:Nat}
theorem qN3 (h:te ρ st fun d s1=>g d ρ s1 fun ρ' s2=>N E ρ' s2):tseq (qZ te g) N E ρ st:=h
theorem qHt (h:t ρ st fun ds s1=>sp ds s1 P):qI sp t ρ st P:=h
theorem qIr (h:Ev te ρ st d) (q:t ρ st fun ds s=>R (d::ds) s):qA te t ρ st R:=h _ q
theorem qQB (h:EvX te ρ st d) (q:∀ st',qP st st'→t ρ st' fun ds s=>R (d::ds) s):qA te t ρ st R:=h _ q
end
section
variable {st s:Sto} {Pd:VD} {c:Int} {n:Nat} {o:Option Dt}
theorem qJb {zs:List Str} {j:Nat} {z:Str} (hn:n<s.length) (l:zs.length=4) (ts:∀ z∈zs,T 80 z) (tz:T 80 z) {J:Int}:W4 (s.set n (.rw ((zs.map Dt.str).set j (.str z)))) n c J:=by
  have e:(s.set n (.rw ((zs.map Dt.str).set j (.str z))))[n]? = some (.rw ((zs.set j z).map .str)):=by
    rw [List.getElem?_set_self hn,List.map_set]
  refine⟨⟨zs.set j z,e,fun y hy=>?_,by rw [List.length_set];lia⟩,.inl ⟨zs.set j z,e,by rw [List.length_set];exact l⟩⟩
  rcases List.mem_or_eq_of_mem_set hy with q | q
  · exact ts y q
  · rw [q];exact tz
theorem qJW (hP:∀ z st',T 600 z→qP st st'→Pd (.str z) st') (h:W4 s n c 0) (hs:st.length≤n) (x:qP st s):nw4 (Ed Pd) (NW c n o) s:=by
  have nn:¬ c%10<0:=by lia
  obtain⟨zs,e,ts,_⟩:=h.four nn
  have l4:zs.length=4:=by
    obtain⟨ys,e2,l⟩:∃ zs:List Str,s[n]? = some (.rw (zs.map .str))∧zs.length=4:=h.f.elim id fun z=>absurd z nn
    rw [e] at e2
    k_dat 0"r37"
    k_dat 0"r48"
    lia
  refine qh (b:=[Dt.int 1,.int 2,.int 3].any (fun z=>eqD 0 z (.int (c%10))) != false) (fun P hp=>⟨by decide,rfl,rfl,hp⟩) (fun q=>?_) fun q=>qKF hP ⟨h.l,h.f.imp id fun z=>absurd z nn⟩ x
  have w13:1≤c%10∧c%10≤3:=by
    have q:((1==c%10 || (2==c%10 || (3==c%10 || false))) != false)=true:=q
    simp at q
    lia
  obtain⟨k,hk,k3⟩:∃ k:Nat,c%10=(k:Nat)+1∧k<3:=⟨(c%10 - 1).toNat,by lia,by lia⟩
  obtain⟨d,hd,hm⟩:∃ m:Int,L2.atI [Dt.int 7,.int 7,.int 63] (c%10 - 1)=some (.int m)∧(m=7∨m=63∨m=65535):=by
    rw [show c%10 - 1=(k:Nat) by lia]
    rcases k with _ | _ | _ | k
    · exact⟨7,rfl,.inl rfl⟩
    · exact⟨7,rfl,.inl rfl⟩
    · exact⟨63,rfl,.inr (.inl rfl)⟩
    · lia
  refine qN3 (qHt (qIr (qW (qF rfl) qH (by decide) (by decide)) (qQB (qMa (v:=c%10 - 1) (d:=.int d) (qA9 qH (qA9 qH (qA9 qH qFt))) (by decide) (fun _ _=>qMg (qF rfl) qH) hd) fun s1 x1=>?_)))
  refine⟨⟨_,_,rfl,hm⟩,fun z s2 tz x2=>?_⟩
  have e2:s2[n]? = some (.rw (zs.map .str)):=(x1.trans x2) _ _ e
  show (match s2[n]? with
    | some (.rw xs)=>(match ixN xs.length (c%10) with
      | some j=>_
      | none=>False)
    | _=>False)
  rw [e2]
  have ej:ixN (zs.map Dt.str).length (c%10)=some (k+1):=by
    rw [List.length_map,l4,hk]
    unfold ixN
    rw [if_pos (by lia),if_pos (by lia)]
    congr 1
  show (match ixN (zs.map Dt.str).length (c%10) with
      | some j=>_
      | none=>False)
  rw [ej]
  exact qKF (c:=c) (o:=o) hP (qJb (List.getElem?_eq_some_iff.mp e2).1 l4 ts tz) (qFJ (x.trans (x1.trans x2)) hs)
theorem qNd {k:Nat} (h16:k<16) {zs:List Str} (hP:∀ z st',T 600 z→qP st st'→Pd (.str z) st') (e:s[n]? = some (.rw ((K01.wordOf (k:Nat)::zs).map .str))) (l3:zs.length=3) (ts:∀ z∈zs,T 80 z) (hs:st.length≤n) (x:qP st s):nw3 (Ed Pd) (NW c n o) s:=by
  have ts':∀ z∈K01.wordOf (k:Nat)::zs,T 80 z:=fun z hz=>by
    rcases List.mem_cons.mp hz with rfl | hz
    · exact (qBB k h16).mono (by decide)
    · exact ts z hz
  have l4:(K01.wordOf (k:Nat)::zs).length=4:=by rw [List.length_cons,l3]
  refine qh qCJ (fun q=>?_) fun q=>qJW hP ⟨⟨_,e,ts',by lia⟩,.inl ⟨_,e,l4⟩⟩ hs x
  have ix:Ev (qD qX (qE 2) (qC (Dt.int 0))) (NW c n o) s (.str (K01.wordOf (k:Nat))):=fun P hp=>qF rfl _ (by
    show (match (s[n]?).map SO.items with
    | some xs=>(match L2.atI xs 0 with
      | some d=>P d _
      | none=>False)
    | none=>False)
    rw [e]
    show (match L2.atI (Dt.str (K01.wordOf (k:Nat))::zs.map Dt.str) 0 with
      | some d=>P d _
      | none=>False)
    rw [qPB (v:=0) (k:=0) rfl rfl]
    exact hp)
  refine qN3 (qHt (qIr ix (qIr (qW (qF rfl) qH (by decide) (by decide)) ⟨⟨k,_,h16,rfl⟩,fun z s2 tz x2=>?_⟩)))
  have e2:=x2 _ _ e
  show (match s2[n]? with
    | some (.rw xs)=>(match ixN xs.length 0 with
      | some j=>_
      | none=>False)
    | _=>False)
  rw [e2]
  have ej:ixN ((K01.wordOf (k:Nat)::zs).map Dt.str).length 0=some 0:=by
    rw [List.length_map,l4];rfl
  show (match ixN ((K01.wordOf (k:Nat)::zs).map Dt.str).length 0 with
      | some j=>_
      | none=>False)
  rw [ej]
  exact qJW (c:=c) (o:=o) hP (qJb (List.getElem?_eq_some_iff.mp e2).1 l4 ts' (tz.mono (by decide))) hs (qFJ (x.trans x2) hs)
theorem qE7 {ds:List Dt} (h:qFC ds st Pd):qBd (Ed Pd) (qe ["cell", "rest", "words", "way", "some"] ds) st:=by
  obtain⟨⟨c,rfl⟩,hP⟩:=h
  show qBd (Ed Pd) [some (.int c),none,none,none,none] st
  k_dat 0"r28"
  refine qz ?_
  simp only [qC5,qC]
  refine qHt (qIr (qAP (qDd (qY (qF (d:=.int (c / 10)) rfl) qH (by decide)) qH (.inr ⟨by decide,by decide⟩)) qH) ⟨_,rfl,fun s1 x1=>?_⟩)
  generalize hr:c / 10%98304 * 3+2=r
  have h3:¬ r%3=1:=by lia
  have rt:=qED r
  have sp:=qDa r
  obtain⟨k,hk,h16⟩:=qHB (v:=r / 3) (n:=16) (by decide)
  have hk':r / 3%16=(k:Int):=hk
  have pk:=(qBK r).1
  rw [show parts r=[K01.wordOf (k:Nat),fig (r / 3 / 16%8),fig (r / 3 / 128%8),fig (r / 3 / 1024%64)] by unfold parts;rw [if_neg h3,hk']] at sp pk
  show ((Str.ofString " ").length==0)=false∧(qAL r).length≤sizeLine∧(Txt.split (qAL r) (Str.ofString " ")).length≤sizeLine∧(Builtin.Str.partsBetween (qAL r) (Builtin.Str.occurrences (qAL r) (Str.ofString " ") 0 (qAL r).length ((qAL r).length+1)) (Str.ofString " ").length).length≤sizeLine∧_
  rw [K02.qDM,sp]
  refine⟨rfl,by have:=rt.l;rw [sizeLine_eq];lia,by show 4≤sizeLine;decide,by have:=K02.qAQ (qAL r) (one 32);have:=rt.l;rw [sizeLine_eq];lia,?_⟩
  refine qz (qY (qF rfl) qH (by decide) _ ?_)
  exact qNd (c:=c) (o:=none) h16 hP (zs:=[fig (r / 3 / 16%8),fig (r / 3 / 128%8),fig (r / 3 / 1024%64)]) qU rfl (fun z hz=>(pk z (List.mem_cons_of_mem _ hz)).1.mono (by decide)) (by
    have:st.length≤s1.length:=by
      rcases Nat.lt_or_ge s1.length st.length with q | q
      · have:=x1 s1.length _ (List.getElem?_eq_getElem q)
        have:=(List.getElem?_eq_some_iff.mp this).1
        lia
      · exact q
    exact this) (x1.trans (.app _ _))
end
noncomputable def qOc:Str:= " !\"#$&'()*+,-./0123456789:;<=>?@ABCDEFGHIJKLMNOPQRSTUVWXYZ[\\]^_`abcdefghijklmnopqrstuvwxyz{|}~"
theorem qNt:T 94 qOc:=T.of (by decide +kernel) (by decide +kernel)
theorem qKX:qOc.length=94:=by decide +kernel
def fr5:TSD:=(tseq (qo (qE 6)) qM)
noncomputable abbrev FR (c:Int) (r:Int) (a b d e:Option Dt):Rho:=[some (.int c),some (.str qOc),some (.int r),a,b,d,e]
section
variable {E:qAZ} {N:TSD} {ρ:Rho} {st:Sto} {te:TD}
theorem forR {g:TGD} {tb:TSD} {n:Nat} (h:Ev te ρ st (.int (n:Nat))) (hn:n≤1000) (q:qIc (qAi 0 n) (fun _=>True) g tb { E with nx:=N E } ρ st):tseq (qDE (qCD te) g tb) N E ρ st:=by
  refine seq1 ?_
  refine h _ ⟨by lia,by lia,?_⟩
  rw [Int.toNat_natCast]
  exact q
theorem qQH {v f B:Nat} {xs:List Dt} (h:ρ[v]? = some (some (.lst f))) (he:EvT te ρ st B) (hf:st[f]? = some (.rw xs)) (hn:xs.length<1000) (q:∀ z s1,T B z→qP st s1→N E ρ (s1.set f (.rw (xs++[.str z])))):tseq (qDi (qAj (qE v) te)) N E ρ st:=by
  show qAj (qE v) te ρ st fun _ st1=>N E ρ st1
  unfold qAj
  refine qF h _ ?_
  refine he _ fun z s1 tz x1=>?_
  show (match s1[f]? with
    | some (.rw xs)=>xs.length<sizeLine∧_
    | _=>False)
  rw [x1 _ _ hf]
  exact⟨by rw [sizeLine_eq];lia,q z s1 tz x1⟩
theorem qDL {n i:Nat} {d:Dt} (h:(qAi 0 n)[i]? = some d):i<n∧d = .int (i:Nat):=by
  unfold qAi at h
  rw [List.getElem?_map] at h
  cases q:(List.range n)[i]? with
  | none=>rw [q] at h;cases h
  | some j =>
    rw [q] at h
    obtain⟨h1,h2⟩:=List.getElem?_eq_some_iff.mp q
    have:i<n:=by simpa using h1
    have e:j=i:=by simpa using h2.symm
    subst e
    refine⟨this,?_⟩
    simpa using h.symm
theorem qFr (n:Nat):(qAi 0 n).length=n:=by unfold qAi;simp
end
theorem qOg {ρ:Rho} {st:Sto} {tb:TD} {k:Nat} (h16:k<16) (h2:∀ st',qP st st'→Ev tb ρ st' (.int (k:Nat))):EvT (qD qX (qI K01.qv qG) tb) ρ st 5:=fun P hp=>qJO h16 h2 _ fun st' x=>hp _ st' (qBB k h16) x
theorem qPL {ρ:Rho} {st:Sto} {te:TD} {v:Int} (h:Ev te ρ st (.int v)):EvT (qI K03.qCC (qA te qG)) ρ st 24:=fun P hp=>h _ ⟨v,rfl,fun st' x=>hp _ st' (qED v) x⟩
theorem qMp {st s:Sto} {Pd:VD} {c:Int} {a b d e:Option Dt} (hP:∀ z st',T 600 z→qP st st'→Pd (.str z) st') (x:qP st s):fr3 (Ed Pd) (FR c (c / 4) a b d e) s:=by
  refine qGZ (qPY (n:=4) (B:=24) (qK (lit (by decide +kernel)) fun _ _=>qK (lit (by decide +kernel)) fun _ _=>qK (qPL (qW (qF rfl) qH (by decide) (by decide))) fun _ _=>qK (lit (by decide +kernel)) fun _ _=>qAE) (by decide) (fun _ _=>qY (qF rfl) qH (by decide)) (by lia) (by lia)) fun z s1 tz x1=>?_
  obtain⟨n,hn,n14⟩:=qHB (v:=c / 4 / 4) (n:=14) (by decide)
  have hn':c / 4 / 4%14=(n:Nat):=hn
  refine forR (n:=n) (by rw [← hn'];exact qY (qW (qF rfl) qH (by decide) (by decide)) qH (by decide)) (by lia) ?_
  refine⟨fun i ρ s2=>i≤n∧qP st s2∧∃ r b z,ρ=FR c r a b d (some (.str z))∧T (24+i) z,⟨Nat.zero_le _,x.trans x1,_,_,z,rfl,tz⟩,fun _ _ _ _ _=>trivial,?_,?_⟩
  · rintro i dd ρ s2 hd ⟨hi,x2,r,b,z,rfl,tz⟩
    obtain⟨hlt,rfl⟩:=qDL hd
    show fr4 _ (FR c r a (some (.int (i:Nat))) d (some (.str z))) s2
    k_dat 0"r28"
    refine qGZ (qCi (B:=24+i) (C:=1) (qJY rfl tz) (fun _ _=>qIs (v:=r / 94%94) (qF rfl) (qY (qF rfl) qH (by decide)) qNt (by decide) (by lia) (by rw [qKX];lia)) (by lia)) fun z2 s3 t3 x3=>?_
    exact⟨by lia,x2.trans x3,_,_,z2,rfl,t3⟩
  · rintro ρ s2 ⟨_,x2,r,b,z,rfl,tz⟩
    rw [qFr] at tz
    show fr5 (Ed Pd) (FR c r a b d (some (.str z))) s2
    exact rdR (qF rfl) (hP z s2 (tz.mono (by lia)) x2)
theorem qFm {ds:List Dt} {st:Sto} {Pd:VD} (h:qFQ ds st Pd):qBu (Ed Pd) (qe ["cell", "signs", "rest", "parts", "k", "some", "text"] ds) st:=by
  obtain⟨⟨c,rfl⟩,hP⟩:=h
  show qBu (Ed Pd) [some (.int c),none,none,none,none,none,none] st
  refine qz ?_
  k_dat 0"r28"
  refine qh (b:=decide (c%4<2)) (evb (qKJ (qY (qF rfl) qH (by decide)) qH)) (fun _=>?_) fun _=>qMp (c:=c) (a:=none) (b:=none) (d:=none) (e:=none) hP (.refl _)
  refine qz ⟨Nat.zero_le _,?_⟩
  obtain⟨n,hn,n7⟩:=qHB (v:=c / 4) (n:=7) (by decide)
  have hn':c / 4%7=(n:Nat):=hn
  refine forR (n:=n) (by rw [← hn'];exact qY (qF rfl) qH (by decide)) (by lia) ?_
  refine⟨fun i ρ s2=>i≤n∧qP st s2∧∃ r b d zs,ρ=FR c r (some (.lst st.length)) b d none∧s2[st.length]? = some (.rw (zs.map .str))∧zs.length=i∧∀ z∈zs,T 24 z,⟨Nat.zero_le _,.app _ _,_,_,_,[],rfl,qU,rfl,fun _ h=>nomatch h⟩,fun _ _ _ _ _=>trivial,?_,?_⟩
  · rintro i dd ρ s2 hd ⟨hi,x2,r,b,d,zs,rfl,e,l,ts⟩
    obtain⟨hlt,rfl⟩:=qDL hd
    show fr0 _ (FR c r (some (.lst st.length)) (some (.int (i:Nat))) d none) s2
    k_dat 0"r28"
    obtain⟨k,hk,k16⟩:=qHB (v:=r / 7 / 6) (n:=16) (by decide)
    have hk':r / 7 / 6%16=(k:Nat):=hk
    refine qz (qEe (B:=24) (n:=6) (qK (lit (by decide +kernel)) fun _ _=>qK (qBV (qOg k16 fun _ _=>by rw [← hk'];exact qY (qW (qF rfl) qH (by decide) (by decide)) qH (by decide)) (by decide)) fun _ _=>qK (qBV (qEj (k:=2) (qY (qW (qF rfl) qH (by decide) (by decide)) qH (by decide)) (by lia) (by lia) (by decide) (by decide)) (by decide)) fun _ _ =>
      qK (qBV (qEj (k:=5) (qAP qH (qY (qW (qF rfl) qH (by decide) (by decide)) qH (by decide))) (by lia) (by lia) (by decide) (by decide)) (by decide)) fun _ _=>qK (lit (by decide +kernel)) fun _ _=>qK (lit (by decide +kernel)) fun _ _=>qAE) (by decide) fun ys s3 e3 ts3 x3=>?_)
    refine qQH rfl (qLA (B:=24) (zs:=ys) (k:=s3.length) (v:=r / 7%6) (qF rfl) qU (qY (qF rfl) qH (by decide)) ts3 (by lia) (by rw [e3];lia)) (xs:=zs.map .str) (qAd (x3 _ _ e)) (by rw [List.length_map];lia) fun z s4 tz x4=>?_
    k_dat 0"r28"
    have x5:qP st s4:=x2.trans (x3.trans ((qP.app _ _).trans x4))
    have e4:s4[st.length]? = some (.rw (zs.map .str)):=x4 _ _ (qAd (x3 _ _ e))
    refine⟨by lia,qFJ x5 (Nat.le_refl _),_,_,_,zs++[z],rfl,?_,by rw [List.length_append,l];rfl,fun y hy=>?_⟩
    · rw [List.getElem?_set_self (List.getElem?_eq_some_iff.mp e4).1,List.map_append];rfl
    · rcases List.mem_append.mp hy with q | q
      · exact ts y q
      · rw [List.mem_singleton.mp q];exact tz
  · rintro ρ s2 ⟨_,x2,r,b,d,zs,rfl,e,l,ts⟩
    rw [qFr] at l
    show fr1 _ (FR c r (some (.lst st.length)) b d none) s2
    exact rdR (qHD (m:=7) (qF rfl) e ts (by lia) (by decide)) (hP _ s2 ((qJV (m:=7) ts (by lia)).mono (by decide)) x2)
end K03
namespace K03
open PySem PySem.Spec PyProof.Rows L2 L3
open K02 (cs one fig qAA qJ qAJ qAM qg qV qT wordAt)
abbrev fg3:TSD:=(tseq (qi (qN (qD (qAe fun i j=>decide (j<i)) (qE 2) (qE 1))) (tseq (qo (qC Dt.non)) qM) qM) (tseq (qo (qE 2)) qM))
abbrev fgb:TSD:=(tseq (qi (qN (qD (qBj true) (qE 3) (qC (Dt.str "0123456789")))) (tseq (qo (qC Dt.non)) qM) qM) (tseq (qZ (qD L3.qa (qD qBb (qC (Dt.int 10)) (qE 2)) (qMU (qC (Dt.str "0123456789")) (qE 3))) (qR 2)) qM))
abbrev fg1:TSD:=(tseq (qZ (qC (Dt.int 0)) (qR 2)) (tseq (qDE (qMk (qE 0)) (qR 3) fgb) fg3))
abbrev qAn:TSD:=(tseq (qi (qBG (qN (qD (qAe fun i j=>decide (i<j)) (qI qAO (qA (qE 0) qG)) (qC (Dt.int 1)))) (qBG (qN (qD (qAe fun i j=>decide (j<i)) (qI qAO (qA (qE 0) qG)) (qC (Dt.int 5)))) (qBa (qN (qD (qc false) (qD qX (qE 0) (qC (Dt.int 0))) (qC (Dt.str "0")))) (qN (qD (qc true) (qE 0) (qC (Dt.str "0"))))))) (tseq (qo (qC Dt.non)) qM) qM) fg1)
abbrev rg5:TSD:=(tseq (qo (qD L3.qa (qD L3.qa (qD L3.qa (qD qBb (qC (Dt.int 4096)) (qBz (qI K01.qv qG) (qD qX (qE 1) (qC (Dt.int 0))))) (qD qBb (qC (Dt.int 512)) (qD qX (qE 2) (qC (Dt.int 0))))) (qD qBb (qC (Dt.int 64)) (qD qX (qE 2) (qC (Dt.int 1))))) (qD qX (qE 2) (qC (Dt.int 2))))) qM)
abbrev rg4:TSD:=(tseq (qi (qN (qD (qBj false) (qC Dt.non) (qE 2))) (tseq (qo (qC Dt.non)) qM) qM) rg5)
abbrev rg3:TSD:=(tseq (qZ (qj (qA (qI K03.qC8 (qA (qD qX (qE 1) (qC (Dt.int 1))) (qA (qC (Dt.int 7)) qG))) (qA (qI K03.qC8 (qA (qD qX (qE 1) (qC (Dt.int 2))) (qA (qC (Dt.int 7)) qG))) (qA (qI K03.qC8 (qA (qD qX (qE 1) (qC (Dt.int 3))) (qA (qC (Dt.int 63)) qG))) qG)))) (qR 2)) rg4)
abbrev rg2:TSD:=(tseq (qi (qBG (qN (qD (qc true) (qI qAO (qA (qE 1) qG)) (qC (Dt.int 4)))) (qN (qD (qBj true) (qD qX (qE 1) (qC (Dt.int 0))) (qI K01.qv qG)))) (tseq (qo (qC Dt.non)) qM) qM) rg3)
abbrev rg1:TSD:=(tseq (qi (qBa (qN (qD (qc false) (qI qAO (qA (qE 1) qG)) (qC (Dt.int 2)))) (qN (qD (qc false) (qD qX (qE 1) (qC (Dt.int 0))) (qC (Dt.str "cell"))))) (tseq (qo (qI K03.qC8 (qA (qD qX (qE 1) (qC (Dt.int 1))) (qA (qC (Dt.int 65535)) qG)))) qM) qM) rg2)
abbrev qAr:TSD:=(tseq (qZ (qC5 (qE 0) (qC (Dt.str " "))) (qR 1)) rg1)
theorem none_of {z:Str} {g:Nat} (h:qAJ (cs z)=false):qJ z g=none:=by unfold qJ;rw [h];rfl
theorem g5 {g:Nat} (h:g≤65535):(qAA g).length≤5:=K02.qCg (by decide) (by lia)
theorem qJS {z:Str} {g:Nat} (h:qAJ (cs z)=true):qJ z g=if qAM (cs z)≤g then some (qAM (cs z)) else none:=by
  unfold qJ
  rw [h]
  by_cases q:qAM (cs z)≤g
  · have:(cs z).length≤(qAA g).length:=by
      have:=K02.qEb q
      rw [K02.qEh h] at this
      exact this
    rw [if_pos q,decide_eq_true this,decide_eq_true q];rfl
  · rw [if_neg q,decide_eq_false q];simp
theorem qIu (c:Nat) (h:qg c=true):qHg ("0123456789" : Str) ⟨#[c]⟩=((c - 48:Nat):Int):=by
  unfold qg at h
  simp at h
  obtain⟨k,rfl,hk⟩:∃ k,c=48+k∧k<10:=⟨c - 48,by lia,by lia⟩
  rcases k with _ | _ | _ | _ | _ | _ | _ | _ | _ | _ | k<;>first | decide +kernel | lia
theorem qKk {l:List Nat} {i c:Nat} (h:l[i]? = some c):qAM (l.take (i+1))=qAM (l.take i) * 10+(c - 48):=by
  rw [List.take_add_one,h]
  exact NumText.digitsVal_snoc _ _
theorem qMX:∀ (l:List Nat) (a:Nat),(∀ c∈l,qg c=true)→l.foldl (fun acc c=>acc * 10+(c - 48)) a<(a+1) * 10 ^ l.length
  | [],a,_=>by simp
  | c::r,a,h=>by
    have h2:=h c (by simp)
    unfold qg at h2
    simp at h2
    have h1:=qMX r (a * 10+(c - 48)) fun d hd=>h d (List.mem_cons_of_mem _ hd)
    refine Nat.lt_of_lt_of_le h1 ?_
    rw [List.length_cons,Nat.pow_succ,Nat.mul_comm (10 ^ r.length) 10,← Nat.mul_assoc]
    exact Nat.mul_le_mul_right _ (by lia)
theorem qO7 (l:List Nat) (h:∀ c∈l,qg c=true):qAM l<10 ^ l.length:=by
  have:=qMX l 0 h
  rw [Nat.zero_add,Nat.one_mul] at this
  exact this
theorem qDG {ds:List Dt} {st:Sto} {Pd:VD} (h:qC8 ds st Pd):qAn (Ed Pd) (qe ["word", "most", "number", "sign"] ds) st:=by
  obtain⟨z,g,rfl,⟨B,hB,hT⟩,hg,hP⟩:=h
  have hg':g≤65535:=by lia
  have hl:z.length≤100000:=by have:=hT.l;lia
  have sz:z.length≤sizeLine:=by rw [sizeLine_eq];lia
  have hP:=hP st (.refl _)
  have lc:=K02.qBA z
  show qAn (Ed Pd) [some (.str z),some (.int (g:Int)),none,none] st
  have e0:EvB (qBa (qN (qD (qc false) (qD qX (qE 0) (qC (Dt.int 0))) (qC (Dt.str "0")))) (qN (qD (qc true) (qE 0) (qC (Dt.str "0"))))) [some (.str z),some (.int (g:Int)),none,none] st ((cs z).head? == some 48&&(cs z) != [48])∨(cs z)=[]:=by
    cases ez:cs z with
    | nil=>exact .inr rfl
    | cons c r =>
      refine .inl ?_
      rw [← ez,show ((cs z).head? == some 48)=(c==48) by rw [ez];rfl]
      have e1:EvB (qN (qD (qc false) (qD qX (qE 0) (qC (Dt.int 0))) (qC (Dt.str "0")))) [some (.str z),some (.int (g:Int)),none,none] st (c==48):=by
        rw [← K02.qCt ez]
        refine evb (qKd fun P hp=>⟨sz,?_⟩)
        rw [show L2.atI z.cps.toList 0=some c from qPH (by rw [show z.cps.toList=c::r from ez];rfl)]
        exact hp
      have e2:EvB (qN (qD (qc true) (qE 0) (qC (Dt.str "0")))) [some (.str z),some (.int (g:Int)),none,none] st ((cs z) != [48]):=by
        rw [← K02.ne_zero]
        exact evb (qNX (qF rfl))
      exact qHn e1 fun _=>e2
  refine qh (b:=decide (z.length<1) || (decide (5<z.length) || ((cs z).head? == some 48&&(cs z) != [48]))) ?_ (fun q=>?_) fun q=>?_
  · have n1:decide (((z.length:Nat):Int)<1)=decide (z.length<1):=by by_cases e:z.length<1<;>simp [e]<;>lia
    have n2:decide ((5:Int)<((z.length:Nat):Int))=decide (5<z.length):=by by_cases e:5<z.length<;>simp [e]<;>lia
    refine qC4 (by rw [← n1];exact evb (qKJ (qHK (qF rfl) hl) qH)) fun q=>qC4 (by rw [← n2];exact evb (qKU (qHK (qF rfl) hl) qH)) fun _=>?_
    rcases e0 with e0 | e0
    · exact e0
    · have:z.length=0:=by rw [← lc,e0];rfl
      rw [this] at q;cases q
  · have hn:qJ z g=none:=by
      rcases (Bool.or_eq_true _ _).mp q with q | q
      · k_dat 0"r13"
        refine none_of ?_
        have:cs z=[]:=List.length_eq_zero_iff.mp (by lia)
        rw [this];rfl
      · rcases (Bool.or_eq_true _ _).mp q with q | q
        · k_dat 0"r13"
          unfold qJ
          have:=g5 hg'
          rw [decide_eq_false (show ¬ (cs z).length≤(qAA g).length by lia)]
          simp
        · refine none_of ?_
          unfold qAJ
          rw [q];simp
    rw [hn] at hP
    exact hP
  · obtain⟨q1,q⟩:=Bool.or_eq_false_iff.mp q
    obtain⟨q2,q3⟩:=Bool.or_eq_false_iff.mp q
    have q1:=of_decide_eq_false q1
    have q2:=of_decide_eq_false q2
    refine qz ?_
    refine seq1 ?_
    show (z.cps.all fun c=>decide (c<128))=true∧qIc (qAS z) (fun _=>True) (qR 3) fgb _ _ _
    refine⟨hT.asc,fun i ρ s=>(∃ a,ρ=[some (.str z),some (.int (g:Int)),some (.int ((qAM ((cs z).take i):Nat):Int)),a])∧s=st∧∀ c∈(cs z).take i,qg c=true,⟨⟨_,rfl⟩,rfl,fun _ h=>nomatch h⟩,fun _ _ _ _ _=>trivial,?_,?_⟩
    · rintro i d ρ s hd ⟨⟨a,rfl⟩,rfl,hdig⟩
      obtain⟨c,hc,rfl⟩:∃ c,(cs z)[i]? = some c∧d = .str ⟨#[c]⟩:=by
        unfold qAS at hd
        rw [List.getElem?_map] at hd
        cases e:z.cps.toList[i]? with
        | none=>rw [e] at hd;cases hd
        | some c=>rw [e] at hd;exact⟨c,rfl,(Option.some.inj hd).symm⟩
      show fgb _ [some (.str z),some (.int (g:Int)),some (.int ((qAM ((cs z).take i):Nat):Int)),some (.str ⟨#[c]⟩)] s
      refine qh (b:=!qg c) (fun P hp=>?_) (fun q=>?_) fun q=>?_
      · show P ((!(Builtin.Str.occurrences ("0123456789" : Str) ⟨#[c]⟩ 0 ("0123456789" : Str).length 1).isEmpty) != true) s
        rw [K02.qHi];exact hp
      · have hn:qJ z g=none:=by
          refine none_of ?_
          unfold qAJ
          have:(cs z).all qg=false:=by
            rw [List.all_eq_false]
            exact⟨c,List.mem_of_getElem? hc,by simpa using q⟩
          rw [this];simp
        rw [hn] at hP
        exact hP
      · have hc1:qg c=true:=by simpa using q
        have dl:=qO7 _ hdig
        have tl:((cs z).take i).length≤5:=by rw [List.length_take];lia
        have d5:qAM ((cs z).take i)<10 ^ 5:=Nat.lt_of_lt_of_le dl (Nat.pow_le_pow_right (by decide) tl)
        refine qz ?_
        show qFM 10 _∧_
        refine⟨.inl ⟨by decide,by decide⟩,_,rfl,⟨_,rfl,?_⟩⟩
        refine⟨⟨some (.str ⟨#[c]⟩),?_⟩,rfl,fun x hx=>?_⟩
        · rw [qKk hc,qIu c hc1]
          show [_,_,some (Dt.int (10 * ((qAM ((cs z).take i):Nat):Int)+((c - 48:Nat):Int))),_]=_
          congr 4
          push_cast
          lia
        · rw [List.take_add_one,hc] at hx
          rcases List.mem_append.mp hx with r | r
          · exact hdig x r
          · have:x=c:=by simpa using r
            rw [this];exact hc1
    · rintro ρ s ⟨⟨a,rfl⟩,rfl,hdig⟩
      have e:(qAS z).length=(cs z).length:=by simp [qAS]
      rw [e,List.take_length] at hdig ⊢
      have ok:qAJ (cs z)=true:=by
        unfold qAJ
        rw [q3,List.all_eq_true.mpr hdig]
        have:(cs z).isEmpty=false:=by
          cases ez:cs z with
          | nil=>rw [ez] at lc;exfalso;have:z.length=0:=lc.symm;lia
          | cons _ _=>rfl
        rw [this];rfl
      rw [qJS ok] at hP
      show fg3 (Ed Pd) [some (.str z),some (.int (g:Int)),some (.int ((qAM (cs z):Nat):Int)),a] s
      have n3:decide ((g:Int)<((qAM (cs z):Nat):Int)) = !decide (qAM (cs z)≤g):=by by_cases e:qAM (cs z)≤g<;>simp [e]<;>lia
      refine qh (b:=!decide (qAM (cs z)≤g)) (by rw [← n3];exact evb (qKU (qF rfl) (qF rfl))) (fun q=>?_) fun q=>?_
      · rw [if_neg (by simpa using q)] at hP
        exact hP
      · rw [if_pos (by simpa using q)] at hP
        exact rdR (qF rfl) hP
end K03
namespace K03
open PySem PySem.Spec PyProof.Rows L2 L3
open K02 (cs one fig qAA qJ qAJ qAM qg qV qT wordAt)
noncomputable abbrev RG (z:Str) (n:Nat) (a:Option Dt):Rho:=[some (.str z),some (.lst n),a]
section
variable {st s:Sto} {z:Str} {n:Nat} {a:Option Dt} {ps:List Str} {Pd:VD}
theorem qKg {ρ:Rho} {te:TD} {xs:List Dt} (h:Ev te ρ s (.lst n)) (e:s[n]? = some (.rw xs)):Ev (qI qAO (qA te qG)) ρ s (.int (xs.length:Nat)):=fun P hp=>h _ (by
  show (match (s[n]?).map SO.items with
    | some xs=>P (.int xs.length) s
    | none=>False)
  rw [e]
  exact hp)
theorem qM4 {ρ:Rho} {ta tb:TD} {x y:Int} (h:Ev ta ρ s (.int x)) (h2:Ev tb ρ s (.int y)):Ev (qD (qc true) ta tb) ρ s (.bl (!decide (x=y))):=fun P hp=>h _ (h2 _ ⟨rfl,rfl,by
  show P (.bl ((x==y) != true)) s
  have:((x==y) != true) = !decide (x=y):=by by_cases q:x=y<;>simp [q]
  rw [this];exact hp⟩)
theorem qKc (e:s[n]? = some (.rw (ps.map .str))):Ev (qI qAO (qA (qE 1) qG)) (RG z n a) s (.int (ps.length:Nat)):=by
  have:=qKg (qF (ρ:=RG z n a) (i:=1) rfl) e
  rw [List.length_map] at this
  exact this
theorem qDn (e:s[n]? = some (.rw (ps.map .str))) {i:Nat} {p:Str} (h:ps[i]? = some p):Ev (qD qX (qE 1) (qC (Dt.int (i:Int)))) (RG z n a) s (.str p):=fun P hp=>qF rfl _ (by
  show (match (s[n]?).map SO.items with
    | some xs=>(match L2.atI xs (i:Int) with
      | some d=>P d _
      | none=>False)
    | none=>False)
  rw [e]
  show (match L2.atI (ps.map Dt.str) (i:Int) with
      | some d=>P d _
      | none=>False)
  rw [atN (d:=.str p) (by rw [List.getElem?_map,h];rfl)]
  exact hp)
theorem qHl {g:Nat} {p:Str} {te:TD} {ρ:Rho} (h:Ev te ρ s (.str p)) (tp:T 600 p) (hg:g=7∨g=63∨g=65535):EvX (qI K03.qC8 (qA te (qA (qC (Dt.int (g:Int))) qG))) ρ s (qV (qJ p g)):=fun P hp=>h _ ⟨p,g,rfl,⟨600,by decide,tp⟩,hg,hp⟩
theorem qJ7 {w:Str} {k:Nat} (h:wordAt w=some k):K01.q8.findIdx? (fun z=>eqD 0 z (.str w))=some k:=by
  unfold wordAt at h
  unfold K01.q8
  rw [List.findIdx?_map]
  exact h
theorem qOH {ρ:Rho} {te:TD} {w:Str} {k:Nat} (h:∀ s',qP s s'→Ev te ρ s' (.str w)) (hk:wordAt w=some k):EvX (qBz (qI K01.qv qG) te) ρ s (.int (k:Nat)):=fun P hp=>⟨rfl,fun s1 j x1 hj=>⟨j,rfl,h s1 x1 _ ⟨_,k,hj,rfl,by decide,qJ7 hk,hp s1 x1⟩⟩⟩
theorem qNa {ρ:Rho} {te:TD} {c x:Int} (h:EvX te ρ s (.int x)) (hc:qFM c x):EvX (qD qBb (qC (.int c)) te) ρ s (.int (c * x)):=fun P hp=>h _ fun s1 x1=>⟨hc,hp s1 x1⟩
theorem qJj {ρ:Rho} {ta tb:TD} {x y:Int} (h:EvX ta ρ s (.int x)) (h2:∀ s',qP s s'→Ev tb ρ s' (.int y)):EvX (qD L3.qa ta tb) ρ s (.int (x+y)):=fun P hp=>h _ fun s1 x1=>h2 s1 x1 _ (hp s1 x1)
theorem qGz {z:Str} {g n:Nat} (h:qJ z g=some n):n<100000∨100000≤g:=by
  unfold qJ at h
  split at h
  · rename_i q
    cases h
    simp at q
    lia
  · cases h
theorem qMy {w:Str} {k x y u m:Nat} (e:s[n]? = some (.rw (ps.map .str))) (hw:ps[0]? = some w) (hk:wordAt w=some k) (e2:s[m]? = some (.rw [.int (x:Nat),.int (y:Nat),.int (u:Nat)])) (hb:x<100000∧y<100000∧u<100000) (hP:∀ s',qP s s'→Pd (.int ((k * 4096+x * 512+y * 64+u:Nat):Int)) s'):rg5 (Ed Pd) (RG z n (some (.lst m))) s:=by
  have k16:=(K02.qDW hk).1
  have at2:∀ {s':Sto} {i:Nat} {v:Nat},qP s s'→([Dt.int (x:Nat),.int (y:Nat),.int (u:Nat)])[i]? = some (.int (v:Nat))→Ev (qD qX (qE 2) (qC (Dt.int (i:Int)))) (RG z n (some (.lst m))) s' (.int (v:Nat)):=fun {s' i v} x' h P hp=>qF rfl _ (by
    show (match (s'[m]?).map SO.items with
      | some xs=>(match L2.atI xs (i:Int) with
        | some d=>P d _
        | none=>False)
      | none=>False)
    rw [x' _ _ e2]
    show (match L2.atI [Dt.int (x:Nat),.int (y:Nat),.int (u:Nat)] (i:Int) with
        | some d=>P d _
        | none=>False)
    rw [atN h]
    exact hp)
  refine rdX (qJj (qJj (qJj (qNa (qOH (fun s' x'=>qDn (i:=0) (x' _ _ e) hw) hk) (.inl ⟨by decide,by decide⟩)) fun s' x'=>qDd qH (at2 (i:=0) (v:=x) x' rfl) (.inl ⟨by decide,by decide⟩)) fun s' x'=>qDd qH (at2 (i:=1) (v:=y) x' rfl) (.inl ⟨by decide,by decide⟩)) fun s' x'=>at2 (i:=2) (v:=u) x' rfl) fun s1 x1=>?_
  have:=hP s1 x1
  rw [show ((k * 4096+x * 512+y * 64+u:Nat):Int)=4096 * (k:Int)+512 * (x:Int)+64 * (y:Int)+(u:Int) by push_cast;lia] at this
  exact this
end
theorem in_words {ρ:Rho} {s:Sto} {te:TD} {w:Str} (h:∀ s',qP s s'→Ev te ρ s' (.str w)) (P:Bool→Sto→Prop) (hp:∀ s',qP s s'→P (!(wordAt w).isSome) s'):qN (qD (qBj true) te (qI K01.qv qG)) ρ s P:=by
  simp only [qN,qD,qI,qG]
  refine h s (.refl _) _ ⟨rfl,fun s1 j x1 hj=>?_⟩
  show (match (s1[j]?).map SO.items with
    | some xs=>okD 0 (.str w)=true∧xs.all (okD 0)=true∧P (xs.any (fun z=>eqD 0 z (.str w)) != true) s1
    | none=>False)
  rw [hj]
  refine⟨rfl,by decide,?_⟩
  show P (K01.q8.any (fun z=>eqD 0 z (.str w)) != true) s1
  rw [K02.qH3]
  have:=hp s1 x1
  rw [show ((wordAt w).isSome != true) = !(wordAt w).isSome by cases (wordAt w).isSome<;>rfl]
  exact this
theorem qDH {ds:List Dt} {st:Sto} {Pd:VD} (h:qB0 ds st Pd):qAr (Ed Pd) (qe ["row", "parts", "numbers"] ds) st:=by
  obtain⟨z,rfl,tz,hP⟩:=h
  show qAr (Ed Pd) [some (.str z),none,none] st
  refine qz ?_
  have tl:=tz.l
  have hsp:=K02.split_len z (one 32)
  show ((Str.ofString " ").length==0)=false∧z.length≤sizeLine∧(Txt.split z (Str.ofString " ")).length≤sizeLine∧(Builtin.Str.partsBetween z (Builtin.Str.occurrences z (Str.ofString " ") 0 z.length (z.length+1)) (Str.ofString " ").length).length≤sizeLine∧_
  rw [K02.qDM]
  refine⟨rfl,by rw [sizeLine_eq];lia,by rw [sizeLine_eq];lia,by have:=K02.qAQ z (one 32);rw [sizeLine_eq];lia,?_⟩
  have hT:∀ p∈Txt.split z (one 32),T 600 p:=fun p hp=>qMn tz hp
  have hP:∀ st',qP st st'→Pd (qV (match Txt.split z (one 32) with
    | [w,n]=>if w==("cell" : Str) then qJ n 65535 else none
    | [w,a,b,c]=>(match wordAt w with
      | some k=>(match qJ a 7,qJ b 7,qJ c 63 with
        | some a,some b,some c=>some (k * 4096+a * 512+b * 64+c)
        | _,_,_=>none)
      | none=>none)
    | _=>none)) st':=hP
  generalize Txt.split z (one 32)=ps at hT hP hsp
  have e:(st++[SO.rw (ps.map .str)])[st.length]? = some (.rw (ps.map .str)):=qU
  have x0:qP st (st++[SO.rw (ps.map .str)]):=.app _ _
  generalize st++[SO.rw (ps.map .str)]=s at e x0
  generalize st.length=n at e
  show rg1 (Ed Pd) (RG z n none) s
  have dl:∀ m:Nat,decide (((ps.length:Nat):Int)=(m:Int))=decide (ps.length=m):=fun m=>by by_cases q:ps.length=m<;>simp [q]<;>lia
  have c1:EvB (qBa (qN (qD (qc false) (qI qAO (qA (qE 1) qG)) (qC (Dt.int 2)))) (qN (qD (qc false) (qD qX (qE 1) (qC (Dt.int 0))) (qC (Dt.str "cell"))))) (RG z n none) s (decide (ps.length=2)&&(ps.headD "" == ("cell" : Str))):=by
    refine qHn (by rw [← dl 2];exact evb (qBS (qKc e) qH)) fun q=>evb (qKd (qDn (i:=0) e ?_))
    k_dat 0"r13"
    cases ps with
    | nil=>cases q
    | cons p r=>rfl
  refine qh c1 (fun q=>?_) fun q=>?_
  · obtain⟨q1,q2⟩:=(Bool.and_eq_true _ _).mp q
    have q1:=of_decide_eq_true q1
    obtain⟨w,p,rfl⟩:∃ w p,ps=[w,p]:=by
      rcases ps with _ | ⟨w,_ | ⟨p,_ | ⟨y,r⟩⟩⟩
      · cases q1
      · cases q1
      · exact⟨w,p,rfl⟩
      · simp at q1
    have q2:(w==("cell" : Str))=true:=q2
    refine rdX (qHl (g:=65535) (qDn (i:=1) e rfl) (hT p (by simp)) (.inr (.inr rfl))) fun s1 x1=>?_
    have:=hP s1 (x0.trans x1)
    simp only [q2,if_true] at this
    exact this
  · have d2 : EvB (qN (qD (qc true) (qI qAO (qA (qE 1) qG)) (qC (Dt.int 4)))) (RG z n none) s (!decide (ps.length=4)):=by rw [← dl 4];exact evb (qM4 (qKc e) qH)
    show rg2 (Ed Pd) (RG z n none) s
    by_cases h4:ps.length=4
    · obtain⟨w,p1,p2,p3,rfl⟩:∃ w p1 p2 p3,ps=[w,p1,p2,p3]:=by
        rcases ps with _ | ⟨w,_ | ⟨p1,_ | ⟨p2,_ | ⟨p3,_ | ⟨y,r⟩⟩⟩⟩⟩
        · cases h4
        · cases h4
        · cases h4
        · cases h4
        · exact⟨w,p1,p2,p3,rfl⟩
        · simp at h4
      have cond:∀ P:Bool→Sto→Prop,(∀ s',qP s s'→P (!(wordAt w).isSome) s')→qBG (qN (qD (qc true) (qI qAO (qA (qE 1) qG)) (qC (Dt.int 4)))) (qN (qD (qBj true) (qD qX (qE 1) (qC (Dt.int 0))) (qI K01.qv qG))) (RG z n none) s P:=fun P hp=>d2 _ (by
        rw [decide_eq_true h4]
        exact qB8 (in_words (fun s' x'=>qDn (i:=0) (x' _ _ e) rfl) P hp))
      refine seq1 ?_
      unfold qi
      refine cond _ fun s1 x1=>?_
      cases hw:wordAt w with
      | none =>
        refine qBw ?_
        have:=hP s1 (x0.trans x1)
        simp only [hw] at this
        exact this
      | some k =>
        refine qB8 ?_
        show rg3 (Ed Pd) (RG z n none) s1
        refine qz ?_
        refine qHl (g:=7) (qDn (i:=1) (x1 _ _ e) rfl) (hT p1 (by simp)) (.inl rfl) _ fun s2 x2=>?_
        refine qHl (g:=7) (qDn (i:=2) (x2 _ _ (x1 _ _ e)) rfl) (hT p2 (by simp)) (.inl rfl) _ fun s3 x3=>?_
        refine qHl (g:=63) (qDn (i:=3) (x3 _ _ (x2 _ _ (x1 _ _ e))) rfl) (hT p3 (by simp)) (.inr (.inl rfl)) _ fun s4 x4=>?_
        refine⟨by show 3≤sizeLine;decide,?_⟩
        have e4:(s4++[SO.rw [qV (qJ p1 7),qV (qJ p2 7),qV (qJ p3 63)]])[s4.length]? = some (.rw [qV (qJ p1 7),qV (qJ p2 7),qV (qJ p3 63)]):=qU
        have x5:qP s (s4++[SO.rw [qV (qJ p1 7),qV (qJ p2 7),qV (qJ p3 63)]]):=x1.trans (x2.trans (x3.trans (x4.trans (.app _ _))))
        generalize s4++[SO.rw [qV (qJ p1 7),qV (qJ p2 7),qV (qJ p3 63)]]=s5 at e4 x5
        generalize s4.length=m at e4
        show rg4 (Ed Pd) (RG z n (some (.lst m))) s5
        have nc:EvB (qN (qD (qBj false) (qC Dt.non) (qE 2))) (RG z n (some (.lst m))) s5 ((qJ p1 7).isNone || ((qJ p2 7).isNone || (qJ p3 63).isNone)):=fun P hp=>by
          show (match (s5[m]?).map SO.items with
            | some xs=>okD 0 .non=true∧xs.all (okD 0)=true∧P (xs.any (fun z=>eqD 0 z .non) != false) s5
            | none=>False)
          rw [e4]
          show okD 0 .non=true∧([qV (qJ p1 7),qV (qJ p2 7),qV (qJ p3 63)]).all (okD 0)=true∧P (([qV (qJ p1 7),qV (qJ p2 7),qV (qJ p3 63)]).any (fun z=>eqD 0 z .non) != false) s5
          cases h1:qJ p1 7<;>cases h2:qJ p2 7<;>cases h3:qJ p3 63<;>rw [h1,h2,h3] at hp<;>exact⟨rfl,rfl,hp⟩
        have hP5:=hP s5 (x0.trans x5)
        simp only [hw] at hP5
        refine qh nc (fun q=>?_) fun q=>?_
        · have:(match qJ p1 7,qJ p2 7,qJ p3 63 with
            | some a,some b,some c=>some (k * 4096+a * 512+b * 64+c)
            | _,_,_=>none)=none:=by
            cases h1:qJ p1 7<;>cases h2:qJ p2 7<;>cases h3:qJ p3 63<;>rw [h1,h2,h3] at q<;>first | rfl | cases q
          rw [this] at hP5
          exact hP5
        · obtain⟨a,h1⟩:∃ a,qJ p1 7=some a:=by cases h1:qJ p1 7 with | none=>rw [h1] at q;cases q | some a=>exact⟨a,rfl⟩
          obtain⟨b,h2⟩:∃ a,qJ p2 7=some a:=by cases h2:qJ p2 7 with | none=>rw [h1,h2] at q;cases q | some a=>exact⟨a,rfl⟩
          obtain⟨c,h3⟩:∃ a,qJ p3 63=some a:=by cases h3:qJ p3 63 with | none=>rw [h1,h2,h3] at q;cases q | some a=>exact⟨a,rfl⟩
          have hP6:∀ s',qP s5 s'→Pd (.int ((k * 4096+a * 512+b * 64+c:Nat):Int)) s':=fun s' x'=>by
            have:=hP s' (x0.trans (x5.trans x'))
            simp only [hw,h1,h2,h3] at this
            exact this
          rw [h1,h2,h3] at e4
          exact qMy (ps:=[w,p1,p2,p3]) (x5 _ _ e) rfl hw e4 ⟨(qGz h1).resolve_right (by decide),(qGz h2).resolve_right (by decide),(qGz h3).resolve_right (by decide)⟩ hP6
    · refine qh (b:=true) (fun P hp=>d2 _ (by rw [decide_eq_false h4];exact qBw hp)) (fun _=>?_) fun q=>by cases q
      have:=hP s x0
      have e5:(match ps with
    | [w,n]=>if w==("cell" : Str) then qJ n 65535 else none
    | [w,a,b,c]=>(match wordAt w with
      | some k=>(match qJ a 7,qJ b 7,qJ c 63 with
        | some a,some b,some c=>some (k * 4096+a * 512+b * 64+c)
        | _,_,_=>none)
      | none=>none)
    | _ => none)=none:=by
        rcases ps with _ | ⟨w,_ | ⟨p1,_ | ⟨p2,_ | ⟨p3,_ | ⟨y,r⟩⟩⟩⟩⟩
        · rfl
        · rfl
        · have q:(w==("cell" : Str))=false:=by simpa using q
          simp only [q,Bool.false_eq_true,if_false]
        · rfl
        · exact absurd rfl h4
        · rfl
      rw [e5] at this
      exact this
end K03
namespace K03
open PySem PySem.Spec PyProof.Rows L2 L3
open K02 (cs one fig qAA qJ qAJ qAM qg qV qT wordAt qEE split_len qAQ qCp Asc)
abbrev qHG:TSD:=(tseq (qZ (qj qG) (qR 1)) (tseq (qDE (qKP (qC5 (qE 0) (qC (Dt.str "\n")))) (qCc 2 (qCu (qR 2) (qCu (qR 3) qGX))) (tseq (qZ (qI K02.qD2 (qA (qE 3) qG)) (qR 4)) (tseq (qi (qN (qD (qEQ false) (qE 4) (qC Dt.non))) (tseq (qH5 (qA (qE 2) qG)) qM) qM) (tseq (qDi (qAj (qE 1) (qE 4))) qM)))) (tseq (qMP (qI qBs (qA (qE 1) qG))) qM)))
theorem qDQ {l:List (Option Nat)} {i:Nat} (h:∀ j,j<i→∃ n,l[j]? = some (some n)) (hi:l[i]? = some none):fb l=some (i+1):=by
  have hl:=(List.getElem?_eq_some_iff.mp hi).1
  unfold fb
  rw [List.findIdx?_eq_some_iff_getElem.mpr ⟨hl,by rw [(List.getElem?_eq_some_iff.mp hi).2];rfl,fun j hj=>by
    obtain⟨n,hn⟩:=h j hj
    rw [(List.getElem?_eq_some_iff.mp hn).2];simp⟩]
  rfl
theorem qLr {l:List (Option Nat)} (h:∀ j,j<l.length→∃ n,l[j]? = some (some n)):fb l=none:=by
  unfold fb
  rw [List.findIdx?_eq_none_iff.mpr fun x hx=>by
    obtain⟨j,hj,rfl⟩:=List.getElem_of_mem hx
    obtain⟨n,hn⟩:=h j hj
    rw [(List.getElem?_eq_some_iff.mp hn).2];rfl]
  rfl
theorem qLJ {ds:List Dt} {st:Sto} {Pd:VD} (h:qB1 ds st Pd):qHG (Ed Pd) (qe ["text", "cells", "row", "line", "number"] ds) st:=by
  obtain⟨z,rfl,⟨ha,hl⟩,hP⟩:=h
  have hs:sizeLine=1048576∨200000<sizeLine:=.inr (by decide)
  have hl':z.length+2≤sizeLine:=by rw [sizeLine_eq];lia
  obtain⟨ls,els⟩:∃ ls,Txt.split z (one 10)=ls:=⟨_,rfl⟩
  unfold qHb nums at hP
  rw [els] at hP
  have hA:∀ p∈ls,Asc p∧p.length+2≤sizeLine:=fun p hp=>by
    rw [← els] at hp
    obtain⟨h1,h2⟩:=qEE ha hp
    exact⟨h1,by lia⟩
  have hll:ls.length≤z.length+2:=by rw [← els];exact split_len _ _
  show qHG (Ed Pd) [some (.str z),none,none,none,none] st
  refine qz ?_
  refine⟨Nat.zero_le _,?_⟩
  show tseq _ _ (Ed Pd) (K02.RR z st.length none none none) (st++[SO.rw []])
  refine seq1 ?_
  show ((Str.ofString "\n").length==0)=false∧z.length≤sizeLine∧(Txt.split z (Str.ofString "\n")).length≤sizeLine∧_∧_
  rw [qCp,els]
  refine⟨rfl,by lia,by lia,Nat.le_trans (qAQ _ _) hl',?_⟩
  have hn:((st++[SO.rw []])++[SO.rw (ls.map .str)])[(st++[SO.rw []]).length]? = some (.rw (ls.map .str)):=qU
  show (match ((st++[SO.rw []])++[SO.rw (ls.map .str)])[(st++[SO.rw []]).length]? with
    | some o=>qIc (qAf 1 o.items) (fun st'=>(st'[(st++[SO.rw []]).length]?).map SO.items=some o.items) _ _ _ _ _
    | none=>False)
  rw [hn]
  refine⟨fun i ρ s=>(∃ a b d,ρ=K02.RR z st.length a b d)∧qP st s∧s[st.length]? = some (.rw (((ls.map qT).take i).map qV))∧s[(st++[SO.rw []]).length]? = some (.rw (ls.map .str))∧∀ j,j<i→∃ n,(ls.map qT)[j]? = some (some n),?_,?_,?_,?_⟩
  · exact⟨⟨none,none,none,rfl⟩,(qP.app _ _).trans (.app _ _),qAd qU,hn,fun j hj=>by lia⟩
  · rintro i ρ s hi ⟨_,_,_,h,_⟩
    rw [h];rfl
  · rintro i d ρ s hd ⟨⟨a,b,e,rfl⟩,hx,hc,hlx,hall⟩
    obtain⟨d',ed,rfl⟩:=qCQ hd
    obtain⟨p,hp,rfl⟩:∃ p,ls[i]? = some p∧d' = .str p:=by
      have ed:(ls.map Dt.str)[i]? = some d':=ed
      rw [List.getElem?_map] at ed
      cases q:ls[i]? with
      | none=>rw [q] at ed;cases ed
      | some p=>rw [q] at ed;exact⟨p,rfl,(Option.some.inj ed).symm⟩
    have hi:i<ls.length:=(List.getElem?_eq_some_iff.mp hp).1
    have hpi:(ls.map qT)[i]? = some (qT p):=by rw [List.getElem?_map,hp];rfl
    have hpA:=hA p (List.mem_of_getElem? hp)
    refine⟨rfl,?_⟩
    simp only [qCu,qR,qGX]
    show tseq _ _ _ (K02.RR z st.length (some (.int ((1+i:Nat):Int))) (some (.str p)) e) s
    refine qz ?_
    refine⟨p,rfl,hpA.1,hpA.2,fun s1 x1=>?_⟩
    show tseq _ _ _ (K02.RR z st.length (some (.int ((1+i:Nat):Int))) (some (.str p)) (some (qV (qT p)))) s1
    cases hln:qT p with
    | none =>
      rw [hln] at hpi
      refine qh (b:=true) (K02.isN (ρ:=K02.RR z st.length (some (.int ((1+i:Nat):Int))) (some (.str p)) (some (qV none))) (i:=4) (o:=none) rfl) (fun q=>?_) fun q=>by cases q
      refine⟨((1+i:Nat):Int),rfl,by lia,by lia,?_⟩
      have:=hP s1 (hx.trans x1)
      rw [qDQ hall hpi] at this
      rw [show 1+i=i+1 by lia]
      exact this
    | some n =>
      rw [hln] at hpi
      refine qh (b:=false) (K02.isN (ρ:=K02.RR z st.length (some (.int ((1+i:Nat):Int))) (some (.str p)) (some (qV (some n)))) (i:=4) (o:=some n) rfl) (fun q=>by cases q) fun _=>?_
      refine seq1 ?_
      show (match s1[st.length]? with
        | some (.rw xs)=>xs.length<sizeLine∧_
        | _=>False)
      rw [x1 _ _ hc]
      refine⟨?_,?_⟩
      · rw [List.length_map,List.length_take,List.length_map];lia
      · refine⟨⟨_,_,_,rfl⟩,fun j o ho=>?_,?_,?_,fun j hj=>?_⟩
        · have hj:j<st.length:=qBI ho
          exact qDu (x1 _ _ (hx _ _ ho)) (by lia)
        · rw [qFG (x1 _ _ hc),List.take_add_one,hpi]
          simp
        · exact qDu (x1 _ _ hlx) (by simp)
        · by_cases q:j=i
          · subst q;exact⟨n,hpi⟩
          · exact hall j (by lia)
  · rintro ρ s ⟨⟨a,b,e,rfl⟩,hx,hc,hlx,hall⟩
    rw [qBH] at hc hall
    have e1:SO.items (.rw (ls.map .str))=ls.map .str:=rfl
    have e2:(ls.map Dt.str).length=(ls.map qT).length:=by simp
    rw [e1,e2] at hc hall
    rw [List.take_length] at hc
    show tseq _ _ (Ed Pd) _ s
    refine seq1 ?_
    show (match (s[st.length]?).map SO.items with
      | some xs=>isB (.tup xs)=none∧Pd (.tup xs) s
      | none=>False)
    rw [hc]
    have:=hP s hx
    rw [qLr hall] at this
    exact⟨rfl,this⟩
def qDO:RDL:=fun ds st P=>∃ z:Str,ds=[.str z]∧Okz z∧fb (nums z)=none∧∀ st',qP st st'→P (.tup ((nums z).map qV)) st'
theorem qPz {ds:List Dt} {st:Sto} {Pd:VD} (h:qDO ds st Pd):qB1 ds st fun d st'=>isB d=none∧Pd d st':=by
  obtain⟨z,e,ok,hf,hP⟩:=h
  refine⟨z,e,ok,fun st' x=>?_⟩
  unfold qHb
  rw [hf]
  exact⟨rfl,hP st' x⟩
abbrev qAp:TSD:=(tseq (qZ (qC Dt.non) (qR 2)) (tseq (qJK 3 K03.qB1 (qA (qE 0) qG) (tseq (qZ (qE 3) (qR 2)) qM)) (tseq (qi (qBG (qN (qEM ["BadRow"] (fun _=>false) (qE 2))) (qAw (qN (qEM ["BadRow"] (fun _=>true) (qE 2))))) (tseq (qo (qC (Dt.bl false))) qM) qM) (tseq (qi (qBG (qAw (qN (qEM ["BadRow"] (fun _=>true) (qE 2)))) (qBG (qAw (qN (qI qA3 (qA (qEr (qE 2)) (qA (qC (Dt.ty "int")) qG))))) (qN (qI qA3 (qA (qEr (qE 2)) (qA (qC (Dt.ty "bool")) qG)))))) (tseq (qo (qC (Dt.bl false))) qM) qM) (tseq (qo (qD (qc false) (qEr (qE 2)) (qE 1))) qM)))))
noncomputable abbrev RF (z:Str) (i:Nat) (a b:Option Dt):Rho:=[some (.str z),some (.int (i:Int)),a,b]
section
variable {ρ:Rho} {st:Sto} {te:TD} {r i:Nat}
theorem qC0 {ns:List String} {f:String→Bool} {n:String} {o:Option Int} (h:Ev te ρ st (.exc n o)) (hn:n∈ns):Ev (qEM ns f te) ρ st (.bl (f n)):=fun P hp=>h _ ⟨hn,hp⟩
theorem qE3 {j:Int} (h:Ev te ρ st (.exc "BadRow" (some j))):Ev (qEr te) ρ st (.int j):=fun P hp=>h _ ⟨j,rfl,hp⟩
theorem qFE {d:Dt} {t c:String} (h:Ev te ρ st d) (hc:c = "bool" ∨ c = "int" ∨ c = "str" ∨ c = "tuple" ∨ c = "list") (ht:tyN d=some t):Ev (qI qA3 (qA te (qA (qC (Dt.ty c)) qG))) ρ st (.bl (isT t c)):=fun P hp=>h _ ⟨hc,by rw [ht];exact hp⟩
end
theorem qDF {ds:List Dt} {st:Sto} {Pd:VD} (h:qAI ds st Pd):qAp (Ed Pd) (qe ["text", "row", "caught", "e"] ds) st:=by
  obtain⟨z,i,rfl,ok,hf,hP⟩:=h
  show qAp (Ed Pd) (RF z i none none) st
  refine qz ?_
  refine seq1 ?_
  have ht:∀ {te:TD} {j:Nat} {ts:TSD} {E:qAZ} {ρ:Rho},Ev te ρ st (.str z)→(∀ s1,qP st s1→ts (qEp j E) (ρ.set j (some (.exc "BadRow" (some (i:Int))))) s1)→qJK j K03.qB1 (qA te qG) ts E ρ st:=fun {te j ts E ρ} h q=>h _ ⟨z,rfl,ok,fun s1 x1=>by
    unfold qHb
    rw [hf]
    exact q s1 x1⟩
  refine ht (qF rfl) fun s1 x1=>?_
  refine qz (qF (d:=.exc "BadRow" (some (i:Int))) rfl _ ?_)
  unfold qM
  dsimp only [qEp]
  show tseq _ _ (Ed Pd) (RF z i (some (.exc "BadRow" (some (i:Int)))) none) s1
  have v:∀ {s:Sto},Ev (qE 2) (RF z i (some (.exc "BadRow" (some (i:Int)))) none) s (.exc "BadRow" (some (i:Int))):=qF rfl
  refine qh (b:=false) (qC4 (b1:=false) (b2:=false) (evb (qC0 v (by simp))) fun _=>qCS (b:=true) (evb (qC0 v (by simp)))) (fun q=>by cases q) fun _=>?_
  refine qh (b:=false) (qC4 (b1:=false) (b2:=false) (qCS (b:=true) (evb (qC0 v (by simp)))) fun _=>qC4 (b1:=false) (b2:=false) (qCS (b:=true) (evb (qFE (t:= "int") (qE3 v) (by simp) rfl))) fun _=>evb (qFE (t:= "int") (qE3 v) (by simp) rfl)) (fun q=>by cases q) fun _=>?_
  refine rdR (qBS (qE3 v) (qF rfl)) ?_
  have:=hP s1 x1
  rw [decide_eq_true rfl]
  exact this
end K03
namespace K03
open PySem PySem.Spec PyProof.Rows L2 L3
open K02 (cs one fig qAA qJ qAJ qAM qg qV qT wordAt qCp Asc)
abbrev rt3:TSD:=(tseq (qZ (qI K03.qDO (qA (qE 2) qG)) (qR 3)) (tseq (qo (qCE (qI qA3 (qA (qE 3) (qA (qC (Dt.ty "tuple")) qG))) (qD (qc false) (qE 3) (qI qBs (qA (qE 1) qG))))) qM))
abbrev rt2:TSD:=(tseq (qi (qN (qD (qBj false) (qC Dt.non) (qE 1))) (tseq (qo (qCE (qI K03.qAI (qA (qE 2) (qA (qD L3.qa (qBz (qE 1) (qC Dt.non)) (qC (Dt.int 1))) qG))) (qI K03.qAI (qA (qE 2) (qA (qD L3.qa (qBz (qE 1) (qC Dt.non)) (qC (Dt.int 1))) qG))))) qM) qM) rt3)
abbrev rt1:TSD:=(tseq (qZ (qCZ (qC (Dt.str "\n")) (qE 0)) (qR 2)) rt2)
abbrev qBU:TSD:=(tseq (qZ (qCh (qGp (qE 0)) (fun x st P=>P true st) (qI K03.qB0 (qA (qE 0) qG)) []) (qR 1)) rt1)
section
variable {ρ:Rho} {s:Sto} {ta tb te ti:TD}
theorem qEV {d:Dt} (h:EvX ta ρ s (.bl true)) (h2:∀ s',qP s s'→EvX tb ρ s' d):EvX (qCE ta tb) ρ s d:=fun P hp=>h _ fun s1 x1=>qBw (h2 s1 x1 P fun s2 x2=>hp s2 (x1.trans x2))
theorem qBM {z:Str} {i:Nat} (h:Ev te ρ s (.str z)) (h2:Ev ti ρ s (.int (i:Nat))) (ok:Okz z) (hf:fb (nums z)=some i):EvX (qI K03.qAI (qA te (qA ti qG))) ρ s (.bl true):=fun P hp=>h _ (h2 _ ⟨z,i,rfl,ok,hf,hp⟩)
theorem qHe (l:List (Option Nat)):(l.map qV).all (okD 0)=true:=by
  rw [List.all_map,List.all_eq_true]
  intro n _;cases n<;>rfl
theorem qOZ (l:List (Option Nat)):okD 8 (.tup (l.map qV))=true:=by
  show (l.map qV).all (okD 7)=true
  rw [List.all_map,List.all_eq_true]
  intro n _;cases n<;>rfl
theorem qJo (o:Option Nat):eqD 0 (qV o) .non=o.isNone:=by cases o<;>rfl
theorem qLT (l:List (Option Nat)):((l.map qV).any fun z=>eqD 0 z .non)=(fb l).isSome:=by
  unfold fb
  rw [List.any_map,Option.isSome_map,List.findIdx?_isSome]
  congr 1
  funext o
  exact qJo o
theorem qLY (l:List (Option Nat)):((l.map qV).findIdx? fun z=>eqD 0 z .non)=l.findIdx? Option.isNone:=by
  rw [List.findIdx?_map]
  congr 1
  funext o
  exact qJo o
theorem qPW {l:List (Option Nat)} {m:Nat} (h:Ev te ρ s (.lst m)) (e:s[m]? = some (.rw (l.map qV))):EvB (qN (qD (qBj false) (qC Dt.non) te)) ρ s (fb l).isSome:=fun P hp=>h _ (by
  show (match (s[m]?).map SO.items with
    | some xs=>okD 0 .non=true∧xs.all (okD 0)=true∧P (xs.any (fun z=>eqD 0 z .non) != false) s
    | none=>False)
  rw [e]
  show okD 0 .non=true∧(l.map qV).all (okD 0)=true∧P ((l.map qV).any (fun z=>eqD 0 z .non) != false) s
  refine⟨rfl,qHe l,?_⟩
  rw [qLT]
  simpa using hp)
theorem qJZ {l:List (Option Nat)} {m i:Nat} (h:Ev te ρ s (.lst m)) (e:s[m]? = some (.rw (l.map qV))) (hf:fb l=some i):Ev (qD L3.qa (qBz te (qC Dt.non)) (qC (Dt.int 1))) ρ s (.int (i:Nat)):=by
  unfold fb at hf
  cases q:l.findIdx? Option.isNone with
  | none=>rw [q] at hf;cases hf
  | some j =>
    rw [q] at hf
    cases hf
    exact qAP (x:=(j:Nat)) (y:=1) (fun P hp=>h _ ⟨m,rfl,_,j,e,rfl,qHe l,by rw [qLY,q],hp⟩) qH
theorem qJv {zs:List Str} {B k:Nat} (h:Ev te ρ s (.lst k)) (hk:s[k]? = some (.rw (zs.map .str))) (ts:∀ z∈zs,T B z) (l:zs.length * (B+1)≤100000):Ev (qCZ (qC (.str "\n")) te) ρ s (.str ((one 10).join zs)):=fun P hp=>h _ (by
  show (match s[k]? with
    | some so=>∃ zs:List Str,so.items=zs.map .str∧JoinOk (Str.ofString "\n") zs=true∧P (.str (Txt.join (Str.ofString "\n") zs)) s
    | none=>False)
  rw [hk]
  refine⟨zs,rfl,?_,?_⟩
  · unfold JoinOk
    rw [StrLaws.joinFits (B:=B) (fun p hp=>(ts p hp).l)]
    · rfl
    · have:(Str.ofString "\n").length=1:=by decide +kernel
      rw [this]
      rw [Nat.mul_succ] at l
      lia
  · unfold Txt.join
    rw [StrLaws.glued_eq_join,qCp]
    exact hp)
theorem qDR {zs:List Str} {B:Nat} (ts:∀ z∈zs,T B z) (h0:0<zs.length) (l:zs.length * (B+1)≤100000):Okz ((one 10).join zs)∧nums ((one 10).join zs)=zs.map qT:=by
  refine⟨⟨K02.qGc (by decide) fun p hp=>(ts p hp).asc,Nat.le_trans (K02.qBm fun p hp=>(ts p hp).l) l⟩,?_⟩
  unfold nums
  rw [K02.qCN (by intro q;subst q;cases h0) fun p hp=>(ts p hp).nl]
end
noncomputable abbrev RT (n:Nat) (a b c:Option Dt):Rho:=[some (.lst n),a,b,c]
theorem qEL {ds:List Dt} {st:Sto} {Pd:VD} (h:qAz ds st Pd):qBU (Ed Pd) (qe ["rows", "due", "text", "found"] ds) st:=by
  obtain⟨n,zs,rfl,hn,ts,l0,l1,hP⟩:=h
  have lj:zs.length * (600+1)≤100000:=by lia
  show qBU (Ed Pd) (RT n none none none) st
  refine qz ?_
  have hsq:qAB st (.lst n)=some (zs.map .str):=by
    show (st[n]?).map SO.items=_
    rw [hn];rfl
  simp only [qCh,qGp,qE,List.getElem?_cons_zero,hsq,qIJ,List.map_nil]
  refine⟨fun k ys s'=>ys=((zs.take k).map qT).map qV∧qP st s',⟨rfl,.refl _⟩,?_,?_,?_⟩
  · rintro _ ys s' _ ⟨rfl,x⟩
    show (s'[n]?).map SO.items=_
    rw [x _ _ hn];rfl
  · rintro k d ys s' hd ⟨rfl,x⟩
    obtain⟨p,hp,rfl⟩:∃ p,zs[k]? = some p∧d = .str p:=by
      rw [List.getElem?_map] at hd
      cases q:zs[k]? with
      | none=>rw [q] at hd;cases hd
      | some p=>rw [q] at hd;exact⟨p,rfl,(Option.some.inj hd).symm⟩
    refine⟨by rw [List.length_map,List.length_map,List.length_take,sizeLine_eq];lia,qBw ?_⟩
    refine⟨p,rfl,ts p (List.mem_of_getElem? hp),fun s2 x2=>⟨?_,x.trans x2⟩⟩
    rw [List.take_add_one,hp]
    simp
  · rintro ys s' ⟨rfl,x⟩
    rw [List.length_map,List.take_length]
    have e1:(s'++[SO.rw ((zs.map qT).map qV)])[s'.length]? = some (.rw ((zs.map qT).map qV)):=qU
    have x1:qP st (s'++[SO.rw ((zs.map qT).map qV)]):=x.trans (.app _ _)
    generalize s'++[SO.rw ((zs.map qT).map qV)]=s1 at e1 x1
    generalize s'.length=m at e1
    show rt1 (Ed Pd) (RT n (some (.lst m)) none none) s1
    refine qz (qJv (qF rfl) (x1 _ _ hn) ts lj _ ?_)
    obtain⟨ok,en⟩:=qDR ts l0 lj
    generalize (one 10).join zs=z at ok en
    show rt2 (Ed Pd) (RT n (some (.lst m)) (some (.str z)) none) s1
    refine qh (qPW (qF rfl) e1) (fun q=>?_) fun q=>?_
    · obtain⟨i,hi⟩:=Option.isSome_iff_exists.mp q
      have hi2:fb (nums z)=some i:=by rw [en];exact hi
      exact rdX (qEV (qBM (qF rfl) (qJZ (qF rfl) e1 hi) ok hi2) fun s2 x2=>qBM (qF rfl) (qJZ (qF rfl) (x2 _ _ e1) hi) ok hi2) fun s2 x2=>hP s2 (x1.trans x2)
    · have hi2:fb (nums z)=none:=by
        rw [en]
        cases q2:fb (zs.map qT) with
        | none=>rfl
        | some i=>rw [q2] at q;cases q
      show rt3 (Ed Pd) (RT n (some (.lst m)) (some (.str z)) none) s1
      refine qz ?_
      refine⟨z,rfl,ok,hi2,fun s2 x2=>?_⟩
      show tseq _ _ (Ed Pd) (RT n (some (.lst m)) (some (.str z)) (some (.tup ((nums z).map qV)))) s2
      rw [en]
      have v:Ev (qE 3) (RT n (some (.lst m)) (some (.str z)) (some (.tup ((zs.map qT).map qV)))) s2 (.tup ((zs.map qT).map qV)):=qF rfl
      have ve:∀ s3,qP s2 s3→Ev (qD (qc false) (qE 3) (qI qBs (qA (qE 1) qG))) (RT n (some (.lst m)) (some (.str z)) (some (.tup ((zs.map qT).map qV)))) s3 (.bl true):=fun s3 x3=>by
        have h1:∀ {te:TD} {ρ:Rho},Ev te ρ s3 (.lst m)→Ev (qI qBs (qA te qG)) ρ s3 (.tup ((zs.map qT).map qV)):=fun {te ρ} h P hp=>h _ (by
          show (match (s3[m]?).map SO.items with
            | some xs=>P (.tup xs) s3
            | none=>False)
          rw [x3 _ _ (x2 _ _ e1)]
          exact hp)
        have h2:∀ {ta tb:TD} {ρ:Rho} {xs:List Dt},Ev ta ρ s3 (.tup xs)→Ev tb ρ s3 (.tup xs)→okD 8 (.tup xs)=true→Ev (qD (qc false) ta tb) ρ s3 (.bl true):=fun {ta tb ρ d} h h2 ok P hp=>h _ (h2 _ ⟨ok,ok,by
          rw [qDb ok]
          exact hp⟩)
        exact h2 (qF rfl) (h1 (qF rfl)) (qOZ _)
      exact rdX (qEV (qHH (qFE (t:= "tuple") v (by simp) rfl)) fun s3 x3=>qHH (ve s3 x3)) fun s3 x3=>hP s3 (x1.trans (x2.trans x3))
abbrev qBg:TSD:=(tseq (qZ (qj (qA (qIP "NoAsk" (qA (qC (Dt.str "x")) qG)) (qA (qIP "NoPaper" (qA (qC (Dt.str "x")) qG)) (qA (qIP "NoStep" (qA (qC (Dt.str "x")) qG)) (qA (qIP "NoTurning" (qA (qC (Dt.str "x")) qG)) (qA (qOo (qA (qC (Dt.int 5)) qG)) qG)))))) (qR 0)) (tseq (qDE (qGp (qE 0)) (qR 1) (tseq (qi (qBG (qAw (qN (qEM ["NoAsk", "NoPaper", "NoStep", "NoTurning", "BadRow"] (fun _=>true) (qE 1)))) (qAw (qN (qEM ["NoAsk", "NoPaper", "NoStep", "NoTurning", "BadRow"] (fun _=>true) (qE 1))))) (tseq (qo (qC (Dt.bl false))) qM) qM) qM)) (tseq (qo (qCE (qD (qc false) (qEr (qD qX (qE 0) (qC (Dt.int 4)))) (qC (Dt.int 5))) (qEw (qEM ["BadRow"] (fun _=>false) (qD qX (qE 0) (qC (Dt.int 4))))))) qM)))
noncomputable abbrev xs5:List Dt:=[.exc "NoAsk" none,.exc "NoPaper" none,.exc "NoStep" none,.exc "NoTurning" none,.exc "BadRow" (some 5)]
theorem ns5 {i:Nat} {d:Dt} (h:xs5[i]? = some d):∃ n o,d = .exc n o∧n∈["NoAsk", "NoPaper", "NoStep", "NoTurning", "BadRow"]:=by
  rcases i with _ | _ | _ | _ | _ | i
  all_goals first | (cases h;exact⟨_,_,rfl,by simp⟩) | (simp at h)
section
variable {ρ:Rho} {s:Sto} {t:TAD} {R:List Dt→Sto→Prop} {z:Str}
theorem qLy {n:String} (h:t ρ s fun ds s'=>R (.exc n none::ds) s'):qA (qIP n (qA (qC (.str z)) qG)) t ρ s R:=⟨by show 1≤sizeLine;decide,h⟩
theorem qP5 (h:t ρ s fun ds s'=>R (.exc "BadRow" (some 5)::ds) s'):qA (qOo (qA (qC (.int 5)) qG)) t ρ s R:=⟨5,rfl,by decide,by decide,h⟩
theorem qND {P:VD} (h:t ρ s fun ds s'=>ds.length≤sizeLine∧P (.lst s'.length) (s'++[.rw ds])):qj t ρ s P:=h
end
theorem qFS {ds:List Dt} {st:Sto} {Pd:VD} (h:qEB ds st Pd):qBg (Ed Pd) (qe ["some", "one"] ds) st:=by
  obtain⟨rfl,hP⟩:=h
  show qBg (Ed Pd) [none,none] st
  refine qz (qND (qLy (qLy (qLy (qLy (qP5 ?_))))))
  refine⟨by show 5≤sizeLine;decide,?_⟩
  have e1:(st++[SO.rw xs5])[st.length]? = some (.rw xs5):=qU
  have x1:qP st (st++[SO.rw xs5]):=.app _ _
  show tseq _ _ (Ed Pd) [some (.lst st.length),none] (st++[SO.rw xs5])
  generalize st++[SO.rw xs5]=s1 at e1 x1
  generalize st.length=n at e1
  refine seq1 ?_
  have hsq:qAB s1 (.lst n)=some xs5:=by
    show (s1[n]?).map SO.items=_
    rw [e1];rfl
  simp only [qDE,qGp,qE,List.getElem?_cons_zero,hsq]
  refine⟨fun k ρ s'=>(∃ o,ρ=[some (.lst n),o])∧s'=s1,⟨⟨none,rfl⟩,rfl⟩,?_,?_,?_⟩
  · rintro _ ρ s' _ ⟨⟨o,rfl⟩,rfl⟩
    exact hsq
  · rintro k d ρ s' hd ⟨⟨o,rfl⟩,rfl⟩
    obtain⟨nm,r,rfl,hm⟩:=ns5 hd
    show tseq _ _ _ [some (.lst n),some (.exc nm r)] s'
    have v:Ev (qE 1) [some (.lst n),some (.exc nm r)] s' (.exc nm r):=qF rfl
    refine qh (b:=false) (qC4 (b1:=false) (b2:=false) (qCS (b:=true) (evb (qC0 v hm))) fun _=>qCS (b:=true) (evb (qC0 v hm))) (fun q=>by cases q) fun _=>?_
    exact⟨⟨_,rfl⟩,rfl⟩
  · rintro ρ s' ⟨⟨o,rfl⟩,rfl⟩
    show tseq _ _ (Ed Pd) [some (.lst n),o] s'
    have v:∀ {s2:Sto},qP s' s2→Ev (qD qX (qE 0) (qC (Dt.int 4))) [some (.lst n),o] s2 (.exc "BadRow" (some 5)):=fun {s2} x P hp=>qF (ρ:=[some (.lst n),o]) (i:=0) rfl _ (by
      show (match (s2[n]?).map SO.items with
        | some xs=>(match L2.atI xs 4 with
          | some d=>P d _
          | none=>False)
        | none=>False)
      rw [x _ _ e1]
      exact hp)
    have v2:∀ {s2:Sto},qP s' s2→Ev (qEw (qEM ["BadRow"] (fun _=>false) (qD qX (qE 0) (qC (Dt.int 4))))) [some (.lst n),o] s2 (.bl true):=fun {s2} x=>by
      have:∀ {te:TD} {ρ:Rho},Ev te ρ s2 (.bl false)→Ev (qEw te) ρ s2 (.bl true):=fun {te ρ} h P hp=>h _ hp
      exact this (qC0 (v x) (by simp))
    exact rdX (qEV (qHH (qBS (x:=5) (y:=5) (qE3 (v (.refl _))) qH)) fun s2 x2=>qHH (v2 x2)) fun s2 x2=>hP s2 (x1.trans x2)
end K03
namespace K03
open PySem PySem.Spec PyProof.Rows L2 L3
open K02 (cs one fig qAA qJ qAJ qAM qg qV qT wordAt qCp Asc)
abbrev qPG:TSD:=(tseq (qi (qAw (qN (qI K03.qAz (qA (qj (qA (qE 8) qG)) qG)))) (tseq (qo (qC (Dt.bl false))) qM) qM) qM)
abbrev qO5:TSD:=(tseq (qZ (qE 8) (qLE (qE 4) (qE 7))) qPG)
abbrev qO3:TSD:=(tseq (qi (qN (qD (qc false) (qD qk (qD qm (qD qm (qE 6) (qC (Dt.int 7))) (qE 2)) (qC (Dt.int 2))) (qC (Dt.int 1)))) (tseq (qZ (qI K03.qFQ (qA (qD qm (qD qm (qE 6) (qC (Dt.int 14))) (qE 2)) qG)) (qR 8)) qM) qM) qO5)
abbrev lw6:TSD:=(tseq (qZ (qD L3.qa (qCZ (qC (Dt.str "\n")) (qE 3)) (qC (Dt.str "\n"))) (qR 9)) (tseq (qo (qCE (qI K03.qAI (qA (qE 9) (qA (qD L3.qa (qE 2) (qC (Dt.int 1))) qG))) (qCE (qI K03.qAI (qA (qC (Dt.str "")) (qA (qC (Dt.int 1)) qG))) (qCE (qI K03.qAI (qA (qD L3.qa (qC (Dt.str "\n")) (qD qX (qE 3) (qC (Dt.int 0)))) (qA (qC (Dt.int 1)) qG))) (qI K03.qEB qG))))) qM))
abbrev qP1:TSD:=(tseq (qZ (qI K03.qFC (qA (qD L3.qa (qD qm (qD qm (qE 6) (qC (Dt.int 14))) (qE 2)) (qE 5)) qG)) (qR 8)) qO3)
abbrev qO6:TSD:=(tseq (qZ (qD qk (qD qm (qE 6) (qC (Dt.int 7))) (qE 2)) (qR 7)) qP1)
abbrev lw5:TSD:=(tseq (qi (qBG (qAw (qN (qI K03.qAz (qA (qE 3) qG)))) (qAw (qN (qI K03.qAz (qA (qE 4) qG))))) (tseq (qo (qC (Dt.bl false))) qM) qM) lw6)
abbrev lwB:TSD:=(tseq (qZ (qD qm (qD qX (qE 1) (qD qk (qD L3.qa (qE 5) (qC (Dt.int 1))) (qI qAO (qA (qE 1) qG)))) (qD L3.qa (qC (Dt.int 1)) (qE 5))) (qR 6)) qO6)
abbrev lw4:TSD:=(tseq (qDE (qCD (qD L3.qa (qC (Dt.int 1)) (qD qk (qD qm (qD qX (qE 1) (qC (Dt.int 0))) (qC (Dt.int 128000))) (qC (Dt.int 7))))) (qR 5) lwB) lw5)
abbrev lw3:TSD:=(tseq (qZ (qI qJR (qA (qE 3) qG)) (qR 4)) lw4)
abbrev lw2:TSD:=(tseq (qZ (qCh (qCD (qE 2)) (fun x st P=>P true st) (qI K03.qCC (qA (qD L3.qa (qD qX (qE 1) (qD qk (qE 0) (qI qAO (qA (qE 1) qG)))) (qD qBb (qD qm (qE 0) (qI qAO (qA (qE 1) qG))) (qC (Dt.int 17)))) qG)) [(1, "cells")]) (qR 3)) lw3)
abbrev lw1:TSD:=(tseq (qZ (qD L3.qa (qC (Dt.int 1)) (qD qk (qD qm (qD qX (qE 1) (qC (Dt.int 0))) (qC (Dt.int 1000))) (qC (Dt.int 128)))) (qR 2)) lw2)
abbrev qJc:TSD:=(tseq (qZ (qD L3.qa (qAN (qE 0) qw (qy (qC (Dt.int 63)))) (qj (qA (qI qAO (qA (qE 0) qG)) qG))) (qR 1)) lw1)
theorem qCK:qT "" = none:=by
  unfold qT
  rw [show Txt.split "" (one 32)=[("" : Str)] by
    have:=K02.qCN (c:=32) (ps:=[("" : Str)]) (by simp) fun p hp=>by rw [List.mem_singleton.mp hp];decide +kernel
    rwa [K02.join_one] at this]
theorem qF5:∀ {zs:List Str},zs≠[]→(one 10).join zs++one 10=(one 10).join (zs++[("" : Str)])
  | [],h=>absurd rfl h
  | [x],_=>K02.ext (by
    rw [K02.join_one]
    show cs (x++one 10)=cs ((one 10).join [x,("" : Str)])
    rw [K02.qAW,K02.qCG,K02.join_one]
    rfl)
  | x::y::r,_=>K02.ext (by
    have ih:=congrArg cs (qF5 (zs:=y::r) (by simp))
    rw [K02.qCG] at ih
    rw [K02.qCG,K02.qAW,List.append_assoc,List.cons_append,ih]
    show _=cs ((one 10).join (x::y::(r++[("" : Str)])))
    rw [K02.qAW]
    rfl)
theorem qIL {zs:List Str} (h0:0<zs.length) (ts:∀ z∈zs,T 24 z) (hs:∀ z∈zs,(qT z).isSome=true) (l:zs.length≤130):Okz ((one 10).join zs++one 10)∧fb (nums ((one 10).join zs++one 10))=some (zs.length+1):=by
  have hne:zs≠[]:=by intro q;subst q;cases h0
  have t':∀ z∈zs++[("" : Str)],T 24 z:=fun z hz=>by
    rcases List.mem_append.mp hz with q | q
    · exact ts z q
    · rw [List.mem_singleton.mp q];exact T.of (by decide +kernel) (by decide +kernel)
  rw [qF5 hne]
  obtain⟨ok,en⟩:=qDR t' (by simp) (by rw [List.length_append,List.length_singleton];lia)
  refine⟨ok,?_⟩
  rw [en,List.map_append]
  refine qDQ (fun j hj=>?_) ?_
  · rw [List.getElem?_append_left (by rw [List.length_map];exact hj),List.getElem?_map,List.getElem?_eq_getElem hj]
    obtain⟨n,hn⟩:=Option.isSome_iff_exists.mp (hs _ (List.getElem_mem hj))
    exact⟨n,by rw [← hn];rfl⟩
  · rw [List.getElem?_append_right (by rw [List.length_map];exact Nat.le_refl _),List.length_map,Nat.sub_self]
    show some (qT "")=some none
    rw [qCK]
theorem qLk:Okz "" ∧ fb (nums "")=some 1:=by
  obtain⟨ok,en⟩:=qDR (zs:=[("" : Str)]) (B:=24) (fun z hz=>by rw [List.mem_singleton.mp hz];exact T.of (by decide +kernel) (by decide +kernel)) (by simp) (by simp)
  rw [K02.join_one] at ok en
  refine⟨ok,?_⟩
  rw [en]
  exact qDQ (i:=0) (fun j hj=>by lia) (by show some (qT "")=_;rw [qCK])
theorem qIy {x:Str} (t:T 24 x):Okz (one 10++x)∧fb (nums (one 10++x))=some 1:=by
  have e:one 10++x=(one 10).join [("" : Str),x]:=K02.ext (by
    rw [K02.qAW,K02.qCG,K02.join_one];rfl)
  obtain⟨ok,en⟩:=qDR (zs:=[("" : Str),x]) (B:=24) (fun z hz=>by
    rcases List.mem_cons.mp hz with rfl | q
    · exact T.of (by decide +kernel) (by decide +kernel)
    · rw [List.mem_singleton.mp q];exact t) (by simp) (by simp)
  rw [e]
  refine⟨ok,?_⟩
  rw [en]
  exact qDQ (i:=0) (fun j hj=>by lia) (by show some (qT "")=_;rw [qCK])
noncomputable abbrev LW (c m:Option Dt) (r p k cell at_ row b:Option Dt):Rho:=[some (.lst 0),c,m,r,p,k,cell,at_,row,b]
section
variable {ρ:Rho} {s:Sto} {ta tb te ti:TD} {c:Nat} {cl:List Int}
theorem qDT {j:Nat} {d:Int} (h:Ev ta ρ s (.lst c)) (e:s[c]? = some (.rw (cl.map .int))) (h2:Ev tb ρ s (.int (j:Nat))) (hj:cl[j]? = some d):Ev (qD qX ta tb) ρ s (.int d):=fun P hp=>h _ (h2 _ (by
  show (match (s[c]?).map SO.items with
    | some xs=>(match L2.atI xs (j:Int) with
      | some d=>P d _
      | none=>False)
    | none=>False)
  rw [e]
  show (match L2.atI (cl.map Dt.int) (j:Int) with
      | some d=>P d _
      | none=>False)
  rw [atN (d:=.int d) (by rw [List.getElem?_map,hj];rfl)]
  exact hp))
theorem qHN {zs:List Str} {j:Nat} {d:Str} (h:Ev ta ρ s (.lst c)) (e:s[c]? = some (.rw (zs.map .str))) (h2:Ev tb ρ s (.int (j:Nat))) (hj:zs[j]? = some d):Ev (qD qX ta tb) ρ s (.str d):=fun P hp=>h _ (h2 _ (by
  show (match (s[c]?).map SO.items with
    | some xs=>(match L2.atI xs (j:Int) with
      | some d=>P d _
      | none=>False)
    | none=>False)
  rw [e]
  show (match L2.atI (zs.map Dt.str) (j:Int) with
      | some d=>P d _
      | none=>False)
  rw [atN (d:=.str d) (by rw [List.getElem?_map,hj];rfl)]
  exact hp))
theorem qNo:EvX (qI K03.qEB qG) ρ s (.bl true):=fun P hp=>⟨rfl,hp⟩
theorem qEX (h:Ev ta ρ s (.lst c)) (e:s[c]? = some (.rw (cl.map .int))):Ev (qI qAO (qA ta qG)) ρ s (.int (cl.length:Nat)):=by
  have:=qKg h e
  rw [List.length_map] at this
  exact this
theorem qHR {x n:Nat} (h:Ev ta ρ s (.int (x:Nat))) (h2:Ev tb ρ s (.int (n:Nat))) (h0:0<n):Ev (qD qk ta tb) ρ s (.int ((x%n:Nat):Int)):=by
  have:=qY h h2 (by lia)
  rw [← Int.natCast_emod] at this
  exact this
theorem qJP {x:Nat} (h:Ev ta ρ s (.int (x:Nat))):Ev (qD L3.qa ta (qC (.int 1))) ρ s (.int ((x+1:Nat):Int)):=by
  have:=qAP h (qH (d:=.int 1))
  rw [show ((x+1:Nat):Int)=(x:Int)+1 by lia]
  exact this
theorem qHs {n:Nat} {zs:List Str} (h:Ev te ρ s (.lst n)) (e:s[n]? = some (.rw (zs.map .str))) (ts:∀ z∈zs,T 600 z) (l0:0<zs.length) (l1:zs.length≤130):EvX (qI K03.qAz (qA te qG)) ρ s (.bl true):=fun P hp=>h _ ⟨n,zs,rfl,e,ts,l0,l1,hp⟩
theorem qJl {z:Str} (h:Ev te ρ s (.str z)) (t:T 600 z):EvX (qI K03.qAz (qA (qj (qA te qG)) qG)) ρ s (.bl true):=fun P hp=>h _ ⟨by show 1≤sizeLine;decide,s.length,[z],rfl,qU,fun y hy=>by rw [List.mem_singleton.mp hy];exact t,Nat.one_pos,by show 1≤130;decide,fun s' x=>hp s' ((qP.app _ _).trans x)⟩
end
theorem qLa {s:Sto} {P:VD} {cl:List Int} {c m:Nat} (hcl:0<cl.length) (l:cl.length≤100) (e:s[c]? = some (.rw (cl.map .int))) (hm:m≤128) {ρ:Rho} (h2:ρ[2]? = some (some (.int (m:Nat)))) (h1:(ρ[1]?).join=some (.lst c))
    (hP:∀ (vs:List Int) s',vs.length=m→qP s s'→P (.lst s'.length) (s'++[.rw ((vs.map qAL).map .str)])) :
    qCh (qCD (qE 2)) (fun x st P=>P true st) (qI K03.qCC (qA (qD L3.qa (qD qX (qE 1) (qD qk (qE 0) (qI qAO (qA (qE 1) qG)))) (qD qBb (qD qm (qE 0) (qI qAO (qA (qE 1) qG))) (qC (Dt.int 17)))) qG)) [(1, "cells")] ρ s P:=by
  have hv:Ev (qE 2) ρ s (.int (m:Nat)):=qF h2
  unfold qCh qCD
  refine hv _ ⟨by lia,by lia,?_⟩
  rw [Int.toNat_natCast]
  have hc:qIJ [(1, "cells")] ρ=[some (.lst c)]:=by
    show [(ρ[1]?).join]=_
    rw [h1]
  rw [hc]
  refine⟨fun k ys s'=>∃ vs:List Int,vs.length=k∧ys=(vs.map qAL).map .str∧qP s s',⟨[],rfl,rfl,.refl _⟩,fun _ _ _ _ _=>trivial,?_,?_⟩
  · rintro k d ys s' hd ⟨vs,hl,rfl,x⟩
    obtain⟨hk,rfl⟩:=qDL hd
    refine⟨by rw [List.length_map,List.length_map,sizeLine_eq];lia,qBw ?_⟩
    have hkm:k%cl.length<cl.length:=Nat.mod_lt _ hcl
    have hv:Ev (qE 0) [some (.int (k:Nat)),some (.lst c)] s' (.int (k:Nat)):=qF rfl
    have hl':Ev (qI qAO (qA (qE 1) qG)) [some (.int (k:Nat)),some (.lst c)] s' (.int (cl.length:Nat)):=qEX (qF rfl) (x _ _ e)
    refine qHt (qIr (qAP (qDT (qF rfl) (x _ _ e) (qHR hv hl' hcl) (List.getElem?_eq_getElem hkm)) (qDd (qW hv hl' (by lia) (by lia)) qH (qFo (by decide) (by decide)))) ?_)
    refine⟨_,rfl,fun s2 x2=>⟨vs++[cl[k%cl.length]+((k:Nat):Int) / ((cl.length:Nat):Int) * 17],by rw [List.length_append,hl];rfl,?_,x.trans x2⟩⟩
    rw [List.map_append,List.map_append]
    rfl
  · rintro ys s' ⟨vs,hl,rfl,x⟩
    rw [qFr] at hl
    exact hP vs s' hl x
section
variable {s s0:Sto} {Pd:VD} {c r p m:Nat} {cl:List Int} {vs:List Int} {f:Int} {x5 x6 x7 x8:Option Dt}
theorem qL5 {z:Str} (h:z∈vs.map qAL):T 24 z∧(qT z).isSome=true:=by
  obtain⟨v,_,rfl⟩:=List.mem_map.mp h
  exact⟨qED v,qI7 v⟩
theorem qN8 (hm:1≤m) (hm2:m≤128) (lv:vs.length=m) (hr:s[r]? = some (.rw ((vs.map qAL).map .str))) (hP:∀ st',Pd (.bl true) st'):lw6 (Ed Pd) (LW (some (.lst c)) (some (.int (m:Nat))) (some (.lst r)) (some (.lst p)) x5 x6 x7 x8 none) s:=by
  have ts:∀ z∈vs.map qAL,T 24 z:=fun z hz=>(qL5 hz).1
  have lz:(vs.map qAL).length=m:=by rw [List.length_map,lv]
  obtain⟨bo,bf⟩:=qIL (zs:=vs.map qAL) (by lia) ts (fun z hz=>(qL5 hz).2) (by lia)
  have nl:∀ {ρ:Rho} {s:Sto},Ev (qC (Dt.str "\n")) ρ s (.str (one 10)):=by rw [qCp];exact qH
  have addS:∀ {ta tb:TD} {ρ:Rho} {s:Sto} {a b:Str},Ev ta ρ s (.str a)→Ev tb ρ s (.str b)→a.length+b.length≤100000→Ev (qD L3.qa ta tb) ρ s (.str (a++b)):=fun h h2 l P hp=>h _ (h2 _ ⟨by rw [sizeLine_eq];lia,hp⟩)
  have lj:=K02.qBm (c:=10) (B:=24) (ps:=vs.map qAL) fun p hp=>(ts p hp).l
  refine qz (addS (qJv (qF rfl) hr ts (by lia)) nl (by have:(one 10).length=1:=rfl;lia) _ ?_)
  generalize (one 10).join (vs.map qAL)++one 10=z at bo bf
  obtain⟨v0,vr,rfl⟩:∃ v0 vr,vs=v0::vr:=by
    cases vs with
    | nil=>simp at lv;lia
    | cons v0 vr=>exact⟨v0,vr,rfl⟩
  obtain⟨no,nf⟩:=qLk
  obtain⟨ao,af⟩:=qIy (qED v0)
  rw [lz] at bf
  have t0:=(qED v0).l
  refine rdX (qEV (qBM (i:=m+1) (qF rfl) (qJP (qF rfl)) bo bf) fun s1 x1=>qEV (qBM (i:=1) qH qH no nf) fun s2 x2=>qEV (qBM (i:=1) (addS nl (qHN (j:=0) (zs:=(v0::vr).map qAL) (qF rfl) (x2 _ _ (x1 _ _ hr)) qH rfl) (by have:(one 10).length=1:=rfl;lia)) qH ao af) fun s3 x3=>qNo) fun s1 x1=>hP s1
theorem qOq {zs:List Str} (hm:1≤m) (hm2:m≤128) (lv:vs.length=m) (hr:s[r]? = some (.rw ((vs.map qAL).map .str))) (hp:s[p]? = some (.rw (zs.map .str))) (tz:∀ z∈zs,T 600 z) (lz:zs.length=m) (hP:∀ st',Pd (.bl true) st'):lw5 (Ed Pd) (LW (some (.lst c)) (some (.int (m:Nat))) (some (.lst r)) (some (.lst p)) x5 x6 x7 x8 none) s:=by
  refine seq1 ?_
  unfold qi
  k_dat 0"r79"
  have orS:∀ {t u:TBD} {ρ:Rho} {s:Sto} {P:Bool→Sto→Prop},(t ρ s fun k st1=>if k=true then P true st1 else u ρ st1 P)→qBG t u ρ s P:=fun h=>h
  refine orS (b_x (qHs (qF rfl) hr (fun z hz=>(qL5 hz).1.mono (by decide)) (by rw [List.length_map];lia) (by rw [List.length_map];lia)) fun s1 x1=>qB8 ?_)
  refine b_x (qHs (qF rfl) (x1 _ _ hp) tz (by lia) (by lia)) fun s2 x2=>qB8 ?_
  exact qN8 (c:=c) (p:=p) (x5:=x5) (x6:=x6) (x7:=x7) (x8:=x8) hm hm2 lv (x2 _ _ (x1 _ _ hr)) hP
structure Kept (s:Sto) (c r p m:Nat) (cl vs:List Int):Prop where
  c:s[c]? = some (.rw (cl.map .int))
  r:s[r]? = some (.rw ((vs.map qAL).map .str))
  p:∃ zs:List Str,s[p]? = some (.rw (zs.map .str))∧(∀ z∈zs,T 600 z)∧zs.length=m
theorem Kept.on {s':Sto} (h:Kept s c r p m cl vs) (x:qP s s'):Kept s' c r p m cl vs:=⟨x _ _ h.c,x _ _ h.r,by
  obtain⟨zs,e,t,l⟩:=h.p
  exact⟨zs,x _ _ e,t,l⟩⟩
theorem qHy {E:qAZ} {z:Str} {at_:Int} (K:Kept s c r p m cl vs) (hc:c≠p) (hrp:r≠p) (tz:T 600 z) (a0:0≤at_) (a1:at_<m) (q:∀ s',Kept s' c r p m cl vs→E.nx (LW (some (.lst c)) (some (.int (m:Nat))) (some (.lst r)) (some (.lst p)) x5 x6 (some (.int at_)) (some (.str z)) none) s'):qO5 E (LW (some (.lst c)) (some (.int (m:Nat))) (some (.lst r)) (some (.lst p)) x5 x6 (some (.int at_)) (some (.str z)) none) s:=by
  obtain⟨k,rfl⟩:=Int.eq_ofNat_of_zero_le a0
  obtain⟨zs,e,ts,l⟩:=K.p
  have hk:k<zs.length:=by lia
  refine qN3 ?_
  show (match s[p]? with
    | some (.rw xs)=>(match ixN xs.length ((k:Nat):Int) with
      | some j=>_
      | none=>False)
    | _=>False)
  rw [e]
  have ej:ixN (zs.map Dt.str).length ((k:Nat):Int)=some k:=by
    rw [List.length_map]
    unfold ixN
    rw [if_pos (by lia),if_pos (by lia)]
    congr 1
  show (match ixN (zs.map Dt.str).length ((k:Nat):Int) with
      | some j=>_
      | none=>False)
  rw [ej]
  have e2:(s.set p (.rw ((zs.map Dt.str).set k (.str z))))[p]? = some (.rw ((zs.set k z).map .str)):=by
    rw [List.getElem?_set_self (List.getElem?_eq_some_iff.mp e).1,List.map_set]
  have K2:Kept (s.set p (.rw ((zs.map Dt.str).set k (.str z)))) c r p m cl vs:=⟨by rw [List.getElem?_set_ne (Ne.symm hc)];exact K.c,by rw [List.getElem?_set_ne (Ne.symm hrp)];exact K.r,zs.set k z,e2,fun y hy=>by
    rcases List.mem_or_eq_of_mem_set hy with q | q
    · exact ts y q
    · rw [q];exact tz,by rw [List.length_set];exact l⟩
  show qPG E (LW (some (.lst c)) (some (.int (m:Nat))) (some (.lst r)) (some (.lst p)) x5 x6 (some (.int (k:Nat))) (some (.str z)) none) (s.set p (.rw ((zs.map Dt.str).set k (.str z))))
  generalize s.set p (.rw ((zs.map Dt.str).set k (.str z)))=s1 at K2
  refine seq1 ?_
  unfold qi
  k_dat 0"r79"
  exact b_x (qJl (qF rfl) tz) fun s2 x2=>qB8 (q s2 (K2.on x2))
theorem qNf {E:qAZ} {k:Nat} (K:Kept s c r p m cl vs) (hcl:0<cl.length) (hk:k<10) (hm:1≤m) (hm2:m≤128) (hc:c≠p) (hrp:r≠p) (q:∀ s' x6 x7 x8,Kept s' c r p m cl vs→E.nx (LW (some (.lst c)) (some (.int (m:Nat))) (some (.lst r)) (some (.lst p)) (some (.int (k:Nat))) x6 x7 x8 none) s'):lwB E (LW (some (.lst c)) (some (.int (m:Nat))) (some (.lst r)) (some (.lst p)) (some (.int (k:Nat))) x6 x7 x8 none) s:=by
  have hkm:(k+1)%cl.length<cl.length:=Nat.mod_lt _ hcl
  have hm0:(0:Int)<(m:Nat):=by lia
  have hm3:((m:Nat):Int)<1073741824:=by lia
  refine qz (qW (qDT (j:=(k+1)%cl.length) (d:=cl[(k+1)%cl.length]) (qF rfl) K.c (qHR (x:=k+1) (qJP (qF rfl)) (qEX (qF rfl) K.c) hcl) (List.getElem?_eq_getElem hkm)) (qAP qH (qF rfl)) (by lia) (by lia) _ ?_)
  generalize cl[(k+1)%cl.length] / (1+((k:Nat):Int))=cell
  show qO6 E (LW (some (.lst c)) (some (.int (m:Nat))) (some (.lst r)) (some (.lst p)) (some (.int (k:Nat))) (some (.int cell)) x7 x8 none) s
  refine qz (qY (qW (qF rfl) qH (by decide) (by decide)) (qF rfl) hm0 _ ?_)
  have a0:=Int.emod_nonneg (cell / 7) (b:=((m:Nat):Int)) (by lia)
  have a1:=Int.emod_lt_of_pos (cell / 7) (b:=((m:Nat):Int)) (by lia)
  generalize cell / 7%((m:Nat):Int)=at_ at a0 a1
  show qP1 E (LW (some (.lst c)) (some (.int (m:Nat))) (some (.lst r)) (some (.lst p)) (some (.int (k:Nat))) (some (.int cell)) (some (.int at_)) x8 none) s
  refine qGZ (qG0 (sp:=qAO) (ds:=[.int (cell / 14 / ((m:Nat):Int)+((k:Nat):Int))]) (qA9 (qAP (qW (qW (qF rfl) qH (by decide) (by decide)) (qF rfl) hm0 hm3) (qF rfl)) qFt) ⟨_,rfl⟩) fun z s1 tz x1=>?_
  show qO3 E (LW (some (.lst c)) (some (.int (m:Nat))) (some (.lst r)) (some (.lst p)) (some (.int (k:Nat))) (some (.int cell)) (some (.int at_)) (some (.str z)) none) s1
  refine qh (evb (qBS (qY (qW (qW (qF rfl) qH (by decide) (by decide)) (qF rfl) hm0 hm3) qH (by decide)) qH)) (fun _=>?_) fun _=>?_
  · refine qGZ (qG0 (sp:=qAO) (ds:=[.int (cell / 14 / ((m:Nat):Int))]) (qA9 (qW (qW (qF rfl) qH (by decide) (by decide)) (qF rfl) hm0 hm3) qFt) ⟨_,rfl⟩) fun y s2 ty x2=>?_
    exact qHy (x5:=some (.int (k:Nat))) (x6:=some (.int cell)) (K.on (x1.trans x2)) hc hrp ty a0 a1 fun s' K'=>q s' _ _ _ K'
  · exact qHy (x5:=some (.int (k:Nat))) (x6:=some (.int cell)) (K.on x1) hc hrp tz a0 a1 fun s' K'=>q s' _ _ _ K'
theorem qN1 {f:Int} (K:Kept s c r p m cl vs) (hf:cl[0]? = some f) (lv:vs.length=m) (hm:1≤m) (hm2:m≤128) (hc:c≠p) (hrp:r≠p) (hP:∀ st',Pd (.bl true) st'):lw4 (Ed Pd) (LW (some (.lst c)) (some (.int (m:Nat))) (some (.lst r)) (some (.lst p)) none none none none none) s:=by
  have hcl:0<cl.length:=(List.getElem?_eq_some_iff.mp hf).1
  obtain⟨n,hn,n7⟩:=qHB (v:=f / 128000) (n:=7) (by decide)
  have hn':1+f / 128000%7=((1+n:Nat):Int):=by have:f / 128000%7=(n:Nat):=hn;lia
  refine forR (n:=1+n) (by rw [← hn'];exact qAP qH (qY (qW (qDT (j:=0) (qF rfl) K.c qH hf) qH (by decide) (by decide)) qH (by decide))) (by lia) ?_
  refine⟨fun _ ρ s'=>Kept s' c r p m cl vs∧∃ x5 x6 x7 x8,ρ=LW (some (.lst c)) (some (.int (m:Nat))) (some (.lst r)) (some (.lst p)) x5 x6 x7 x8 none,⟨K,_,_,_,_,rfl⟩,fun _ _ _ _ _=>trivial,?_,?_⟩
  · rintro i d ρ s' hd ⟨K',x5,x6,x7,x8,rfl⟩
    obtain⟨hlt,rfl⟩:=qDL hd
    exact qNf (x6:=x6) (x7:=x7) (x8:=x8) K' hcl (by lia) hm hm2 hc hrp fun s2 x6 x7 x8 K2=>⟨K2,_,_,_,_,rfl⟩
  · rintro ρ s' ⟨K',x5,x6,x7,x8,rfl⟩
    obtain⟨zs,e,t,l⟩:=K'.p
    exact qOq (c:=c) (x5:=x5) (x6:=x6) (x7:=x7) (x8:=x8) hm hm2 lv K'.r e t l hP
end
theorem qOi {ds:List Dt} {st:Sto} {Pd:VD} (h:qGW ds st Pd):qJc (Ed Pd) (qe ["script", "cells", "many", "rows", "spoiled", "k", "cell", "at", "row", "behind"] ds) st:=by
  obtain⟨ns,rfl,rfl,hl,hP⟩:=h
  show qJc (Ed Pd) [some (.lst 0),none,none,none,none,none,none,none,none,none] [SO.ro (ns.map .int)]
  obtain⟨cut,hcut⟩:∃ cut:List Int,L3.cutD (ns.map Dt.int) none (some 63)=cut.map .int:=by
    refine⟨(ns.drop (HT.sIx (ns.map Dt.int).length 0 none)).take (HT.sIx (ns.map Dt.int).length (ns.map Dt.int).length (some 63) - HT.sIx (ns.map Dt.int).length 0 none),?_⟩
    unfold L3.cutD
    rw [List.map_take,List.map_drop]
  have hcl:cut.length≤63:=by
    have:=qLL ns 63
    rw [hcut,List.length_map] at this
    lia
  refine qz ?_
  simp only [qD,qAN,qE,qw,qy,qC,qj,qA,qG,qI,List.getElem?_cons_zero]
  have hi:(SO.ro (ns.map Dt.int)).items=ns.map .int:=rfl
  rw [hi,hcut]
  refine⟨by show 1≤sizeLine;rw [sizeLine_eq];decide,?_⟩
  show (cut.map Dt.int).length+1≤sizeLine∧_
  refine⟨by rw [List.length_map,sizeLine_eq];lia,?_⟩
  show lw1 (Ed Pd) (LW (some (.lst 3)) none none none none none none none none) ([SO.ro (ns.map Dt.int)]++[SO.rw (cut.map Dt.int)]++[SO.rw [Dt.int ((ns.map Dt.int).length:Int)]]++[SO.rw (cut.map Dt.int++[Dt.int ((ns.map Dt.int).length:Int)])])
  have e3:cut.map Dt.int++[Dt.int ((ns.map Dt.int).length:Int)]=(cut++[((ns.length:Nat):Int)]).map Dt.int:=by simp
  rw [e3]
  obtain⟨cl,ecl⟩:∃ cl,cut++[((ns.length:Nat):Int)]=cl:=⟨_,rfl⟩
  have hlc:cl.length≤100:=by rw [← ecl];simp;lia
  have h0:0<cl.length:=by rw [← ecl];simp
  rw [ecl]
  obtain⟨f,hf⟩:∃ f,cl[0]? = some f:=⟨_,List.getElem?_eq_getElem h0⟩
  have hc:([SO.ro (ns.map Dt.int)]++[SO.rw (cut.map Dt.int)]++[SO.rw [Dt.int ((ns.map Dt.int).length:Int)]]++[SO.rw (cl.map Dt.int)])[3]? = some (.rw (cl.map .int)):=rfl
  generalize [SO.ro (ns.map Dt.int)]++[SO.rw (cut.map Dt.int)]++[SO.rw [Dt.int ((ns.map Dt.int).length:Int)]]++[SO.rw (cl.map Dt.int)]=s at hc
  generalize (3:Nat)=c at hc
  refine qz (qAP qH (qY (qW (qDT (j:=0) (qF rfl) hc qH hf) qH (by decide) (by decide)) qH (by decide)) _ ?_)
  obtain⟨m,hm,hm1,hm2⟩:∃ m:Nat,1+f / 1000%128=(m:Int)∧1≤m∧m≤128:=⟨(1+f / 1000%128).toNat,by lia,by lia,by lia⟩
  rw [hm]
  show lw2 (Ed Pd) (LW (some (.lst c)) (some (.int (m:Nat))) none none none none none none none) s
  refine qz (qLa (c:=c) (m:=m) h0 hlc hc hm2 rfl rfl fun vs s1 lv x1=>?_)
  show lw3 (Ed Pd) (LW (some (.lst c)) (some (.int (m:Nat))) (some (.lst s1.length)) none none none none none none) (s1++[.rw ((vs.map qAL).map .str)])
  have hc1:=x1 _ _ hc
  have hr:(s1++[SO.rw ((vs.map qAL).map .str)])[s1.length]? = some (.rw ((vs.map qAL).map .str)):=qU
  have lc:c<s1.length:=(List.getElem?_eq_some_iff.mp hc1).1
  have lr:s1.length<(s1++[SO.rw ((vs.map qAL).map Dt.str)]).length:=by simp
  have hc2:(s1++[SO.rw ((vs.map qAL).map Dt.str)])[c]? = some (.rw (cl.map .int)):=qAd hc1
  generalize s1++[SO.rw ((vs.map qAL).map Dt.str)]=s2 at hr hc2 lr
  generalize s1.length=r at hr lr lc
  refine qz ?_
  show (match (s2[r]?).map SO.items with
    | some xs=>_
    | none=>False)
  rw [hr]
  show lw4 (Ed Pd) (LW (some (.lst c)) (some (.int (m:Nat))) (some (.lst r)) (some (.lst s2.length)) none none none none none) (s2++[.rw ((vs.map qAL).map .str)])
  exact qN1 (K:=⟨qAd hc2,qAd hr,vs.map qAL,qU,fun z hz=>(qL5 hz).1.mono (by decide),by rw [List.length_map,lv]⟩) hf lv hm1 hm2 (by lia) (by lia) hP
end K03
namespace K03
open PySem PySem.Spec PyProof.Rows L2 L3
local macro_rules | `(tactic| k_dat $x:ident "e")=>`(tactic| (case $x:ident=>walk_at "d_e"))
local macro_rules | `(tactic| k_dat $x:ident "r")=>`(tactic| (case $x:ident=>rfl))
local macro_rules | `(tactic| k_dat $x:ident "m")=>`(tactic| (case $x:ident=>assumption))
local macro_rules | `(tactic| k_dat $x:ident "d")=>`(tactic| (case $x:ident=>decide))
local macro_rules | `(tactic| k_dat $x:ident "a")=>`(tactic| (case $x:ident=>walk_at "d_a"))
local macro_rules | `(tactic| k_dat $x:ident "t")=>`(tactic| (case $x:ident=>walk_at "d_t"))
local macro_rules | `(tactic| k_dat $x:ident "s")=>`(tactic| (case $x:ident=>walk_at "d_ss"))
local macro_rules | `(tactic| k_dat $x:ident "i")=>`(tactic| (case $x:ident=>walk_at "d_i"))
local macro_rules | `(tactic| k_dat $x:ident "n")=>`(tactic| (case $x:ident=>first | exact qHJ _ | with_unfolding_all rfl))
local macro_rules | `(tactic| k_dat $n:num "zv0")=>`(tactic| ((with_reducible refine' qMu $n ?n ?v ?d ?c);k_dat n "r";(case v=>first | exact Or.inl rfl | exact Or.inr (Or.inl rfl));k_dat d "d";k_dat c "d"))
local macro_rules | `(tactic| k_dat $n:num "zi0")=>`(tactic| ((with_reducible refine' de_dispI (i:=$n) ?h ?hu ?hall ?hl ?h0 ?h15 ?hk ?nd ?hN ?hv ?hd ?hcd ?hs);k_dat hN "r";(case hv=>first | exact Or.inl rfl | exact Or.inr (Or.inl rfl));(case h=>walk_at "d_ps");(case hu=>exact hu1 (by assumption));k_dat hall "r";k_dat hl "r";(case h0=>exact List.cons_ne_nil _ _);k_dat h15 "d";(case hk=>exact by simp);k_dat nd "d";k_dat hd "d";k_dat hcd "d";(case hs=>exact fun _ _=>rfl)))
local macro_rules | `(tactic| k_dat $n:num "zc0")=>`(tactic| ((with_reducible refine' qFL $n _ ?hc ?N ?S ?hx ?nd ?i ?f ?e ?y ?yl ?sw ?hs);k_dat y "r";k_dat hc "r";k_dat N "m";(case S=>exact qHk (by assumption) (by rfl));k_dat hx "r";(case nd=>decide +kernel);k_dat sw "r";k_dat yl "r";k_dat i "i";(case f=>(intro _ _ _ _;walk_at "d_if"));(case e=>(intro _ _ _ _;walk_at "d_e"));(case hs=>(intro _;rfl))))
local macro_rules | `(tactic| k_dat $n:num "zc1")=>`(tactic| ((with_reducible refine' qFL $n _ ?hc ?N ?S ?hx ?nd ?i ?f ?e ?y ?yl ?sw ?hs);k_dat y "r";k_dat hc "r";k_dat N "m";(case S=>exact qGO (by assumption) (by rfl));k_dat hx "r";(case nd=>decide +kernel);k_dat sw "r";k_dat yl "r";k_dat i "i";(case f=>(intro _ _ _ _;walk_at "d_if"));(case e=>(intro _ _ _ _;walk_at "d_e"));(case hs=>(intro _;rfl))))
local macro_rules | `(tactic| k_dat $n:num "zc2")=>`(tactic| ((with_reducible refine' qFL $n [] ?hc ?N ?S ?hx ?nd ?i ?f ?e ?y ?yl ?sw ?hs);k_dat y "r";k_dat hc "r";k_dat N "m";(case S=>exact qH6 (by rfl));k_dat hx "r";(case nd=>decide +kernel);k_dat sw "r";k_dat yl "r";k_dat i "i";(case f=>(intro _ _ _ _;walk_at "d_if"));(case e=>(intro _ _ _ _;walk_at "d_e"));(case hs=>(intro _;rfl))))
local macro_rules | `(tactic| k_dat $n:num "zs0")=>`(tactic| ((with_reducible refine' qOj $n ?N ?e ?i ?x ?s ?f);k_dat i "r";k_dat s "r";k_dat N "m";(case x=>first | exact Or.inl rfl | exact Or.inr rfl);(case f=>first | exact .inl rfl | exact .inr rfl);k_dat e "e"))
local macro_rules | `(tactic| k_dat $n:num "zg0")=>`(tactic| ((with_reducible refine' qK1 $n ?nd ?n ?x ?f);k_dat n "r";k_dat nd "m";(case x=>first | exact Or.inl rfl | exact Or.inr rfl);(case f=>first | exact .inl rfl | exact .inr rfl)))
local macro_rules | `(tactic| k_dat $n:num "zu0")=>`(tactic| ((with_reducible refine' qII $n ?c ?g ?n ?s);k_dat n "r";k_dat c "r";(case g=>walk_at "d_gs");k_dat s "r"))
local macro_rules | `(tactic| k_dat $l:ident "s0")=>`(tactic| ((with_reducible refine' $l ?a ?b);k_dat a "e";k_dat b "e"))
local macro_rules | `(tactic| k_dat $l:ident "s1")=>`(tactic| ((with_reducible refine' $l ?a);k_dat a "e"))
local macro_rules | `(tactic| k_dat $l:ident "s2")=>`(tactic| ((with_reducible refine' $l ?a ?b ?h1 ?h2 ?h3 ?h4 ?h5);k_dat a "e";k_dat b "e";k_dat h1 "r";k_dat h2 "r";k_dat h3 "r";k_dat h4 "r";k_dat h5 "r"))
local macro_rules | `(tactic| k_dat $l:ident "s3")=>`(tactic| ((with_reducible refine' $l ?f ?n ?r ?a ?g ?db ?he ?hpl);k_dat f "m";k_dat n "r";(case r=>walk_at "d_room");k_dat a "a";k_dat g "r";k_dat db "d";k_dat he "r";k_dat hpl "r"))
local macro_rules | `(tactic| k_dat $l:ident "s4")=>`(tactic| ((with_reducible refine' $l ?hu ?a ?b ?m);(case hu=>walk_at "d_hu");k_dat a "e";k_dat b "e";k_dat m "n"))
local macro_rules | `(tactic| k_dat $l:ident "s5")=>`(tactic| ((with_reducible refine' $l ?a ?b ?m);k_dat a "e";k_dat b "e";k_dat m "n"))
local macro_rules | `(tactic| k_dat $l:ident "s6")=>`(tactic| ((with_reducible refine' $l ?c ?m ?a ?g ?he ?hpl);k_dat c "r";k_dat m "m";k_dat a "a";k_dat g "r";k_dat he "r";k_dat hpl "r"))
local macro_rules | `(tactic| k_dat $l:ident "s7")=>`(tactic| ((with_reducible refine' $l ?a);k_dat a "a"))
local macro_rules | `(tactic| k_dat $l:ident "s8")=>`(tactic| ((with_reducible refine' $l ?a ?l ?h);k_dat a "e";(case l=>walk_at "d_o");(case h=>walk_at "d_o")))
local macro_rules | `(tactic| k_dat $l:ident "s9")=>`(tactic| ((with_reducible refine' $l ?m ?a ?g ?he ?hpl);k_dat m "m";k_dat a "a";k_dat g "r";k_dat he "r";k_dat hpl "r"))
local macro_rules | `(tactic| k_dat $l:ident "s10")=>`(tactic| ((with_reducible refine' $l ?m ?g);k_dat m "m";k_dat g "r"))
local macro_rules | `(tactic| k_dat $l:ident "s11")=>`(tactic| ((with_reducible refine' $l ?a ?b ?c ?m);k_dat a "e";k_dat b "e";k_dat c "e";(case m=>with_unfolding_all rfl)))
local macro_rules | `(tactic| k_dat $l:ident "s12")=>`(tactic| ((with_reducible refine' $l ?a);k_dat a "t"))
local macro_rules | `(tactic| k_dat $l:ident "s13")=>`(tactic| ((with_reducible refine' $l ?a ?b);k_dat a "t";(case b=>walk_at "d_w")))
local macro_rules | `(tactic| k_dat $l:ident "s14")=>`(tactic| ((with_reducible refine' $l ?m ?a ?g ?s);k_dat m "m";k_dat a "e";k_dat g "r";k_dat s "r"))
local macro_rules | `(tactic| walk_at "d_room")=>`(tactic| first
  | exact qAC.mono (by assumption) (by decide))
local macro_rules | `(tactic| walk_at "d_hu")=>`(tactic| first
  | exact qQN (by assumption))
local macro_rules | `(tactic| walk_at "d_ps")=>`(tactic| first
  | (with_reducible exact dps_nil)
  | ((with_reducible refine' dps_cons ?v ?r);k_dat v "e";(case r=>walk_at "d_ps")))
local macro_rules | `(tactic| walk_at "d_e")=>`(tactic| first
  | (with_reducible exact qMz)
  | (with_reducible exact qNI)
  | (with_reducible exact qPT)
  | (with_reducible exact qOr)
  | ((with_reducible show DE _ (.Name _ _) _);first
      | (k_dat 0 "zv0")
      | (k_dat 1 "zv0")
      | (k_dat 2 "zv0")
      | (k_dat 3 "zv0")
      | (k_dat 4 "zv0")
      | (k_dat 5 "zv0")
      | (k_dat 6 "zv0")
      | (k_dat 7 "zv0")
      | (k_dat 8 "zv0")
      | (k_dat 9 "zv0")
      | (k_dat 10 "zv0")
      | (k_dat 11 "zv0")
      | (k_dat 12 "zv0")
      | (k_dat 13 "zv0")
      | (k_dat 14 "zv0")
      | (k_dat 15 "zv0"))
  | (k_dat qM2 "s0")
  | (k_dat qOW "s0")
  | (k_dat qNp "s0")
  | (k_dat qOB "s0")
  | (k_dat qNA "s0")
  | (k_dat qM0 "s0")
  | (k_dat qPj "s4")
  | (k_dat qJh "s5")
  | ((with_reducible show DE _ (.Subscript (.Dict _ _ _) (.Name _ _) _) _);first
      | (k_dat 0 "zi0")
      | (k_dat 1 "zi0")
      | (k_dat 2 "zi0")
      | (k_dat 3 "zi0")
      | (k_dat 4 "zi0")
      | (k_dat 5 "zi0")
      | (k_dat 6 "zi0")
      | (k_dat 7 "zi0")
      | (k_dat 8 "zi0")
      | (k_dat 9 "zi0")
      | (k_dat 10 "zi0")
      | (k_dat 11 "zi0")
      | (k_dat 12 "zi0")
      | (k_dat 13 "zi0")
      | (k_dat 14 "zi0")
      | (k_dat 15 "zi0"))
  | (k_dat qM9 "s7")
  | (k_dat qNw "s7")
  | (k_dat qIi "s8")
  | ((with_reducible refine' qP2 ?a ?b ?s);k_dat a "e";k_dat b "e";(case s=>exact fun _ _=>rfl))
  | ((with_reducible refine' qI1 ?f ?r ?a ?g ?db ?he ?hpl);k_dat f "m";(case r=>walk_at "d_room");k_dat a "a";k_dat g "r";k_dat db "d";k_dat he "r";k_dat hpl "r")
  | ((with_reducible refine' qIn ?f ?r ?g ?db);k_dat f "m";(case r=>walk_at "d_room");k_dat g "r";k_dat db "d")
  | (k_dat qNP "s9")
  | (k_dat qIQ "s9")
  | (k_dat qJg "s9")
  | (k_dat qLH "s9")
  | (k_dat qIw "s10")
  | (k_dat qID "s10")
  | (k_dat qGx "s10")
  | ((with_reducible refine' qN0 ?f ?g ?db);(case f=>first | assumption | exact qG3.con (by assumption));k_dat g "r";k_dat db "d")
  | (k_dat qIO "s2")
  | ((with_reducible refine' qIv ?G ?e ?g ?db ?h1 ?h2 ?h3 ?h4 ?h5);k_dat G "m";k_dat e "e";k_dat g "r";k_dat db "d";k_dat h1 "r";k_dat h2 "r";k_dat h3 "r";k_dat h4 "r";k_dat h5 "r")
  | (k_dat qOm "s1")
  | (k_dat qOU "s0")
  | (k_dat qNN "s1")
  | ((with_reducible refine' qPZ ?c ?a ?b);k_dat c "t";k_dat a "e";k_dat b "e")
  | ((with_reducible refine' qFH _ ?hc ?S ?hx ?nd ?i ?f ?e ?hs);k_dat hc "r";(case S=>exact qHk (by assumption) (by rfl));k_dat hx "r";(case nd=>decide +kernel);k_dat i "i";(case f=>(intro _ _ _ _;walk_at "d_if"));(case e=>(intro _ _ _ _;walk_at "d_e"));(case hs=>(intro _;rfl)))
  | ((with_reducible refine' qFH _ ?hc ?S ?hx ?nd ?i ?f ?e ?hs);k_dat hc "r";(case S=>exact qGO (by assumption) (by rfl));k_dat hx "r";(case nd=>decide +kernel);k_dat i "i";(case f=>(intro _ _ _ _;walk_at "d_if"));(case e=>(intro _ _ _ _;walk_at "d_e"));(case hs=>(intro _;rfl)))
  | ((with_reducible refine' qFH [] ?hc ?S ?hx ?nd ?i ?f ?e ?hs);k_dat hc "r";(case S=>exact qH6 (by rfl));k_dat hx "r";(case nd=>decide +kernel);k_dat i "i";(case f=>(intro _ _ _ _;walk_at "d_if"));(case e=>(intro _ _ _ _;walk_at "d_e"));(case hs=>(intro _;rfl)))
  | (k_dat qM3 "s6")
  | (k_dat qOe "s9")
  | (k_dat qKp "s9")
  | (k_dat qLz "s2")
  | (k_dat qJH "s2")
  | ((with_reducible refine' qOD ?m ?a ?c ?g ?he ?he2 ?hpl);k_dat m "m";(case c=>first | (refine' qGs.own ?o1 ?g1 ?d1;k_dat o1 "m";k_dat g1 "r";k_dat d1 "d") | (refine' qGs.blt ?o2 ?v2 ?g2 ?n2 ?d2;k_dat o2 "m";k_dat v2 "r";k_dat g2 "r";k_dat n2 "d";k_dat d2 "d"));k_dat g "r";k_dat he "r";k_dat he2 "r";k_dat hpl "r";k_dat a "e")
  | ((with_reducible refine' qNz ?m ?a ?c ?g ?he ?he2 ?hpl);k_dat m "m";(case c=>(refine' qLj.qQX ?o ?g1 ?g2 ?g3 ?g4 ?d1 ?d2 ?d3 ?d4 ?s1 ?s2 ?s3 ?s4;k_dat o "m";k_dat g1 "r";k_dat g2 "r";k_dat g3 "r";k_dat g4 "r";k_dat d1 "d";k_dat d2 "d";k_dat d3 "d";k_dat d4 "d";k_dat s1 "r";k_dat s2 "r";k_dat s3 "r";k_dat s4 "r"));k_dat g "r";k_dat he "r";k_dat he2 "r";k_dat hpl "r";k_dat a "e")
  | (k_dat qIY "s8")
  | ((with_reducible refine' qJt ?a ?h1 ?h2);k_dat a "e";k_dat h1 "r";k_dat h2 "r")
  | (k_dat qMD "s2")
  | (k_dat qIH "s2")
  | (k_dat qLc "s0")
  | ((with_reducible refine' qLP ?r ?a ?h);k_dat r "m";k_dat a "e";k_dat h "r")
  | ((with_reducible refine' qNi ?x ?k ?ex ?a ?g ?d ?he ?hpl);k_dat x "m";k_dat k "m";k_dat ex "r";k_dat a "a";k_dat g "r";k_dat d "d";k_dat he "r";k_dat hpl "r")
  | ((with_reducible refine' qM6 ?x ?r ?ex ?a ?g ?he ?hpl);k_dat x "m";(case r=>walk_at "d_room");k_dat ex "r";k_dat a "a";k_dat g "r";k_dat he "r";k_dat hpl "r"))
local macro_rules | `(tactic| walk_at "d_a")=>`(tactic| first
  | (with_reducible exact qBR)
  | ((with_reducible refine' qAk ?a ?b ?h);k_dat a "e";k_dat b "a";k_dat h "r"))
local macro_rules | `(tactic| walk_at "d_o")=>`(tactic| first
  | (with_reducible exact qLB)
  | (k_dat qKy "s1"))
local macro_rules | `(tactic| walk_at "d_t")=>`(tactic| first
  | (k_dat qOO "s12")
  | ((with_reducible refine' qMQ (qKB ?a ?b));k_dat a "t";(case b=>walk_at "d_w"))
  | ((with_reducible refine' qMQ (qMf ?a ?b));k_dat a "t";(case b=>walk_at "d_w"))
  | (k_dat qMq "s4")
  | (k_dat qNn "s4")
  | (k_dat qMm "s5")
  | (k_dat qMo "s5")
  | (k_dat qNG "s5")
  | (k_dat qOx "s5")
  | (k_dat qIp "s5")
  | (k_dat qNY "s5")
  | ((with_reducible refine' qMh ?a ?h);k_dat a "e";(case h=>(intro _;rfl))))
local macro_rules | `(tactic| walk_at "d_w")=>`(tactic| first
  | (k_dat qKB "s13")
  | (k_dat qMf "s13")
  | (k_dat qLb "s12")
  | (k_dat qNH "s12"))
local macro_rules | `(tactic| walk_at "d_if")=>`(tactic| first
  | (with_reducible exact qL0))
local macro_rules | `(tactic| walk_at "d_i")=>`(tactic| first
  | (k_dat qM8 "s1")
  | ((with_reducible refine' qJ1 ?m ?a ?b ?g ?s ?hall ?hks ?hpl ?hbk);k_dat m "m";k_dat a "e";k_dat b "e";k_dat g "r";k_dat s "r";k_dat hall "r";k_dat hks "r";k_dat hpl "r";(case hbk=>exact⟨_,rfl⟩))
  | (k_dat qIT "s14")
  | (k_dat qN5 "s1"))
local macro_rules | `(tactic| walk_at "d_g")=>`(tactic| first
  | (k_dat 0 "zg0")
  | (k_dat 1 "zg0")
  | (k_dat 2 "zg0")
  | (k_dat 3 "zg0")
  | (k_dat 4 "zg0")
  | (k_dat 5 "zg0")
  | (k_dat 6 "zg0")
  | (k_dat 7 "zg0")
  | (k_dat 8 "zg0")
  | (k_dat 9 "zg0")
  | (k_dat 10 "zg0")
  | (k_dat 11 "zg0")
  | (k_dat 12 "zg0")
  | (k_dat 13 "zg0")
  | (k_dat 14 "zg0")
  | (k_dat 15 "zg0")
  | (k_dat 1 "zu0")
  | (k_dat 2 "zu0")
  | (k_dat 3 "zu0")
  | (k_dat 4 "zu0")
  | (k_dat 5 "zu0")
  | (k_dat 6 "zu0")
  | (k_dat 7 "zu0")
  | (k_dat 8 "zu0")
  | ((with_reducible refine' qNQ ?a ?b ?h);k_dat a "e";k_dat b "e";(case h=>(intro _;rfl))))
local macro_rules | `(tactic| walk_at "d_gs")=>`(tactic| first
  | (with_reducible exact qL2)
  | ((with_reducible refine' qKR ?a ?b ?h);(case a=>walk_at "d_g");(case b=>walk_at "d_gs");k_dat h "r"))
local macro_rules | `(tactic| walk_at "d_s")=>`(tactic| first
  | (k_dat qOX "s1")
  | ((with_reducible refine' qPS ?c ?a ?b);k_dat c "t";k_dat a "s";k_dat b "s")
  | ((with_reducible refine' qLS ?a ?h);k_dat h "r";k_dat a "e")
  | ((with_reducible refine' qNj ?p ?c ?i ?g ?b ?h);(case p=>exact PassesOwn.never);k_dat c "r";k_dat i "i";(case g=>walk_at "d_g");k_dat b "s";(case h=>(intro _;rfl)))
  | ((with_reducible show DS _ (.Assign [.Name _ _] (.ListComp _ _ _ _) _) _);first
      | (k_dat 0 "zc0")
      | (k_dat 0 "zc1")
      | (k_dat 0 "zc2")
      | (k_dat 1 "zc0")
      | (k_dat 1 "zc1")
      | (k_dat 1 "zc2")
      | (k_dat 2 "zc0")
      | (k_dat 2 "zc1")
      | (k_dat 2 "zc2")
      | (k_dat 3 "zc0")
      | (k_dat 3 "zc1")
      | (k_dat 3 "zc2")
      | (k_dat 4 "zc0")
      | (k_dat 4 "zc1")
      | (k_dat 4 "zc2")
      | (k_dat 5 "zc0")
      | (k_dat 5 "zc1")
      | (k_dat 5 "zc2")
      | (k_dat 6 "zc0")
      | (k_dat 6 "zc1")
      | (k_dat 6 "zc2")
      | (k_dat 7 "zc0")
      | (k_dat 7 "zc1")
      | (k_dat 7 "zc2")
      | (k_dat 8 "zc0")
      | (k_dat 8 "zc1")
      | (k_dat 8 "zc2")
      | (k_dat 9 "zc0")
      | (k_dat 9 "zc1")
      | (k_dat 9 "zc2")
      | (k_dat 10 "zc0")
      | (k_dat 10 "zc1")
      | (k_dat 10 "zc2")
      | (k_dat 11 "zc0")
      | (k_dat 11 "zc1")
      | (k_dat 11 "zc2")
      | (k_dat 12 "zc0")
      | (k_dat 12 "zc1")
      | (k_dat 12 "zc2")
      | (k_dat 13 "zc0")
      | (k_dat 13 "zc1")
      | (k_dat 13 "zc2")
      | (k_dat 14 "zc0")
      | (k_dat 14 "zc1")
      | (k_dat 14 "zc2")
      | (k_dat 15 "zc0")
      | (k_dat 15 "zc1")
      | (k_dat 15 "zc2"))
  | ((with_reducible show DS _ (.Assign [.Name _ _] _ _) _);first
      | (k_dat 0 "zs0")
      | (k_dat 1 "zs0")
      | (k_dat 2 "zs0")
      | (k_dat 3 "zs0")
      | (k_dat 4 "zs0")
      | (k_dat 5 "zs0")
      | (k_dat 6 "zs0")
      | (k_dat 7 "zs0")
      | (k_dat 8 "zs0")
      | (k_dat 9 "zs0")
      | (k_dat 10 "zs0")
      | (k_dat 11 "zs0")
      | (k_dat 12 "zs0")
      | (k_dat 13 "zs0")
      | (k_dat 14 "zs0")
      | (k_dat 15 "zs0"))
  | ((with_reducible refine' qMs ?e ?g ?s ?w ?h);k_dat s "r";k_dat w "r";k_dat h "r";k_dat e "e";(case g=>walk_at "d_g"))
  | ((with_reducible show DS _ (.AugAssign (.Name _ _) _ _ _) _);first
      | (k_dat 15 "za0"))
  | ((with_reducible refine' qLQ 3 ?F ?r ?bd ?z ?nd ?a ?s ?g ?db ?he ?hpl ?sw ?st ?fr ?ex ?gz ?j ?nl);k_dat F "m";(case r=>walk_at "d_room");k_dat bd "m";k_dat z "m";k_dat nd "m";k_dat g "r";k_dat db "d";k_dat he "r";k_dat hpl "r";k_dat sw "r";k_dat st "r";k_dat fr "r";k_dat ex "r";k_dat gz "r";k_dat j "r";k_dat nl "r";k_dat a "a";(case s=>(intro _;walk_at "d_ss"))))
local macro_rules | `(tactic| walk_at "db_s")=>`(tactic| first
  | ((with_reducible refine' qJC ?b ?r ?c ?ex ?E ?g ?a ?he ?hpl);k_dat b "m";(case r=>walk_at "d_room");k_dat c "r";k_dat ex "r";(case E=>exact qGi);k_dat g "r";k_dat a "a";k_dat he "r";k_dat hpl "r")
  | (k_dat qNv "s1")
  | ((with_reducible refine' qPJ ?c ?a ?b);k_dat c "t";(case a=>walk_at "db_ss");(case b=>walk_at "db_ss"))
  | ((with_reducible refine' qOC ?p ?c ?i ?g ?b ?h);(case p=>exact PassesOwn.leaving);k_dat c "r";k_dat i "i";(case g=>walk_at "d_g");(case b=>walk_at "db_ss");(case h=>(intro _;rfl)))
  | ((with_reducible refine' qPs ?a ?h);(case h=>exact fun _ _ _ h=>h);(case a=>walk_at "d_s")))
local macro_rules | `(tactic| walk_at "db_ss")=>`(tactic| first
  | (with_reducible exact qLK)
  | ((with_reducible refine' qGS ?a ?b);(case a=>walk_at "db_s");(case b=>walk_at "db_ss")))
local macro_rules | `(tactic| walk_at "d_ss")=>`(tactic| first
  | (with_reducible exact qMB)
  | ((with_reducible refine' qF3 ?a ?b);(case a=>walk_at "d_s");k_dat b "s"))
set_option hygiene false in
local macro_rules | `(tactic| k_dat ($a,$t,$r) "kb")=>`(tactic| (have nd:=($a).nd;refine qLo F $a (fun ds st Pd h=>by obtain⟨_,rfl,_⟩:=h;rfl) fun cdv A outer s H E hr=>?_;refine⟨$t,?t,fun ds st Pd h=>$r h⟩;(case t=>(refine' qGS ?a ?b;(case a=>walk_at "db_s");(case b=>walk_at "db_ss")))))
set_option hygiene false in
local macro_rules | `(tactic| k_dat ($a,$t,$r) "k")=>`(tactic| (have nd:=($a).nd;refine qNO F $a (fun ds st Pd h=>by first | (obtain⟨rfl,_⟩:=h;rfl) | (obtain⟨_,rfl,_⟩:=h;rfl) | (obtain⟨_,_,rfl,_⟩:=h;rfl) | (obtain⟨_,_,_,_,_,rfl,_⟩:=h;rfl) | (obtain⟨⟨_,rfl⟩,_⟩:=h;rfl) | (obtain⟨⟨_,_,rfl,_⟩,_⟩:=h;rfl) | (obtain⟨⟨_,_,_,rfl⟩,_⟩:=h;rfl)) fun cdv A outer s H E hr=>?_;refine⟨$t,?t,fun ds st Pd h=>$r h⟩;(case t=>(refine' qF3 ?a ?b;(case a=>walk_at "d_s");(case b=>walk_at "d_ss")))))
local macro_rules | `(tactic| k_dat 0 "c")=>`(tactic| exact⟨rfl,rfl,rfl,by decide +kernel,rfl,by decide +kernel,by decide +kernel⟩)
noncomputable def top (i:Nat):Stmt:=PySem.Challenge.pw_asitruns_k03_bad_row.main.body.getD i (.Pass ⟨0,0,0,0⟩)
noncomputable abbrev qBr:Stmt:=top 9
noncomputable abbrev qBp:Stmt:=top 10
noncomputable abbrev qAb:Stmt:=top 11
noncomputable abbrev qG8:Stmt:=top 12
noncomputable abbrev qBQ:Stmt:=top 14
noncomputable abbrev qCM:Stmt:=top 15
noncomputable abbrev qAT:Stmt:=top 16
noncomputable abbrev qAU:Stmt:=top 17
noncomputable abbrev qBf:Stmt:=top 18
noncomputable abbrev qBt:Stmt:=top 19
noncomputable abbrev qAt:Stmt:=top 20
noncomputable abbrev qAu:Stmt:=top 21
noncomputable abbrev qAv:Stmt:=top 23
noncomputable abbrev qBO:Stmt:=top 22
noncomputable abbrev qBe:Stmt:=top 24
noncomputable abbrev qEZ:Stmt:=top 25
section
variable {P:Program} {w:World} {K:W.Frag} {mg:Str→Option Value} {base:Heap} {f:Addr} {fd:FuncData}
theorem qFz:qb ["row"] ["row"] (qO qBr):=by k_dat 0 "c"
theorem qGE (F:Fun K "number_of" "number_of" qBr f fd) (gT0:qG3 K mg "WORDS" K01.q8):qAG P w K mg base CX0 1 f fd ["row"] (qd K K01.qBZ):=by
  k_dat (qFz,K01.qC9,K01.qDt) "k"
theorem qGM:qb ["figures", "greatest", "number"] ["figures", "greatest"] (qO qBp):=by k_dat 0 "c"
theorem qGC (F:Fun K "number_in" "number_in" qBp f fd) (m3:mg "len" = none) (m4:mg "int" = none) (m9:mg "str" = none) (m10:mg "any" = none):qAG P w K mg base CX0 1 f fd ["figures", "greatest"] (qd K K02.qA4):=by
  k_dat (qGM,K02.qBo,K02.qFB) "k"
theorem qCv:qb ["line", "parts", "a", "b", "c"] ["line"] (qO qAb):=by k_dat 0 "c"
theorem qC1 (F:Fun K "number_of_line" "number_of_line" qAb f fd) (gT0:qG3 K mg "WORDS" K01.q8) (m3:mg "len" = none) (dnumber_of:qx P w K mg base "number_of" 1 K01.qBZ) (dnumber_in:qx P w K mg base "number_in" 1 K02.qA4):qAG P w K mg base CX0 2 f fd ["line"] (qd K K02.qD2):=by
  k_dat (qCv,K02.qAa,K02.qCf) "k"
theorem qOR:qb ["text", "cells", "row", "line", "number"] ["text"] (qO qG8):=by k_dat 0 "c"
noncomputable abbrev qDf:Stmt:=inClass (top 2) 0
theorem qN6:qb ["self", "row"] ["self", "row"] (qO qDf):=by k_dat 0 "c"
theorem qNM {C G f0:Addr} (F:Fun K "__init__" "BadRow.__init__" qDf f fd) (bc:qFc K mg "GuestError" C G f0):qAG P w K mg base CX0 1 f fd ["self", "row"] (qEc C):=by
  obtain⟨oc,od,kV,doc,pm,an,cdv,ct,osl,rfl,lk,hcd⟩:=F.ex
  refine qJM lk hcd qN6 (fun vs H Q E h=>?_) fun A outer s H vs Q E hr h=>?_
  · obtain⟨_,_,rfl,_⟩:=h;rfl
  · refine⟨_,qCb (qH1 (qI6 (pl:=_) bc rfl (by decide) (qA5 (qEA (i:=0) rfl (.inl rfl)) (qA5 (qLW (qEA (i:=1) rfl (.inl rfl)) (by decide)) qDk)) rfl rfl rfl)) (qCb (qKu bc (qEA (i:=0) rfl (.inl rfl)) (qEA (i:=1) rfl (.inl rfl)) rfl) qE5),?_⟩
    obtain⟨e,i,rfl,i0,i1,he,hq⟩:=h
    refine⟨.ref e,rfl,.int i,rfl,i,rfl,K03.qHC (k:=6) i0 (by lia) (by decide),?_,fun z=>⟨e,none,z,rfl,he,?_⟩⟩
    · have:=(K03.qMI (k:=6) (by decide) i0 (by lia)).l
      have h4:(("row " : Str)).length=4:=by decide +kernel
      have h5:((" is no row of a program" : Str)).length=23:=by decide +kernel
      show (("row " : Str)).length+(K02.fig i).length+((" is no row of a program" : Str)).length≤sizeLine
      rw [sizeLine_eq]
      lia
    · refine⟨.int i,rfl,.ref e,rfl,e,rfl,qQ,fun dx n1 ne=>?_⟩
      exact hq dx _ qQ (fun b hb=>qL hb) n1 ne
theorem qMw (F:Fun K "read" "read" qG8 f fd) (m1:mg "tuple" = none) (m6:mg "enumerate" = none) (dnumber_of_line:qx P w K mg base "number_of_line" 2 K02.qD2) (bR:qGo P w K mg base 1):qAG P w K mg base (CXD K P w) 3 f fd ["text"] (qB3 K K03.qB1):=by
  k_dat (qOR,K03.qHG,K03.qLJ) "kb"
theorem qFj:qb ["some"] [] (qO qBQ):=by k_dat 0 "c"
theorem qFP (F:Fun K "_law_words" "_law_words" qBQ f fd)  : qAG P w K mg base CX0 1 f fd [] (qd K K01.qv):=by
  k_dat (qFj,K01.qCT,K01.qGu) "k"
theorem qGt:qb ["cell", "rest"] ["cell"] (qO qCM):=by k_dat 0 "c"
theorem qHO (F:Fun K "_law_row" "_law_row" qCM f fd) (m9:mg "str" = none) (d_law_words:qx P w K mg base "_law_words" 1 K01.qv):qAG P w K mg base CX0 2 f fd ["cell"] (qd K K03.qCC):=by
  k_dat (qGt,K03.qCL,K03.qF8) "k"
theorem qCn:qb ["word", "cell", "letters", "others", "at", "found"] ["word", "cell"] (qO qAT):=by k_dat 0 "c"
theorem qCX (F:Fun K "_law_other_word" "_law_other_word" qAT f fd) (m3:mg "len" = none) (d_law_words:qx P w K mg base "_law_words" 1 K01.qv):qAG P w K mg base CX0 2 f fd ["word", "cell"] (qd K K03.qDU):=by
  k_dat (qCn,K03.qAR,K03.qCH) "k"
theorem qCl:qb ["cell", "most", "some"] ["cell", "most"] (qO qAU):=by k_dat 0 "c"
theorem qCe (F:Fun K "_law_odd_number" "_law_odd_number" qAU f fd) (m9:mg "str" = none):qAG P w K mg base CX0 1 f fd ["cell", "most"] (qd K K03.qES):=by
  k_dat (qCl,K03.qAY,K03.qCI) "k"
theorem qGH:qb ["cell", "rest", "words", "way", "some"] ["cell"] (qO qBf):=by k_dat 0 "c"
theorem qGK (F:Fun K "_law_none" "_law_none" qBf f fd) (d_law_row:qx P w K mg base "_law_row" 2 K03.qCC) (d_law_other_word:qx P w K mg base "_law_other_word" 2 K03.qDU) (d_law_odd_number:qx P w K mg base "_law_odd_number" 1 K03.qES):qAG P w K mg base CX0 3 f fd ["cell"] (qd K K03.qFC):=by
  k_dat (qGH,K03.qBd,K03.qE7) "k"
theorem qGf:qb ["cell", "signs", "rest", "parts", "k", "some", "text"] ["cell"] (qO qBt):=by k_dat 0 "c"
theorem qFy (F:Fun K "_law_free" "_law_free" qBt f fd) (m7:mg "range" = none) (m9:mg "str" = none) (d_law_words:qx P w K mg base "_law_words" 1 K01.qv) (d_law_row:qx P w K mg base "_law_row" 2 K03.qCC):qAG P w K mg base CX0 3 f fd ["cell"] (qd K K03.qFQ):=by
  k_dat (qGf,K03.qBu,K03.qFm) "k"
theorem qDs:qb ["word", "most", "number", "sign"] ["word", "most"] (qO qAt):=by k_dat 0 "c"
theorem qEC (F:Fun K "_law_figures" "_law_figures" qAt f fd) (m3:mg "len" = none):qAG P w K mg base CX0 1 f fd ["word", "most"] (qd K K03.qC8):=by
  k_dat (qDs,K03.qAn,K03.qDG) "k"
theorem qEF:qb ["row", "parts", "numbers"] ["row"] (qO qAu):=by k_dat 0 "c"
theorem qDg (F:Fun K "_law_reading" "_law_reading" qAu f fd) (m3:mg "len" = none) (d_law_words:qx P w K mg base "_law_words" 1 K01.qv) (d_law_figures:qx P w K mg base "_law_figures" 1 K03.qC8):qAG P w K mg base CX0 2 f fd ["row"] (qd K K03.qB0):=by
  k_dat (qEF,K03.qAr,K03.qDH) "k"
theorem qDz:qb ["text", "row", "caught", "e"] ["text", "row"] (qO qAv):=by k_dat 0 "c"
theorem qDx (F:Fun K "_law_refused" "_law_refused" qAv f fd) (m2:mg "isinstance" = none) (m4:mg "int" = none) (m5:mg "bool" = none) (m11:mg "ValueError" = none) (dread:qD0 P w K mg base "read" 3 K03.qB1) (bR:qGo P w K mg base 1) (zG:∀ G,mg "GuestError" = some (.ref G)→qGe K "GuestError" G) (o1:qHz K mg "NoAsk" "NoPaper" "NoStep" "NoTurning" ["BadRow"] (fun _=>false)) (o2:qJp K mg "ValueError" "ValueError" ["BadRow"] (fun _=>true)) (o3:qGa K mg "BadRow" ["BadRow"] (fun _=>true)) (rA:qFW K):qAG P w K mg base CX0 4 f fd ["text", "row"] (qd K K03.qAI):=by
  k_dat (qDz,K03.qAp,K03.qDF) "k"
theorem qFT:qb ["rows", "due", "text", "found"] ["rows"] (qO qBO):=by k_dat 0 "c"
theorem qE0 (F:Fun K "_law_right" "_law_right" qBO f fd) (m1:mg "tuple" = none) (m2:mg "isinstance" = none) (dread:qx P w K mg base "read" 3 K03.qDO) (d_law_reading:qx P w K mg base "_law_reading" 2 K03.qB0) (d_law_refused:qx P w K mg base "_law_refused" 4 K03.qAI):qAG P w K mg base CX0 5 f fd ["rows"] (qd K K03.qAz):=by
  k_dat (qFT,K03.qBU,K03.qEL) "k"
theorem qF1:qb ["some", "one"] [] (qO qBe):=by k_dat 0 "c"
theorem qF0 (F:Fun K "_law_made" "_law_made" qBe f fd) (m2:mg "isinstance" = none) (m11:mg "ValueError" = none) (rNoAsk:qCB K mg "NoAsk") (kNoAsk:∀ C,mg (Str.ofString "NoAsk")=some (.ref C)→W.keepIn K (.ref C)=true) (rNoPaper:qCB K mg "NoPaper") (kNoPaper:∀ C,mg (Str.ofString "NoPaper")=some (.ref C)→W.keepIn K (.ref C)=true) (rNoStep:qCB K mg "NoStep") (kNoStep:∀ C,mg (Str.ofString "NoStep")=some (.ref C)→W.keepIn K (.ref C)=true) (rNoTurning:qCB K mg "NoTurning") (kNoTurning:∀ C,mg (Str.ofString "NoTurning")=some (.ref C)→W.keepIn K (.ref C)=true) (bR:qGo P w K mg base 1) (o4:qGa K mg "GuestError" ["NoAsk", "NoPaper", "NoStep", "NoTurning", "BadRow"] (fun _=>true)) (o5:qJp K mg "ValueError" "ValueError" ["NoAsk", "NoPaper", "NoStep", "NoTurning", "BadRow"] (fun _=>true)) (o6:qGa K mg "NoAsk" ["BadRow"] (fun _=>false)) (rA:qFW K):qAG P w K mg base CX0 3 f fd [] (qd K K03.qEB):=by
  k_dat (qF1,K03.qBg,K03.qFS) "k"
theorem qPe:qb ["script", "cells", "many", "rows", "spoiled", "k", "cell", "at", "row", "behind"] ["script"] (qO qEZ):=by k_dat 0 "c"
theorem qPc (F:Fun K "law" "law" qEZ f fd) (m3:mg "len" = none) (m7:mg "range" = none) (m8:mg "list" = none) (d_law_row:qx P w K mg base "_law_row" 2 K03.qCC) (d_law_none:qx P w K mg base "_law_none" 3 K03.qFC) (d_law_free:qx P w K mg base "_law_free" 3 K03.qFQ) (d_law_refused:qx P w K mg base "_law_refused" 4 K03.qAI) (d_law_right:qx P w K mg base "_law_right" 5 K03.qAz) (d_law_made:qx P w K mg base "_law_made" 3 K03.qEB):qAG P w K mg base CX0 6 f fd ["script"] (qd K qGW):=by
  have hint0:Hint [(1, "cells")]:=⟨trivial⟩
  k_dat (qPe,qJc,qOi) "k"
end
@[elab_as_elim] theorem len1 {C:List Value→Prop} (us:List Value) (hl:us.length=1) (h:∀ a0,C [a0]):C us:=by
  match us,hl with
  | [a0],_=>exact h _
@[elab_as_elim] theorem len2 {C:List Value→Prop} (us:List Value) (hl:us.length=2) (h:∀ a0 a1,C [a0,a1]):C us:=by
  match us,hl with
  | [a0,a1],_=>exact h _ _
@[elab_as_elim] theorem len3 {C:List Value→Prop} (us:List Value) (hl:us.length=3) (h:∀ a0 a1 a2,C [a0,a1,a2]):C us:=by
  match us,hl with
  | [a0,a1,a2],_=>exact h _ _ _
@[elab_as_elim] theorem len4 {C:List Value→Prop} (us:List Value) (hl:us.length=4) (h:∀ a0 a1 a2 a3,C [a0,a1,a2,a3]):C us:=by
  match us,hl with
  | [a0,a1,a2,a3],_=>exact h _ _ _ _
@[elab_as_elim] theorem len5 {C:List Value→Prop} (us:List Value) (hl:us.length=5) (h:∀ a0 a1 a2 a3 a4,C [a0,a1,a2,a3,a4]):C us:=by
  match us,hl with
  | [a0,a1,a2,a3,a4],_=>exact h _ _ _ _ _
@[elab_as_elim] theorem len6 {C:List Value→Prop} (us:List Value) (hl:us.length=6) (h:∀ a0 a1 a2 a3 a4 a5,C [a0,a1,a2,a3,a4,a5]):C us:=by
  match us,hl with
  | [a0,a1,a2,a3,a4,a5],_=>exact h _ _ _ _ _ _
@[elab_as_elim] theorem len7 {C:List Value→Prop} (us:List Value) (hl:us.length=7) (h:∀ a0 a1 a2 a3 a4 a5 a6,C [a0,a1,a2,a3,a4,a5,a6]):C us:=by
  match us,hl with
  | [a0,a1,a2,a3,a4,a5,a6],_=>exact h _ _ _ _ _ _ _
@[elab_as_elim] theorem len8 {C:List Value→Prop} (us:List Value) (hl:us.length=8) (h:∀ a0 a1 a2 a3 a4 a5 a6 a7,C [a0,a1,a2,a3,a4,a5,a6,a7]):C us:=by
  match us,hl with
  | [a0,a1,a2,a3,a4,a5,a6,a7],_=>exact h _ _ _ _ _ _ _ _
@[elab_as_elim] theorem len9 {C:List Value→Prop} (us:List Value) (hl:us.length=9) (h:∀ a0 a1 a2 a3 a4 a5 a6 a7 a8,C [a0,a1,a2,a3,a4,a5,a6,a7,a8]):C us:=by
  match us,hl with
  | [a0,a1,a2,a3,a4,a5,a6,a7,a8],_=>exact h _ _ _ _ _ _ _ _ _
theorem all_mk {l:W.OpenLaw} {w:World} {K:W.Frag} {h:Heap} {mg:Str→Option Value} {fa:Addr} (X:K.In h) (G:h.Ns mainGlobals mg) (hfa:mg "law" = some (.ref fa))
    (h0:qAH K "number_of" qBr)
    (h1:qAH K "number_in" qBp)
    (h2:qAH K "number_of_line" qAb)
    (h3:qAH K "read" qG8)
    (h4:qAH K "_law_words" qBQ)
    (h5:qAH K "_law_row" qCM)
    (h6:qAH K "_law_other_word" qAT)
    (h7:qAH K "_law_odd_number" qAU)
    (h8:qAH K "_law_none" qBf)
    (h9:qAH K "_law_free" qBt)
    (h10:qAH K "_law_figures" qAt)
    (h11:qAH K "_law_reading" qAu)
    (h12:qAH K "_law_refused" qAv)
    (h13:qAH K "_law_right" qBO)
    (h14:qAH K "_law_made" qBe)
    (h15:qAH K "law" qEZ)
    {aT0:Addr} {iT0:Array Value} {nT0:Nat} {sT0:Array (Option Value)} (b0:W.nsIn K mainGlobals "WORDS" = some (some (.ref aT0))) (e0:K.lookup aT0=some ⟨.type "tuple",none,.seq iT0 nT0,sT0⟩) (v0:qAx iT0.toList K01.qA8=true) (w0:iT0.size≤sizeLine)
    {CB GB FB A1 A2 A3 A4:Addr}
    (aCB:W.nsIn K mainGlobals "BadRow" = some (some (.ref CB)))
    (aGB:W.nsIn K mainGlobals "GuestError" = some (some (.ref GB)))
    (aA1:W.nsIn K mainGlobals "NoAsk" = some (some (.ref A1)))
    (aA2:W.nsIn K mainGlobals "NoPaper" = some (some (.ref A2)))
    (aA3:W.nsIn K mainGlobals "NoStep" = some (some (.ref A3)))
    (aA4:W.nsIn K mainGlobals "NoTurning" = some (some (.ref A4)))
    {oB:Obj} (lB:K.lookup CB=some oB)
    {nmB qnB NB bsB hdB snB subB abB colB ddB k0B k1B k2B k3B k5B:_} (eB:oB=excClassObj nmB qnB CB NB bsB (.ref GB::bmV) hdB snB subB abB colB ddB k0B k1B k2B k3B k5B "ValueError.__new__")
    (nB:W.nsOkIn K NB=true)
    (iB:W.nsIn K NB "__init__" = some (some (.ref FB)))
    (tB:W.tailIn K bmV (.ref GB::bmV)=true)
    (fB:W.typeIn K (.ref FB)=some (.type "function"))
    (sB:W.findIn K (.ref CB) "__setattr__" = some (some (.builtin "object.__setattr__")))
    (rB:W.findIn K (.ref CB) "row" = some none)
    {cdB:ClassData} (dB:W.clsIn K CB=some cdB)
    (hB:cdB.hasDict=true) (mB:cdB.mro = .ref CB :: .ref GB::bmV)
    (pB:W.specialIn K (.ref GB) "__getattribute__" = some (some (.builtin "type.__getattribute__")))
    (qB:W.readsIn K GB (.type "type")=true)
    (uB:W.findCls K (.ref GB) (.type "type") "__init__" = some (.val (.builtin "ValueError.__init__")))
    (kB:W.keepIn K (.ref CB)=true)
    {ocF kVF docF pmF cdF ctF:Value} {odF anF:Option Addr} {slF:Array (Option Value)} (lF:K.lookup FB=some ⟨ocF,odF,.func (W.fnOf "__init__" "BadRow.__init__" (qAK qDf) (qq qDf) (qO qDf) .none kVF docF pmF anF cdF ctF),slF⟩)
    (cF:W.codeIn K cdF "BadRow.__init__" = true) (kF:W.keepIn K (.ref FB)=true)
    (eR:W.subIn K (.ref CB) (.type "BaseException")=some true) (hR:W.hasDictIn K CB=true)
    (xG:W.excIn K GB [.type "ValueError",.type "Exception",.type "BaseException",.type "object"] "ValueError.__new__" = true)
    (xA1:W.excIn K A1 [.type "ValueError",.type "Exception",.type "BaseException",.type "object"] "ValueError.__new__" = true) (kA1:W.keepIn K (.ref A1)=true)
    (xA2:W.excIn K A2 [.type "ValueError",.type "Exception",.type "BaseException",.type "object"] "ValueError.__new__" = true) (kA2:W.keepIn K (.ref A2)=true)
    (xA3:W.excIn K A3 [.type "ValueError",.type "Exception",.type "BaseException",.type "object"] "ValueError.__new__" = true) (kA3:W.keepIn K (.ref A3)=true)
    (xA4:W.excIn K A4 [.type "ValueError",.type "Exception",.type "BaseException",.type "object"] "ValueError.__new__" = true) (kA4:W.keepIn K (.ref A4)=true)
    (g5:W.specialIn K (.builtin "object.__class__") "__get__" = some (some (.builtin "getset_descriptor.__get__"))) (g6:W.takesIn K (.builtin "object.__class__")=some true)
    (q2CB:W.findIn K (.ref CB) "__getattribute__" = some (some (.builtin "BaseException.__getattribute__"))) (q3CB:W.findIn K (.ref CB) "__getattr__" = some none) (q4CB:W.findIn K (.ref CB) "__class__" = some (some (.builtin "object.__class__"))) (q7CB:W.mroIn K CB (.type "object")=some true)
    {cqA1:ClassData} (q1A1:W.clsIn K A1=some cqA1)
    (q2A1:W.findIn K (.ref A1) "__getattribute__" = some (some (.builtin "BaseException.__getattribute__"))) (q3A1:W.findIn K (.ref A1) "__getattr__" = some none) (q4A1:W.findIn K (.ref A1) "__class__" = some (some (.builtin "object.__class__"))) (q7A1:W.mroIn K A1 (.type "object")=some true)
    (q8A1:W.subIn K (.ref A1) (.type "BaseException")=some true)
    {cqA2:ClassData} (q1A2:W.clsIn K A2=some cqA2)
    (q2A2:W.findIn K (.ref A2) "__getattribute__" = some (some (.builtin "BaseException.__getattribute__"))) (q3A2:W.findIn K (.ref A2) "__getattr__" = some none) (q4A2:W.findIn K (.ref A2) "__class__" = some (some (.builtin "object.__class__"))) (q7A2:W.mroIn K A2 (.type "object")=some true)
    (q8A2:W.subIn K (.ref A2) (.type "BaseException")=some true)
    {cqA3:ClassData} (q1A3:W.clsIn K A3=some cqA3)
    (q2A3:W.findIn K (.ref A3) "__getattribute__" = some (some (.builtin "BaseException.__getattribute__"))) (q3A3:W.findIn K (.ref A3) "__getattr__" = some none) (q4A3:W.findIn K (.ref A3) "__class__" = some (some (.builtin "object.__class__"))) (q7A3:W.mroIn K A3 (.type "object")=some true)
    (q8A3:W.subIn K (.ref A3) (.type "BaseException")=some true)
    {cqA4:ClassData} (q1A4:W.clsIn K A4=some cqA4)
    (q2A4:W.findIn K (.ref A4) "__getattribute__" = some (some (.builtin "BaseException.__getattribute__"))) (q3A4:W.findIn K (.ref A4) "__getattr__" = some none) (q4A4:W.findIn K (.ref A4) "__class__" = some (some (.builtin "object.__class__"))) (q7A4:W.mroIn K A4 (.type "object")=some true)
    (q8A4:W.subIn K (.ref A4) (.type "BaseException")=some true)
    (t1:W.kitAny K (.type "NoneType") [.ref A1,.ref A2,.ref A3,.ref A4]=some false)
    (t2:W.kitAny K (.ref CB) [.ref A1,.ref A2,.ref A3,.ref A4]=some false)
    (t3:W.kitAny K (.type "NoneType") [.type "ValueError"]=some false)
    (t4:W.kitAny K (.type "NoneType") [.ref CB]=some false)
    (t5:W.kitAny K (.ref CB) [.ref CB]=some true)
    (t6:W.kitAny K (.type "NoneType") [.ref GB]=some false)
    (t7:W.kitAny K (.type "NoneType") [.ref A1]=some false)
    (t8:W.kitAny K (.ref CB) [.ref A1]=some false)
    (tvCB:W.kitAny K (.ref CB) [.type "ValueError"]=some true)
    (tgCB:W.kitAny K (.ref CB) [.ref GB]=some true)
    (tvA1:W.kitAny K (.ref A1) [.type "ValueError"]=some true)
    (tgA1:W.kitAny K (.ref A1) [.ref GB]=some true)
    (tvA2:W.kitAny K (.ref A2) [.type "ValueError"]=some true)
    (tgA2:W.kitAny K (.ref A2) [.ref GB]=some true)
    (tvA3:W.kitAny K (.ref A3) [.type "ValueError"]=some true)
    (tgA3:W.kitAny K (.ref A3) [.ref GB]=some true)
    (tvA4:W.kitAny K (.ref A4) [.type "ValueError"]=some true)
    (tgA4:W.kitAny K (.ref A4) [.ref GB]=some true)
    (z0:W.nsIn K mainGlobals "all" = some none)
    (z1:W.nsIn K mainGlobals "tuple" = some none)
    (z2:W.nsIn K mainGlobals "isinstance" = some none)
    (z3:W.nsIn K mainGlobals "len" = some none)
    (z4:W.nsIn K mainGlobals "int" = some none)
    (z5:W.nsIn K mainGlobals "bool" = some none)
    (z6:W.nsIn K mainGlobals "enumerate" = some none)
    (z7:W.nsIn K mainGlobals "range" = some none)
    (z8:W.nsIn K mainGlobals "list" = some none)
    (z9:W.nsIn K mainGlobals "str" = some none)
    (z10:W.nsIn K mainGlobals "any" = some none)
    (z11:W.nsIn K mainGlobals "ValueError" = some none)
    : ∃ fd:FuncData,(∀ (s:Shared) (v:Value),BindsTo s fd ⟨[v],[]⟩ [("script",v)])∧∀ base:Heap,K.In base→base.Ns mainGlobals mg→qAG l.prog w K mg base CX0 6 fa fd ["script"] (qd K qGW):=by
  obtain⟨f9,fd9,a9,F9⟩:=h15.ex
  have e:=hfa.symm.trans (W.mg_of X G a9)
  cases e
  have gT0:=qId (mg:=mg) (x:= "WORDS") (W.mg_of X G b0) e0 v0 w0
  have m0:=W.mg_none_of X G z0
  have m1:=W.mg_none_of X G z1
  have m2:=W.mg_none_of X G z2
  have m3:=W.mg_none_of X G z3
  have m4:=W.mg_none_of X G z4
  have m5:=W.mg_none_of X G z5
  have m6:=W.mg_none_of X G z6
  have m7:=W.mg_none_of X G z7
  have m8:=W.mg_none_of X G z8
  have m9:=W.mg_none_of X G z9
  have m10:=W.mg_none_of X G z10
  have m11:=W.mg_none_of X G z11
  have bC:qFc K mg "GuestError" CB GB FB:=⟨⟨_,_,_,_,_,_,_,_,_,_,_,_,_,_,_,by rw [lB,eB],nB,iB⟩,tB,fB,sB,rB,⟨cdB,dB,hB,mB⟩,W.mg_of X G aGB,pB,qB,uB⟩
  have rA:qFW K:=⟨fun D hD=>by
    rw [aCB] at hD
    cases hD
    exact⟨q2CB,q3CB,eR,rB,hR⟩⟩
  have zG:∀ G,mg "GuestError" = some (.ref G)→qGe K "GuestError" G:=fun G0 h0=>by
    have e:=h0.symm.trans (W.mg_of X G aGB)
    cases e
    exact⟨aGB,xG⟩
  have rNoAsk:qCB K mg "NoAsk":=qFn X G aA1 xA1
  have kNoAsk:∀ C,mg (Str.ofString "NoAsk")=some (.ref C)→W.keepIn K (.ref C)=true:=fun C0 h0=>by
    have e:=h0.symm.trans (W.mg_of X G aA1)
    cases e
    exact kA1
  have rNoPaper:qCB K mg "NoPaper":=qFn X G aA2 xA2
  have kNoPaper:∀ C,mg (Str.ofString "NoPaper")=some (.ref C)→W.keepIn K (.ref C)=true:=fun C0 h0=>by
    have e:=h0.symm.trans (W.mg_of X G aA2)
    cases e
    exact kA2
  have rNoStep:qCB K mg "NoStep":=qFn X G aA3 xA3
  have kNoStep:∀ C,mg (Str.ofString "NoStep")=some (.ref C)→W.keepIn K (.ref C)=true:=fun C0 h0=>by
    have e:=h0.symm.trans (W.mg_of X G aA3)
    cases e
    exact kA3
  have rNoTurning:qCB K mg "NoTurning":=qFn X G aA4 xA4
  have kNoTurning:∀ C,mg (Str.ofString "NoTurning")=some (.ref C)→W.keepIn K (.ref C)=true:=fun C0 h0=>by
    have e:=h0.symm.trans (W.mg_of X G aA4)
    cases e
    exact kA4
  have qACB:qAV K CB:=qDw dB q2CB q3CB q4CB g5 g6 q7CB eR
  have qAA1:qAV K A1:=qDw q1A1 q2A1 q3A1 q4A1 g5 g6 q7A1 q8A1
  have qAA2:qAV K A2:=qDw q1A2 q2A2 q3A2 q4A2 g5 g6 q7A2 q8A2
  have qAA3:qAV K A3:=qDw q1A3 q2A3 q3A3 q4A3 g5 g6 q7A3 q8A3
  have qAA4:qAV K A4:=qDw q1A4 q2A4 q3A4 q4A4 g5 g6 q7A4 q8A4
  have o1:qHz K mg "NoAsk" "NoPaper" "NoStep" "NoTurning" ["BadRow"] (fun _=>false):=qLR X G aA1 aA2 aA3 aA4 (qBE.one aCB qACB t1 t2)
  have o2:qJp K mg "ValueError" "ValueError" ["BadRow"] (fun _=>true):=⟨m11,qBE.one aCB qACB t3 tvCB⟩
  have o3:qGa K mg "BadRow" ["BadRow"] (fun _=>true):=qG9 X G aCB (qBE.one aCB qACB t4 t5)
  have o4:qGa K mg "GuestError" ["NoAsk", "NoPaper", "NoStep", "NoTurning", "BadRow"] (fun _=>true):=qG9 X G aGB ⟨t6,fun n hn D hD=>by
    simp only [List.mem_cons,List.not_mem_nil,or_false] at hn
    rcases hn with rfl | rfl | rfl | rfl | rfl
    · rw [aA1] at hD;cases hD;exact⟨qAA1,tgA1⟩
    · rw [aA2] at hD;cases hD;exact⟨qAA2,tgA2⟩
    · rw [aA3] at hD;cases hD;exact⟨qAA3,tgA3⟩
    · rw [aA4] at hD;cases hD;exact⟨qAA4,tgA4⟩
    · rw [aCB] at hD;cases hD;exact⟨qACB,tgCB⟩⟩
  have o5:qJp K mg "ValueError" "ValueError" ["NoAsk", "NoPaper", "NoStep", "NoTurning", "BadRow"] (fun _=>true):=⟨m11,⟨t3,fun n hn D hD=>by
    simp only [List.mem_cons,List.not_mem_nil,or_false] at hn
    rcases hn with rfl | rfl | rfl | rfl | rfl
    · rw [aA1] at hD;cases hD;exact⟨qAA1,tvA1⟩
    · rw [aA2] at hD;cases hD;exact⟨qAA2,tvA2⟩
    · rw [aA3] at hD;cases hD;exact⟨qAA3,tvA3⟩
    · rw [aA4] at hD;cases hD;exact⟨qAA4,tvA4⟩
    · rw [aCB] at hD;cases hD;exact⟨qACB,tvCB⟩⟩⟩
  have o6:qGa K mg "NoAsk" ["BadRow"] (fun _=>false):=qG9 X G aA1 (qBE.one aCB qACB t7 t8)
  have F9':=F9
  obtain⟨oc,od,kV,dc,pm,an,cd,ct,sl,rfl,-,-⟩:=F9'.ex
  refine⟨W.fnOf "law" "law" (qAK qEZ) (qq qEZ) (qO qEZ) .none kV dc pm an cd ct,fun s v=>.of_eq rfl,fun base _ _=>?_⟩
  have Dnumber_of:=h0.ok (P:=l.prog) (w:=w) (base:=base) X G (fun F=>qGE F gT0) (L3.b1 rfl fun _ _ _ _ _ _ _=>rfl)
  have Dnumber_in:=h1.ok (P:=l.prog) (w:=w) (base:=base) X G (fun F=>qGC F m3 m4 m9 m10) (L3.b2 rfl fun _ _ _ _ _ _ _ _=>rfl)
  have Dnumber_of_line:=h2.ok (P:=l.prog) (w:=w) (base:=base) X G (fun F=>qC1 F gT0 m3 Dnumber_of Dnumber_in) (L3.b1 rfl fun _ _ _ _ _ _ _=>rfl)
  have bR:qGo l.prog w K mg base 1:=⟨CB,GB,FB,_,_,bC,qNM (qFl lF cF kF) bC,(qFl lF cF kF).binds (L3.b2 rfl fun _ _ _ _ _ _ _ _=>rfl),W.mg_of X G aCB,kB,aCB⟩
  have DreadB:=h3.okB (P:=l.prog) (w:=w) (base:=base) X G (fun F=>qMw F m1 m6 Dnumber_of_line bR) (L3.b1 rfl fun _ _ _ _ _ _ _=>rfl)
  have Dread:qx l.prog w K mg base "read" 3 K03.qDO:=DreadB.plain fun _ _ _ h=>K03.qPz h
  have D_law_words:=h4.ok (P:=l.prog) (w:=w) (base:=base) X G (fun F=>qFP F ) (L3.b0 rfl fun _ _ _ _ _ _=>rfl)
  have D_law_row:=h5.ok (P:=l.prog) (w:=w) (base:=base) X G (fun F=>qHO F m9 D_law_words) (L3.b1 rfl fun _ _ _ _ _ _ _=>rfl)
  have D_law_other_word:=h6.ok (P:=l.prog) (w:=w) (base:=base) X G (fun F=>qCX F m3 D_law_words) (L3.b2 rfl fun _ _ _ _ _ _ _ _=>rfl)
  have D_law_odd_number:=h7.ok (P:=l.prog) (w:=w) (base:=base) X G (fun F=>qCe F m9) (L3.b2 rfl fun _ _ _ _ _ _ _ _=>rfl)
  have D_law_none:=h8.ok (P:=l.prog) (w:=w) (base:=base) X G (fun F=>qGK F D_law_row D_law_other_word D_law_odd_number) (L3.b1 rfl fun _ _ _ _ _ _ _=>rfl)
  have D_law_free:=h9.ok (P:=l.prog) (w:=w) (base:=base) X G (fun F=>qFy F m7 m9 D_law_words D_law_row) (L3.b1 rfl fun _ _ _ _ _ _ _=>rfl)
  have D_law_figures:=h10.ok (P:=l.prog) (w:=w) (base:=base) X G (fun F=>qEC F m3) (L3.b2 rfl fun _ _ _ _ _ _ _ _=>rfl)
  have D_law_reading:=h11.ok (P:=l.prog) (w:=w) (base:=base) X G (fun F=>qDg F m3 D_law_words D_law_figures) (L3.b1 rfl fun _ _ _ _ _ _ _=>rfl)
  have D_law_refused:=h12.ok (P:=l.prog) (w:=w) (base:=base) X G (fun F=>qDx F m2 m4 m5 m11 DreadB bR zG o1 o2 o3 rA) (L3.b2 rfl fun _ _ _ _ _ _ _ _=>rfl)
  have D_law_right:=h13.ok (P:=l.prog) (w:=w) (base:=base) X G (fun F=>qE0 F m1 m2 Dread D_law_reading D_law_refused) (L3.b1 rfl fun _ _ _ _ _ _ _=>rfl)
  have D_law_made:=h14.ok (P:=l.prog) (w:=w) (base:=base) X G (fun F=>qF0 F m2 m11 rNoAsk kNoAsk rNoPaper kNoPaper rNoStep kNoStep rNoTurning kNoTurning bR o4 o5 o6 rA) (L3.b0 rfl fun _ _ _ _ _ _=>rfl)
  exact qPc F9 m3 m7 m8 D_law_row D_law_none D_law_free D_law_refused D_law_right D_law_made
end K03
local macro_rules | `(tactic| k_dat 0 "h")=>`(tactic| (refine' L3.qAH.of ?a ?l ?c ?k;(case a=>k_is);(case l=>k_is);(case c=>k_is);(case k=>k_is)))
local macro_rules | `(tactic| k_dat 0 "i")=>`(tactic| (refine' L3.qJm.of ?a ?i ?l ?c ?k;(case a=>k_is);(case i=>k_is);(case l=>k_is);(case c=>k_is);(case k=>k_is)))
open PySem PySem.W PyProof.Rows
set_option maxRecDepth 100000 in
set_option maxHeartbeats 0 in
theorem PySem.Challenge.cw_asitruns_k03_bad_row_holds : PySem.Challenge.rw_asitruns_k03_bad_row.Holds := by
  w_on;o_law;k_head;(case hw=>w_witness2)
  k_fill
  refine L3.qKa (l:=PySem.Challenge.rw_asitruns_k03_bad_row) 6 rfl rfl ⟨rfl,by decide,by decide⟩ (fun w h Y=>W.kIn_of Y) ?F
  case F =>
    intro w mg fa h KX G hmg
    refine' K03.all_mk KX G hmg ?h0 ?h1 ?h2 ?h3 ?h4 ?h5 ?h6 ?h7 ?h8 ?h9 ?h10 ?h11 ?h12 ?h13 ?h14 ?h15 ?b0 ?e0 ?v0 ?w0 ?aCB ?aGB ?aA1 ?aA2 ?aA3 ?aA4 ?lB ?eB ?nB ?iB ?tB ?fB ?sB ?rB ?dB ?hB ?mB ?pB ?qB ?uB ?kB ?lF ?cF ?kF ?eR ?hR ?xG ?xA1 ?kA1 ?xA2 ?kA2 ?xA3 ?kA3 ?xA4 ?kA4 ?g5 ?g6 ?q2CB ?q3CB ?q4CB ?q7CB ?q1A1 ?q2A1 ?q3A1 ?q4A1 ?q7A1 ?q8A1 ?q1A2 ?q2A2 ?q3A2 ?q4A2 ?q7A2 ?q8A2 ?q1A3 ?q2A3 ?q3A3 ?q4A3 ?q7A3 ?q8A3 ?q1A4 ?q2A4 ?q3A4 ?q4A4 ?q7A4 ?q8A4 ?t1 ?t2 ?t3 ?t4 ?t5 ?t6 ?t7 ?t8 ?tvCB ?tgCB ?tvA1 ?tgA1 ?tvA2 ?tgA2 ?tvA3 ?tgA3 ?tvA4 ?tgA4 ?z0 ?z1 ?z2 ?z3 ?z4 ?z5 ?z6 ?z7 ?z8 ?z9 ?z10 ?z11
    (case h0=>k_dat 0 "h")
    (case h1=>k_dat 0 "h")
    (case h2=>k_dat 0 "h")
    (case h3=>k_dat 0 "h")
    (case h4=>k_dat 0 "h")
    (case h5=>k_dat 0 "h")
    (case h6=>k_dat 0 "h")
    (case h7=>k_dat 0 "h")
    (case h8=>k_dat 0 "h")
    (case h9=>k_dat 0 "h")
    (case h10=>k_dat 0 "h")
    (case h11=>k_dat 0 "h")
    (case h12=>k_dat 0 "h")
    (case h13=>k_dat 0 "h")
    (case h14=>k_dat 0 "h")
    (case h15=>k_dat 0 "h")
    (case b0=>k_is)
    (case e0=>k_is)
    (case v0=>rfl)
    (case w0=>decide)
    (case aCB=>k_is)
    (case aGB=>k_is)
    (case aA1=>k_is)
    (case aA2=>k_is)
    (case aA3=>k_is)
    (case aA4=>k_is)
    (case lB=>k_is)
    (case eB=>rfl)
    (case nB=>kernel_rfl)
    (case iB=>k_is)
    (case tB=>kernel_rfl)
    (case fB=>k_is)
    (case sB=>k_is)
    (case rB=>k_is)
    (case dB=>k_is)
    (case hB=>rfl)
    (case mB=>rfl)
    (case pB=>k_is)
    (case qB=>k_is)
    (case uB=>k_is)
    (case kB=>k_is)
    (case lF=>k_is)
    (case cF=>k_is)
    (case kF=>k_is)
    (case eR=>k_is)
    (case hR=>k_is)
    (case xG=>k_exc)
    (case xA1=>k_exc)
    (case kA1=>k_is)
    (case xA2=>k_exc)
    (case kA2=>k_is)
    (case xA3=>k_exc)
    (case kA3=>k_is)
    (case xA4=>k_exc)
    (case kA4=>k_is)
    (case g5=>k_is)
    (case g6=>k_is)
    (case q2CB=>k_is)
    (case q3CB=>k_is)
    (case q4CB=>k_is)
    (case q7CB=>k_is)
    (case q1A1=>k_is)
    (case q2A1=>k_is)
    (case q3A1=>k_is)
    (case q4A1=>k_is)
    (case q7A1=>k_is)
    (case q8A1=>k_is)
    (case q1A2=>k_is)
    (case q2A2=>k_is)
    (case q3A2=>k_is)
    (case q4A2=>k_is)
    (case q7A2=>k_is)
    (case q8A2=>k_is)
    (case q1A3=>k_is)
    (case q2A3=>k_is)
    (case q3A3=>k_is)
    (case q4A3=>k_is)
    (case q7A3=>k_is)
    (case q8A3=>k_is)
    (case q1A4=>k_is)
    (case q2A4=>k_is)
    (case q3A4=>k_is)
    (case q4A4=>k_is)
    (case q7A4=>k_is)
    (case q8A4=>k_is)
    (case t1=>kit_is)
    (case t2=>kit_is)
    (case t3=>kit_is)
    (case t4=>kit_is)
    (case t5=>kit_is)
    (case t6=>kit_is)
    (case t7=>kit_is)
    (case t8=>kit_is)
    (case tvCB=>kit_is)
    (case tgCB=>kit_is)
    (case tvA1=>kit_is)
    (case tgA1=>kit_is)
    (case tvA2=>kit_is)
    (case tgA2=>kit_is)
    (case tvA3=>kit_is)
    (case tgA3=>kit_is)
    (case tvA4=>kit_is)
    (case tgA4=>kit_is)
    (case z0=>k_is)
    (case z1=>k_is)
    (case z2=>k_is)
    (case z3=>k_is)
    (case z4=>k_is)
    (case z5=>k_is)
    (case z6=>k_is)
    (case z7=>k_is)
    (case z8=>k_is)
    (case z9=>k_is)
    (case z10=>k_is)
    (case z11=>k_is)

