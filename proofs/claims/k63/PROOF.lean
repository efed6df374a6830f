import PyProof.Rows.All
import Wide.All
import OpenK.AllK
import Wide.FinOn
import Lean
import PyProof.EqAt
import PyProof.EqKinds
import PyProof.TupleCall
import PyProof.NeKinds
import KE.LcSums
import KE.KRevSl
import OpenK.KTop
import PyProof.Draws
import PyProof.EnumMake
import KE.KIntText
import KE.KxText
import PyProof.StrLawsTight
import PyProof.StrLawsChain
import PyProof.StrLawsIn
import PyProof.StrLawsJoin
import PyProof.CallStr
import PyProof.MeetsStr
import PyProof.MeetsStr2
import PyProof.StrCalls2
import PyProof.StrLoop
import PyProof.ConsumeWalk
import PySem.Challenge.RW_asitruns_k63_whole_guest_rows
set_option Elab.async false
set_option linter.all false
set_option maxRecDepth 100000
set_option hygiene false
local macro_rules|`(tactic|k_dat 0"r0")=>`(tactic|(refine qAQ ?_))
local macro_rules|`(tactic|k_dat 0"r1")=>`(tactic|(obtain⟨φ,st,ρ,P,pre,ht,hq⟩:=h))
local macro_rules|`(tactic|k_dat 0"r2")=>`(tactic|(intro pins s σ H Q I h))
local macro_rules|`(tactic|k_dat 0"r3")=>`(tactic|(refine⟨rfl,rfl,qAf (by decide +kernel) ?_⟩))
local macro_rules|`(tactic|k_dat 0"r4")=>`(tactic|(have ba:atI (g.bs.map Dt.int) a=some (.int (bx g a)):=qc ok a0 a1))
local macro_rules|`(tactic|k_dat 0"r5")=>`(tactic|(have bb:atI (g.bs.map Dt.int) b=some (.int (bx g b)):=qc ok b0 b1))
local macro_rules|`(tactic|k_dat 0"r6")=>`(tactic|(have bc:atI (g.bs.map Dt.int) (c%8)=some (.int (bx g (c%8))):=qc ok (by omega) (by omega)))
local macro_rules|`(tactic|k_dat 0"r7")=>`(tactic|(have va:=qd ok a0 a1))
local macro_rules|`(tactic|k_dat 0"r8")=>`(tactic|(have vb:=qd ok b0 b1))
local macro_rules|`(tactic|k_dat 0"r9")=>`(tactic|(have vc:=qd ok (i:=c%8) (by omega) (by omega)))
local macro_rules|`(tactic|k_dat 0"r10")=>`(tactic|(refine qy rfl (by decide) ?_))
local macro_rules|`(tactic|k_dat 0"r11")=>`(tactic|(obtain⟨φ,st,x,y,P,R,dx,dy,hr,hq⟩:=h))
local macro_rules|`(tactic|k_dat 0"r12")=>`(tactic|(intro pins s σ H x y v u Q I rx ry h))
local macro_rules|`(tactic|k_dat 0"r13")=>`(tactic|(simp only [DL] at h))
local macro_rules|`(tactic|k_dat 0"r14")=>`(tactic|(intro pins s σ H v w u1 u2 Q I r1 r2 h))
local macro_rules|`(tactic|k_dat 0"r15")=>`(tactic|(intro pins s σ H D I h))
local macro_rules|`(tactic|k_dat 0"r16")=>`(tactic|(intro X hP hw hK hc i pins s σ H E I hf st hg))
local macro_rules|`(tactic|k_dat 0"r17")=>`(tactic|(obtain⟨φ,st,ρ,P,pre,ht,n,b,c,r⟩:=h))
local macro_rules|`(tactic|k_dat 0"r18")=>`(tactic|(refine⟨rfl,rfl,?_⟩))
local macro_rules|`(tactic|k_dat 0"r19")=>`(tactic|(refine⟨φ,st,ρ,_,pre,ht,fun x st1 h1 φ1 H1 v b1 dx=>?_⟩))
local macro_rules|`(tactic|k_dat 0"r20")=>`(tactic|(refine step_eq rfl (by decide) ?_))
local macro_rules|`(tactic|k_dat 0"r21")=>`(tactic|(refine⟨by decide,?_⟩))
local macro_rules|`(tactic|k_dat 0"r22")=>`(tactic|(refine K22.seq1 (K22.qAO v1 (by decide +kernel) ?_)))
local macro_rules|`(tactic|k_dat 0"r23")=>`(tactic|(simp only [List.mem_cons,List.not_mem_nil,or_false] at hb))
local macro_rules|`(tactic|k_dat 0"r24")=>`(tactic|(simp only [qM,qg,qN,qF,qA,qD,qB,qC,List.getElem?_cons_zero,List.getElem?_cons_succ,List.set_cons_zero,List.set_cons_succ]))
local macro_rules|`(tactic|k_dat 0"r25")=>`(tactic|(refine yes (fun P hp=>hp) rfl ?_))
local macro_rules|`(tactic|k_dat 0"r26")=>`(tactic|(obtain⟨o,es,ep,ho,r⟩:=hm))
local macro_rules|`(tactic|k_dat 0"r27")=>`(tactic|(obtain⟨f0,f1,f2,f3,f4,f5⟩:=hf it (by simp)))
local macro_rules|`(tactic|k_dat 0"r28")=>`(tactic|(refine⟨φ,st,ρ,_,pre,ht,fun d st1 h1 φ1 H1 v b1 dx=>?_⟩))
local macro_rules|`(tactic|k_dat 0"r29")=>`(tactic|(refine part (i:=0) hp (by omega) ?_))
local macro_rules|`(tactic|k_dat 0"r30")=>`(tactic|(refine wpAny_bind (wpAny_pure ?_)))
local macro_rules|`(tactic|k_dat 0"r31")=>`(tactic|(refine K22.qAO (a:= "yes") v2 (by decide +kernel) (K22.seq1 ?_)))
local macro_rules|`(tactic|k_dat 0"r32")=>`(tactic|(refine K22.qAO (a:= "no") v2 (by decide +kernel) (K22.seq1 ?_)))
local macro_rules|`(tactic|k_dat 0"r33")=>`(tactic|(refine K22.qAO (a:= "nought") v2 (by decide +kernel) (K22.seq1 ?_)))
local macro_rules|`(tactic|k_dat 0"r34")=>`(tactic|(refine K22.qAO (a:= "high") v2 (by decide +kernel) (K22.seq1 ?_)))
local macro_rules|`(tactic|k_dat 0"r35")=>`(tactic|(refine K22.qAO (a:=K20.nm o) v2 (nk _ (by decide +kernel)) (K22.seq1 ?_)))
local macro_rules|`(tactic|k_dat 0"r36")=>`(tactic|(refine part (i:=1) hp (by omega) ?_))
local macro_rules|`(tactic|k_dat 0"r37")=>`(tactic|(refine K22.qAO v1 (by decide +kernel) ?_))
local macro_rules|`(tactic|k_dat 0"r38")=>`(tactic|(refine⟨z10 2 (by decide),z10 2 (by decide),?_⟩))
local macro_rules|`(tactic|k_dat 0"r39")=>`(tactic|(exact qAL (.int _) (qAC ok.b8) qAA (qEv ok hp)))
local macro_rules|`(tactic|k_dat 0"r40")=>`(tactic|(simp only [qF,qA,qD,qB,qC,List.getElem?_cons_zero,List.getElem?_cons_succ,List.set_cons_zero,List.set_cons_succ]))
local macro_rules|`(tactic|k_dat 0"r41")=>`(tactic|(exact⟨c1 qCc c0,by show 1≤7;decide⟩))
local macro_rules|`(tactic|k_dat 0"r42")=>`(tactic|(obtain⟨o',e1⟩:=I.base.there b o e hx))
local macro_rules|`(tactic|k_dat 0"r43")=>`(tactic|(obtain⟨hp,g,d,tk,os⟩:=s;obtain⟨hl,h⟩:=h))
local macro_rules|`(tactic|k_dat 0"r44")=>`(tactic|(have l1:its.toArray.size=a.length:=by rw [List.size_toArray,← rv.length,hd.length]))
local macro_rules|`(tactic|k_dat 0"r45")=>`(tactic|(have l2:its2.toArray.size=b.length:=by rw [List.size_toArray,← rv2.length,hd2.length]))
local macro_rules|`(tactic|k_dat 0"r46")=>`(tactic|(simpa using (Option.some.inj this).symm))
local macro_rules|`(tactic|k_dat 0"r47")=>`(tactic|(refine⟨φ,st,ρ,_,pre,ht,fun k st1 h1 φ1 H1 b1=>?_⟩))
local macro_rules|`(tactic|k_dat 0"r48")=>`(tactic|(rcases ds with _ | ⟨d,_ | ⟨d2,r⟩⟩))
local macro_rules|`(tactic|k_dat 0"r49")=>`(tactic|(rcases hb with rfl | rfl | rfl | rfl | rfl))
local macro_rules|`(tactic|k_dat 0"r50")=>`(tactic|(obtain⟨⟨hz,hI,ta,tb,hO⟩,h1,h2⟩:=st))
local macro_rules|`(tactic|k_dat 0"r51")=>`(tactic|(obtain⟨z0,z1,z2,z3,z4,z5⟩:=hf z (by simp)))
local macro_rules|`(tactic|k_dat 0"r52")=>`(tactic|(obtain⟨o0,o1,o2,o3,o4,o5⟩:=hf TO (by simp)))
local macro_rules|`(tactic|k_dat 0"r53")=>`(tactic|(obtain⟨e0,e1,e2,e3,e4,e5⟩:=hf i1 (by simp)))
local macro_rules|`(tactic|k_dat 0"r54")=>`(tactic|(obtain⟨g0,g1,g2,g3,g4,g5⟩:=hf i2 (by simp)))
local macro_rules|`(tactic|k_dat 0"r55")=>`(tactic|(have nt:∀ b v,H b=some v→b≠z∧b≠TO∧b≠i1∧b≠i2:=fun b v q=>⟨fun y=>(by rw [y,z0] at q;cases q),fun y=>(by rw [y,o0] at q;cases q),fun y=>(by rw [y,e0] at q;cases q),fun y=>(by rw [y,g0] at q;cases q)⟩))
local macro_rules|`(tactic|k_dat 0"r56")=>`(tactic|(have nch:∀ b,b ∉ [z,TO,i1,i2]→b≠z∧b≠TO∧b≠i1∧b≠i2:=fun b q=>⟨fun y=>q (by simp [y]),fun y=>q (by simp [y]),fun y=>q (by simp [y]),fun y=>q (by simp [y])⟩))
local macro_rules|`(tactic|k_dat 0"r57")=>`(tactic|(have e2:(one 120==("x" : Str))=true:=by decide +kernel))
local macro_rules|`(tactic|k_dat 0"r58")=>`(tactic|(exact qDj (i:=0) (x:=d) a h1 rfl (rX (i:=1) (j:=0) rfl rfl) fun s2 a2 x2=>hP s2 a2 x2))
local macro_rules|`(tactic|k_dat 0"r59")=>`(tactic|(refine K22.qAO (a:= "mark") v2 (by decide +kernel) (K22.seq1 ?_)))
local macro_rules|`(tactic|k_dat 0"r60")=>`(tactic|(have hl:=(List.getElem?_eq_some_iff.mp hj).1))
local macro_rules|`(tactic|k_dat 0"r61")=>`(tactic|(simp only [tseq,qP,qM,qE,qB,qC,qJ,qF,qA,qD,qN,qg,qAi,qF2,qB7,qA2,qA5,qDT,qH,qV,qBe,qG,qA3,qCb,qBI,qBJ,qBQ,qv,qp,qAe,qAq,qBC,qj,qa,qAI,qI,qo,qBA,L3.qu,L3.qCY,qAn,qCX,qW,qBf,qBH,qAN,qU,qB5,qi,qY,qAK,List.map_cons,List.map_nil,List.length_cons,List.length_nil,List.cons_append,List.nil_append,List.replicate,List.set,List.getElem?_cons_zero,List.getElem?_cons_succ,Option.map_some,SO.items,GS.d]))
local macro_rules|`(tactic|k_dat 0"r62")=>`(tactic|(simp only [tseq,qM,qF,qA,qD,qE,qB,qC,qI,qa,qo,RW8,List.getElem?_cons_zero,List.getElem?_cons_succ,bb,bc]))
local macro_rules|`(tactic|k_dat 0"r63")=>`(tactic|(simp only [tseq,qM,qF,qA,qD,qE,qB,qC,List.getElem?_cons_zero,List.getElem?_cons_succ]))
local macro_rules|`(tactic|k_dat 0"r64")=>`(tactic|(refine K22.seq1 (K22.qEi v1 (by decide +kernel) ?_)))
local macro_rules|`(tactic|k_dat 0"r65")=>`(tactic|(refine skp (fun P hp=>⟨.inr (.inr (.inr (.inl rfl))),hp⟩) ?_))
local macro_rules|`(tactic|k_dat 0"r66")=>`(tactic|(exact hP _ _ _ (qZ x1 (qZ (.app _ _) (qZ x2 (.app _ _)))) (qO (x2 _ _ qL)) qL))
local macro_rules|`(tactic|k_dat 0"r67")=>`(tactic|(refine⟨z10 1 (by decide),z10 2 (by decide),?_⟩))
local macro_rules|`(tactic|k_dat 0"r68")=>`(tactic|(exact I1.qMn (Nat.le_refl _) (I1.hok.fresh (Nat.le_refl _))))
local macro_rules|`(tactic|k_dat 0"r69")=>`(tactic|(rw [show qDC f v ((k,x)::r)=(if k=f then (k,v)::r else (k,x)::qDC f v r) from rfl]))
local macro_rules|`(tactic|k_dat 0"r70")=>`(tactic|(intro pins s σ H x v vl vu lo hi sl Q I rx hs pl pu h))
local macro_rules|`(tactic|k_dat 0"r71")=>`(tactic|(intro value slice pins s σ H x y v u Q I rx ry h hs))
local macro_rules|`(tactic|k_dat 0"r72")=>`(tactic|(obtain⟨⟨cls,dd,data,sl⟩,ho,hc,n,hd⟩:=id p1))
local macro_rules|`(tactic|k_dat 0"r73")=>`(tactic|(refine⟨φ1,st1,ρ,_,pre.on b1,h1,fun y st2 h2 φ2 H2 w b2 dy=>?_⟩))
local macro_rules|`(tactic|k_dat 0"r74")=>`(tactic|(refine⟨φ,st,ρ,_,pre,ht,fun items ok st1 h1 φ1 H1 J b1 hJ=>?_⟩))
local macro_rules|`(tactic|k_dat 0"r75")=>`(tactic|(have q:its.toArray[i]? = some u:=by simpa using hu))
local macro_rules|`(tactic|k_dat 0"r76")=>`(tactic|(simp only [List.zip_cons_cons,List.zip_nil_left,List.filter_cons,e1,e2,List.filter_nil,Bool.false_eq_true,if_false,if_true,List.map_cons,List.map_nil]))
local macro_rules|`(tactic|k_dat 0"r77")=>`(tactic|(refine K22.qAO (a:= "box") v2 (by decide +kernel) (K22.seq1 ?_)))
local macro_rules|`(tactic|k_dat 0"r78")=>`(tactic|(simp only [List.zip_cons_cons,List.zip_nil_left,List.filter_cons,e0,e1,e2,List.filter_nil,Bool.false_eq_true,if_false,if_true,List.map_cons,List.map_nil,ha,hb]))
local macro_rules|`(tactic|k_dat 0"r79")=>`(tactic|(have hx:=qBg ok (show (0:Int)≤(a:Int) by omega) (show (a:Int)<8 by omega)))
local macro_rules|`(tactic|k_dat 0"r80")=>`(tactic|(rw [if_pos hz,if_pos hz] at x;rw [if_pos hz];exact x))
local macro_rules|`(tactic|k_dat 0"r81")=>`(tactic|(rw [if_neg hz,if_neg hz] at x;rw [if_neg hz];exact x))
local macro_rules|`(tactic|k_dat 0"r82")=>`(tactic|(simp only [qP,qB,qi,qC9,qa,qY,qJ,qAK,List.getElem?_cons_zero,List.set_cons_zero,List.set_cons_succ]))
local macro_rules|`(tactic|k_dat 0"r83")=>`(tactic|(simp only [qg,qN,qA,qD,qB,qC,List.getElem?_cons_zero,List.getElem?_cons_succ,List.set_cons_zero,List.set_cons_succ]))
local macro_rules|`(tactic|k_dat 0"r84")=>`(tactic|(exact fin _ _ _ (qZ (.app _ _) (qZ x3 (.app _ _))) (qO (x3 _ _ qL)) qL))
local macro_rules|`(tactic|k_dat 0"r85")=>`(tactic|(rcases qNm h0 h1 with rfl | rfl | rfl | rfl | rfl | rfl | rfl | rfl | rfl | rfl | rfl | rfl | rfl | rfl | rfl | rfl<;>rfl))
local macro_rules|`(tactic|k_dat 0"r86")=>`(tactic|(simp only [qP,qF,qA,qD,qB,qC,List.getElem?_cons_zero,List.getElem?_cons_succ,List.set_cons_zero,List.set_cons_succ]))
local macro_rules|`(tactic|k_dat 0"r87")=>`(tactic|(simp only [qi,qa,qY,qJ,qAK,List.getElem?_cons_zero,List.getElem?_cons_succ,List.set_cons_zero,List.set_cons_succ]))
local macro_rules|`(tactic|k_dat 0"r88")=>`(tactic|(simp only [qE,qAG,qv,qp,qN,qA,qD,qB,qC,List.getElem?_cons_zero,List.getElem?_cons_succ,List.set_cons_zero,List.set_cons_succ]))
local macro_rules|`(tactic|k_dat 0"r89")=>`(tactic|(have I1:Inv X pins σ H { s with heap:=h' }:=I.turned (t':=s.toks) (fun b o hb e=>(sb.2 b hb).trans e) f0 f1 f3 f4 f5))
local macro_rules|`(tactic|k_dat 0"r90")=>`(tactic|(exact thn (hr pos pins s1 σ H1 _ I1 q1) fun us s2 ⟨xs,H2,I2,r2,q2⟩=>⟨x::xs,H2,I2,.cons r1 r2,q2⟩))
local macro_rules|`(tactic|k_dat 0"r91")=>`(tactic|(show wpAny _ _ (if (((sIx items.size 0 lo:Nat):Int)==0&&(1:Int)==1&&(sIx items.size items.size hi - sIx items.size 0 lo)==items.size)=true then _ else _) _ _ s))
local macro_rules|`(tactic|k_dat 0"r92")=>`(tactic|(exact⟨φ1,st1,ρ,P,pre.on b1,h1,fun k st2 h2 φ2 H2 b2=>hq k st2 h2 φ2 H2 (b1.trans b2)⟩))
local macro_rules|`(tactic|k_dat 0"r93")=>`(tactic|(refine⟨φ,st,ρ,_,pre,ht,fun ds st1 h1 φ1 H1 vs b1 dx=>⟨by rw [← dx.length];exact h1.1,fun p hp=>?_⟩⟩))
local macro_rules|`(tactic|k_dat 0"r94")=>`(tactic|(have l1:its.toArray.size=a.items.length:=by rw [List.size_toArray,← rv.length,d1.length]))
local macro_rules|`(tactic|k_dat 0"r95")=>`(tactic|(have l2:its2.toArray.size=b.items.length:=by rw [List.size_toArray,← rv2.length,d2.length]))
local macro_rules|`(tactic|k_dat 0"r96")=>`(tactic|(have I1:Inv X pins σ H { s with heap:=h' }:=I.kept (t':=s.toks) fun b o e=>hx b o (Nat.ne_of_lt (Heap.lt_size e)) e))
local macro_rules|`(tactic|k_dat 0"r97")=>`(tactic|(unfold Builtin.SmallTypes.nextOf;refine wpAny_bind (wpAny_callSpecial?_slot (name:=Str.ofString "__next__") hit.typeIs slot_tupleiter_next (wpAny_call_entry slot_tupleiter_next hit.typeIs entry_tupleiter_next ?_ (args_tupleiter_next _)))))
local macro_rules|`(tactic|k_dat 0"r98")=>`(tactic|(show wpAny _ _ (field (.ref it) 0 >>= _) _ _ s;refine wpAny_bind (wpAny_field ho hd (x:=.ref t) rfl ?_)))
local macro_rules|`(tactic|k_dat 0"r99")=>`(tactic|(show wpAny _ _ (if (Value.ref t==Value.none)=true then _ else _) _ _ s;rw [if_neg (show ¬ ((Value.ref t==Value.none)=true) from Bool.false_ne_true)]))
local macro_rules|`(tactic|k_dat 0"r100")=>`(tactic|(show wpAny _ _ (field (.ref it) 1 >>= _) _ _ s;refine wpAny_bind (wpAny_field ho hd (x:=.int i 0) rfl ?_)))
local macro_rules|`(tactic|k_dat 0"r101")=>`(tactic|(show wpAny _ _ (seqItems? (.ref t) >>= _) _ _ s;refine wpAny_bind (wpAny_seqItems hol hdl ?_);simp only [Int.toNat_natCast,hx]))
local macro_rules|`(tactic|k_dat 0"r102")=>`(tactic|(have hza:=Heap.get?_update_self (h:=s.heap) (Obj.mapFields fun x_1=>x_1.setIfInBounds 0 Value.ellipsis) hz (Obj.isFreed_of_fields (Obj.data_mapFields rfl _))))
local macro_rules|`(tactic|k_dat 0"r103")=>`(tactic|(have hua:∀ c,c≠z→(s.heap.update z (Obj.mapFields fun x_1=>x_1.setIfInBounds 0 Value.ellipsis)).get? c=s.heap.get? c:=fun c hc=>Heap.get?_update_ne _ _ _ _ hc))
local macro_rules|`(tactic|k_dat 0"r104")=>`(tactic|(have h1a:St1 k1 ha:=D1.frame _ _ _ h1 fun c hc o q=>(hua c (fun e=>ap.z1 (e ▸ hc))).trans q))
local macro_rules|`(tactic|k_dat 0"r105")=>`(tactic|(have h2a:St2 k2 ha:=D2.frame _ _ _ h2 fun c hc o q=>(hua c (fun e=>ap.z2 (e ▸ hc))).trans q))
local macro_rules|`(tactic|k_dat 0"r106")=>`(tactic|(have h2c:St2 k2 hc:=D2.frame _ _ _ h2a fun c hcm o q=>(sbc.2 c (fun e=>ap.o2 (e ▸ hcm))).trans ((sb1.2 c (fun e=>ap.a2 (e ▸ hcm))).trans q)))
local macro_rules|`(tactic|k_dat 0"r107")=>`(tactic|(refine wpAny_bind (wpAny_attempt (wpAny_callSpecial?_slot (name:=Str.ofString "__next__") hT F.slot_zip_next (wpAny_call_entry F.slot_zip_next hT F.entry_zip_next ?_ (F.args_zip_next_1 _))))))
local macro_rules|`(tactic|k_dat 0"r108")=>`(tactic|(exact⟨⟨k z (by simp) _ hz,k TI (by simp) _ hI,ta,tb,k TO (by simp) _ hO⟩,⟨o1,k i1 (by simp) _ q1,q⟩,⟨o2,k i2 (by simp) _ r1,r⟩⟩))
local macro_rules|`(tactic|k_dat 0"r109")=>`(tactic|(refine⟨_,rfl,wpAny_letOwnedTupleGo_zip (s:={ s with heap:=h',toks:=tk }) hz' fun h2' hz2 hs2=>?_⟩))
local macro_rules|`(tactic|k_dat 0"r110")=>`(tactic|(have hk2:∀ b o,b≠z→b≠TO→b≠i1→b≠i2→s.heap.get? b=some o→h2'.get? b=some o:=fun b o q1 q2 q3 q4 q=>(hs2.2 b q1).trans (hk b o q1 q2 q3 q4 q)))
local macro_rules|`(tactic|k_dat 0"r111")=>`(tactic|(refine (I.hok b v q).stay (fun c o hc y=>?_) (fun c y=>by rw [qQ (qX y hp0)];exact y) fun c ys y=>by rw [qQ (qX y hp0)];exact y))
local macro_rules|`(tactic|k_dat 0"r112")=>`(tactic|(refine⟨?_,?_,?_,?_,?_,?_,?_,?_,?_,?_,?_,?_,?_,?_,?_,?_⟩<;>(intro q;try simp only [List.mem_cons,List.not_mem_nil,or_false] at q)<;>(revert q alt';try revert alt2)<;>(unfold Addr at *;omega)))
local macro_rules|`(tactic|k_dat 0"r113")=>`(tactic|(simp only [qGj,tseq,qP,qE,qB,qC,qJ,List.getElem?_cons_zero,List.getElem?_cons_succ,List.set_cons_zero,List.set_cons_succ]))
local macro_rules|`(tactic|k_dat 0"r114")=>`(tactic|(have v2:∀ P:VD,P (.str r.w) st→qB 2 [some (.ins n),some (qk r),some (.str r.w)] st P:=fun P hp=>hp))
local macro_rules|`(tactic|k_dat 0"r115")=>`(tactic|(refine qHo (i:=2) (j:=0) (k:=2) (xs:=[.str e.how,e.at_,.tup e.bs,.tup e.ms,.int e.n]) a rfl rfl rfl rfl al l1 fun s1 x1=>?_))
local macro_rules|`(tactic|k_dat 0"r116")=>`(tactic|(simp only [tseq,qM,qN,qA,qD,qE,qB,qC,List.getElem?_cons_zero,List.getElem?_cons_succ,List.set_cons_zero,List.set_cons_succ]))
local macro_rules|`(tactic|k_dat 0"r117")=>`(tactic|(refine qAE (xs:=[.int g.p,.tup (g.bs.map .int),msD g.m,svD g.sv,.tup (g.rs.map .int),.tup (g.cs.map .int)]) (v:=3) (d:=.tup [.int q,msD m]) (by rw [sv];rfl) ?_))
local macro_rules|`(tactic|k_dat 0"r118")=>`(tactic|(refine qAE (xs:=[.int g.p,.tup (g.bs.map .int),msD g.m,svD g.sv,.tup (g.rs.map .int),.tup (g.cs.map .int)]) (v:=4) (d:=.tup (g.rs.map .int)) rfl ?_))
local macro_rules|`(tactic|k_dat 0"r119")=>`(tactic|(refine qAE (xs:=[.int g.p,.tup (g.bs.map .int),msD g.m,svD g.sv,.tup (g.rs.map .int),.tup (g.cs.map .int)]) (v:=5) (d:=.tup (g.cs.map .int)) rfl ?_))
local macro_rules|`(tactic|k_dat 0"r120")=>`(tactic|(refine rS (i:=0) (j:=1) (xs:=[.str how,.tup [.str w,.int x],.tup bs,.tup ms,.int nn]) rfl rfl _ ?_))
local macro_rules|`(tactic|k_dat 0"r121")=>`(tactic|(refine qAE (xs:=[.int m.g.p,.tup (m.g.bs.map .int),msD m.g.m,svD m.g.sv,.tup (m.g.rs.map .int),.tup (m.g.cs.map .int)]) (v:=3) (d:=svD m.g.sv) rfl ?_))
local macro_rules|`(tactic|k_dat 0"r122")=>`(tactic|(simp only [tseq,qP,qM,qE,qB,qC,qJ,qF,qA,qD,qN,qg,qAi,qF2,qB7,qA2,qA5,qDT,qH,qV,qBe,qG,qA3,qCb,qBI,qBJ,qBQ,qv,qp,qAe,qAq,qBC,qj,qa,qAI,qI,qo,qBA,L3.qu,L3.qCY,qAn,qCX,qW,qBf,qBH,qAN,qU,qB5,qi,qY,qAK,List.map_cons,List.map_nil,List.length_cons,List.length_nil,List.cons_append,List.nil_append,List.replicate,List.set,List.getElem?_cons_zero,List.getElem?_cons_succ,Option.map_some,SO.items]))
local macro_rules|`(tactic|k_dat 0"r123")=>`(tactic|(simp only [tseq,qP,qM,qE,qB,qC,qJ,qF,qA,qD,qN,qg,qAi,qF2,qB7,qA2,qA5,qDT,qH,qV,qBe,qG,qA3,qCb,qBI,qBJ,qBQ,qv,qp,qAe,qAq,qBC,qj,qa,qAI,qI,qo,qBA,L3.qu,L3.qCY,qAn,qCX,qW,qBf,qBH,qAN,qU,qB5,qi,qY,qAK,List.map_cons,List.map_nil,List.length_cons,List.length_nil,List.cons_append,List.nil_append,List.replicate,List.set,List.getElem?_cons_zero,List.getElem?_cons_succ,Option.map_some,SO.items,msD]))
local macro_rules|`(tactic|k_dat 0"r124")=>`(tactic|(simp only [tseq,qP,qM,qE,qB,qC,qJ,qF,qA,qD,qN,qg,qAi,qF2,qB7,qA2,qA5,qDT,qH,qV,qBe,qG,qA3,qCb,qBI,qBJ,qBQ,qv,qp,qAe,qAq,qBC,qj,qa,qAI,qI,qo,qBA,L3.qu,L3.qCY,qAn,qCX,qW,qBf,qBH,qAN,qU,qB5,qi,qY,qAK,List.map_cons,List.map_nil,List.length_cons,List.length_nil,List.cons_append,List.nil_append,List.replicate,List.set,List.getElem?_cons_zero,List.getElem?_cons_succ,Option.map_some,SO.items,GS.d,svD,at3]))
local macro_rules|`(tactic|k_dat 0"r125")=>`(tactic|(simp only [qB,qC,qAh,qBI,qAG,qp,qv,qFU,List.map_nil,List.getElem?_cons_zero,List.getElem?_cons_succ]))
local macro_rules|`(tactic|k_dat 0"r126")=>`(tactic|(simp only [qE,qB,qC,L3.qu,List.getElem?_cons_zero,List.getElem?_cons_succ,List.set_cons_zero,List.set_cons_succ]))
local macro_rules|`(tactic|k_dat 0"r127")=>`(tactic|(simp only [qM,qg,qN,qA,qD,qB,qC,List.getElem?_cons_zero,List.getElem?_cons_succ,List.set_cons_zero,List.set_cons_succ]))
local macro_rules|`(tactic|k_dat 0"r128")=>`(tactic|(simp only [qE,qB,qC,List.getElem?_cons_zero,List.getElem?_cons_succ,List.set_cons_zero,List.set_cons_succ]))
local macro_rules|`(tactic|k_dat 0"r129")=>`(tactic|(simp only [qE,qF,qA,qD,qB,qC,List.getElem?_cons_zero,List.getElem?_cons_succ,List.set_cons_zero,List.set_cons_succ]))
set_option hygiene true
namespace L2
open PySem PySem.Spec PyProof.Rows
noncomputable abbrev Key:=Sum Int Str
noncomputable def qHR:Key→Value→Bool
  | .inl k,v=>Value.isInt k v
  | .inr x,v=>Value.isStrOf x v
noncomputable def qTt (w:World):Key→Int
  | .inl k=>hashInt k
  | .inr x=>hashStr w x
theorem qAa:∀ {k:Key} {v:Value},qHR k v=true→(∃ i t,k=Sum.inl i∧v=Value.int i t)∨(∃ x t,k=Sum.inr x∧v=Value.str x t)
  | .inl i,v,h=>by
    obtain⟨t,e⟩:=Value.isInt_shape (k:=i) (v:=v) h
    exact .inl ⟨i,t,rfl,e⟩
  | .inr x,v,h=>by
    obtain⟨t,e⟩:=Value.isStrOf_shape (x:=x) (v:=v) h
    exact .inr ⟨x,t,rfl,e⟩
theorem qLd (i:Int) (t:Tok):qHR (.inl i) (.int i t)=true:=by simp [qHR,Value.isInt]
theorem qLx (x:Str) (t:Tok):qHR (.inr x) (.str x t)=true:=by simp [qHR,Value.isStrOf]
theorem qR1 (a b:Int):decide ((Sum.inl a:Key)=Sum.inl b)=(a==b):=by
  by_cases e:a=b
  · subst e;simp
  · have h:¬ (Sum.inl a:Key)=Sum.inl b:=fun q=>e (Sum.inl.inj q)
    rw [decide_eq_false h]
    exact (beq_eq_false_iff_ne.mpr e).symm
theorem qQO (a b:Str):decide ((Sum.inr a:Key)=Sum.inr b)=decide (a=b):=by
  by_cases e:a=b
  · subst e;simp
  · have h:¬ (Sum.inr a:Key)=Sum.inr b:=fun q=>e (Sum.inr.inj q)
    rw [decide_eq_false h,decide_eq_false e]
theorem qSR (a:Int) (b:Str):decide ((Sum.inl a:Key)=Sum.inr b)=false:=decide_eq_false (fun q=>nomatch q)
theorem qR3 (a:Str) (b:Int):decide ((Sum.inr a:Key)=Sum.inl b)=false:=decide_eq_false (fun q=>nomatch q)
noncomputable def qAb (prog:Program) (w:World):PySem.KeyKind prog w Key where
  is:=qHR
  hash:=qTt w
  inj :=fun v a b ha hb=>by
    rcases qAa ha with ⟨i,t,rfl,rfl⟩ | ⟨x,t,rfl,rfl⟩
    · rcases qAa hb with ⟨j,u,rfl,e⟩ | ⟨y,u,rfl,e⟩
      · injection e with e1 _;rw [e1]
      · exact nomatch e
    · rcases qAa hb with ⟨j,u,rfl,e⟩ | ⟨y,u,rfl,e⟩
      · exact nomatch e
      · injection e with e1 _;rw [e1]
  byValue:=fun k v h=>by
    rcases qAa h with ⟨i,t,rfl,rfl⟩ | ⟨x,t,rfl,rfl⟩<;>rfl
  pyHash:=fun hv h=>by
    rcases qAa hv with ⟨i,t,rfl,rfl⟩ | ⟨x,t,rfl,rfl⟩
    · exact wpAny_pyHash_int h
    · exact wpAny_pyHash_str h
  eqBool:=fun hu hv h=>by
    rcases qAa hu with ⟨i,t,rfl,rfl⟩ | ⟨x,t,rfl,rfl⟩
    · rcases qAa hv with ⟨j,u,rfl,rfl⟩ | ⟨y,u,rfl,rfl⟩
      · rw [qR1] at h;exact wpAny_eqBool_int h
      · rw [qSR] at h;exact SeqAt.EqAt.int_str i t y u _ _ _ _ h
    · rcases qAa hv with ⟨j,u,rfl,rfl⟩ | ⟨y,u,rfl,rfl⟩
      · rw [qR3] at h;exact SeqAt.EqAt.str_int x t j u _ _ _ _ h
      · rw [qQO] at h;exact wpAny_eqBool_str h
  «strs»:=fun k x t v h=>by
    rcases qAa h with ⟨i,u,rfl,e⟩ | ⟨y,u,rfl,e⟩
    · exact nomatch e
    · injection e with e1 _
      subst e1
      cases v<;>rfl
theorem qJE (prog:Program) (w:World) (i:Int) (t:Tok):(qAb prog w).is (.inl i) (.int i t)=true:=qLd i t
theorem qJC (prog:Program) (w:World) (x:Str) (t:Tok):(qAb prog w).is (.inr x) (.str x t)=true:=qLx x t
end L2
namespace L2
open PySem PySem.Spec PyProof.Rows
inductive V where
  | non | bl (b:Bool) | int (i:Int) | str (x:Str) | byt (b:Array UInt8) | flt (b:UInt64) | ref (a:Addr) | ty (n:String)
  deriving DecidableEq
noncomputable def RelV:V→Value→Prop
  | .non,u=>u=Value.none
  | .bl b,u=>u=Value.bool b
  | .int i,u=>∃ t,u=Value.int i t
  | .str x,u=>∃ t,u=Value.str x t
  | .byt b,u=>∃ t,u=Value.bytes b t
  | .flt b,u=>∃ t,u=Value.float b t
  | .ref a,u=>u=Value.ref a
  | .ty n,u=>u=Value.type n
noncomputable abbrev Vals:List V→List Value→Prop:=Paired RelV
theorem Vals.length {xs:List V} {us:List Value} (r:Vals xs us):xs.length=us.length:=Paired.length r
theorem Vals.get:∀ {xs:List V} {us:List Value} {i:Nat} {x:V},Vals xs us→xs[i]? = some x→∃ u,us[i]? = some u∧RelV x u
  | _,_,_,_,.nil,e=>by simp at e
  | _,_,0,_,.cons r _,e=>by simp at e;subst e;exact⟨_,rfl,r⟩
  | _,_,i+1,x,.cons _ t,e=>by
    obtain⟨u,h1,h2⟩:=Vals.get (i:=i) (x:=x) t (by simpa using e)
    exact⟨u,by simpa using h1,h2⟩
theorem Vals.set {x:V} {u:Value} (r:RelV x u):∀ {xs:List V} {us:List Value} (i:Nat),Vals xs us→Vals (xs.set i x) (us.set i u)
  | _,_,_,.nil=>.nil
  | _,_,0,.cons _ t=>.cons r t
  | _,_,i+1,.cons q t=>.cons q (Vals.set r i t)
theorem Vals.append:∀ {xs ys:List V} {us ws:List Value},Vals xs us→Vals ys ws→Vals (xs++ys) (us++ws)
  | _,_,_,_,.nil,s=>s
  | _,_,_,_,.cons r t,s=>.cons r (Vals.append t s)
theorem Vals.take:∀ {xs:List V} {us:List Value} (n:Nat),Vals xs us→Vals (xs.take n) (us.take n)
  | _,_,0,_=>.nil
  | _,_,_+1,.nil=>.nil
  | _,_,n+1,.cons r t=>.cons r (Vals.take n t)
theorem Vals.drop:∀ {xs:List V} {us:List Value} (n:Nat),Vals xs us→Vals (xs.drop n) (us.drop n)
  | _,_,0,r=>r
  | _,_,_+1,.nil=>.nil
  | _,_,n+1,.cons _ t=>Vals.drop n t
noncomputable def qDA:Option V→Option Value→Prop
  | some v,some u=>RelV v u
  | none,none=>True
  | _,_=>False
noncomputable def KV {κ:Type}:List (κ×V)→List (κ×Value)→Prop:=Paired fun (p:κ×V) (q:κ×Value)=>p.1=q.1∧RelV p.2 q.2
noncomputable def kV:Key→V
  | .inl i=>.int i
  | .inr x=>.str x
inductive HO where
  /-- a list -/
  | lst (xs:List V)
  /-- a tuple (never changes) -/
  | tup (xs:List V)
  /-- a dict whose keys are ints and texts;one whose keys are tuples of ints and texts (the empty one is both) -/
  | dK (kvs:List (Key×V)) | dT (kvs:List (List Key×V))
  /-- a set of ints: its members,its size -/
  | set (S:Int→Bool) (n:Nat)
  /-- an instance of the class at C,its dict at dx,its attributes -/
  | ins (C dx:Addr) (fs:List (Str×V))
  /-- the dict of the instance at x -/
  | own (x:Addr)
  /-- the dict of an exception -/
  | xd (fs:List (Str×V))
  /-- a bound method,f of x -/
  | met (f x:Addr)
  /-- a range object lo,lo+1,.. below hi -/
  | rng (lo hi:Int)
  /-- a thing that is known to the object (the script;a dict while a loop walks it): read,never written while it is so -/
  | frz (o:Obj) (u:HO)
  /-- a code object's table -/
  | tbl (ps:Array Value)
  /-- any other thing,by what is true of its one object (a def of one's own: SetO a S n:=HO.ext fun h=>..) -/
  | ext (φ:Heap→Prop)
noncomputable abbrev Hp:=Addr→Option HO
noncomputable def upd (H:Hp) (a:Addr) (o:HO):Hp:=fun b=>if b=a then some o else H b
theorem qh {H:Hp} {a:Addr} {o:HO}:upd H a o a=some o:=by unfold upd;rw [if_pos rfl]
theorem qQ {H:Hp} {a b:Addr} {o:HO} (h:b≠a):upd H a o b=H b:=by unfold upd;rw [if_neg h]
theorem qHP {H:Hp} {a b:Addr} {o u:HO} (h:H a=some o) (h':H b=some u) (d:o≠u):a≠b:=by
  intro e;subst e;rw [h] at h';exact d (Option.some.inj h')
theorem qX {H:Hp} {a b:Addr} {o:HO} (h:H a=some o) (h':H b=none):a≠b:=by
  intro e;subst e;rw [h] at h';cases h'
section
variable (P:Program) (w:World)
noncomputable def qA8 (H:Hp) (h:Heap) (a:Addr):HO→Prop
  | .lst xs=>xs.length≤sizeLine∧∃ (its:List Value) (n:Nat),Vals xs its∧h.get? a=some { cls:=.type "list",data:=.seq its.toArray n }
  | .tup xs=>xs.length≤sizeLine∧∃ its:List Value,Vals xs its∧IsTup h a its.toArray
  | .dK kvs=>kvs.length≤sizeLine∧(a==sysModules)=false∧∃ vs,KV kvs vs∧h.DictOf (qAb P w) a vs
  | .dT kvs=>kvs.length≤sizeLine∧(a==sysModules)=false∧∃ xs:List (List Key×Addr×Value),
      Paired (fun (p:List Key×V) (q:List Key×Addr×Value)=>p.1=q.1∧H q.2.1=some (.tup (p.1.map kV))∧RelV p.2 q.2.2) kvs xs ∧
      ∃ o es ep,h.get? a=some o∧o.ExactDict∧o.data = .dict es ep∧es.toList=xs.map (entryOfKey (tupleKind (qAb P w)))∧(xs.map (·.1)).Nodup
  | .set S n=>h.SetOf (intKind P w) a S n
  | .ins C dx fs=>H dx=some (.own a)∧fs.length≤1000∧dx≠a∧h.get? a=some (W.instObj C dx) ∧
      ∃ mA,h.Ns1 dx mA∧(∀ f,qDA (fs.lookup f) (mA f))∧PySem.Within mA (fs.map (·.1))
  | .own _=>∃ o,h.get? a=some o
  | .xd fs=>∃ mA,h.Ns1 a mA∧∀ f,qDA (fs.lookup f) (mA f)
  | .rng lo hi=>∃ t u v,h.get? a=some { cls:=.type "range",data:=.fields #[.int lo t,.int hi u,.int 1 v] }
  | .frz o u=>h.get? a=some o∧qA8 H h a u
  | .tbl ps=>h.get? a=some { cls:=.none,data:=.fields ps }
  | .met f x=>h.get? a=some (W.methodObj (.ref f) (.ref x))
  | .ext φ=>φ h∧(∃ o,h.get? a=some o)∧∀ h1 h2:Heap,φ h1→(∀ o,h1.get? a=some o→h2.get? a=some o)→φ h2
def HOk (H:Hp) (h:Heap):Prop:=∀ a o,H a=some o→qA8 P w H h a o
end
section
variable {P:Program} {w:World} {H H':Hp} {h h':Heap} {a:Addr} {o:HO}
theorem qA8.lt (x:qA8 P w H h a o):a<h.objs.size:=by
  cases o with
  | lst xs=>obtain⟨_,_,_,_,e⟩:=x;exact Heap.lt_size e
  | tup xs=>obtain⟨_,_,_,p⟩:=x;exact p.lt
  | dK kvs=>obtain⟨_,_,_,_,o,_,_,e,_⟩:=x;exact Heap.lt_size e
  | dT kvs=>obtain⟨_,_,_,_,o,_,_,e,_⟩:=x;exact Heap.lt_size e
  | set S n=>obtain⟨o,_,_,_,e,_⟩:=x;exact Heap.lt_size e
  | ins C dx fs=>obtain⟨_,_,_,e,_⟩:=x;exact Heap.lt_size e
  | own y=>obtain⟨_,e⟩:=x;exact Heap.lt_size e
  | xd fs=>obtain⟨_,⟨_,_,_,e,_⟩,_⟩:=x;exact Heap.lt_size e
  | rng lo hi=>obtain⟨_,_,_,e⟩:=x;exact Heap.lt_size e
  | frz ob u=>obtain⟨e,_⟩:=x;exact Heap.lt_size e
  | tbl ps=>exact Heap.lt_size (show h.get? a=some _ from x)
  | met f y=>exact Heap.lt_size (show h.get? a=some _ from x)
  | ext φ=>obtain⟨_,⟨_,e⟩,_⟩:=x;exact Heap.lt_size e
theorem Paired.qRF {α β:Type} {F G:α→β→Prop}:∀ {l₁:List α} {l₂:List β},Paired F l₁ l₂→(∀ a b,F a b→G a b)→Paired G l₁ l₂
  | _,_,.nil,_=>.nil
  | _,_,.cons r t,f=>.cons (f _ _ r) (Paired.qRF t f)
theorem qA8.stay (x:qA8 P w H h a o) (k:∀ b u,(b=a∨H b=some (.own a))→h.get? b=some u→h'.get? b=some u)
    (ho:∀ b,H b=some (.own a)→H' b=some (.own a)) (ht:∀ b xs,H b=some (.tup xs)→H' b=some (.tup xs)):qA8 P w H' h' a o:=by
  induction o with
  | lst xs=>obtain⟨z,its,n,r,e⟩:=x;exact⟨z,its,n,r,k _ _ (.inl rfl) e⟩
  | tup xs=>obtain⟨z,its,r,ob,e,c⟩:=x;exact⟨z,its,r,ob,k _ _ (.inl rfl) e,c⟩
  | dK kvs=>obtain⟨z,y,vs,r,ob,es,ep,e,c⟩:=x;exact⟨z,y,vs,r,ob,es,ep,k _ _ (.inl rfl) e,c⟩
  | dT kvs =>
    obtain⟨z,y,xs,r,ob,es,ep,e,c⟩:=x
    exact⟨z,y,xs,Paired.qRF r fun p q z=>⟨z.1,ht _ _ z.2.1,z.2.2⟩,ob,es,ep,k _ _ (.inl rfl) e,c⟩
  | set S n=>obtain⟨ob,es,ep,t,e,c⟩:=x;exact⟨ob,es,ep,t,k _ _ (.inl rfl) e,c⟩
  | ins C dx fs =>
    obtain⟨d,z,ne,e,mA,⟨od,es,ep,e2,c⟩,r⟩:=x
    exact⟨ho _ d,z,ne,k _ _ (.inl rfl) e,mA,⟨od,es,ep,k _ _ (.inr d) e2,c⟩,r⟩
  | own y=>obtain⟨ob,e⟩:=x;exact⟨ob,k _ _ (.inl rfl) e⟩
  | xd fs=>obtain⟨mA,⟨od,es,ep,e,c⟩,r⟩:=x;exact⟨mA,⟨od,es,ep,k _ _ (.inl rfl) e,c⟩,r⟩
  | rng lo hi=>obtain⟨t,u,v,e⟩:=x;exact⟨t,u,v,k _ _ (.inl rfl) e⟩
  | frz ob u ih=>obtain⟨e,q⟩:=x;exact⟨k _ _ (.inl rfl) e,ih q⟩
  | tbl ps =>
    have e:h.get? a=some { cls:=.none,data:=.fields ps }:=x
    show h'.get? a=some { cls:=.none,data:=.fields ps }
    exact k a _ (.inl rfl) e
  | met f y =>
    have e:h.get? a=some (W.methodObj (.ref f) (.ref y)):=x
    show h'.get? a=some (W.methodObj (.ref f) (.ref y))
    exact k a _ (.inl rfl) e
  | ext φ=>obtain⟨p,⟨o,e⟩,st⟩:=x;exact⟨st _ _ p fun o q=>k _ _ (.inl rfl) q,⟨o,k _ _ (.inl rfl) e⟩,st⟩
theorem HOk.lt (x:HOk P w H h) (e:H a=some o):a<h.objs.size:=(x a o e).lt
theorem HOk.fresh (x:HOk P w H h) (e:h.objs.size≤a):H a=none:=by
  cases q:H a with
  | none=>rfl
  | some u=>exact absurd (Nat.lt_of_lt_of_le (x.lt q) e) (Nat.lt_irrefl _)
theorem HOk.kept (x:HOk P w H h) (k:∀ b u,h.get? b=some u→h'.get? b=some u):HOk P w H h':=fun a o e =>
  (x a o e).stay (fun b u _ q=>k b u q) (fun _ q=>q) fun _ _ q=>q
theorem HOk.laid (x:HOk P w H h) (k:∀ b u,h.get? b=some u→h'.get? b=some u) (hp:h.objs.size≤a) (new:qA8 P w (upd H a o) h' a o):HOk P w (upd H a o) h':=fun b u e=>by
  have hn:=x.fresh hp
  by_cases hb:b=a
  · subst hb;rw [qh] at e;cases e;exact new
  · rw [qQ hb] at e
    exact (x b u e).stay (fun c v _ q=>k c v q) (fun c q=>by rw [qQ (qX q hn)];exact q) fun c xs q=>by rw [qQ (qX q hn)];exact q
end
def Rd (H:Hp) (a:Addr) (u:HO):Prop:=H a=some u∨∃ o,H a=some (.frz o u)
theorem Rd.ok {P:Program} {w:World} {H:Hp} {h:Heap} {a:Addr} {u:HO} (r:Rd H a u) (x:HOk P w H h):qA8 P w H h a u:=by
  rcases r with r | ⟨o,r⟩
  · exact x a u r
  · obtain⟨_,q⟩:=x a _ r
    exact q
noncomputable def Mut:Option HO→Prop
  | some (.lst _)=>True
  | some (.dK _)=>True
  | some (.dT _)=>True
  | some (.set _ _)=>True
  | some (.ins _ _ _)=>True
  | some (.ext _)=>True
  | _=>False
section
variable {P:Program} {w:World} {H:Hp} {h h':Heap} {x e:Addr} {o':HO}
theorem HOk.write (ok:HOk P w H h) (mu:Mut (H x)) (he:e=x∨H e=some (.own x)) (k:∀ b u,b≠e→h.get? b=some u→h'.get? b=some u) (heo:∃ u,h'.get? e=some u)
    (new:qA8 P w (upd H x o') h' x o'):HOk P w (upd H x o') h':=fun b u q=>by
  have nown:∀ c y,H c=some (.own y)→c≠x:=fun c y r z=>by subst z;rw [r] at mu;exact mu
  have ntup:∀ c xs,H c=some (.tup xs)→c≠x:=fun c xs r z=>by subst z;rw [r] at mu;exact mu
  by_cases hb:b=x
  · subst hb;rw [qh] at q;cases q;exact new
  · rw [qQ hb] at q
    by_cases hbe:b=e
    · have q':H b=some (.own x):=by
        rcases he with z | z
        · exact absurd (hbe.trans z) hb
        · rw [hbe];exact z
      rw [q] at q';cases q'
      obtain⟨v,hv⟩:=heo
      exact⟨v,by rw [hbe];exact hv⟩
    · refine (ok b u q).stay (fun c v hc r=>k c v ?_ r) (fun c r=>by rw [qQ (nown c b r)];exact r) fun c xs r=>by rw [qQ (ntup c xs r)];exact r
      rcases hc with rfl | hc
      · exact hbe
      · rintro rfl
        rcases he with z | z
        · exact nown c b hc z
        · rw [hc] at z;cases z;exact hb rfl
end
structure Un (fs ex:List Addr) (H H':Hp) (h h':Heap):Prop where
  keep:∀ b o,h.get? b=some o→H b=none→b ∉ fs→b ∉ ex→h'.get? b=some o
  slot:∀ b o,h.get? b=some o→H b=none→b∈fs→b ∉ ex→∃ sl,h'.get? b=some { o with slots:=sl }
  free:∀ b o,h.get? b=some o→H b=none→b ∉ ex→H' b=none
  there:∀ b o,h.get? b=some o→b ∉ ex→∃ o',h'.get? b=some o'
  tups:∀ b xs,H b=some (.tup xs)→H' b=some (.tup xs)
  frzs:∀ b o u,H b=some (.frz o u)→H' b=some (.frz o u)
  tbls:∀ b ps,H b=some (.tbl ps)→∃ more,H' b=some (.tbl (ps++more))
section
variable {fs fs' ex ex':List Addr} {H H1 H2:Hp} {h h1 h2 h':Heap} {a x e:Addr} {o:HO}
theorem Un.any (u:Un fs ex H H1 h h1) {b:Addr} {ob:Obj} (q:h.get? b=some ob) (n:H b=none) (hx:b ∉ ex):∃ sl,h1.get? b=some { ob with slots:=sl }:=by
  by_cases hb:b∈fs
  · exact u.slot b ob q n hb hx
  · exact⟨ob.slots,u.keep b ob q n hb hx⟩
theorem Un.kept (k:∀ b u,h.get? b=some u→h'.get? b=some u):Un fs ex H H h h' :=
  ⟨fun b ob q _ _ _=>k b ob q,fun b ob q _ _ _=>⟨ob.slots,k b ob q⟩,fun _ _ _ n _=>n,fun b ob q _=>⟨ob,k b ob q⟩,fun _ _ q=>q,fun _ _ _ q=>q,fun _ ps q=>⟨#[],by rw [q];simp⟩⟩
theorem Un.refl:Un fs ex H H h h:=Un.kept fun _ _ q=>q
theorem Un.laid (k:∀ b u,h.get? b=some u→h'.get? b=some u) (hp:h.objs.size≤a) (hn:H a=none):Un fs ex H (upd H a o) h h' where
  keep:=fun b u q _ _ _=>k b u q
  slot:=fun b u q _ _ _=>⟨u.slots,k b u q⟩
  free:=fun b u q n _=>by rw [qQ (Nat.ne_of_lt (Nat.lt_of_lt_of_le (Heap.lt_size q) hp))];exact n
  there:=fun b u q _=>⟨u,k b u q⟩
  tups:=fun b xs q=>by rw [qQ (qX q hn)];exact q
  frzs:=fun b u xs q=>by rw [qQ (qX q hn)];exact q
  tbls:=fun b ps q=>⟨#[],by rw [qQ (qX q hn),q];simp⟩
theorem Un.write (mu:Mut (H x)) (he:e=x∨H e=some (.own x)) (k:∀ b u,b≠e→h.get? b=some u→h'.get? b=some u) (heo:∃ u,h'.get? e=some u):Un fs ex H (upd H x o) h h':=by
  have hx:∀ b,H b=none→b≠x:=fun b n z=>by subst z;rw [n] at mu;exact mu
  have hb:∀ b,H b=none→b≠e:=fun b n z=>by
    subst z
    rcases he with r | r
    · exact hx b n r
    · rw [n] at r;cases r
  have hm:∀ b u,H b=some u→¬ Mut (some u)→b≠x:=fun b u q nm z=>by subst z;rw [q] at mu;exact nm mu
  refine⟨fun b u q n _ _=>k b u (hb b n) q,fun b u q n _ _=>⟨u.slots,k b u (hb b n) q⟩,fun b u q n _=>by rw [qQ (hx b n)];exact n,fun b u q _=>?_,
    fun b xs q=>by rw [qQ (hm b _ q fun z=>z)];exact q,fun b u xs q=>by rw [qQ (hm b _ q fun z=>z)];exact q,fun b ps q=>⟨#[],by rw [qQ (hm b _ q fun z=>z),q];simp⟩⟩
  by_cases hbe:b=e
  · subst hbe;exact heo
  · exact⟨u,k b u hbe q⟩
end
noncomputable def trk (h:Heap) (H:Hp):List Addr:=(List.range h.objs.size).filter fun a=>(H a).isSome
noncomputable def qH7 (h:Heap) (H:Hp):Heap:=W.hideAll h (trk h H)
theorem qLz (h:Heap) (H:Hp):(qH7 h H).objs.size=h.objs.size:=W.hideAll_size _ _
theorem qNS {h:Heap} {H:Hp} {b:Addr} {o:Obj} (e:h.get? b=some o) (n:H b=none):(qH7 h H).get? b=some o :=
  W.hideAll_get _ e fun hm=>by
    have q:(H b).isSome=true:=(List.mem_filter.mp hm).2
    rw [n] at q;simp at q
theorem qPO {h:Heap} {H:Hp} {b:Addr} {o:Obj} (e:(qH7 h H).get? b=some o):h.get? b=some o∧H b=none:=by
  have e':h.get? b=some o:=W.of_hideAll (trk h H) e
  refine⟨e',?_⟩
  cases q:H b with
  | none=>rfl
  | some x =>
    have hm:b∈trk h H:=List.mem_filter.mpr ⟨List.mem_range.mpr (Heap.lt_size e'),by simp [q]⟩
    have z:(qH7 h H).get? b=none:=W.hideAll_none (trk h H) hm
    rw [z] at e;cases e
noncomputable def qPm (g h:Heap) (L:Addr):List (Addr×Obj):=(List.range h.objs.size).filterMap fun a=>if a=L∨(g.get? a).isSome=true then none else (h.get? a).map fun o=>(a,o)
noncomputable def rest (g h:Heap) (L d:Addr):List (Addr×Obj):=(qPm g h L).filter fun p=>decide (p.1≠d)
end L2
namespace L2
open PySem PySem.Spec PyProof.Rows
structure Mod (K:W.Frag) (mg:Str→Option Value) (base:Heap):Prop where
  kin:K.In base
  glob:base.Ns mainGlobals mg
  blt:∃ mb,base.Ns builtinsNs mb∧∀ x:Str,x ≠ "__name__" → mb x=bootBuiltins x
  nolimit:base.NoLimit
structure Cx where
  prog:Program
  w:World
  K:W.Frag
  mg:Str→Option Value
  base:Heap
  A:Around
  N:List Str
  s₀:Shared
  H₀:Hp
  env:Env
  outer:List Env
  stack:List Env
  ex:List Addr
  fn:Str→Bool
  calm:Bool
  pn:List (Addr×Obj)
  xe:Value→Shared→Prop
noncomputable def frs (l:List Env):List Addr:=l.filterMap (·.frame)
noncomputable abbrev Cx.fs (X:Cx):List Addr:=frs X.outer
def Vis (sc:Scope) (x:Str):Prop:=sc.names.lookup x=some .local∨sc.names.lookup x=some .cell∨sc.names.lookup x=some .free
def Loc (sc:Scope) (x:Str):Prop:=sc.names.lookup x=some .local∨sc.names.lookup x=some .cell
def Look (env:Env) (h:Heap) (m:Str→Option Value) (x:Str) (u:Value):Prop :=
  (env.kindOf x=some .local∧m x=some u)∨((env.kindOf x=some .cell∨env.kindOf x=some .free)∧∃ c,env.cells.lookup x=some c∧h.IsCell c (some u))
structure Cx.Ok (X:Cx):Prop where
  mod:Mod X.K X.mg X.base
  kind:X.env.scope.kind = .function
  glob:X.env.globals=mainGlobals
  blt:X.env.builtins=builtinsNs
  above:X.s₀.heap.objs.size≤X.env.locals
  inj:∀ x y c,X.env.cells.lookup x=some c→X.env.cells.lookup y=some c→x=y
  has:∀ x,(X.env.kindOf x=some .cell∨X.env.kindOf x=some .free)→∃ c,X.env.cells.lookup x=some c
  cab:∀ x c,X.fn x=true→X.env.cells.lookup x=some c→X.s₀.heap.objs.size≤c
  hd:X.calm=true→X.A.handled=none
  frames:X.A.frames=some X.stack
  stk:X.stack=X.outer∨(X.stack=X.env::X.outer∧X.env.frame=some X.env.locals)
  exf:∀ b∈X.ex,b≠X.env.locals∧∀ x c,X.env.cells.lookup x=some c→c≠b
  bs:∀ b o,X.base.get? b=some o→X.s₀.heap.get? b=some o∧X.H₀ b=none
  bsz:X.base.objs.size≤X.s₀.heap.objs.size
  noex:∀ b o,X.base.get? b=some o→b ∉ X.ex
  exfs:∀ b∈X.ex,b ∉ X.fs
  qFH:X.s₀.heap.FunFrames X.base X.outer
  frf:∀ b∈X.fs,X.H₀ b=none
structure Inv (X:Cx) (pins:List (Addr×Obj)) (σ:List (Option V)) (H:Hp) (s:Shared):Prop where
  ok:X.Ok
  os:s.os=X.s₀.os
  bare:AllBare s.gens
  base:Un X.fs X.ex X.H₀ H X.s₀.heap s.heap
  loc:∃ m,s.heap.Ns X.env.locals m∧∀ (i:Nat) (x:Str) (v:V),X.N[i]? = some x→σ[i]? = some (some v)→Vis X.env.scope x→∃ u,RelV v u∧Look X.env s.heap m x u
  cell:∀ x c,X.env.cells.lookup x=some c→∃ v,s.heap.IsCell c v
  free:H X.env.locals=none
  freeC:∀ x c,X.env.cells.lookup x=some c→H c=none
  pin:∀ p∈X.pn++pins,s.heap.get? p.1=some p.2∧H p.1=none∧p.1≠X.env.locals∧p.1 ∉ X.fs∧∀ v,p.2.data≠.cell v
  hok:HOk X.prog X.w H s.heap
  len:σ.length=X.N.length
section
variable {X:Cx} {pins:List (Addr×Obj)} {σ:List (Option V)} {H H':Hp} {s:Shared} {h':Heap}
theorem Cx.Ok.qUD (ok:X.Ok) {b:Addr} {o:Obj} (e:X.base.get? b=some o):b ∉ X.fs:=fun hb=>by
  have:=(ok.qFH.mem hb).1
  rw [e] at this;cases this
theorem Inv.bs (I:Inv X pins σ H s):∀ b o,X.base.get? b=some o→s.heap.get? b=some o∧H b=none:=fun b o e =>
  ⟨I.base.keep b o (I.ok.bs b o e).1 (I.ok.bs b o e).2 (I.ok.qUD e) (I.ok.noex b o e),I.base.free b o (I.ok.bs b o e).1 (I.ok.bs b o e).2 (I.ok.noex b o e)⟩
theorem Inv.bk (I:Inv X pins σ H s):∀ b o,X.base.get? b=some o→s.heap.get? b=some o:=fun b o e=>(I.bs b o e).1
theorem Inv.mod (I:Inv X pins σ H s):Mod X.K X.mg X.base:=I.ok.mod
theorem Inv.kIn (I:Inv X pins σ H s):X.K.In s.heap:=I.ok.mod.kin.keeps I.bk
theorem Inv.nolimit (I:Inv X pins σ H s):s.heap.NoLimit:=I.ok.mod.nolimit.keeps I.bk
theorem Inv.lt (I:Inv X pins σ H s):X.env.locals<s.heap.objs.size:=let ⟨_,hn,_⟩:=I.loc;hn.lt
theorem Inv.sz (I:Inv X pins σ H s):X.s₀.heap.objs.size≤s.heap.objs.size:=Nat.le_trans I.ok.above (Nat.le_of_lt I.lt)
theorem Inv.qTj (I:Inv X pins σ H s) {a:Addr} (h:s.heap.objs.size≤a):a ∉ X.fs:=fun hb=>by
  obtain⟨_,o,ho,_⟩:=I.ok.qFH.mem hb
  exact absurd (Nat.lt_of_lt_of_le (Heap.lt_size ho) (Nat.le_trans I.sz h)) (Nat.lt_irrefl _)
theorem Inv.cne (I:Inv X pins σ H s):∀ x c,X.env.cells.lookup x=some c→c≠X.env.locals:=fun x c e z=>by
  obtain⟨v,o,ho,hd⟩:=I.cell x c e
  obtain⟨m,⟨o',es,ep,ho',hd',_⟩,_⟩:=I.loc
  rw [z,ho'] at ho;cases ho;rw [hd'] at hd;cases hd
theorem Inv.qFH (I:Inv X pins σ H s):s.heap.FunFrames X.base X.outer:=by
  have all:∀ (l:List Env),(∀ b∈frs l,b∈X.fs)→X.s₀.heap.FunFrames X.base l→s.heap.FunFrames X.base l:=by
    intro l
    induction l with
    | nil=>intro _ _;trivial
    | cons env r ih =>
      intro hs hl
      obtain⟨hk,⟨L,o,hf,hn,ho,hd⟩,hr⟩:=hl
      have hL:L∈X.fs:=hs L (by unfold frs;rw [List.filterMap_cons,hf];exact List.mem_cons_self)
      obtain⟨sl,e⟩:=I.base.slot L o ho (I.ok.frf L hL) hL fun z=>I.ok.exfs L z hL
      exact⟨hk,⟨L,_,hf,hn,e,hd⟩,ih (fun b hb=>hs b (by unfold frs;rw [List.filterMap_cons,hf];exact List.mem_cons_of_mem _ hb)) hr⟩
  exact all X.outer (fun _ hb=>hb) I.ok.qFH
theorem Inv.stack (I:Inv X pins σ H s):s.heap.FunFrames X.base X.stack:=by
  rcases I.ok.stk with e | ⟨e,hf⟩
  · rw [e];exact I.qFH
  · rw [e]
    obtain⟨m,hn,_⟩:=I.loc
    refine .cons (by rw [I.ok.kind];decide) hf hn ?_ I.qFH
    exact Heap.get?_none_of_le (Nat.le_trans I.ok.bsz I.ok.above)
theorem Inv.qIA (I:Inv X pins σ H s):∀ b∈frs X.stack,b∈X.env.locals::X.fs:=fun b hb=>by
  rcases I.ok.stk with e | ⟨e,hf⟩
  · rw [e] at hb;exact List.mem_cons_of_mem _ hb
  · rw [e] at hb
    unfold frs at hb
    rw [List.filterMap_cons,hf] at hb
    exact hb
theorem Inv.qKj (I:Inv X pins σ H s):∀ b∈frs X.stack,H b=none:=fun b hb=>by
  rcases List.mem_cons.mp (I.qIA b hb) with e | hb
  · rw [e];exact I.free
  · obtain⟨_,o,ho,_⟩:=I.ok.qFH.mem hb
    exact I.base.free b o ho (I.ok.frf b hb) fun z=>I.ok.exfs b z hb
theorem Inv.step {g':Array GenState} {t':Nat} {d':Drawn} {ch:List Addr} (I:Inv X pins σ H s)
    (hch:∀ b∈ch,(b∈X.ex∨X.s₀.heap.objs.size≤b)∧b≠X.env.locals∧(∀ x c,X.env.cells.lookup x=some c→c≠b)∧∀ p∈X.pn++pins,p.1≠b)
    (keep:∀ b o,b≠X.env.locals→b ∉ X.fs→b ∉ ch→s.heap.get? b=some o→H b=none→h'.get? b=some o)
    (slot:∀ b o,b≠X.env.locals→b∈X.fs→b ∉ ch→s.heap.get? b=some o→H b=none→∃ sl,h'.get? b=some { o with slots:=sl }) (free:∀ b o,b ∉ ch→s.heap.get? b=some o→H b=none→H' b=none)
    (there:∀ b o,b ∉ ch→s.heap.get? b=some o→∃ o',h'.get? b=some o')
    (tups:∀ b xs,H b=some (.tup xs)→H' b=some (.tup xs)) (frzs:∀ b o u,H b=some (.frz o u)→H' b=some (.frz o u)) (tbls:∀ b ps,H b=some (.tbl ps)→∃ more,H' b=some (.tbl (ps++more)))
    (ns:∀ m,s.heap.Ns X.env.locals m→h'.Ns X.env.locals m) (hok:HOk X.prog X.w H' h') (hg:AllBare g') :
    Inv X pins σ H' { s with heap:=h',gens:=g',drawn:=d',toks:=t' }:=by
  have neL:∀ b o,X.s₀.heap.get? b=some o→b≠X.env.locals:=fun b o e=>Nat.ne_of_lt (Nat.lt_of_lt_of_le (Heap.lt_size e) I.ok.above)
  have neC:∀ b o,X.s₀.heap.get? b=some o→b ∉ X.ex→b ∉ ch:=fun b o e hx hb=>by
    rcases (hch b hb).1 with z | z
    · exact hx z
    · exact absurd (Nat.lt_of_lt_of_le (Heap.lt_size e) z) (Nat.lt_irrefl _)
  have cellK:∀ x c,X.env.cells.lookup x=some c→∀ v,s.heap.IsCell c v→h'.IsCell c v:=fun x c e v ⟨o,ho,hd⟩=>by
    have nch:c ∉ ch:=fun z=>(hch c z).2.2.1 x c e rfl
    by_cases hc:c∈X.fs
    · obtain⟨sl,q⟩:=slot c o (I.cne x c e) hc nch ho (I.freeC x c e)
      exact⟨_,q,hd⟩
    · exact⟨o,keep c o (I.cne x c e) hc nch ho (I.freeC x c e),hd⟩
  refine⟨I.ok,I.os,hg,⟨fun b o e n hb hx=>?_,fun b o e n hb hx=>?_,fun b o e n hx=>?_,fun b o e hx=>?_,fun b xs e=>tups b xs (I.base.tups b xs e),fun b o xs e=>frzs b o xs (I.base.frzs b o xs e),fun b ps e=>?_⟩,?_,fun x c e=>?_,?_,fun x c e=>?_,fun p hp=>?_,hok,I.len⟩
  · exact keep b o (neL b o e) hb (neC b o e hx) (I.base.keep b o e n hb hx) (I.base.free b o e n hx)
  · obtain⟨sl,e1⟩:=I.base.slot b o e n hb hx
    obtain⟨sl',e2⟩:=slot b _ (neL b o e) hb (neC b o e hx) e1 (I.base.free b o e n hx)
    exact⟨sl',e2⟩
  · k_dat 0"r42"
    exact free b o' (neC b o e hx) e1 (I.base.free b o e n hx)
  · k_dat 0"r42"
    exact there b o' (neC b o e hx) e1
  · obtain⟨m1,e1⟩:=I.base.tbls b ps e
    obtain⟨m2,e2⟩:=tbls b _ e1
    exact⟨m1++m2,by rw [e2,Array.append_assoc]⟩
  · obtain⟨m,hn,hl⟩:=I.loc
    refine⟨m,ns m hn,fun i x v e1 e2 e3=>?_⟩
    obtain⟨u,r,l⟩:=hl i x v e1 e2 e3
    refine⟨u,r,?_⟩
    rcases l with l | ⟨k,c,e,z⟩
    · exact .inl l
    · exact .inr ⟨k,c,e,cellK x c e _ z⟩
  · obtain⟨v,z⟩:=I.cell x c e
    exact⟨v,cellK x c e v z⟩
  · obtain⟨m,⟨o,_,_,ho,_⟩,_⟩:=I.loc
    exact free _ o (fun z=>(hch _ z).2.1 rfl) ho I.free
  · obtain⟨v,o,ho,hd⟩:=I.cell x c e
    exact free c o (fun z=>(hch c z).2.2.1 x c e rfl) ho (I.freeC x c e)
  · obtain⟨e,n,ne,nf,d⟩:=I.pin p hp
    have nch:p.1 ∉ ch:=fun z=>(hch p.1 z).2.2.2 p hp rfl
    exact⟨keep p.1 p.2 ne nf nch e n,free p.1 p.2 nch e n,ne,nf,d⟩
theorem Inv.un {t':Nat} (I:Inv X pins σ H s) (u:Un X.fs [] H H' s.heap h') (hok:HOk X.prog X.w H' h'):Inv X pins σ H' { s with heap:=h',toks:=t' }:=by
  obtain⟨m,⟨o,es,ep,ho,r⟩,_⟩:=id I.loc
  obtain⟨sl,hL⟩:=u.any ho I.free (by simp)
  exact I.step (g':=s.gens) (d':=s.drawn) (ch:=[]) (fun _ z=>nomatch z) (fun b o _ hb _ e n=>u.keep b o e n hb (by simp)) (fun b o _ hb _ e n=>u.slot b o e n hb (by simp)) (fun b o _ e n=>u.free b o e n (by simp)) (fun b o _ e=>u.there b o e (by simp)) u.tups u.frzs u.tbls (fun m' hm=>by
    obtain⟨o',es',ep',ho',r'⟩:=hm
    rw [ho] at ho';cases ho'
    exact⟨_,es',ep',hL,r'⟩) hok I.bare
theorem Inv.call {g':Array GenState} {t':Nat} {d':Drawn} {ch:List Addr} (I:Inv X pins σ H s) (u:Un (frs X.stack) ch H H' s.heap h') (hok:HOk X.prog X.w H' h') (hg:AllBare g')
    (hch:∀ b∈ch,(b∈X.ex∨X.s₀.heap.objs.size≤b)∧b≠X.env.locals∧(∀ x c,X.env.cells.lookup x=some c→c≠b)∧∀ p∈X.pn++pins,p.1≠b) :
    Inv X pins σ H' { s with heap:=h',gens:=g',drawn:=d',toks:=t' }:=by
  obtain⟨m,⟨o,es,ep,ho,r⟩,_⟩:=id I.loc
  obtain⟨sl,hL⟩:=u.any ho I.free fun z=>(hch _ z).2.1 rfl
  exact I.step (ch:=ch) hch (fun b o hL hb hc e n=>u.keep b o e n (fun z=>(List.mem_cons.mp (I.qIA b z)).elim hL hb) hc) (fun b o _ _ hc e n=>u.any e n hc) (fun b o hc e n=>u.free b o e n hc) (fun b o hc e=>u.there b o e hc) u.tups u.frzs u.tbls (fun m' hm=>by
    obtain⟨o',es',ep',ho',r'⟩:=hm
    rw [ho] at ho';cases ho'
    exact⟨_,es',ep',hL,r'⟩) hok hg
theorem Inv.turned {t':Nat} {it:Addr} (I:Inv X pins σ H s) (k:∀ b o,b≠it→s.heap.get? b=some o→h'.get? b=some o) (hn:H it=none) (hL:it≠X.env.locals)
    (h1:it∈X.ex∨X.s₀.heap.objs.size≤it) (h2:∀ x c,X.env.cells.lookup x=some c→c≠it) (h3:∀ p∈X.pn++pins,p.1≠it):Inv X pins σ H { s with heap:=h',toks:=t' }:=by
  have nit:∀ b u,H b=some u→b≠it:=fun b u e z=>by rw [z,hn] at e;cases e
  refine I.step (g':=s.gens) (d':=s.drawn) (ch:=[it]) (fun b hb=>?_) (fun b o _ _ hc e _=>k b o (fun z=>hc (by simp [z])) e) (fun b o _ _ hc e _=>⟨o.slots,k b o (fun z=>hc (by simp [z])) e⟩) (fun _ _ _ _ n=>n)
    (fun b o hc e=>⟨o,k b o (fun z=>hc (by simp [z])) e⟩) (fun _ _ e=>e) (fun _ _ _ e=>e) (fun b ps e=>⟨#[],by rw [e];simp⟩) (fun m hm=>?_) (fun b u e=>?_) I.bare
  · have e:b=it:=by simpa using hb
    subst e
    exact⟨h1,hL,h2,h3⟩
  · k_dat 0"r26"
    exact⟨o,es,ep,k _ o (Ne.symm hL) ho,r⟩
  · refine (I.hok b u e).stay (fun c v hc q=>k c v ?_ q) (fun _ q=>q) fun _ _ q=>q
    rcases hc with z | z
    · rw [z];exact nit b u e
    · exact nit c _ z
theorem Inv.tok (I:Inv X pins σ H s) (t:Nat):Inv X pins σ H { s with toks:=t }:=I.un (h':=s.heap) (t':=t) Un.refl I.hok
theorem Inv.kept {t':Nat} (I:Inv X pins σ H s) (k:∀ b u,s.heap.get? b=some u→h'.get? b=some u):Inv X pins σ H { s with heap:=h',toks:=t' }:=I.un (Un.kept k) (I.hok.kept k)
theorem Inv.laid {a:Addr} {o:HO} {t':Nat} (I:Inv X pins σ H s) (k:∀ b u,s.heap.get? b=some u→h'.get? b=some u) (hp:s.heap.objs.size≤a) (new:qA8 X.prog X.w (upd H a o) h' a o) :
    Inv X pins σ (upd H a o) { s with heap:=h',toks:=t' }:=I.un (Un.laid k hp (I.hok.fresh hp)) (I.hok.laid k hp new)
theorem Inv.write {x e:Addr} {o:HO} {t':Nat} (I:Inv X pins σ H s) (mu:Mut (H x)) (he:e=x∨H e=some (.own x)) (k:∀ b u,b≠e→s.heap.get? b=some u→h'.get? b=some u) (heo:∃ u,h'.get? e=some u)
    (new:qA8 X.prog X.w (upd H x o) h' x o):Inv X pins σ (upd H x o) { s with heap:=h',toks:=t' }:=I.un (Un.write mu he k heo) (I.hok.write mu he k heo new)
theorem Inv.qFr {pins':List (Addr×Obj)} (I:Inv X pins σ H s) (h:∀ p∈pins',s.heap.get? p.1=some p.2∧H p.1=none∧p.1≠X.env.locals∧p.1 ∉ X.fs∧∀ v,p.2.data≠.cell v):Inv X pins' σ H s :=
  ⟨I.ok,I.os,I.bare,I.base,I.loc,I.cell,I.free,I.freeC,fun p hp=>(List.mem_append.mp hp).elim (fun z=>I.pin p (List.mem_append_left _ z)) (h p),I.hok,I.len⟩
theorem qIu {N:List Str} (hN:N.Nodup) {i j:Nat} {x:Str} (a:N[i]? = some x) (b:N[j]? = some x):i=j:=by
  obtain⟨h1,e1⟩:=List.getElem?_eq_some_iff.mp a
  obtain⟨h2,e2⟩:=List.getElem?_eq_some_iff.mp b
  exact (List.getElem_inj hN).mp (e1.trans e2.symm)
theorem qHM {M:Model} {A:Around} {E:Value→Shared→Prop} {i:Nat} {x:Str} {v:V} {u:Value} {Q:Unit→Shared→Prop} (I:Inv X pins σ H s) (hN:X.N.Nodup) (hi:X.N[i]? = some x) (hx:Loc X.env.scope x) (r:RelV v u)
    (h:∀ s',Inv X pins (σ.set i (some v)) H s'→(∃ a,Heap.SameBut a s.heap s'.heap∧(a=X.env.locals∨X.env.cells.lookup x=some a))→Q () s') (hf:X.fn x=true∨X.env.scope.names.lookup x=some .local:=by first | exact .inl rfl | exact .inr rfl | assumption):wpAny M A (storeName X.env x u) Q E s:=by
  obtain⟨m,hn,hl⟩:=id I.loc
  have hcls:(X.env.scope.kind == .class || (X.env.scope.kind == .module&&X.env.locals != X.env.globals))=false:=by rw [I.ok.kind];rfl
  have hiσ:i<σ.length:=by rw [I.len];exact (List.getElem?_eq_some_iff.mp hi).1
  have cne:=I.cne
  have tracked:∀ {a:Addr} {h':Heap},(∃ o,s.heap.get? a=some o∧H a=none)→Heap.SameBut a s.heap h'→HOk X.prog X.w H h':=fun {a h'} ha hs b ob e=>by
    obtain⟨_,_,hfree⟩:=ha
    refine (I.hok b ob e).stay (fun c w' hc q=>(hs.2 c ?_).trans q) (fun _ q=>q) fun _ _ q=>q
    rintro rfl
    rcases hc with rfl | hc
    · rw [hfree] at e;cases e
    · rw [hfree] at hc;cases hc
  rcases hx with hk | hk
  · refine wpAny_storeName_local hk hn (fun h' hn' hs=>?_) hcls
    obtain⟨oL,_,_,hoL,_⟩:=id hn
    refine h _ ⟨I.ok,I.os,I.bare,⟨fun b o e n hb hx=>?_,fun b o e n hb hx=>?_,I.base.free,fun b o e hx=>?_,I.base.tups,I.base.frzs,I.base.tbls⟩,⟨_,hn',fun j y v' e1 e2 e3=>?_⟩,fun y c e=>?_,I.free,I.freeC,fun p hp=>?_,tracked ⟨oL,hoL,I.free⟩ hs,by simpa using I.len⟩ ⟨_,hs,.inl rfl⟩
    · exact (hs.2 b (Nat.ne_of_lt (Nat.lt_of_lt_of_le (Heap.lt_size e) I.ok.above))).trans (I.base.keep b o e n hb hx)
    · obtain⟨sl,e1⟩:=I.base.slot b o e n hb hx
      exact⟨sl,(hs.2 b (Nat.ne_of_lt (Nat.lt_of_lt_of_le (Heap.lt_size e) I.ok.above))).trans e1⟩
    · k_dat 0"r42"
      exact⟨o',(hs.2 b (Nat.ne_of_lt (Nat.lt_of_lt_of_le (Heap.lt_size e) I.ok.above))).trans e1⟩
    · by_cases hj:j=i
      · subst hj
        rw [hi] at e1;cases e1
        rw [List.getElem?_set_self hiσ] at e2
        cases e2
        exact⟨u,r,.inl ⟨hk,by simp⟩⟩
      · rw [List.getElem?_set_ne (Ne.symm hj)] at e2
        obtain⟨u',r',q⟩:=hl j y v' e1 e2 e3
        refine⟨u',r',?_⟩
        rcases q with ⟨k,e⟩ | ⟨k,c,e,z⟩
        · refine .inl ⟨k,?_⟩
          have:y≠x:=fun e=>hj (qIu hN e1 (e ▸ hi))
          simp [this,e]
        · exact .inr ⟨k,c,e,z.sameBut hs (cne y c e)⟩
    · obtain⟨w',z⟩:=I.cell y c e
      exact⟨w',z.sameBut hs (cne y c e)⟩
    · obtain⟨e,n,ne,nf,d⟩:=I.pin p hp
      exact⟨(hs.2 p.1 ne).trans e,n,ne,nf,d⟩
  · have hfn:X.fn x=true:=by
      rcases hf with z | z
      · exact z
      · rw [z] at hk;cases hk
    obtain⟨c,hc⟩:=I.ok.has x (.inl hk)
    obtain⟨w',z⟩:=I.cell x c hc
    refine wpAny_storeName_cell I.ok.kind hk hc z (fun h' hc' hs=>?_)
    obtain⟨oc,hoc,hocd⟩:=id z
    refine h { s with heap:=h' } ⟨I.ok,I.os,I.bare,⟨fun b o e n hb hx=>?_,fun b o e n hb hx=>?_,I.base.free,fun b o e hx=>?_,I.base.tups,I.base.frzs,I.base.tbls⟩,⟨m,hn.sameBut hs (Ne.symm (cne x c hc)),fun j y v' e1 e2 e3=>?_⟩,fun y c' e=>?_,I.free,I.freeC,fun p hp=>?_,tracked ⟨oc,hoc,I.freeC x c hc⟩ hs,by simpa using I.len⟩ ⟨c,hs,.inr hc⟩
    · exact (hs.2 b (Nat.ne_of_lt (Nat.lt_of_lt_of_le (Heap.lt_size e) (I.ok.cab x c hfn hc)))).trans (I.base.keep b o e n hb hx)
    · obtain⟨sl,e1⟩:=I.base.slot b o e n hb hx
      exact⟨sl,(hs.2 b (Nat.ne_of_lt (Nat.lt_of_lt_of_le (Heap.lt_size e) (I.ok.cab x c hfn hc)))).trans e1⟩
    · k_dat 0"r42"
      exact⟨o',(hs.2 b (Nat.ne_of_lt (Nat.lt_of_lt_of_le (Heap.lt_size e) (I.ok.cab x c hfn hc)))).trans e1⟩
    · by_cases hj:j=i
      · subst hj
        rw [hi] at e1;cases e1
        rw [List.getElem?_set_self hiσ] at e2
        cases e2
        exact⟨u,r,.inr ⟨.inl hk,c,hc,hc'⟩⟩
      · rw [List.getElem?_set_ne (Ne.symm hj)] at e2
        obtain⟨u',r',q⟩:=hl j y v' e1 e2 e3
        refine⟨u',r',?_⟩
        rcases q with q | ⟨k,c',e,z'⟩
        · exact .inl q
        · refine .inr ⟨k,c',e,z'.sameBut hs ?_⟩
          rintro rfl
          exact hj (qIu hN e1 (I.ok.inj _ _ _ e hc ▸ hi))
    · by_cases hcc:c'=c
      · subst hcc;exact⟨_,hc'⟩
      · obtain⟨w2,z2⟩:=I.cell y c' e
        exact⟨w2,z2.sameBut hs hcc⟩
    · obtain⟨e,n,ne,nf,d⟩:=I.pin p hp
      refine⟨(hs.2 p.1 ?_).trans e,n,ne,nf,d⟩
      intro q
      rw [q,hoc] at e
      have q':oc=p.2:=Option.some.inj e
      exact d w' (by rw [← q'];exact hocd)
theorem qDY {M:Model} {A:Around} {E:Value→Shared→Prop} {i:Nat} {x:Str} {v:V} {u:Value} {Q:Unit→Shared→Prop} (I:Inv X pins σ H s) (hN:X.N.Nodup) (hi:X.N[i]? = some x) (hx:Loc X.env.scope x) (r:RelV v u)
    (h:∀ s',Inv X pins (σ.set i (some v)) H s'→Q () s') (hf:X.fn x=true∨X.env.scope.names.lookup x=some .local:=by first | exact .inl rfl | exact .inr rfl | assumption):wpAny M A (storeName X.env x u) Q E s :=
  qHM I hN hi hx r (fun s' I' _=>h s' I') hf
theorem Inv.qTN {s':Shared} {ch:List Addr} (I:Inv X pins σ H s) (ho:s'.os=s.os) (u:Un (frs X.stack) ch H H' s.heap s'.heap) (hok:HOk X.prog X.w H' s'.heap) (hg:AllBare s'.gens)
    (hch:∀ b∈ch,(b∈X.ex∨X.s₀.heap.objs.size≤b)∧b≠X.env.locals∧(∀ x c,X.env.cells.lookup x=some c→c≠b)∧∀ p∈X.pn++pins,p.1≠b):Inv X pins σ H' s':=by
  obtain⟨h',g',d',t',o'⟩:=s'
  have e:o'=s.os:=ho
  subst e
  exact I.call (g':=g') (t':=t') (d':=d') u hok hg hch
end
noncomputable abbrev XK:=Value→Option Addr→Hp→Prop
noncomputable abbrev St:=List (Option V)
noncomputable abbrev VK:=V→Hp→Prop
noncomputable abbrev TE:=St→Hp→VK→Prop
noncomputable abbrev TT:=St→Hp→(Bool→Hp→Prop)→Prop
noncomputable abbrev TA:=St→Hp→(List V→Hp→Prop)→Prop
structure Ends where
  nx:St→Hp→Prop
  rt:VK
  bk:St→Hp→Prop:=fun _ _=>False
  ct:St→Hp→Prop:=fun _ _=>False
noncomputable abbrev TS:=Ends→St→Hp→Prop
def EP (X:Cx) (pins:List (Addr×Obj)) (σ:St) (Q:VK) (u:Value) (s':Shared):Prop:=∃ v H',Inv X pins σ H' s'∧RelV v u∧Q v H'
def TP (X:Cx) (pins:List (Addr×Obj)) (σ:St) (Q:Bool→Hp→Prop) (b:Bool) (s':Shared):Prop:=∃ H',Inv X pins σ H' s'∧Q b H'
def AP (X:Cx) (pins:List (Addr×Obj)) (σ:St) (Q:List V→Hp→Prop) (us:List Value) (s':Shared):Prop:=∃ vs H',Inv X pins σ H' s'∧Vals vs us∧Q vs H'
def SP (X:Cx) (pins:List (Addr×Obj)) (D:Ends) (f:Flow) (s':Shared):Prop :=
  match f with
  | .next=>∃ σ' H',Inv X pins σ' H' s'∧D.nx σ' H'
  | .brk=>∃ σ' H',Inv X pins σ' H' s'∧D.bk σ' H'
  | .cont=>∃ σ' H',Inv X pins σ' H' s'∧D.ct σ' H'
  | .ret u=>∃ v σ' H',Inv X pins σ' H' s'∧RelV v u∧D.rt v H'
def PE (X:Cx) (e:Expr) (t:TE):Prop :=
  ∀ (pins:List (Addr×Obj)) (s:Shared) (σ:St) (H:Hp) (Q:VK),Inv X pins σ H s→t σ H Q→wpAny (model X.prog X.w) X.A (eval e X.env) (EP X pins σ Q) X.xe s
def PT (X:Cx) (e:Expr) (t:TT):Prop :=
  ∀ (pins:List (Addr×Obj)) (s:Shared) (σ:St) (H:Hp) (Q:Bool→Hp→Prop),Inv X pins σ H s→t σ H Q→wpAny (model X.prog X.w) X.A (isTrue e X.env (eval e X.env)) (TP X pins σ Q) X.xe s
def PW (X:Cx) (e:Expr) (t:TT):Prop :=
  ∀ (whole:Sem Value) (pins:List (Addr×Obj)) (s:Shared) (σ:St) (H:Hp) (Q:Bool→Hp→Prop),Inv X pins σ H s→t σ H Q→wpAny (model X.prog X.w) X.A (isTrue e X.env whole) (TP X pins σ Q) X.xe s
def PA (X:Cx) (es:List Expr) (t:TA):Prop :=
  ∀ (pos:Pos) (pins:List (Addr×Obj)) (s:Shared) (σ:St) (H:Hp) (Q:List V→Hp→Prop),Inv X pins σ H s→t σ H Q→wpAny (model X.prog X.w) X.A (spliced (backTo pos (starEach es X.env))) (AP X pins σ Q) X.xe s
def PS (X:Cx) (st:Stmt) (t:TS):Prop :=
  ∀ (pins:List (Addr×Obj)) (s:Shared) (σ:St) (H:Hp) (D:Ends),Inv X pins σ H s→t D σ H→wpAny (model X.prog X.w) X.A (exec st X.env) (SP X pins D) X.xe s
def PSs (X:Cx) (st:List Stmt) (t:TS):Prop :=
  ∀ (pins:List (Addr×Obj)) (s:Shared) (σ:St) (H:Hp) (D:Ends),Inv X pins σ H s→t D σ H→wpAny (model X.prog X.w) X.A (execs st X.env) (SP X pins D) X.xe s
theorem thn {α:Type} {t:Sem α} {Q Q':α→Shared→Prop} {M:Model} {A:Around} {E:Value→Shared→Prop} {s:Shared} (h:wpAny M A t Q E s) (hQ:∀ a s,Q a s→Q' a s):wpAny M A t Q' E s:=wpAny_mono h hQ fun _ _ x=>x
end L2
namespace L2
open PySem PySem.Spec PyProof.Rows
section
variable {X:Cx}
noncomputable def qUB (i:Nat):TE:=fun σ H Q=>∃ v,σ[i]? = some (some v)∧Q v H
noncomputable def tC (v:V):TE:=fun _ H Q=>Q v H
theorem qQw {i:Nat} {x:Str} {pos:Pos} (hN:X.N[i]? = some x) (hv:Vis X.env.scope x) (hd:(x==("__debug__" : Str))=false:=by decide) (hcd:(x==("__classdict__" : Str))=false:=by decide):PE X (.Name x pos) (qUB i):=by
  k_dat 0"r2"
  obtain⟨v,e,h⟩:=h
  obtain⟨m,hn,hl⟩:=I.loc
  obtain⟨u,r,l⟩:=hl i x v hN e hv
  have fin:EP X pins σ Q u s:=⟨v,H,I,r,h⟩
  rcases l with ⟨hk,hm⟩ | ⟨hk,c,hc,hcell⟩
  · exact wpAny_Name (wpAny_loadName_local I.ok.kind hk hn hm fin) hd
  · rcases hk with hk | hk
    · exact wpAny_Name (wpAny_loadName_cell I.ok.kind hk hc hcell fin) hd
    · exact wpAny_Name (wpAny_loadName_free I.ok.kind hk hc hcell fin hcd) hd
theorem qQ8 {i j pos}:PE X (.Constant (.int i) j pos) (tC (.int i)):=fun _ _ _ H _ I h=>wpAny_Constant_int ⟨.int i,H,I.tok _,⟨_,rfl⟩,h⟩
theorem qSq {b j pos}:PE X (.Constant (.bool b) j pos) (tC (.bl b)):=fun _ _ _ H _ I h=>Constant_bool ⟨.bl b,H,I,rfl,h⟩
theorem qQg {j pos}:PE X (.Constant .none j pos) (tC .non):=fun _ _ _ H _ I h=>Constant_none ⟨.non,H,I,rfl,h⟩
theorem qNB {x j pos}:PE X (.Constant (.str x) j pos) (tC (.str x)):=fun _ _ _ H _ I h=>Calls.Constant_str ⟨.str x,H,I.tok _,⟨_,rfl⟩,h⟩
def Gl (X:Cx) (x:Str):Prop:=X.env.kindOf x=some .globalImplicit
theorem qEj {E:Value→Shared→Prop} {pins:List (Addr×Obj)} {s:Shared} {σ:St} {H:Hp} {x:Str} {u:Value} {pos:Pos} {Q:Value→Shared→Prop} (I:Inv X pins σ H s) (hg:Gl X x) (hm:X.mg x=some u) (h:Q u s)
    (hd:(x==("__debug__" : Str))=false:=by decide):wpAny (model X.prog X.w) X.A (eval (.Name x pos) X.env) Q E s :=
  Calls.Name_function_global I.ok.kind hg (Calls.loadGlobal_global (by rw [I.ok.glob];exact I.mod.glob.keeps I.bk) hm h) hd
theorem qEw {E:Value→Shared→Prop} {pins:List (Addr×Obj)} {s:Shared} {σ:St} {H:Hp} {x:Str} {u:Value} {pos:Pos} {Q:Value→Shared→Prop} (I:Inv X pins σ H s) (hg:Gl X x) (hm:X.mg x=none) (hv:bootBuiltins x=some u) (h:Q u s)
    (hn:x ≠ "__name__":=by decide) (hd:(x==("__debug__" : Str))=false:=by decide):wpAny (model X.prog X.w) X.A (eval (.Name x pos) X.env) Q E s:=by
  obtain⟨mb,h1,h2⟩:=I.mod.blt
  exact Calls.Name_function_global I.ok.kind hg (Calls.loadGlobal_builtin (by rw [I.ok.glob];exact I.mod.glob.keeps I.bk) hm (by rw [I.ok.blt];exact h1.keeps I.bk) ((h2 x hn).trans hv) h) hd
theorem qPC {x:Str} {v:V} {u:Value} {pos:Pos} (hg:Gl X x) (hm:X.mg x=some u) (r:RelV v u) (hd:(x==("__debug__" : Str))=false:=by decide):PE X (.Name x pos) (tC v) :=
  fun _ _ _ H _ I h=>qEj I hg hm ⟨v,H,I,r,h⟩ hd
theorem qOt {x:Str} {v:V} {u:Value} {pos:Pos} (hg:Gl X x) (hm:X.mg x=none) (hv:bootBuiltins x=some u) (r:RelV v u) (hn:x ≠ "__name__":=by decide) (hd:(x==("__debug__" : Str))=false:=by decide):PE X (.Name x pos) (tC v) :=
  fun _ _ _ H _ I h=>qEw I hg hm hv ⟨v,H,I,r,h⟩ hn hd
variable {a b:Expr} {ta tb:TE} {pos:Pos}
def PC (X:Cx) (op:CmpOp) (a b:Expr) (t:TE):Prop :=
  ∀ (pins:List (Addr×Obj)) (s:Shared) (σ:St) (H:Hp) (Q:VK),Inv X pins σ H s→t σ H Q →
    wpAny (model X.prog X.w) X.A (eval a X.env) (fun v s₁=>wpAny (model X.prog X.w) X.A (eval b X.env) (fun u s₂=>wpAny (model X.prog X.w) X.A (compareOp op v u) (EP X pins σ Q) X.xe s₂) X.xe s₁) X.xe s
theorem qMo (b:Expr) {op:CmpOp} (h:op≠.In) (h2:op≠.NotIn):behindInMarks op b=false:=by
  have e1:(op==CmpOp.In)=false:=by cases op<;>first | rfl | exact absurd rfl h
  have e2:(op==CmpOp.NotIn)=false:=by cases op<;>first | rfl | exact absurd rfl h2
  cases b<;>simp [behindInMarks,e1,e2]
noncomputable def tB (t:TE):TT:=fun σ H Q=>t σ H fun x H1=>∃ c,x = .bl c∧Q c H1
theorem qRM {op:CmpOp} {t:TE} (h:PC X op a b t) (h1:behindInMarks op b=false:=by first | exact qMo _ (by decide) (by decide) | rfl):PT X (.Compare a [op] [b] pos) (tB t):=by
  intro pins s σ H Q I hw
  refine wpAny_isTrue_Compare1 (thn (h pins s σ H _ I hw) fun v s1 h1=>thn h1 fun u s2 h2=>thn h2 fun c s3 ⟨x,H1,I1,r1,q1⟩=>?_) h1
  obtain⟨d,rfl,q⟩:=q1
  cases r1
  exact wpAny_truthy_bool ⟨H1,I1,q⟩
theorem qQV {e:Expr} {t:TE} (h:PE X e t) (he:∀ whole,isTrue e X.env whole=(do let v ← whole;standAt e.pos;holding [v] (truthy v)):=by intro _;rfl):PT X e (tB t):=by
  intro pins s σ H Q I hw
  refine isTrue_plain (thn (h pins s σ H _ I hw) fun v s1 ⟨x,H1,I1,r1,q1⟩=>?_) (he _)
  obtain⟨d,rfl,q⟩:=q1
  cases r1
  exact wpAny_truthy_bool ⟨H1,I1,q⟩
variable {tA tB':TT} {rest:List Expr}
noncomputable def qT8 (t u:TT):TT:=fun σ H Q=>t σ H fun c H1=>if c=true then u σ H1 Q else Q false H1
noncomputable def tOr (t u:TT):TT:=fun σ H Q=>t σ H fun c H1=>if c=true then Q true H1 else u σ H1 Q
noncomputable def qT0 (t:TT):TT:=fun σ H Q=>t σ H fun c H1=>Q (!c) H1
theorem qPI (ha:PT X a tA):PW X (.BoolOp .And [a] pos) tA:=by
  intro wh pins s σ H Q I h
  refine isTrue_and (thn (ha pins s σ H Q I h) fun c s1 e=>?_)
  cases c with
  | true=>exact isTrue_and_nil e
  | false=>exact e
theorem qQk (ha:PT X a tA):PW X (.BoolOp .Or [a] pos) tA:=by
  intro wh pins s σ H Q I h
  refine isTrue_or (thn (ha pins s σ H Q I h) fun c s1 e=>?_)
  cases c with
  | false=>exact isTrue_or_nil e
  | true=>exact e
theorem qRP (ha:PT X a tA) (hb:PW X (.BoolOp .And (b::rest) pos) tB'):PW X (.BoolOp .And (a::b::rest) pos) (qT8 tA tB'):=by
  intro wh pins s σ H Q I h
  refine isTrue_and (thn (ha pins s σ H _ I h) fun c s1 ⟨H1,I1,q1⟩=>?_)
  cases c with
  | true=>exact hb wh pins s1 σ H1 Q I1 q1
  | false=>exact⟨H1,I1,q1⟩
theorem qTZ (ha:PT X a tA) (hb:PW X (.BoolOp .Or (b::rest) pos) tB'):PW X (.BoolOp .Or (a::b::rest) pos) (tOr tA tB'):=by
  intro wh pins s σ H Q I h
  refine isTrue_or (thn (ha pins s σ H _ I h) fun c s1 ⟨H1,I1,q1⟩=>?_)
  cases c with
  | true=>exact⟨H1,I1,q1⟩
  | false=>exact hb wh pins s1 σ H1 Q I1 q1
theorem qQ1 (ha:PT X a tA):PT X (.UnaryOp .Not a pos) (qT0 tA):=by
  k_dat 0"r2"
  exact isTrue_not (ha pins s σ H (fun c H1=>Q (!c) H1) I h)
noncomputable def qS3 (ta tb:TE):TE:=fun σ H Q=>ta σ H fun x H1=>∃ c,x = .bl c∧if c=true then tb σ H1 Q else Q (.bl false) H1
noncomputable def qTU (ta:TE):TE:=fun σ H Q=>ta σ H fun x H1=>∃ c,x = .bl c∧Q (.bl (!c)) H1
theorem qQx {op} {t:TE} (h:PE X a t):PE X (.BoolOp op [a] pos) t:=fun pins s σ H Q I hw=>BoolOp_one (h pins s σ H Q I hw)
theorem qQh (ha:PE X a ta) (hb:PE X (.BoolOp .And (b::rest) pos) tb):PE X (.BoolOp .And (a::b::rest) pos) (qS3 ta tb):=by
  k_dat 0"r2"
  refine BoolOp_and (thn (ha pins s σ H _ I h) fun v s1 ⟨x,H1,I1,r1,q1⟩=>?_)
  obtain⟨c,rfl,q1⟩:=q1
  cases r1
  refine wpAny_truthy_bool ?_
  cases c with
  | true=>exact hb pins s1 σ H1 Q I1 q1
  | false=>exact⟨.bl false,H1,I1,rfl,q1⟩
theorem qSb (ha:PE X a ta):PE X (.UnaryOp .Not a pos) (qTU ta):=by
  k_dat 0"r2"
  refine UnaryOp_ (thn (ha pins s σ H _ I h) fun v s1 ⟨x,H1,I1,r1,q1⟩=>?_)
  obtain⟨c,rfl,q1⟩:=q1
  cases r1
  exact not_of (wpAny_truthy_bool ⟨.bl (!c),H1,I1,rfl,q1⟩)
noncomputable def tIf (t:TT) (ta tb:TE):TE:=fun σ H Q=>t σ H fun c H1=>if c=true then ta σ H1 Q else tb σ H1 Q
theorem qMq {c:Expr} (hc:PT X c tA) (ha:PE X a ta) (hb:PE X b tb):PE X (.IfExp c a b pos) (tIf tA ta tb):=by
  k_dat 0"r2"
  refine wpAny_IfExp (thn (hc pins s σ H _ I h) fun d s1 ⟨H1,I1,q1⟩=>?_)
  cases d with
  | true=>exact ha pins s1 σ H1 Q I1 q1
  | false=>exact hb pins s1 σ H1 Q I1 q1
end
end L2
namespace L2
open PySem PySem.Spec PyProof.Rows
def SqL (K:W.Frag) (H:Hp) (a:Addr) (xs:List V):Prop :=
  Rd H a (.lst xs) ∨
    ∃ (o:Obj) (its:Array Value) (n:Nat),K.lookup a=some o∧o.cls = .type "list" ∧ o.dict=none∧o.data = .seq its n∧its.size≤sizeLine∧Vals xs its.toList
def SqT (K:W.Frag) (H:Hp) (a:Addr) (xs:List V):Prop :=
  Rd H a (.tup xs) ∨
    ∃ (o:Obj) (its:Array Value) (n:Nat),K.lookup a=some o∧o.cls = .type "tuple" ∧ o.data = .seq its n∧its.size≤sizeLine∧Vals xs its.toList
noncomputable def qUA:Value→Option V
  | .none=>some .non
  | .bool b=>some (.bl b)
  | .int i _=>some (.int i)
  | .str x _=>some (.str x)
  | .bytes b _=>some (.byt b)
  | .float b _=>some (.flt b)
  | .ref a=>some (.ref a)
  | .type n=>some (.ty n)
  | _=>none
theorem RelV.abs {x:V} {u:Value} (r:RelV x u):qUA u=some x:=by
  cases x with
  | non=>cases r;rfl
  | bl _=>cases r;rfl
  | int _=>obtain⟨t,rfl⟩:=r;rfl
  | str _=>obtain⟨t,rfl⟩:=r;rfl
  | byt _=>obtain⟨t,rfl⟩:=r;rfl
  | flt _=>obtain⟨t,rfl⟩:=r;rfl
  | ref _=>cases r;rfl
  | ty _=>cases r;rfl
theorem RelV.inj {x y:V} {u:Value} (r:RelV x u) (q:RelV y u):x=y:=Option.some.inj (r.abs.symm.trans q.abs)
theorem Vals.inj:∀ {xs ys:List V} {us:List Value},Vals xs us→Vals ys us→xs=ys
  | _,_,_,.nil,.nil=>rfl
  | _,_,_,.cons r t,.cons r' t'=>by rw [r.inj r',Vals.inj t t']
section
variable {X:Cx} {pins:List (Addr×Obj)} {σ:St} {H:Hp} {s:Shared} {a:Addr} {xs ys:List V}
theorem SqL.of {K:W.Frag} (h:H a=some (.lst xs)):SqL K H a xs:=.inl (.inl h)
theorem SqT.of {K:W.Frag} (h:H a=some (.tup xs)):SqT K H a xs:=.inl (.inl h)
theorem Inv.list (I:Inv X pins σ H s) (h:SqL X.K H a xs):∃ its:List Value,Vals xs its∧PlainL s.heap a its.toArray∧xs.length≤sizeLine:=by
  rcases h with h | ⟨o,its,n,hk,hc,hd,hs,hz,r⟩
  · obtain⟨z,its,n,r,e⟩:=h.ok I.hok
    exact⟨its,r,⟨_,n,e,rfl,rfl,rfl⟩,z⟩
  · refine⟨its.toList,r,⟨o,n,I.kIn a o hk,hc,hd,by simpa using hs⟩,?_⟩
    have e:=r.length
    simp only [Array.length_toList] at e
    omega
theorem Inv.tuple (I:Inv X pins σ H s) (h:SqT X.K H a xs):∃ its:List Value,Vals xs its∧IsTup s.heap a its.toArray∧xs.length≤sizeLine:=by
  rcases h with h | ⟨o,its,n,hk,hc,hs,hz,r⟩
  · obtain⟨z,its,r,p⟩:=h.ok I.hok
    exact⟨its,r,p,z⟩
  · refine⟨its.toList,r,⟨o,I.kIn a o hk,hc,n,by simpa using hs⟩,?_⟩
    have e:=r.length
    simp only [Array.length_toList] at e
    omega
theorem Inv.qNT (I:Inv X pins σ H s) (h:SqL X.K H a xs) (h':SqL X.K H a ys):xs=ys:=by
  obtain⟨its,r,⟨o,n,e,_,_,d⟩,_⟩:=I.list h
  obtain⟨its',r',⟨o',n',e',_,_,d'⟩,_⟩:=I.list h'
  rw [e] at e';cases e'
  rw [d] at d'
  injection d' with d1 _
  have:its=its':=by simpa using congrArg Array.toList d1
  subst this
  exact r.inj r'
theorem Inv.qBu (I:Inv X pins σ H s) (h:SqT X.K H a xs) (h':SqT X.K H a ys):xs=ys:=by
  obtain⟨its,r,⟨o,e,_,n,d⟩,_⟩:=I.tuple h
  obtain⟨its',r',⟨o',e',_,n',d'⟩,_⟩:=I.tuple h'
  rw [e] at e';cases e'
  rw [d] at d'
  injection d' with d1 _
  have:its=its':=by simpa using congrArg Array.toList d1
  subst this
  exact r.inj r'
end
noncomputable abbrev Cx.qGz (X:Cx) (E:Value→Shared→Prop):Cx:={ X with xe:=E }
noncomputable abbrev Cx.nox (X:Cx):Cx:=X.qGz fun _ _=>False
theorem Cx.Ok.qGz {X:Cx} (ok:X.Ok) (E:Value→Shared→Prop):(X.qGz E).Ok :=
  ⟨ok.mod,ok.kind,ok.glob,ok.blt,ok.above,ok.inj,ok.has,ok.cab,ok.hd,ok.frames,ok.stk,ok.exf,ok.bs,ok.bsz,ok.noex,ok.exfs,ok.qFH,ok.frf⟩
theorem Cx.Ok.qDZ {X:Cx} {E:Value→Shared→Prop} (ok:(X.qGz E).Ok):X.Ok :=
  ⟨ok.mod,ok.kind,ok.glob,ok.blt,ok.above,ok.inj,ok.has,ok.cab,ok.hd,ok.frames,ok.stk,ok.exf,ok.bs,ok.bsz,ok.noex,ok.exfs,ok.qFH,ok.frf⟩
section
variable {X:Cx} {pins:List (Addr×Obj)} {σ:St} {H:Hp} {s:Shared} {E:Value→Shared→Prop}
theorem Inv.qGz (I:Inv X pins σ H s) (E:Value→Shared→Prop):Inv (X.qGz E) pins σ H s:=⟨I.ok.qGz E,I.os,I.bare,I.base,I.loc,I.cell,I.free,I.freeC,I.pin,I.hok,I.len⟩
theorem Inv.qDZ (I:Inv (X.qGz E) pins σ H s):Inv X pins σ H s:=⟨I.ok.qDZ,I.os,I.bare,I.base,I.loc,I.cell,I.free,I.freeC,I.pin,I.hok,I.len⟩
theorem SP.qDZ {D:Ends} {f:Flow} {s':Shared} (h:SP (X.qGz E) pins D f s'):SP X pins D f s':=by
  cases f with
  | next=>obtain⟨σ',H',I,q⟩:=h;exact⟨σ',H',I.qDZ,q⟩
  | brk=>obtain⟨σ',H',I,q⟩:=h;exact⟨σ',H',I.qDZ,q⟩
  | cont=>obtain⟨σ',H',I,q⟩:=h;exact⟨σ',H',I.qDZ,q⟩
  | ret u=>obtain⟨v,σ',H',I,r,q⟩:=h;exact⟨v,σ',H',I.qDZ,r,q⟩
theorem PSs.nox {st:List Stmt} {t:TS} (h:PSs X.nox st t):PSs X st t:=fun pins s σ H D I hw =>
  wpAny_mono (h pins s σ H D (I.qGz _) hw) (fun _ _ q=>q.qDZ) fun _ _ z=>False.elim z
end
section
variable {X:Cx} {st:Stmt} {rest:List Stmt} {t u:TS} {e:Expr} {te:TE} {pos:Pos}
noncomputable def qTC:TS:=fun D σ H=>D.nx σ H
noncomputable def qTu (t u:TS):TS:=fun D σ H=>t { D with nx:=u D } σ H
theorem qPM:PSs X [] qTC:=fun _ _ σ H _ I h=>wpAny_execs_nil ⟨σ,H,I,h⟩
theorem qOW (h1:PS X st t) (h2:PSs X rest u):PSs X (st::rest) (qTu t u):=by
  k_dat 0"r15"
  refine wpAny_execs_cons (thn (h1 pins s σ H { D with nx:=u D } I h) fun f s1 q=>?_)
  cases f with
  | next =>
    obtain⟨σ',H',I',q⟩:=q
    exact h2 pins s1 σ' H' D I' q
  | ret v=>exact q
  | brk=>exact q
  | cont=>exact q
theorem Inv.quiet {pins:List (Addr×Obj)} {σ:St} {H:Hp} {s:Shared} (I:Inv X pins σ H s):interactive X.env=false:=by simp [interactive,I.ok.kind]
noncomputable def qTH (te:TE):TS:=fun D σ H=>te σ H fun _ H1=>D.nx σ H1
theorem qOi (he:PE X e te) (hs:swapsWith e none pos.line X.env=pure false:=by rfl):PS X (.Expr e pos) (qTH te):=by
  k_dat 0"r15"
  exact wpAny_Expr_any (thn (he pins s σ H _ I h) fun v s1 ⟨x,H1,I1,r1,q1⟩=>⟨σ,H1,I1,q1⟩) I.quiet hs
noncomputable def qUN (te:TE):TS:=fun D σ H=>te σ H D.rt
theorem qQe (he:PE X e te):PS X (.Return (some e) pos) (qUN te):=by
  k_dat 0"r15"
  exact wpAny_Return_some (thn (he pins s σ H _ I h) fun v s1 ⟨x,H1,I1,r1,q1⟩=>⟨x,σ,H1,I1,r1,q1⟩)
noncomputable def qT1 (c:TT) (t u:TS):TS:=fun D σ H=>c σ H fun b H1=>if b=true then t D σ H1 else u D σ H1
theorem qSf {c:Expr} {a b:List Stmt} {tc:TT} (hc:PT X c tc) (ha:PSs X a t) (hb:PSs X b u):PS X (.If c a b pos) (qT1 tc t u):=by
  k_dat 0"r15"
  refine wpAny_If (thn (hc pins s σ H _ I h) fun d s1 ⟨H1,I1,q1⟩=>?_)
  cases d with
  | true=>exact ha pins s1 σ H1 D I1 q1
  | false=>exact hb pins s1 σ H1 D I1 q1
end
noncomputable abbrev TG:=V→St→Hp→(St→Hp→Prop)→Prop
noncomputable abbrev TGs:=List V→St→Hp→(St→Hp→Prop)→Prop
def PG (X:Cx) (target:Expr) (t:TG):Prop :=
  ∀ (pins:List (Addr×Obj)) (s:Shared) (σ:St) (H:Hp) (v:V) (u:Value) (Q:St→Hp→Prop),Inv X pins σ H s→RelV v u→t v σ H Q →
    wpAny (model X.prog X.w) X.A (assign target X.env u) (fun _ s'=>∃ σ' H',Inv X pins σ' H' s'∧Q σ' H') X.xe s
def PGs (X:Cx) (ts:List Expr) (t:TGs):Prop :=
  ∀ (pins:List (Addr×Obj)) (s:Shared) (σ:St) (H:Hp) (vs:List V) (us:List Value) (Q:St→Hp→Prop),Inv X pins σ H s→Vals vs us→t vs σ H Q →
    wpAny (model X.prog X.w) X.A (assignInOrder ((assignEach ts X.env).map (·.2)) us) (fun _ s'=>∃ σ' H',Inv X pins σ' H' s'∧Q σ' H') X.xe s
noncomputable abbrev qRy:=V→V→V→Hp→(Hp→Prop)→Prop
def qTF (X:Cx) (t:qRy):Prop :=
  ∀ (pins:List (Addr×Obj)) (s:Shared) (σ:St) (H:Hp) (o i v:V) (ov iv u:Value) (Q:Hp→Prop),Inv X pins σ H s→RelV o ov→RelV i iv→RelV v u→t o i v H Q →
    wpAny (model X.prog X.w) X.A (setItem ov iv u) (fun _ s'=>∃ H',Inv X pins σ H' s'∧Q H') X.xe s
noncomputable abbrev TIp:=V→V→Hp→VK→Prop
def PIp (X:Cx) (op:Operator) (t:TIp):Prop :=
  ∀ (pins:List (Addr×Obj)) (s:Shared) (σ:St) (H:Hp) (x y:V) (v u:Value) (Q:VK),Inv X pins σ H s→RelV x v→RelV y u→t x y H Q →
    wpAny (model X.prog X.w) X.A (inplaceOp op v u) (EP X pins σ Q) X.xe s
section
variable {X:Cx} {pos:Pos}
noncomputable def qGp (i:Nat):TG:=fun v σ H Q=>Q (σ.set i (some v)) H
theorem qIR {i:Nat} {x:Str} (hN:X.N.Nodup) (hi:X.N[i]? = some x) (hx:Loc X.env.scope x) (hf:X.fn x=true∨X.env.scope.names.lookup x=some .local:=by first | exact .inl rfl | exact .inr rfl | assumption):PG X (.Name x pos) (qGp i):=by
  intro pins s σ H v u Q I r h
  exact wpAny_assign_Name (qDY I hN hi hx r (fun s' I'=>⟨_,H,I',h⟩) hf)
noncomputable def qT7:TGs:=fun vs σ H Q=>vs=[]∧Q σ H
noncomputable def qS2 (t:TG) (u:TGs):TGs:=fun vs σ H Q=>∃ v r,vs=v::r∧t v σ H fun σ' H'=>u r σ' H' Q
theorem qOd:PGs X [] qT7:=by
  intro pins s σ H vs us Q I r h
  obtain⟨e,h⟩:=h
  subst e
  cases r
  exact assignInOrder_nil ⟨σ,H,I,h⟩
theorem qMg {e:Expr} {es:List Expr} {t:TG} {u:TGs} (h1:PG X e t) (h2:PGs X es u)
    (hs:(assignEach (e::es) X.env).map (·.2)=assign e X.env::(assignEach es X.env).map (·.2):=by rfl):PGs X (e::es) (qS2 t u):=by
  intro pins s σ H vs us Q I r h
  obtain⟨v,vr,e1,h⟩:=h
  subst e1
  cases r with
  | cons r rr =>
    rw [hs]
    refine assignInOrder_cons (thn (h1 pins s σ H _ _ _ I r h) fun _ s1 ⟨σ1,H1,I1,q1⟩=>?_)
    exact h2 pins s1 σ1 H1 _ _ Q I1 rr q1
noncomputable def qUL (to ti:TE) (t:qRy):TG:=fun v σ H Q=>to σ H fun o H1=>ti σ H1 fun i H2=>t o i v H2 fun H3=>Q σ H3
theorem qSX {o i:Expr} {to ti:TE} {t:qRy} (ho:PE X o to) (hi:PE X i ti) (hs:qTF X t)
    (ha:∀ v,assign (.Subscript o i pos) X.env v=(do
      let ov ← holding [v] (eval o X.env)
      let iv ← holding [v,ov] (eval i X.env)
      standAt pos
      holding [v,ov,iv] (setItem ov iv v)
      release [v,ov,iv] []):=by intro _;rfl):PG X (.Subscript o i pos) (qUL to ti t):=by
  intro pins s σ H v u Q I r h
  rw [ha]
  refine wpAny_bind (wpAny_holding (thn (ho pins s σ H _ I h) fun ov s1 ⟨x,H1,I1,r1,q1⟩=>?_))
  refine wpAny_bind (wpAny_holding (thn (hi pins s1 σ H1 _ I1 q1) fun iv s2 ⟨y,H2,I2,r2,q2⟩=>?_))
  refine wpAny_bind (wpAny_standAt (wpAny_bind (wpAny_holding (thn (hs pins s2 σ H2 x y v ov iv u _ I2 r1 r2 r q2) fun _ s3 ⟨H3,I3,q3⟩=>?_))))
  exact wpAny_release ⟨σ,H3,I3,q3⟩
noncomputable def qOb (te:TE) (g:TG):TS:=fun D σ H=>te σ H fun x H1=>g x σ H1 D.nx
theorem qRK {tg e:Expr} {te:TE} {g:TG} (he:PE X e te) (hg:PG X tg g) (hs:swapsWithSole [tg] e pos.line X.env=pure false:=by rfl) (hw:swappedStores [tg] e X.env=pure none:=by rfl)
    (h1:(assignEach [tg] X.env).map (·.2)=[assign tg X.env]:=by rfl):PS X (.Assign [tg] e pos) (qOb te g):=by
  k_dat 0"r15"
  refine wpAny_Assign_stores (thn (he pins s σ H _ I h) fun v s1 ⟨x,H1,I1,r1,q1⟩=>?_) hs hw
  rw [h1]
  exact thn (hg pins s1 σ H1 x v _ I1 r1 q1) fun _ s2 q=>q
theorem qRs {i:Nat} {x:Str} {e:Expr} {te:TE} {pos':Pos} (hN:X.N.Nodup) (hi:X.N[i]? = some x) (hx:Loc X.env.scope x) (he:PE X e te) (hs:swapsWith e (some (.Name x pos')) pos.line X.env=pure false:=by rfl) (hf:X.fn x=true∨X.env.scope.names.lookup x=some .local:=by first | exact .inl rfl | exact .inr rfl | assumption) :
    PS X (.Assign [.Name x pos'] e pos) (qOb te (qGp i)):=by
  k_dat 0"r15"
  refine wpAny_Assign_Name (thn (he pins s σ H _ I h) fun v s1 ⟨y,H1,I1,r1,q1⟩=>?_) hs
  exact qDY I1 hN hi hx r1 (fun s2 I2=>⟨_,H1,I2,q1⟩) hf
noncomputable def qT6 (i j:Nat) (ta:TA):TS:=fun D σ H=>ta σ H fun vs H1=>∃ v w,vs=[v,w]∧D.nx ((σ.set i (some v)).set j (some w)) H1
theorem qRo {i j:Nat} {x y:Str} {a b:Expr} {ta:TA} {px py pt:Pos} {kt k2 pt2} (hc:X.calm=true) (hN:X.N.Nodup) (hi:X.N[i]? = some x) (hj:X.N[j]? = some y) (hij:i≠j)
    (hx:X.env.scope.names.lookup x=some .local) (hy:X.env.scope.names.lookup y=some .local) (ha:PA X [a,b] ta)
    (hw:swappedStores [.Tuple [.Name x px,.Name y py] kt pt] (.Tuple [a,b] k2 pt2) X.env=pure (some [x,y]))
    (hs:swapsWithSole [.Tuple [.Name x px,.Name y py] kt pt] (.Tuple [a,b] k2 pt2) pos.line X.env=pure false:=by rfl) :
    PS X (.Assign [.Tuple [.Name x px,.Name y py] kt pt] (.Tuple [a,b] k2 pt2) pos) (qT6 i j ta):=by
  k_dat 0"r15"
  rw [exec_Assign_arm]
  refine wpAny_bind (wpAny_standAt ?_)
  rw [hs]
  k_dat 0"r30"
  rw [if_neg (by decide)]
  refine wpAny_bind (Tuple_ (thn (ha _ pins s σ H _ I h) fun us s1 ⟨vs,H1,I1,r1,q1⟩=>?_))
  obtain⟨v,w,e1,q1⟩:=q1
  subst e1
  obtain⟨u1,u2,rfl,rv,rw'⟩:∃ u1 u2,us=[u1,u2]∧RelV v u1∧RelV w u2:=by
    cases r1 with
    | cons p q =>
      cases q with
      | cons p' q' =>
        cases q'
        exact⟨_,_,rfl,p,p'⟩
  refine wpAny_newObj_type ?_ (by show 2≤sizeLine;decide)
  have I2:Inv X pins σ H1 { s1 with heap:=s1.heap.push { cls:=.type "tuple",data:=.seq [u1,u2].toArray } }:=I1.kept (t':=s1.toks) fun b o e=>Heap.get?_push_of_some _ e
  rw [hw]
  k_dat 0"r30"
  show wpAny (model X.prog X.w) X.A (do rule "assign.swapped-stores";let items ← unpackItems (.ref s1.heap.objs.size) 2 none;assignInOrder [fun v=>bindName X.env y v,fun v=>bindName X.env x v] items.reverse;pure Flow.next) _ _ _
  refine wpAny_bind (wpAny_rule (wpAny_bind (unpackItems_tuple (items:=#[u1,u2]) (I.ok.hd hc) (IsTup.new s1.heap _) fun h' hx'=>?_)))
  have I3:=I2.kept (h':=h') (t':=s1.toks) fun b o e=>hx' b o (Nat.ne_of_lt (Heap.lt_size e)) e
  show wpAny _ _ (assignInOrder [fun v=>bindName X.env y v,fun v=>bindName X.env x v] [u2,u1] >>= fun _=>pure Flow.next) _ _ _
  refine wpAny_bind (assignInOrder_cons (wpAny_bindName (qDY I3 hN hj (.inl hy) rw' (fun s2 I4=>?_) (.inr hy))))
  refine assignInOrder_cons (wpAny_bindName (qDY I4 hN hi (.inl hx) rv (fun s3 I5=>assignInOrder_nil (wpAny_pure ?_)) (.inr hx)))
  rw [List.set_comm _ _ (Ne.symm hij)] at I5
  exact⟨_,H1,I5,q1⟩
noncomputable def qTv (i:Nat) (te:TE) (ti:TIp):TS:=fun D σ H=>∃ x,σ[i]? = some (some x)∧te σ H fun y H1=>ti x y H1 fun z H2=>D.nx (σ.set i (some z)) H2
theorem qQo {i:Nat} {x:Str} {e:Expr} {te:TE} {op:Operator} {ti:TIp} {pos':Pos} (hN:X.N.Nodup) (hi:X.N[i]? = some x) (hx:Loc X.env.scope x) (he:PE X e te) (ho:PIp X op ti) (hf:X.fn x=true∨X.env.scope.names.lookup x=some .local:=by first | exact .inl rfl | exact .inr rfl | assumption) :
    PS X (.AugAssign (.Name x pos') op e pos) (qTv i te ti):=by
  k_dat 0"r15"
  obtain⟨v,e1,h⟩:=h
  obtain⟨m,hn,hl⟩:=I.loc
  have vis:Vis X.env.scope x:=by rcases hx with k | k;exact .inl k;exact .inr (.inl k)
  obtain⟨u,r,l⟩:=hl i x v hi e1 vis
  refine wpAny_AugAssign_Name ?_
  have go:wpAny (model X.prog X.w) X.A (eval e X.env) (fun w s₂=>wpAny (model X.prog X.w) X.A (inplaceOp op u w) (fun r s₃=>wpAny (model X.prog X.w) X.A (storeName X.env x r) (fun _=>SP X pins D .next) X.xe s₃) X.xe s₂) X.xe s:=by
    refine thn (he pins s σ H _ I h) fun w s1 ⟨y,H1,I1,r1,q1⟩=>?_
    refine thn (ho pins s1 σ H1 v y u w _ I1 r r1 q1) fun z s2 ⟨zv,H2,I2,r2,q2⟩=>?_
    exact qDY I2 hN hi hx r2 (fun s3 I3=>⟨_,H2,I3,q2⟩) hf
  rcases l with ⟨hk,hm⟩ | ⟨hk,c,hc,hcell⟩
  · exact wpAny_loadName_local I.ok.kind hk hn hm go
  · rcases hk with hk | hk
    · exact wpAny_loadName_cell I.ok.kind hk hc hcell go
    · rcases hx with k | k
      · have:X.env.scope.names.lookup x=some .free:=hk
        rw [k] at this;cases this
      · have:X.env.scope.names.lookup x=some .free:=hk
        rw [k] at this;cases this
end
structure It where
  go:Nat→Hp→Prop
  yld:Nat→Hp→V→Hp→Prop
  stop:Nat→Hp→Prop
def qGu (X:Cx) (pins:List (Addr×Obj)) (H:Hp) (b:Addr):Prop :=
  H b=none∧b≠X.env.locals∧b ∉ X.fs∧(b∈X.ex∨X.s₀.heap.objs.size≤b)∧(∀ x c,X.env.cells.lookup x=some c→c≠b)∧∀ p∈X.pn++pins,p.1≠b
theorem Inv.qMn {X:Cx} {pins:List (Addr×Obj)} {σ:St} {H H':Hp} {s:Shared} {b:Addr} (I:Inv X pins σ H s) (hb:s.heap.objs.size≤b) (hn:H' b=none):qGu X pins H' b:=by
  refine⟨hn,Nat.ne_of_gt (Nat.lt_of_lt_of_le I.lt hb),I.qTj hb,.inr (Nat.le_trans I.sz hb),fun x c e z=>?_,fun p hp z=>?_⟩
  · obtain⟨v,q⟩:=I.cell x c e
    exact absurd (Nat.lt_of_lt_of_le q.lt (by rw [z];exact hb)) (Nat.lt_irrefl _)
  · exact absurd (Nat.lt_of_lt_of_le (Heap.lt_size (I.pin p hp).1) (by rw [z];exact hb)) (Nat.lt_irrefl _)
structure Turn (P:Program) (w:World) (K:W.Frag) (tg:Expr) (J:It) (fp:List Addr) (it:Addr) (tn:Nat→Heap→Prop):Prop where
  mem:it∈fp
  obj:∀ i h,tn i h→∀ b∈fp,∃ o,h.get? b=some o∧∀ v,o.data≠.cell v
  keep:∀ i h h',tn i h→(∀ b∈fp,∀ o,h.get? b=some o→h'.get? b=some o)→tn i h'
  item:∀ (X:Cx),X.prog=P→X.w=w→X.K=K→X.calm=true→∀ (i:Nat) (pins:List (Addr×Obj)) (s:Shared) (σ:St) (H:Hp) (E:Value→Shared→Prop),Inv X pins σ H s→(∀ b∈fp,qGu X pins H b)→tn i s.heap→J.go i H →
    wpAny (model P w) X.A (pyNext (.ref it)) (fun r s1=>∃ u,r=some u ∧
      wpAny (model P w) X.A (letOwnedTupleGo tg (.ref it) u) (fun _ s2=>∃ x H',Inv X pins σ H' s2∧RelV x u∧J.yld i H x H'∧tn (i+1) s2.heap∧∀ b∈fp,H' b=none) E s1) E s
  done:∀ (X:Cx),X.prog=P→X.w=w→X.K=K→X.calm=true→∀ (i:Nat) (pins:List (Addr×Obj)) (s:Shared) (σ:St) (H:Hp) (E:Value→Shared→Prop),Inv X pins σ H s→(∀ b∈fp,qGu X pins H b)→tn i s.heap→J.stop i H →
    wpAny (model P w) X.A (pyNext (.ref it)) (fun r s1=>r=none∧Inv X pins σ H s1) E s
  self:∀ (A:Around) (i:Nat) (s:Shared) (Q:Value→Shared→Prop) (E:Value→Shared→Prop),tn i s.heap→Q (.ref it) s→wpAny (model P w) A (pyIter (.ref it)) Q E s
noncomputable abbrev TI:=St→Hp→(It→Hp→Prop)→Prop
def PIE (X:Cx) (pins:List (Addr×Obj)) (σ:St) (tg:Expr) (R:It→Hp→Prop) (itv:Value) (s2:Shared):Prop :=
  ∃ (it:Addr) (fp:List Addr) (tn:Nat→Heap→Prop) (J:It) (H':Hp),itv = .ref it∧Inv X pins σ H' s2∧Turn X.prog X.w X.K tg J fp it tn∧tn 0 s2.heap∧(∀ b∈fp,qGu X pins H' b)∧R J H'
def PI (X:Cx) (tg iter:Expr) (wi:TI):Prop :=
  ∀ (pins:List (Addr×Obj)) (s:Shared) (σ:St) (H:Hp) (R:It→Hp→Prop),Inv X pins σ H s→wi σ H R →
    wpAny (model X.prog X.w) X.A (eval iter X.env) (fun v s1=>wpAny (model X.prog X.w) X.A (pyIter v) (PIE X pins σ tg R) X.xe s1) X.xe s
theorem qNG {M:Model} {A:Around} {E:Value→Shared→Prop} {s:Shared} {tg:Expr} {it:Addr} {u:Value} {o:Obj} {n:String} {vs:Array Value} {Q:Unit→Shared→Prop} (ho:s.heap.get? it=some o) (hc:o.cls = .type n) (hd:o.data = .fields vs)
    (hn:["enumerate", "zip", "dict_itemiterator", "dict_reverseitemiterator", "odict_iterator", "itertools.zip_longest", "itertools.pairwise"].contains n=false) (hQ:Q () s):wpAny M A (letOwnedTupleGo tg (.ref it) u) Q E s:=by
  unfold letOwnedTupleGo
  cases tg <;> first
    | exact wpAny_pure hQ
    | (cases u<;>first
        | exact wpAny_pure hQ
        | (refine wpAny_bind (wpAny_load ho ?_)
           rw [hc,hd]
           show wpAny M A (if (["enumerate", "zip", "dict_itemiterator", "dict_reverseitemiterator", "odict_iterator", "itertools.zip_longest", "itertools.pairwise"].contains n&&vs[0]? == some (rawInt _))=true then _ else _) Q E s
           rw [if_neg (by intro h;rw [hn,Bool.false_and] at h;cases h)]
           exact wpAny_pure hQ))
noncomputable def Itl (K:W.Frag) (a:Addr):It :=
  ⟨fun i H=>∃ xs x,SqL K H a xs∧xs[i]? = some x,fun i H x H'=>H'=H∧∀ xs,SqL K H a xs→xs[i]? = some x,fun i H=>∃ xs,SqL K H a xs∧xs.length≤i⟩
noncomputable def Itt (K:W.Frag) (a:Addr):It :=
  ⟨fun i H=>∃ xs x,SqT K H a xs∧xs[i]? = some x,fun i H x H'=>H'=H∧∀ xs,SqT K H a xs→xs[i]? = some x,fun i H=>∃ xs,SqT K H a xs∧xs.length≤i⟩
noncomputable def Itr (lo:Int) (n:Nat):It:=⟨fun i _=>i<n,fun i H x H'=>H'=H∧x = .int (lo+i),fun i _=>n≤i⟩
theorem qLh {P:Program} {w:World} {K:W.Frag} {tg:Expr} (a it:Addr):Turn P w K tg (Itl K a) [it] it (fun i h=>h.IsListIter it a i) where
  mem:=by simp
  obj:=fun i h st b hb=>by
    have e:b=it:=by simpa using hb
    subst e
    obtain⟨o,e,c,d⟩:=st
    exact⟨o,e,fun v z=>by rw [d] at z;cases z⟩
  keep:=fun i h h' st k=>st.at fun o e=>k it (by simp) o e
  item:=by
    k_dat 0"r16"
    subst hP hw hK
    obtain⟨xs,x,hq,hx⟩:=hg
    obtain⟨its,rv,p,hz⟩:=I.list hq
    obtain⟨u,hu,ru⟩:=rv.get hx
    k_dat 0"r27"
    refine wpAny_pyNext_list_item st p.isList (x:=u) (by simpa using hu) fun h' st' sb=>?_
    k_dat 0"r89"
    obtain⟨o,e,c,d⟩:=id st'
    exact⟨u,rfl,qNG (s:={ s with heap:=h' }) e c d (by decide) ⟨x,H,I1,ru,⟨rfl,fun ys hy=>by rw [I.qNT hy hq];exact hx⟩,st',fun b hb=>(hf b hb).1⟩⟩
  done:=by
    k_dat 0"r16"
    subst hP hw hK
    obtain⟨xs,hq,hx⟩:=hg
    obtain⟨its,rv,p,hz⟩:=I.list hq
    k_dat 0"r27"
    have hl:=rv.length
    exact wpAny_pyNext_list_end (I.ok.hd hc) st p.isList (by simp;omega) fun h' eb=>⟨rfl,I.turned (t':=s.toks) (fun b o hb e=>eb b o hb e) f0 f1 f3 f4 f5⟩
  self:=fun _ _ _ _ _ st h=>wpAny_pyIter_listiter st h
theorem qJv {P:Program} {w:World} {K:W.Frag} {tg:Expr} (a it:Addr):Turn P w K tg (Itt K a) [it] it (fun i h=>h.IsTupleIter it a i) where
  mem:=by simp
  obj:=fun i h st b hb=>by
    have e:b=it:=by simpa using hb
    subst e
    obtain⟨o,e,c,d⟩:=st
    exact⟨o,e,fun v z=>by rw [d] at z;cases z⟩
  keep:=fun i h h' st k=>st.at fun o e=>k it (by simp) o e
  item:=by
    k_dat 0"r16"
    subst hP hw hK
    obtain⟨xs,x,hq,hx⟩:=hg
    obtain⟨its,rv,p,hz⟩:=I.tuple hq
    obtain⟨u,hu,ru⟩:=rv.get hx
    k_dat 0"r27"
    refine wpAny_pyNext_tuple_item st (show s.heap.IsTuple a its.toArray from p) (x:=u) (by simpa using hu) fun h' st' sb=>?_
    k_dat 0"r89"
    obtain⟨o,e,c,d⟩:=id st'
    exact⟨u,rfl,qNG (s:={ s with heap:=h' }) e c d (by decide) ⟨x,H,I1,ru,⟨rfl,fun ys hy=>by rw [I.qBu hy hq];exact hx⟩,st',fun b hb=>(hf b hb).1⟩⟩
  done:=by
    k_dat 0"r16"
    subst hP hw hK
    obtain⟨xs,hq,hx⟩:=hg
    obtain⟨its,rv,p,hz⟩:=I.tuple hq
    k_dat 0"r27"
    have hl:=rv.length
    exact wpAny_pyNext_tuple_end (I.ok.hd hc) st (show s.heap.IsTuple a its.toArray from p) (by simp;omega) fun h' eb=>⟨rfl,I.turned (t':=s.toks) (fun b o hb e=>eb b o hb e) f0 f1 f3 f4 f5⟩
  self:=fun _ _ _ _ _ st h=>wpAny_pyIter_tupleiter st h
theorem qJx {P:Program} {w:World} {K:W.Frag} {tg:Expr} (it:Addr) (lo:Int) (n:Nat):Turn P w K tg (Itr lo n) [it] it (fun i h=>IsRangeIter h it (lo+(i:Nat) * 1) ((n:Int) - (i:Nat)) 1) where
  mem:=by simp
  obj :=fun i h st b hb=>by
    have e:b=it:=by simpa using hb
    subst e
    exact⟨_,st,fun v z=>by
      have z':Data.fields _=Data.cell v:=z
      cases z'⟩
  keep:=fun i h h' st k=>k it (by simp) _ st
  item:=by
    k_dat 0"r16"
    subst hP hw hK
    k_dat 0"r27"
    have W:=Walks.range (prog:=X.prog) (w:=X.w) (I.ok.hd hc) it lo 1 n
    refine W.item i s _ _ hg st fun v h' tk hv st' kk=>?_
    obtain⟨t,rfl⟩:=hv
    have I1:Inv X pins σ H { s with heap:=h',toks:=tk }:=I.turned (fun b o hb e=>kk b o (by simpa using hb) e) f0 f1 f3 f4 f5
    refine⟨_,rfl,qNG (s:={ s with heap:=h',toks:=tk }) (n:= "range_iterator") st' rfl rfl (by decide) ⟨.int (lo+i),H,I1,⟨t,?_⟩,⟨rfl,rfl⟩,st',fun b hb=>(hf b hb).1⟩⟩
    rw [Int.mul_one]
  done:=by
    k_dat 0"r16"
    subst hP hw hK
    k_dat 0"r27"
    exact wpAny_pyNext_range_end (I.ok.hd hc) st (by have:n≤i:=hg;omega) fun h' eb=>⟨rfl,I.turned (t':=s.toks) (fun b o hb e=>eb b o hb e) f0 f1 f3 f4 f5⟩
  self:=fun _ _ _ _ _ st h=>wpAny_pyIter_rangeiter st h
end L2
namespace L2
open PySem PySem.Spec PyProof.Rows
section
variable {X:Cx} {tg:Expr}
theorem qOU {pins:List (Addr×Obj)} {σ:St} {H:Hp} {s:Shared} {R:It→Hp→Prop} {E:Value→Shared→Prop} {lo hi:Int} {t u v:Tok} {tk:Nat} (I:Inv X pins σ H s) (h1:-(2 ^ 62)≤lo) (h2:lo<2 ^ 62) (h3:-(2 ^ 62)≤hi) (h4:hi<2 ^ 62)
    (q:R (Itr lo (hi - lo).toNat) H):wpAny (model X.prog X.w) X.A (pyIter (.ref s.heap.objs.size)) (PIE X pins σ tg R) E { s with heap:=s.heap.push { cls:=.type "range",data:=.fields #[.int lo t,.int hi u,.int 1 v] },toks:=tk }:=by
  refine wpAny_pyIter_range (IsRange.new ..) (small_one h1 h2 h3 h4) ?_
  have I1:Inv X pins σ H { s with heap:=s.heap.push { cls:=.type "range",data:=.fields #[.int lo t,.int hi u,.int 1 v] },toks:=tk }:=I.kept fun b o e=>Heap.get?_push_of_some _ e
  refine⟨(s.heap.push { cls:=.type "range",data:=.fields #[.int lo t,.int hi u,.int 1 v] }).objs.size,[(s.heap.push { cls:=.type "range",data:=.fields #[.int lo t,.int hi u,.int 1 v] }).objs.size],_,_,H,rfl,
    I1.kept (t':=tk) fun b o e=>Heap.get?_push_of_some _ e,qJx _ lo (hi - lo).toNat,?_,fun b hb=>?_,q⟩
  · have e1:lo+((0:Nat):Int) * 1=lo:=by simp
    have e2:(((hi - lo).toNat:Nat):Int) - ((0:Nat):Int)=Builtin.Range.rangeSize lo hi 1:=by rw [rangeSize_one];split<;>omega
    show IsRangeIter _ _ (lo+((0:Nat):Int) * 1) ((((hi - lo).toNat:Nat):Int) - ((0:Nat):Int)) 1
    rw [e1,e2]
    exact Heap.get?_push_size _ rfl
  · have e:b=(s.heap.push { cls:=.type "range",data:=.fields #[.int lo t,.int hi u,.int 1 v] }).objs.size:=by simpa using hb
    subst e
    k_dat 0"r68"
noncomputable def qTO (ta:TA):TI:=fun σ H R=>ta σ H fun vs H1=>∃ j:Int,vs=[.int j]∧-(2 ^ 62)≤j∧j<2 ^ 62∧R (Itr 0 j.toNat) H1
theorem qLn {a:Expr} {ta:TA} {p pos:Pos} (hg:Gl X "range") (hm:X.mg "range" = none) (ha:PA X [a] ta) (hs:starEach [a] X.env=[(false,eval a X.env)]:=by rfl):PI X tg (.Call (.Name "range" p) [a] [] pos) (qTO ta):=by
  intro pins s σ H R I h
  refine Call_ (qEw I hg hm boot_range (PyProof.Rows.callWith_type1 (thn (ha pos pins s σ H _ I h) fun us s1 ⟨vs,H1,I1,r1,q1⟩=>?_) hs rfl))
  obtain⟨j,e,q1,q2,q⟩:=q1
  subst e
  cases r1 with
  | cons r rr =>
    cases rr
    obtain⟨t,rfl⟩:=r
    exact call_range_1 (qOU I1 (by omega) (by omega) q1 q2 (by simpa using q))
noncomputable def qUC (wi:TI) (g:TG) (tb:TS):TS:=fun D σ H=>wi σ H fun J H1=>∃ W:Nat→Nat→St→Hp→Prop,(∃ m,W 0 m σ H1)∧∀ i m σ H,W i m σ H →
  (J.stop i H∧D.nx σ H)∨(J.go i H∧∃ N:St→Hp→Prop,(∀ σ' H',N σ' H'→∃ m',m'<m∧W (i+1) m' σ' H')∧∀ x H',J.yld i H x H'→g x σ H' fun σ2 H2=>tb { D with nx:=N,ct:=N,bk:=D.nx } σ2 H2)
noncomputable def qGv (fp:List Addr) (h:Heap):List (Addr×Obj):=fp.filterMap fun b=>(h.get? b).map fun o=>(b,o)
theorem qCt {fp:List Addr} {h:Heap} {b:Addr} {o:Obj} (hb:b∈fp) (e:h.get? b=some o):(b,o)∈qGv fp h:=List.mem_filterMap.mpr ⟨b,hb,by rw [e];rfl⟩
theorem qL5 {fp:List Addr} {h:Heap} {p:Addr×Obj} (hp:p∈qGv fp h):p.1∈fp∧h.get? p.1=some p.2:=by
  obtain⟨b,hb,e⟩:=List.mem_filterMap.mp hp
  cases q:h.get? b with
  | none=>rw [q] at e;cases e
  | some o =>
    rw [q] at e
    have e':(b,o)=p:=Option.some.inj e
    subst e'
    exact⟨hb,q⟩
theorem Inv.pinned {pins:List (Addr×Obj)} {σ:St} {H:Hp} {s:Shared} {fp:List Addr} (I:Inv X pins σ H s) (hf:∀ b∈fp,qGu X pins H b) (ho:∀ b∈fp,∃ o,s.heap.get? b=some o∧∀ v,o.data≠.cell v):Inv X (pins++qGv fp s.heap) σ H s :=
  I.qFr fun p hp=>(List.mem_append.mp hp).elim (fun z=>I.pin p (List.mem_append_right _ z)) fun z=>by
    obtain⟨hb,e⟩:=qL5 z
    obtain⟨f0,f1,f2,_⟩:=hf p.1 hb
    obtain⟨o,e',d⟩:=ho p.1 hb
    rw [e] at e';cases e'
    exact⟨e,f0,f1,f2,d⟩
theorem Inv.qEe {pins pl:List (Addr×Obj)} {σ:St} {H:Hp} {s:Shared} (I:Inv X (pins++pl) σ H s):Inv X pins σ H s:=I.qFr fun p hp=>I.pin p (List.mem_append_right _ (List.mem_append_left _ hp))
theorem qQy {iter:Expr} {body:List Stmt} {wi:TI} {g:TG} {tb:TS} {pos:Pos} (hp:PassesOwn (model X.prog X.w) X.A X.env X.xe) (hc:X.calm=true) (hi:PI X tg iter wi) (hg:PG X tg g) (hb:PSs X body tb)
    (hs:∀ x,foldedSetIterable iter X.env x=pure x:=by intro _;rfl):PS X (.For tg iter body [] pos) (qUC wi g tb):=by
  k_dat 0"r15"
  refine wpAny_For (thn (hi pins s σ H _ I h) fun v s1 h1=>thn h1 fun itv s2 h2=>?_) hs
  obtain⟨it,fp,tn,J,H2,e,I2,T,st2,f2,W,⟨m0,w0⟩,turn⟩:=h2
  subst e
  -- what stays true of the iterator's objects through the loop
  have stat:∀ {H':Hp},(∀ b∈fp,H' b=none)→∀ b∈fp,qGu X pins H' b:=fun hn b hb=>⟨hn b hb,(f2 b hb).2⟩
  refine codeAny_forLoop_any (fun n s'=>∃ i σ' H',Inv X pins σ' H' s'∧tn i s'.heap∧(∀ b∈fp,H' b=none)∧W i n σ' H') ?_ m0 ⟨0,σ,H2,I2,st2,fun b hb=>(f2 b hb).1,w0⟩
  rintro n s3 ⟨i,σ3,H3,I3,st3,fr3,w3⟩
  rcases turn i n σ3 H3 w3 with ⟨stop,qn⟩ | ⟨go,N,hN,step⟩
  · refine wpAny_passesOwn hp (thn (T.done X rfl rfl rfl hc i pins s3 σ3 H3 X.xe I3 (stat fr3) st3 stop) fun r s4 ⟨hr,I4⟩=>?_)
    subst hr
    exact wpAny_execs_nil ⟨σ3,H3,I4,qn⟩
  · refine wpAny_passesOwn hp (thn (T.item X rfl rfl rfl hc i pins s3 σ3 H3 X.xe I3 (stat fr3) st3 go) fun r s4 ⟨u,hr,h4⟩=>?_)
    subst hr
    refine wpAny_passesOwn hp (thn h4 fun _ s5 ⟨x,H5,I5,r5,y5,st5,fr5⟩=>?_)
    have I5':=I5.pinned (stat fr5) (T.obj _ _ st5)
    refine wpAny_passesOwn hp (thn (hg _ s5 σ3 H5 x u _ I5' r5 (step x H5 y5)) fun _ s6 ⟨σ6,H6,I6,q6⟩=>?_)
    refine wpAny_passesOwn hp (thn (hb _ s6 σ6 H6 _ I6 q6) fun f s7 q7=>?_)
    have again:∀ {σ7:St} {H7:Hp},Inv X (pins++qGv fp s5.heap) σ7 H7 s7→N σ7 H7→∃ m,m<n∧∃ i σ' H',Inv X pins σ' H' s7∧tn i s7.heap∧(∀ b∈fp,H' b=none)∧W i m σ' H':=fun {σ7 H7} I7 n7=>by
      obtain⟨m',hm,w7⟩:=hN σ7 H7 n7
      refine⟨m',hm,i+1,σ7,H7,I7.qEe,T.keep _ _ _ st5 fun b hb o e=>(I7.pin (b,o) (List.mem_append_right _ (List.mem_append_right _ (qCt hb e)))).1,fun b hb=>?_,w7⟩
      obtain⟨o,e,d⟩:=T.obj _ _ st5 b hb
      exact (I7.pin (b,o) (List.mem_append_right _ (List.mem_append_right _ (qCt hb e)))).2.1
    cases f with
    | next=>obtain⟨σ7,H7,I7,n7⟩:=q7;exact again I7 n7
    | cont=>obtain⟨σ7,H7,I7,n7⟩:=q7;exact again I7 n7
    | brk=>obtain⟨σ7,H7,I7,q7⟩:=q7;exact⟨σ7,H7,I7.qEe,q7⟩
    | ret v=>obtain⟨x7,σ7,H7,I7,r7,q7⟩:=q7;exact⟨x7,σ7,H7,I7.qEe,r7,q7⟩
end
end L2
namespace L2
open PySem PySem.Spec PyProof.Rows
noncomputable abbrev R2:=V→V→Hp→VK→Prop
def OpR (X:Cx) (f:Value→Value→Sem Value) (r:R2):Prop :=
  ∀ (pins:List (Addr×Obj)) (s:Shared) (σ:St) (H:Hp) (x y:V) (v u:Value) (Q:VK),Inv X pins σ H s→RelV x v→RelV y u→r x y H Q →
    wpAny (model X.prog X.w) X.A (f v u) (EP X pins σ Q) X.xe s
def qGA (X:Cx) (f:Value) (r:List V→Hp→VK→Prop):Prop :=
  ∀ (pins:List (Addr×Obj)) (s:Shared) (σ:St) (H:Hp) (xs:List V) (us:List Value) (Q:VK),Inv X pins σ H s→Vals xs us→r xs H Q →
    wpAny (model X.prog X.w) X.A (call f us) (EP X pins σ Q) X.xe s
noncomputable def tOp (r:R2) (ta tb:TE):TE:=fun σ H Q=>ta σ H fun x H1=>tb σ H1 fun y H2=>r x y H2 Q
noncomputable def rI (C:Int→Int→Prop) (g:Int→Int→V):R2:=fun x y H Q=>∃ i j,x = .int i∧y = .int j∧C i j∧Q (g i j) H
noncomputable def rI0 (g:Int→Int→V):R2:=fun x y H Q=>∃ i j,x = .int i∧y = .int j∧Q (g i j) H
section
variable {X:Cx} {a b c:Expr} {ta tb tc:TE} {pos:Pos}
theorem qRg (ha:PE X a ta) (hb:PE X b tb) {pins:List (Addr×Obj)} {s:Shared} {σ:St} {H:Hp} {R:V→V→Hp→Prop} (I:Inv X pins σ H s)
    (h:ta σ H fun x H1=>tb σ H1 fun y H2=>R x y H2) {Q:Value→Shared→Prop} {f:Value→Value→Sem Value}
    (hf:∀ v u s2 x y H2,Inv X pins σ H2 s2→RelV x v→RelV y u→R x y H2→wpAny (model X.prog X.w) X.A (f v u) Q X.xe s2) :
    wpAny (model X.prog X.w) X.A (eval a X.env) (fun v s₁=>wpAny (model X.prog X.w) X.A (eval b X.env) (fun u s₂=>wpAny (model X.prog X.w) X.A (f v u) Q X.xe s₂) X.xe s₁) X.xe s:=by
  refine thn (ha pins s σ H _ I h) fun v s1 ⟨x,H1,I1,r1,q1⟩=>?_
  refine thn (hb pins s1 σ H1 _ I1 q1) fun u s2 ⟨y,H2,I2,r2,q2⟩=>?_
  exact hf v u s2 x y H2 I2 r1 r2 q2
theorem qSd {op:Operator} {r:R2} (ho:OpR X (binaryOp op) r) (ha:PE X a ta) (hb:PE X b tb):PE X (.BinOp a op b pos) (tOp r ta tb):=by
  k_dat 0"r2"
  exact wpAny_BinOp (qRg ha hb I h fun v u s2 x y H2 I2 rx ry q=>ho pins s2 σ H2 x y v u Q I2 rx ry q)
theorem qUG {op:Operator} {r:R2} (ho:OpR X (inplaceOp op) r) {pins:List (Addr×Obj)} {s:Shared} {σ:St} {H:Hp} {x y:V} {v u:Value} {Q:VK} (I:Inv X pins σ H s)
    (rx:RelV x v) (ry:RelV y u) (q:r x y H Q):wpAny (model X.prog X.w) X.A (inplaceOp op v u) (EP X pins σ Q) X.xe s:=ho pins s σ H x y v u Q I rx ry q
theorem opI {f:Value→Value→Sem Value} {C:Int→Int→Prop} {g:Int→Int→Int}
    (rule:∀ (i j:Int) (t u:Tok) (s:Shared) (Q:Value→Shared→Prop) (E:Value→Shared→Prop),C i j→Q (.int (g i j) s.toks) { s with toks:=s.toks+1 }→wpAny (model X.prog X.w) X.A (f (.int i t) (.int j u)) Q E s) :
    OpR X f (rI C fun i j=>.int (g i j)):=by
  k_dat 0"r12"
  obtain⟨i,j,rfl,rfl,hc,q⟩:=h
  obtain⟨t,rfl⟩:=rx
  obtain⟨t',rfl⟩:=ry
  exact rule i j t t' s _ _ hc ⟨.int (g i j),H,I.tok _,⟨_,rfl⟩,q⟩
theorem qOv {f:Value→Value→Sem Value} {g:Int→Int→Int}
    (rule:∀ (i j:Int) (t u:Tok) (s:Shared) (Q:Value→Shared→Prop) (E:Value→Shared→Prop),Q (.int (g i j) s.toks) { s with toks:=s.toks+1 }→wpAny (model X.prog X.w) X.A (f (.int i t) (.int j u)) Q E s) :
    OpR X f (rI0 fun i j=>.int (g i j)):=by
  k_dat 0"r12"
  obtain⟨i,j,rfl,rfl,q⟩:=h
  obtain⟨t,rfl⟩:=rx
  obtain⟨t',rfl⟩:=ry
  exact rule i j t t' s _ _ ⟨.int (g i j),H,I.tok _,⟨_,rfl⟩,q⟩
theorem qOl {f:Value→Value→Sem Value} {g:Int→Int→Bool}
    (rule:∀ (i j:Int) (t u:Tok) (s:Shared) (Q:Value→Shared→Prop) (E:Value→Shared→Prop),Q (.bool (g i j)) s→wpAny (model X.prog X.w) X.A (f (.int i t) (.int j u)) Q E s) :
    OpR X f (rI0 fun i j=>.bl (g i j)):=by
  k_dat 0"r12"
  obtain⟨i,j,rfl,rfl,q⟩:=h
  obtain⟨t,rfl⟩:=rx
  obtain⟨t',rfl⟩:=ry
  exact rule i j t t' s _ _ ⟨.bl (g i j),H,I,rfl,q⟩
def qNW (i j:Int):Prop:=0<j∧j<1073741824
def qTQ (i j:Int):Prop:=0≤j∧j≤1000000∧i.natAbs<2 ^ 64
def qOR (i j:Int):Prop:=(-(2 ^ 64)<i∧i<2 ^ 64)∨(-(2 ^ 64)<j∧j<2 ^ 64)
theorem qOR.ok {i j:Int} (h:qOR i j):IntMulOk i j:=by
  rcases h with ⟨h1,h2⟩ | ⟨h1,h2⟩
  · exact .of_left (intBits_le_64 h1 h2)
  · exact .of_right (intBits_le_64 h1 h2)
theorem qQn:OpR X (binaryOp .Add) (rI0 fun i j=>.int (i+j)):=qOv fun _ _ _ _ _ _ _ q=>add_int q
theorem qRn:OpR X (binaryOp .Sub) (rI0 fun i j=>.int (i - j)):=qOv fun _ _ _ _ _ _ _ q=>sub_int q
theorem qR8:OpR X (binaryOp .Mult) (rI qOR fun i j=>.int (i * j)):=opI fun _ _ _ _ _ _ _ hc q=>mul_int q hc.ok
theorem qPV:OpR X (binaryOp .FloorDiv) (rI qNW fun i j=>.int (i / j)):=opI fun i j _ _ _ _ _ hc q=>by
  have h1:(0:Int)<j:=hc.1
  have h2:j<1073741824:=hc.2
  exact floordiv_int (by omega) (by rw [Int.fdiv_eq_ediv_of_nonneg i (by omega)];exact q) (.inl (PyProof.noPylong_small (by omega)))
theorem qR9:OpR X (binaryOp .Mod) (rI (fun _ j=>0<j) fun i j=>.int (i%j)):=opI fun i j _ _ _ _ _ hc q=>by
  have h1:(0:Int)<j:=hc
  exact mod_int' (by omega) (by rw [Int.fmod_eq_emod_of_nonneg i (by omega)];exact q)
theorem qQt:OpR X (binaryOp .LShift) (rI qTQ fun i j=>.int (i * 2 ^ j.toNat)):=opI fun _ _ _ _ _ _ _ hc q=>lshift_int_small hc.1 hc.2.1 hc.2.2 q
theorem qQQ:OpR X (binaryOp .BitAnd) (rI0 fun i j=>.int (Builtin.bitAnd i j)):=qOv fun _ _ _ _ _ _ _ q=>and_int q
theorem qPK:OpR X (inplaceOp .Add) (rI0 fun i j=>.int (i+j)):=qOv fun _ _ _ _ _ _ _ q=>iadd_int q
end
section
variable {X:Cx} {a b c:Expr} {ta tb tc:TE} {pos:Pos}
theorem qJ1 {pins:List (Addr×Obj)} {σ:St} {H:Hp} {s:Shared} {Q:VK} {k k':Bool} (I:Inv X pins σ H s) (q:Q (.bl k) H) (e:k=k'):EP X pins σ Q (.bool k') s:=by
  subst e
  exact⟨.bl k,H,I,rfl,q⟩
theorem qOA:OpR X (compareOp .Lt) (rI0 fun i j=>.bl (decide (i<j))):=qOl fun _ _ _ _ _ _ _ q=>lt_int q
theorem qQI:OpR X (compareOp .LtE) (rI0 fun i j=>.bl (decide (i≤j))):=qOl fun _ _ _ _ _ _ _ q=>le_int q
theorem qSr:OpR X (compareOp .Gt) (rI0 fun i j=>.bl (decide (j<i))):=qOl fun _ _ _ _ _ _ _ q=>gt_int q
theorem qS9:OpR X (compareOp .GtE) (rI0 fun i j=>.bl (decide (j≤i))):=qOl fun _ _ _ _ _ _ _ q=>ge_int q
theorem qMB:OpR X (compareOp .In) (fun x y H Q=>∃ i j,x = .str i∧y = .str j∧Q (.bl (!(Builtin.Str.occurrences j i 0 j.length 1).isEmpty)) H):=by
  k_dat 0"r12"
  obtain⟨i,j,rfl,rfl,q⟩:=h
  obtain⟨t,rfl⟩:=rx
  obtain⟨t',rfl⟩:=ry
  exact in_str (qJ1 I q rfl)
theorem qNv:OpR X (compareOp .Is) (fun x y H Q=>y = .non∧Q (.bl (decide (x = .non))) H):=by
  k_dat 0"r12"
  obtain⟨rfl,q⟩:=h
  cases ry
  refine is_none_gen (qJ1 I q ?_)
  cases x<;>first
    | (cases rx;rfl)
    | (obtain⟨t,rfl⟩:=rx;rfl)
theorem qK8:OpR X (compareOp .IsNot) (fun x y H Q=>y = .non∧Q (.bl (!decide (x = .non))) H):=by
  k_dat 0"r12"
  obtain⟨rfl,q⟩:=h
  cases ry
  refine isnot_none_gen (qJ1 I q ?_)
  cases x<;>first
    | (cases rx;rfl)
    | (obtain⟨t,rfl⟩:=rx;rfl)
theorem qKO (b:Expr) {op:CmpOp} (h:op≠.In:=by decide) (h2:op≠.NotIn:=by decide):behindInMarks op b=false:=by
  have e1:(op==CmpOp.In)=false:=by cases op<;>first | rfl | exact absurd rfl h
  have e2:(op==CmpOp.NotIn)=false:=by cases op<;>first | rfl | exact absurd rfl h2
  cases b<;>simp [behindInMarks,e1,e2]
theorem qPE {op:CmpOp} {r:R2} (ho:OpR X (compareOp op) r) (ha:PE X a ta) (hb:PE X b tb) (hm:behindInMarks op b=false):PE X (.Compare a [op] [b] pos) (tOp r ta tb):=by
  k_dat 0"r2"
  exact wpAny_Compare1 (qRg ha hb I h fun v u s2 x y H2 I2 rx ry q=>ho pins s2 σ H2 x y v u Q I2 rx ry q) hm
noncomputable def qP1 (t:TE):TT:=fun σ H Q=>t σ H fun x H'=>∃ k,x = .bl k∧Q k H'
theorem qPF {op:CmpOp} {r:R2} (ho:OpR X (compareOp op) r) (ha:PE X a ta) (hb:PE X b tb) (hm:behindInMarks op b=false):PT X (.Compare a [op] [b] pos) (qP1 (tOp r ta tb)):=by
  k_dat 0"r2"
  refine wpAny_isTrue_Compare1 (thn (ha pins s σ H _ I h) fun v s1 ⟨x,H1,I1,r1,q1⟩=>thn (hb pins s1 σ H1 _ I1 q1) fun u s2 ⟨y,H2,I2,r2,q2⟩ =>
    thn (ho pins s2 σ H2 x y v u _ I2 r1 r2 q2) fun c s3 ⟨z,H3,I3,r3,k,e,q3⟩=>?_) hm
  subst e
  cases r3
  exact wpAny_truthy_bool ⟨H3,I3,q3⟩
noncomputable def qJ3 (r r':R2) (ta tb tc:TE):TE:=fun σ H Q=>ta σ H fun x H1=>tb σ H1 fun y H2=>r x y H2 fun z H3=>∃ k,z = .bl k ∧
  (if k=true then tc σ H3 fun w' H4=>r' y w' H4 Q else Q (.bl false) H3)
theorem qNo {op op':CmpOp} {r r':R2} (ho:OpR X (compareOp op) r) (ho':OpR X (compareOp op') r') (ha:PE X a ta) (hb:PE X b tb) (hc:PE X c tc)
    (hm:lastMarks [op,op'] [b,c]=false:=by with_unfolding_all rfl):PE X (.Compare a [op,op'] [b,c] pos) (qJ3 r r' ta tb tc):=by
  k_dat 0"r2"
  refine Compare_chain (thn (ha pins s σ H _ I h) fun v s1 ⟨x,H1,I1,r1,q1⟩=>chain_link (thn (hb pins s1 σ H1 _ I1 q1) fun u s2 ⟨y,H2,I2,r2,q2⟩ =>
    thn (ho pins s2 σ H2 x y v u _ I2 r1 r2 q2) fun d s3 ⟨z,H3,I3,r3,k,e,q3⟩=>?_)) hm
  subst e
  cases r3
  refine wpAny_truthy_bool ?_
  cases k with
  | false=>exact ite_ff ⟨.bl false,H3,I3,rfl,q3⟩
  | true=>exact ite_tt (chain_last (thn (hc pins s3 σ H3 _ I3 q3) fun w' s4 ⟨z',H4,I4,r4,q4⟩=>ho' pins s4 σ H4 y z' u w' Q I4 r2 r4 q4))
theorem qNV {op op':CmpOp} {r r':R2} (ho:OpR X (compareOp op) r) (ho':OpR X (compareOp op') r') (ha:PE X a ta) (hb:PE X b tb) (hc:PE X c tc)
    (hm:lastMarks [op,op'] [b,c]=false:=by with_unfolding_all rfl):PT X (.Compare a [op,op'] [b,c] pos) (qP1 (qJ3 r r' ta tb tc)):=by
  k_dat 0"r2"
  refine isTrue_chain (thn (ha pins s σ H _ I h) fun v s1 ⟨x,H1,I1,r1,q1⟩=>test_link (thn (hb pins s1 σ H1 _ I1 q1) fun u s2 ⟨y,H2,I2,r2,q2⟩ =>
    thn (ho pins s2 σ H2 x y v u _ I2 r1 r2 q2) fun d s3 ⟨z,H3,I3,r3,k,e,q3⟩=>?_)) hm
  subst e
  cases r3
  refine wpAny_truthy_bool ?_
  cases k with
  | false =>
    obtain⟨k',e',q'⟩:=q3
    cases e'
    exact ite_ff ⟨H3,I3,q'⟩
  | true =>
    refine ite_tt (test_last (thn (hc pins s3 σ H3 _ I3 q3) fun w' s4 ⟨z',H4,I4,r4,q4⟩=>thn (ho' pins s4 σ H4 y z' u w' _ I4 r2 r4 q4) fun d' s5 ⟨z2,H5,I5,r5,k2,e2,q5⟩=>?_))
    subst e2
    cases r5
    exact wpAny_truthy_bool ⟨H5,I5,q5⟩
theorem qE0:(sizeLine:Nat)<2 ^ 63:=by rw [sizeLine_eq];decide
theorem qKL:OpR X (binaryOp .Add) (fun x y H Q=>∃ i j,x = .str i∧y = .str j∧i.length+j.length≤sizeLine∧Q (.str (i++j)) H):=by
  k_dat 0"r12"
  obtain⟨i,j,rfl,rfl,hz,q⟩:=h
  obtain⟨t,rfl⟩:=rx
  obtain⟨t',rfl⟩:=ry
  exact add_str (fun t' tk=>⟨.str (i++j),H,I.tok _,⟨_,rfl⟩,q⟩) hz
theorem vals1 {x:V} {us:List Value} (r:Vals [x] us):∃ u,us=[u]∧RelV x u:=by
  cases r with
  | cons r1 r2=>cases r2;exact⟨_,rfl,r1⟩
theorem vals2 {x y:V} {us:List Value} (r:Vals [x,y] us):∃ u w',us=[u,w']∧RelV x u∧RelV y w':=by
  cases r with
  | cons r1 r2 =>
    cases r2 with
    | cons r3 r4=>cases r4;exact⟨_,_,rfl,r1,r3⟩
theorem qHa:qGA X (.type "int") (fun xs H Q=>(∃ i,xs=[.int i]∧Q (.int i) H)∨∃ k,xs=[.bl k]∧Q (.int (if k then 1 else 0)) H):=by
  intro pins s σ H xs us Q I r h
  rcases h with ⟨i,rfl,q⟩ | ⟨k,rfl,q⟩
  · obtain⟨u,rfl,t,rfl⟩:=vals1 r
    exact call_int_int ⟨.int i,H,I,⟨_,rfl⟩,q⟩
  · obtain⟨u,rfl,r1⟩:=vals1 r
    cases r1
    exact call_int_bool ⟨.int (if k then 1 else 0),H,I.tok _,⟨_,rfl⟩,q⟩
end
end L2
namespace L2
open PySem PySem.Spec PyProof.Rows
structure qKP (h:Heap) (x dx C:Addr) (mA:Str→Option Value):Prop where
  obj:h.get? x=some (W.instObj C dx)
  ns:h.Ns1 dx mA
  ne:dx≠x
theorem qLu {h:Heap} {dx:Addr} {mA:Str→Option Value} (n:h.Ns1 dx mA):∃ od,h.get? dx=some od∧∀ name,W.lookIn name od=some (mA name):=by
  obtain⟨o,es,ep,ho,hd,hk,_,hm⟩:=n
  refine⟨o,ho,fun name=>?_⟩
  have e:=hm name
  unfold nsFind findBy at e
  rw [← Array.find?_toList] at e
  unfold W.lookIn
  rw [hd]
  dsimp only
  split
  · rename_i y q
    rw [q] at e
    exact congrArg some e
  · rename_i q
    rw [q] at e
    have a:es.toList.any (·.refKey)=false:=by
      rw [List.any_eq_false]
      intro y hy
      obtain⟨z,t,hkey⟩:=hk y (Array.mem_toList_iff.mp hy)
      simp [DictEntry.refKey,hkey]
    have a':¬ es.toList.any (·.refKey)=true:=by rw [a];exact Bool.false_ne_true
    rw [if_neg a']
    exact congrArg some e
theorem qKP.look {h:Heap} {x dx C:Addr} {mA:Str→Option Value} (I:qKP h x dx C mA):∃ od,W.InstAt h x (W.instObj C dx) C (some od)∧∀ name,W.lookIn name od=some (mA name) :=
  let ⟨od,ho,hl⟩:=qLu I.ns
  ⟨od,⟨I.obj,rfl,rfl,ho⟩,hl⟩
section
variable {prog:Program} {w:World} {A:Around} {E:Value→Shared→Prop} {s:Shared} {K:W.Frag} {x dx C f:Addr} {mA:Str→Option Value} {name:Str} {v:Value}
theorem get_map {expr:Bool} {Q:Value→Shared→Prop} (X:K.In s.heap) (I:qKP s.heap x dx C mA) (hg:W.plainGet K C name=true) (hh:W.hasDictIn K C=true)
    (ha:W.findIn K (.ref C) name=some none) (hv:mA name=some v) (hv':W.handedIn v=true) (h:Q v { s with toks:=s.toks+1 }) :
    wpAny (model prog w) A (getAttr (.ref x) name expr) Q E s:=by
  obtain⟨od,J,hl⟩:=I.look
  exact W.get_value X J (W.plainGet_of hg).1 (W.findObj_own hh ha rfl (by rw [hl,hv])) hv' h
theorem qN1 {pl:Sem Bool} {Q:Value×List Value→Shared→Prop} (X:K.In s.heap) (I:qKP s.heap x dx C mA) (hg:W.plainGet K C name=true)
    (hf:W.findIn K (.ref C) name=some (some (.ref f))) (ht:W.isFn K (.ref f)=true) (hv:mA name=none) (h:Q (.ref f,[.ref x]) s) :
    wpAny (model prog w) A (getMethod (.ref x) name pl) Q E s:=by
  obtain⟨od,J,hl⟩:=I.look
  exact W.method_fn X J (W.plainGet_of hg).1 (W.plainGet_of hg).2 hf (beq_iff_eq.mp ht) (by show (W.lookIn name od).map (·.isSome)=some false;rw [hl,hv];rfl) h
theorem qPj {ns:List Str} {Q:Unit→Shared→Prop} (X:K.In s.heap) (I:qKP s.heap x dx C mA)
    (hs:W.findIn K (.ref C) "__setattr__" = some (some (.builtin "object.__setattr__"))) (hp:W.plainOver K C=true) (ht:W.takerIn K C name=some none) (hh:W.hasDictIn K C=true)
    (hw:PySem.Within mA ns) (hsz:ns.length≤sizeLine)
    (h:∀ h',qKP h' x dx C (fun y=>if y=name then some v else mA y)→Heap.SameBut dx s.heap h'→Q () { s with heap:=h',toks:=s.toks+2 }) :
    wpAny (model prog w) A (setAttr (.ref x) name v) Q E s:=by
  obtain⟨od,J,hl⟩:=I.look
  refine W.set_plain X J hs (W.osa_open (s:={ s with toks:=s.toks+1 }) (r:=none) X J hp ht fun b=>?_)
  obtain⟨cd,hc,hd'⟩:=W.any_some hh
  have hx:s.heap.get? x=some ⟨.ref C,some dx,.plain,#[]⟩:=I.obj
  refine wpAny_bind (wpAny_pure (wpAny_bind (wpAny_bind (wpAny_loadPart hx (wpAny_bind (W.Looks.here (s:={ s with toks:=s.toks+1 }) (W.looks_clsIn X hc) ?_))))))
  rw [hd']
  refine wpAny_pure (a:=some dx) (wpAny_bind (wpAny_pure (wpAny_bind ?_)))
  refine wpAny_nsSet1 (s:={ s with toks:=s.toks+1 }) I.ns fun h' hn2 hs2=>?_
  obtain⟨oD,esD,epD,hoD,hdD,hcD⟩:=hn2.count (PySem.Within.cons name v hw)
  refine wpAny_bind (wpAny_lookBehind hoD (by rw [hdD];exact pastItsLine_dict (Nat.le_trans hcD (by rw [List.length_cons];omega))) ?_)
  exact wpAny_pure (h _ ⟨(hs2.2 _ (Ne.symm I.ne)).trans I.obj,hn2,I.ne⟩ hs2)
theorem qNw {R:Result→Shared→Prop} {vs:List Value} {kw:List (Str×Value)} (X:K.In s.heap) (hm:W.makesIn K C=true)
    (hi:W.findIn K (.ref C) "__init__" = some (some (.ref f))) (hf:W.typeIn K (.ref f)=some (.type "function"))
    (h:codeAny (model prog w) (A.under (.builtin "type.__call__" ⟨.ref C::vs,kw⟩)) (.call (.ref f) ⟨.ref (s.heap.objs.size+1)::vs,kw⟩) (W.InitBack (s.heap.objs.size+1) R)
      { s with heap:=(s.heap.push W.emptyDict).push (W.instObj C s.heap.objs.size) }) :
    codeAny (model prog w) A (.call (.ref C) ⟨vs,kw⟩) R s:=by
  obtain⟨hh,g,d,t,os⟩:=s
  exact W.make_core (W.makes_of X hm) (W.looks_findIn X hi) (fun self=>W.bind_fn X self hf) (.inl rfl) h
end
noncomputable def qDC (f:Str) (v:V):List (Str×V)→List (Str×V)
  | []=>[(f,v)]
  | (g,x)::r=>if g=f then (g,v)::r else (g,x)::qDC f v r
theorem qFP (f g:Str) (v:V):∀ fs:List (Str×V),(qDC f v fs).lookup g=if g=f then some v else fs.lookup g
  | []=>by
    show List.lookup g [(f,v)]=_
    by_cases h:g=f
    · have hb:(g==f)=true:=beq_iff_eq.mpr h
      simp only [List.lookup,hb,if_pos h]
    · have hb:(g==f)=false:=beq_eq_false_iff_ne.mpr h
      simp only [List.lookup,hb,if_neg h]
  | (k, x)::r=>by
    have ih:=qFP f g v r
    k_dat 0"r69"
    by_cases hk:k=f
    · rw [if_pos hk]
      by_cases h:g=k
      · have hb:(g==k)=true:=beq_iff_eq.mpr h
        simp only [List.lookup,hb,if_pos (h.trans hk)]
      · have hb:(g==k)=false:=beq_eq_false_iff_ne.mpr h
        simp only [List.lookup,hb,if_neg (fun e:g=f=>h (e.trans hk.symm))]
    · rw [if_neg hk]
      by_cases h:g=k
      · have hb:(g==k)=true:=beq_iff_eq.mpr h
        simp only [List.lookup,hb,if_neg (fun e:g=f=>hk (h.symm.trans e))]
      · have hb:(g==k)=false:=beq_eq_false_iff_ne.mpr h
        simp only [List.lookup,hb]
        exact ih
theorem qEo (f:Str) (v:V):∀ fs:List (Str×V),f∈(qDC f v fs).map (·.1)∧∀ g,g∈fs.map (·.1)→g∈(qDC f v fs).map (·.1)
  | []=>⟨by simp [qDC],fun g h=>by simp at h⟩
  | (k, x)::r=>by
    obtain⟨i1,i2⟩:=qEo f v r
    k_dat 0"r69"
    by_cases hk:k=f
    · rw [if_pos hk]
      subst hk
      exact⟨by simp,fun g h=>by simpa using h⟩
    · rw [if_neg hk]
      refine⟨?_,fun g h=>?_⟩
      · rw [List.map_cons]
        exact List.mem_cons_of_mem _ i1
      · rw [List.map_cons] at h ⊢
        rcases List.mem_cons.mp h with e | e
        · exact List.mem_cons.mpr (.inl e)
        · exact List.mem_cons_of_mem _ (i2 g e)
theorem qFN (f:Str) (v:V):∀ fs:List (Str×V),(qDC f v fs).length≤fs.length+1
  | []=>by simp [qDC]
  | (k,x)::r=>by
    have ih:=qFN f v r
    k_dat 0"r69"
    by_cases hk:k=f
    · rw [if_pos hk,List.length_cons,List.length_cons];omega
    · rw [if_neg hk,List.length_cons,List.length_cons];omega
theorem qDA.some_of {v:V} {o:Option Value} (r:qDA (some v) o):∃ u,o=some u∧RelV v u:=by
  cases o with
  | none=>exact (show False from r).elim
  | some u=>exact⟨u,rfl,r⟩
theorem qDA.none_of {o:Option Value} (r:qDA none o):o=none:=by
  cases o with
  | none=>rfl
  | some u=>exact (show False from r).elim
theorem qL9 {v:V} {u:Value} (r:RelV v u):W.handedIn u=true:=by
  cases v with
  | non=>cases (show u=Value.none from r);rfl
  | bl b=>cases (show u=Value.bool b from r);rfl
  | int i=>obtain⟨t,e⟩:=(show ∃ t,u=Value.int i t from r);cases e;rfl
  | str x=>obtain⟨t,e⟩:=(show ∃ t,u=Value.str x t from r);cases e;rfl
  | byt b=>obtain⟨t,e⟩:=(show ∃ t,u=Value.bytes b t from r);cases e;rfl
  | flt b=>obtain⟨t,e⟩:=(show ∃ t,u=Value.float b t from r);cases e;rfl
  | ref a=>cases (show u=Value.ref a from r);rfl
  | ty n=>cases (show u=Value.type n from r);rfl
section
variable {P:Program} {w:World} {H H':Hp} {h h':Heap} {a C dx:Addr} {fs fs':List (Str×V)}
theorem qHp (hok:HOk P w H h) (e:H a=some (.ins C dx fs)):∃ mA,qKP h a dx C mA∧(∀ f,qDA (fs.lookup f) (mA f))∧PySem.Within mA (fs.map (·.1))∧fs.length≤1000∧H dx=some (.own a):=by
  obtain⟨d,z,ne,ob,mA,n,r,q⟩:=(show qA8 P w H h a (.ins C dx fs) from hok a _ e)
  exact⟨mA,⟨ob,n,ne⟩,r,q,z,d⟩
end
structure Cls (K:W.Frag) (C:Addr):Prop where
  pg:W.plainGet K C Str.empty=true
  hd:W.hasDictIn K C=true
  po:W.plainOver K C=true
  sa:W.findIn K (.ref C) "__setattr__" = some (some (.builtin "object.__setattr__"))
theorem Cls.get {K:W.Frag} {C:Addr} (c:Cls K C) (f:Str):W.plainGet K C f=true:=c.pg
def qEI (K:W.Frag) (C:Addr) (f:Str):Prop:=W.findIn K (.ref C) f=some none
theorem qEI.qSu {K:W.Frag} {C:Addr} {f:Str} (n:qEI K C f):W.takerIn K C f=some none:=by
  unfold W.takerIn
  rw [show W.findIn K (.ref C) f=some none from n]
  rfl
structure Meth (K:W.Frag) (C:Addr) (m:Str) (f:Addr):Prop where
  at_:W.findIn K (.ref C) m=some (some (.ref f))
  fn:W.isFn K (.ref f)=true
  kp:W.keepIn K (.ref f)=true
section
variable {X:Cx} {pins:List (Addr×Obj)} {σ:St} {H:Hp} {s:Shared} {a C dx:Addr} {fs:List (Str×V)} {f:Str} {v:V} {A:Around} {E:Value→Shared→Prop}
theorem qJ9 {b:Bool} {Q:Value→Shared→Prop} (I:Inv X pins σ H s) (e:H a=some (.ins C dx fs)) (c:Cls X.K C) (n:qEI X.K C f) (l:fs.lookup f=some v)
    (h:∀ u s',Inv X pins σ H s'→RelV v u→Q u s'):wpAny (model X.prog X.w) A (getAttr (.ref a) f b) Q E s:=by
  obtain⟨mA,O,r,_,_,_⟩:=qHp I.hok e
  obtain⟨u,hu,ru⟩:=qDA.some_of (v:=v) (o:=mA f) (by rw [← l];exact r f)
  exact get_map I.kIn O (c.get f) c.hd n hu (qL9 ru) (h u _ (I.tok _) ru)
theorem qKZ {m:Str} {g:Addr} {pl:Sem Bool} {Q:Value×List Value→Shared→Prop} (I:Inv X pins σ H s) (e:H a=some (.ins C dx fs)) (c:Cls X.K C) (k:Meth X.K C m g) (l:fs.lookup m=none)
    (h:Q (.ref g,[.ref a]) s):wpAny (model X.prog X.w) A (getMethod (.ref a) m pl) Q E s:=by
  obtain⟨mA,O,r,_,_,_⟩:=qHp I.hok e
  have hn:mA m=none:=qDA.none_of (by rw [← l];exact r m)
  exact qN1 I.kIn O (c.get m) k.at_ k.fn hn h
theorem qKG {y:V} {u:Value} {Q:Unit→Shared→Prop} (I:Inv X pins σ H s) (e:H a=some (.ins C dx fs)) (c:Cls X.K C) (n:qEI X.K C f) (hl:fs.length<1000) (ry:RelV y u)
    (h:∀ s',Inv X pins σ (upd H a (.ins C dx (qDC f y fs))) s'→Q () s'):wpAny (model X.prog X.w) A (setAttr (.ref a) f u) Q E s:=by
  obtain⟨mA,O,r,wi,_,ho⟩:=qHp I.hok e
  have hz:(fs.map (·.1)).length≤sizeLine:=by rw [List.length_map,sizeLine_eq];omega
  refine qPj I.kIn O c.sa c.po n.qSu c.hd wi hz fun h' O' sb=>h _ ?_
  have hd:∃ o,h'.get? dx=some o:=let ⟨o,_,_,e',_⟩:=O'.ns;⟨o,e'⟩
  refine I.write (x:=a) (e:=dx) (by rw [e];exact True.intro) (.inr ho) (fun b q hb z=>(sb.2 b hb).trans z) hd ?_
  refine⟨by rw [qQ O.ne];exact ho,?_,O.ne,O'.obj,_,O'.ns,fun g=>?_,fun g hg=>?_⟩
  · have:=qFN f y fs;omega
  · show qDA ((qDC f y fs).lookup g) (if g=f then some u else mA g)
    rw [qFP]
    by_cases q:g=f
    · rw [if_pos q,if_pos q];exact ry
    · rw [if_neg q,if_neg q];exact r g
  · by_cases q:g=f
    · rw [q];exact (qEo f y fs).1
    · refine (qEo f y fs).2 g (wi g fun z=>hg ?_)
      show (if g=f then some u else mA g)=none
      rw [if_neg q];exact z
theorem Inv.made (I:Inv X pins σ H s):Inv X pins σ (upd (upd H s.heap.objs.size (.own (s.heap.objs.size+1))) (s.heap.objs.size+1) (.ins C s.heap.objs.size []))
    { s with heap:=(s.heap.push W.emptyDict).push (W.instObj C s.heap.objs.size) }:=by
  have e1:(s.heap.push W.emptyDict).get? s.heap.objs.size=some W.emptyDict:=Heap.get?_push_size s.heap rfl
  have e2:((s.heap.push W.emptyDict).push (W.instObj C s.heap.objs.size)).get? (s.heap.objs.size+1)=some (W.instObj C s.heap.objs.size):=by
    have:=Heap.get?_push_size (s.heap.push W.emptyDict) (o:=W.instObj C s.heap.objs.size) rfl
    rwa [Heap.size_push] at this
  have e3:(s.heap.push W.emptyDict).Ns s.heap.objs.size (fun _=>none):=⟨W.emptyDict,#[],_,e1,rfl,(fun e he=>absurd he (by simp)),fun _=>rfl⟩
  have I1:=I.laid (a:=s.heap.objs.size) (o:=.own (s.heap.objs.size+1)) (h':=s.heap.push W.emptyDict) (t':=s.toks) (fun b u q=>Heap.get?_push_of_some _ q) (Nat.le_refl _) ⟨_,e1⟩
  refine I1.laid (a:=s.heap.objs.size+1) (o:=.ins C s.heap.objs.size []) (t':=s.toks) (fun b u q=>Heap.get?_push_of_some _ q) (Nat.le_of_eq (Heap.size_push _ _)) ?_
  have ne:s.heap.objs.size≠s.heap.objs.size+1:=Nat.ne_of_lt (Nat.lt_succ_self _)
  refine⟨by rw [qQ ne,qh],Nat.zero_le _,ne,e2,fun _=>none,(Heap.Ns1.of_empty e3).at fun o q=>Heap.get?_push_of_some _ q,fun _=>True.intro,fun y hy=>absurd rfl hy⟩
theorem qOn {prog:Program} {w:World} {env:Env} {e:Expr} {f:Str} {pos:Pos} {s:Shared} {Q:Value→Shared→Prop} (hb:attributeBase e f env (eval e env)=eval e env)
    (h:wpAny (model prog w) A (eval e env) (fun o s₁=>wpAny (model prog w) A (getAttr o f true) Q E s₁) E s):wpAny (model prog w) A (eval (.Attribute e f pos) env) Q E s :=
  Attribute_any_ h (by rw [arm_eval_Attribute,hb])
end
noncomputable def qUK (K:W.Frag) (ta:TE) (f:Str):TE:=fun σ H Q=>ta σ H fun x H1=>∃ a C dx fs v,x = .ref a∧H1 a=some (.ins C dx fs)∧Cls K C∧qEI K C f∧fs.lookup f=some v∧Q v H1
noncomputable def qUE (K:W.Frag) (ta tv:TE) (f:Str):TS:=fun D σ H=>tv σ H fun y H1=>ta σ H1 fun x H2=>∃ a C dx fs,x = .ref a∧H2 a=some (.ins C dx fs)∧Cls K C∧qEI K C f∧fs.length<1000 ∧
  D.nx σ (upd H2 a (.ins C dx (qDC f y fs)))
section
variable {X:Cx} {o e value:Expr} {f:Str} {pos pos' tpos:Pos} {ta tv:TE}
theorem qST (he:PE X e ta) (hb:attributeBase e f X.env (eval e X.env)=eval e X.env):PE X (.Attribute e f pos) (qUK X.K ta f):=by
  k_dat 0"r2"
  refine qOn hb (thn (he pins s σ H _ I h) fun u s1 ⟨x,H1,I1,rx,a,C,dx,fs,v,ex,ea,c,n,l,q⟩=>?_)
  subst ex
  obtain rfl:u=Value.ref a:=rx
  exact qJ9 I1 ea c n l fun u' s2 I2 ru=>⟨v,H1,I2,ru,q⟩
theorem qRN (ha:PE X o ta) (hv:PE X value tv) (hs:swapsWith value (some (.Attribute o f pos')) pos.line X.env=pure false):PS X (.Assign [.Attribute o f pos'] value pos) (qUE X.K ta tv f):=by
  k_dat 0"r15"
  refine plainObj_wpAny_Assign_Attribute (thn (hv pins s σ H _ I h) fun u s1 ⟨y,H1,I1,ry,q⟩=>thn (ha pins s1 σ H1 _ I1 q) fun ov s2 ⟨x,H2,I2,rx,a,C,dx,fs,ex,ea,c,n,l,q2⟩=>?_) hs
  subst ex
  obtain rfl:ov=Value.ref a:=rx
  exact qKG I2 ea c n l ry fun s3 I3=>⟨σ,_,I3,q2⟩
end
end L2
namespace L2
open PySem PySem.Spec PyProof.Rows
structure qAt (k:Nat) (A:Around):Prop where
  hd:A.handled=none
  dp:A.depth+3 * k+5<recursionLimit
  un:A.units+16 * k+200<cLine
theorem qAt.mono {j k:Nat} {A:Around} (r:qAt k A) (h:j≤k):qAt j A:=⟨r.hd,by have:=r.dp;omega,by have:=r.un;omega⟩
theorem qAt.deeper {k:Nat} {A:Around} (r:qAt (k+1) A) (env:Env):qAt k (A.deeper env) :=
  ⟨r.hd,by have:=r.dp;show A.depth+1+3 * k+5<_;omega,by have:=r.un;show A.units+3+16 * k+200<_;omega⟩
theorem qAt.in1 {k:Nat} {A:Around} (r:qAt (k+1) A):qAt k A.in1 :=
  ⟨r.hd,by have:=r.dp;show A.depth+3 * k+5<_;omega,by have:=r.un;show A.units+1+16 * k+200<_;omega⟩
theorem qJ0 {A:Around} {C:Addr} {us:List Value} {kw:List (Str×Value)}:(A.under (.builtin "type.__call__" ⟨.ref C::us,kw⟩)).depth=A.depth+1:=by
  first | rfl | simp [Around.under,Code.weight,Code.isCreation,Code.isGuard,Code.isCaller,Code.frames,Code.isFrame,guardIds]
theorem qJl {A:Around} {C:Addr} {us:List Value} {kw:List (Str×Value)}:(A.under (.builtin "type.__call__" ⟨.ref C::us,kw⟩)).units=A.units+1:=by
  first | rfl | simp [Around.under,Code.cUnits,Code.frames,Code.isFrame]
theorem qAt.make {k:Nat} {A:Around} (r:qAt (k+1) A) (C:Addr) (us:List Value) (kw:List (Str×Value)):qAt k (A.under (.builtin "type.__call__" ⟨.ref C::us,kw⟩)) :=
  ⟨r.hd,by have:=r.dp;rw [qJ0];omega,by have:=r.un;rw [qJl];omega⟩
theorem qAt.depth {k:Nat} {A:Around} (r:qAt k A):A.depth<recursionLimit:=by have:=r.dp;omega
theorem qAt.units {k:Nat} {A:Around} (r:qAt k A):A.units+64<cLine:=by have:=r.un;omega
noncomputable def qTB:TA:=fun _ H Q=>Q [] H
noncomputable def qP2 (ta:TE) (tr:TA):TA:=fun σ H Q=>ta σ H fun x H1=>tr σ H1 fun xs H2=>Q (x::xs) H2
section
variable {X:Cx} {e:Expr} {es:List Expr} {te:TE} {t:TA} {pos:Pos}
theorem qR6:PA X [] qTB:=fun _ _ _ _ H Q I h=>Calls.spliced_nil ⟨[],H,I,.nil,h⟩
theorem qPx (ha:PE X e te) (hr:PA X es t) (hs:starEach (e::es) X.env=(false,eval e X.env)::starEach es X.env:=by rfl):PA X (e::es) (qP2 te t):=by
  intro pos pins s σ H Q I h
  rw [hs]
  show wpAny _ _ (spliced ((false,eval e X.env)::backTo pos (starEach es X.env))) _ _ s
  refine Calls.spliced_cons (thn (ha pins s σ H _ I h) fun u s1 ⟨x,H1,I1,r1,q1⟩=>?_)
  k_dat 0"r90"
noncomputable def qUJ (t:TA):TE:=fun σ H Q=>t σ H fun xs H1=>xs.length≤sizeLine∧∀ p,H1 p=none→Q (.ref p) (upd H1 p (.tup xs))
noncomputable def qTp (t:TA):TE:=fun σ H Q=>t σ H fun xs H1=>xs.length≤sizeLine∧∀ p,H1 p=none→Q (.ref p) (upd H1 p (.lst xs))
theorem qQd {x1} (h:PA X es t):PE X (.Tuple es x1 pos) (qUJ t):=by
  intro pins s σ H Q I hq
  refine wpAny_Tuple_spliced (thn (h pos pins s σ H _ I hq) fun us s1 ⟨xs,H1,I1,r,z,q⟩=>⟨by rw [← r.length];exact z,?_⟩)
  have hf:H1 s1.heap.objs.size=none:=I1.hok.fresh (Nat.le_refl _)
  refine⟨.ref s1.heap.objs.size,upd H1 s1.heap.objs.size (.tup xs),I1.laid (t':=s1.toks) (fun b u e=>Heap.get?_push_of_some _ e) (Nat.le_refl _) ?_,rfl,q _ hf⟩
  exact⟨z,us,r,⟨_,Heap.get?_push_size _ rfl,rfl,_,rfl⟩⟩
theorem qRv (h:PA X es t):PE X (.List es pos) (qTp t):=by
  intro pins s σ H Q I hq
  refine wpAny_List_spliced (thn (h pos pins s σ H _ I hq) fun us s1 ⟨xs,H1,I1,r,z,q⟩=>⟨by rw [← r.length];exact z,?_⟩)
  have hf:H1 s1.heap.objs.size=none:=I1.hok.fresh (Nat.le_refl _)
  refine⟨.ref s1.heap.objs.size,upd H1 s1.heap.objs.size (.lst xs),I1.laid (t':=s1.toks) (fun b u e=>Heap.get?_push_of_some _ e) (Nat.le_refl _) ?_,rfl,q _ hf⟩
  exact⟨z,us,0,r,Heap.get?_push_size _ rfl⟩
end
noncomputable abbrev Sp:=List V→Hp→VK→XK→Prop
noncomputable abbrev CXT:=List Env→Hp→Shared→XK→Value→Shared→Prop
structure qG2 (P:Program) (w:World) (K:W.Frag) (mg:Str→Option Value) (base:Heap) (A:Around) (outer:List Env) (s:Shared) (H:Hp):Prop where
  frames:A.frames=some outer
  mod:Mod K mg base
  bs:∀ b o,base.get? b=some o→s.heap.get? b=some o∧H b=none
  bsz:base.objs.size≤s.heap.objs.size
  qFH:s.heap.FunFrames base outer
  frf:∀ b∈frs outer,H b=none
  hok:HOk P w H s.heap
  bare:AllBare s.gens
def CE (outer:List Env) (P:Program) (w:World) (H:Hp) (s:Shared) (Q:VK) (u:Value) (s':Shared):Prop :=
  ∃ v H',s'.os=s.os∧AllBare s'.gens∧Un (frs outer) [] H H' s.heap s'.heap∧HOk P w H' s'.heap∧RelV v u∧Q v H'
def CR (CX:CXT) (outer:List Env) (P:Program) (w:World) (H:Hp) (s:Shared) (Q:VK) (E:XK) (r:Result) (s':Shared):Prop :=
  match r with
  | .ok (.ret u)=>CE outer P w H s Q u s'
  | .ok _=>False
  | .error e=>CX outer H s E e s'
structure qw (P:Program) (w:World) (K:W.Frag) (mg:Str→Option Value) (base:Heap) (CX:CXT) (k:Nat) (f:Addr) (fd:FuncData) (ps:List Str) (sp:Sp):Prop where
  len:∀ vs H Q E,sp vs H Q E→vs.length=ps.length
  run:∀ (A:Around) (outer:List Env) (s:Shared) (H:Hp) (args:Args) (us:List Value) (vs:List V) (Q:VK) (E:XK),qAt k A→qG2 P w K mg base A outer s H→BindsTo s fd args (ps.zip us)→Vals vs us→sp vs H Q E →
    codeAny (model P w) A (.call (.ref f) args) (CR CX outer P w H s Q E) s
theorem qG2.make {P:Program} {w:World} {K:W.Frag} {mg:Str→Option Value} {base:Heap} {A:Around} {outer:List Env} {s:Shared} {H:Hp} (e:qG2 P w K mg base A outer s H) (C:Addr) (us:List Value) (kw:List (Str×Value)) :
    qG2 P w K mg base (A.under (.builtin "type.__call__" ⟨.ref C::us,kw⟩)) outer s H:=⟨by first | exact e.frames | (simpa [Around.under,Code.envs,Code.isFrame,pushEnvs] using e.frames),e.mod,e.bs,e.bsz,e.qFH,e.frf,e.hok,e.bare⟩
theorem qG2.in1 {P:Program} {w:World} {K:W.Frag} {mg:Str→Option Value} {base:Heap} {A:Around} {outer:List Env} {s:Shared} {H:Hp} (e:qG2 P w K mg base A outer s H) :
    qG2 P w K mg base A.in1 outer s H:=⟨e.frames,e.mod,e.bs,e.bsz,e.qFH,e.frf,e.hok,e.bare⟩
section
variable {X:Cx} {pins:List (Addr×Obj)} {σ:St} {H:Hp} {s s':Shared}
theorem Inv.qTc (I:Inv X pins σ H s):qG2 X.prog X.w X.K X.mg X.base X.A X.stack s H :=
  ⟨I.ok.frames,I.ok.mod,I.bs,Nat.le_trans I.ok.bsz I.sz,I.stack,I.qKj,I.hok,I.bare⟩
theorem Inv.after {Q:VK} {u:Value} (I:Inv X pins σ H s) (h:CE X.stack X.prog X.w H s Q u s'):EP X pins σ Q u s':=by
  obtain⟨v,H',os,bare,un,hok,r,q⟩:=h
  obtain⟨hh,g,d,t,os'⟩:=s'
  obtain rfl:os'=s.os:=os
  exact⟨v,H',I.call (h':=hh) (g':=g) (d':=d) (t':=t) (ch:=[]) un hok bare (fun b z=>absurd z (by simp)),r,q⟩
end
noncomputable def qTn (sp:Sp) (dvs:List V) (E:XK) (t:TA):TE:=fun σ H Q=>t σ H fun vs H1=>sp (vs++dvs) H1 Q E
noncomputable def qP5 (C:Addr) (m:Str) (sp:Sp) (dvs:List V) (E:XK) (ta:TE) (t:TA):TE:=fun σ H Q=>ta σ H fun x H1=>∃ a dx fs,x = .ref a∧H1 a=some (.ins C dx fs)∧fs.lookup m=none ∧
  t σ H1 fun vs H2=>sp (x::(vs++dvs)) H2 Q E
noncomputable def qP6 (K:W.Frag) (C:Addr) (sp:Sp) (dvs:List V) (E:XK) (t:TA):TE:=fun σ H Q=>t σ H fun vs H1=>∀ x dx,H1 x=none→H1 dx=none→dx≠x→K.lookup x=none →
  sp (.ref x::(vs++dvs)) (upd (upd H1 dx (.own x)) x (.ins C dx [])) (fun v H2=>v = .non∧Q (.ref x) H2) E
def Binds (K:W.Frag) (fd:FuncData) (ps:List Str) (ds:List Value):Prop :=
  ∀ (s:Shared) (us:List Value),K.In s.heap→(us++ds).length=ps.length→BindsTo s fd ⟨us,[]⟩ (ps.zip (us++ds))
theorem Binds.all {K:W.Frag} {fd:FuncData} {ps:List Str} (h:∀ us:List Value,us.length=ps.length→bindArgs fd ⟨us,[]⟩=pure (ps.zip us)):Binds K fd ps []:=fun s us _ hl=>by
  rw [List.append_nil] at hl ⊢
  exact .of_eq (h us hl)
def Passes (CX:CXT) (X:Cx) (E:XK):Prop:=∀ (pins:List (Addr×Obj)) (σ:St) (H:Hp) (s:Shared) (e:Value) (s':Shared),Inv X pins σ H s→CX X.stack H s E e s'→X.xe e s'
section
variable {X:Cx} {CX:CXT} {k:Nat} {f C:Addr} {fd:FuncData} {ps:List Str} {sp:Sp} {dvs:List V} {ds:List Value} {E:XK} {x m:Str} {p pos apos:Pos} {e o:Expr} {es:List Expr} {ta:TE} {t:TA}
theorem qOI {pins:List (Addr×Obj)} {σ:St} {H:Hp} {s:Shared} {Q:VK} {us:List Value} {vs:List V} (F:qw X.prog X.w X.K X.mg X.base CX k f fd ps sp) (hr:qAt k X.A) (hb:Binds X.K fd ps ds) (hd:Vals dvs ds) (hx:Passes CX X E)
    (I:Inv X pins σ H s) (r:Vals vs us) (h:sp (vs++dvs) H Q E):wpAny (model X.prog X.w) X.A (call (.ref f) us) (EP X pins σ Q) X.xe s:=by
  have r2:Vals (vs++dvs) (us++ds):=r.append hd
  have hl:(us++ds).length=ps.length:=by rw [← r2.length];exact F.len _ _ _ _ h
  refine wpAny_call (codeAny_mono (F.run X.A X.stack s H ⟨us,[]⟩ (us++ds) (vs++dvs) Q E hr I.qTc (hb s us I.kIn hl) r2 h) fun r s' hq=>?_)
  cases r with
  | error e=>exact hx pins σ H s e s' I hq
  | ok fl =>
    cases fl with
    | ret u=>exact I.after hq
    | next=>exact False.elim hq
    | brk=>exact False.elim hq
    | cont=>exact False.elim hq
theorem qPn (F:qw X.prog X.w X.K X.mg X.base CX k f fd ps sp) (hr:qAt k X.A) (hg:Gl X x) (hm:X.mg x=some (.ref f)) (hk:W.keepIn X.K (.ref f)=true) (hb:Binds X.K fd ps ds) (hd:Vals dvs ds) (hx:Passes CX X E)
    (ha:PA X (e::es) t) (hdb:(x==("__debug__" : Str))=false:=by decide) (he:starEach (e::es) X.env=(false,eval e X.env)::starEach es X.env:=by rfl) (hpl:(backTo pos (starEach es X.env)).any (·.1)=false:=by rfl) :
    PE X (.Call (.Name x p) (e::es) [] pos) (qTn sp dvs E t):=by
  k_dat 0"r2"
  refine wpAny_Call_Name_kw (qEj I hg hm ?_ hdb)
  refine W.callWith_K (h₀:=X.base) I.ok.mod.kin hk (thn (ha pos pins s σ H _ I h) fun us s1 ⟨vs,H1,I1,r,q⟩=>⟨I1.kIn,?_⟩) he hpl
  exact qOI F hr hb hd hx I1 r q
theorem qPG {pl:Sem Bool} (he:PE X o ta) (c:Cls X.K C) (hm:Meth X.K C m f) (F:qw X.prog X.w X.K X.mg X.base CX k f fd ps sp) (hr:qAt k X.A) (hb:Binds X.K fd ps ds) (hd:Vals dvs ds) (hx:Passes CX X E) (ha:PA X (e::es) t)
    (hst:starEach (e::es) X.env=(false,eval e X.env)::starEach es X.env:=by rfl) (hpl:(backTo pos (starEach es X.env)).any (·.1)=false:=by rfl)
    (ht:eval (.Call (.Attribute o m apos) (e::es) [] pos) X.env=(do
      let ov ← eval o X.env
      standAt apos.atName
      let (f,first) ← holding [ov] (getMethod ov m pl)
      callWith pos f first (backTo pos (starEach (e::es) X.env)) (backToKw pos (keywordEach [] X.env))):=by rfl) :
    PE X (.Call (.Attribute o m apos) (e::es) [] pos) (qP5 C m sp dvs E ta t):=by
  k_dat 0"r2"
  refine W.methodCall_KW (pl:=pl) (thn (he pins s σ H _ I h) fun u s1 ⟨x,H1,I1,rx,a,dx,fs,ex,ea,l,q⟩=>?_) ht
  subst ex
  obtain rfl:u=Value.ref a:=rx
  refine qKZ I1 ea c hm l ?_
  refine W.callWith_K (first:=[.ref a]) (h₀:=X.base) I.ok.mod.kin hm.kp (thn (ha pos pins s1 σ H1 _ I1 q) fun us s2 ⟨vs,H2,I2,r,q2⟩=>⟨I2.kIn,?_⟩) hst hpl
  exact qOI (us:=.ref a::us) (vs:=.ref a::vs) F hr hb hd hx I2 (.cons rfl r) q2
structure Mk (K:W.Frag) (C f:Addr):Prop where
  makes:W.makesIn K C=true
  init:W.findIn K (.ref C) "__init__" = some (some (.ref f))
  fn:W.isFn K (.ref f)=true
  kp:W.keepIn K (.ref C)=true
theorem qMk {pins:List (Addr×Obj)} {σ:St} {H:Hp} {s:Shared} {Q:VK} {us:List Value} {vs:List V} (M:Mk X.K C f) (F:qw X.prog X.w X.K X.mg X.base CX k f fd ps sp) (hr:qAt (k+1) X.A) (hb:Binds X.K fd ps ds) (hd:Vals dvs ds)
    (hx:Passes CX X E) (I:Inv X pins σ H s) (r:Vals vs us)
    (h:∀ x dx,H x=none→H dx=none→dx≠x→X.K.lookup x=none→sp (.ref x::(vs++dvs)) (upd (upd H dx (.own x)) x (.ins C dx [])) (fun v H2=>v = .non∧Q (.ref x) H2) E) :
    wpAny (model X.prog X.w) X.A (call (.ref C) us) (EP X pins σ Q) X.xe s:=by
  have hq:=h (s.heap.objs.size+1) s.heap.objs.size (I.hok.fresh (Nat.le_succ _)) (I.hok.fresh (Nat.le_refl _)) (Nat.ne_of_lt (Nat.lt_succ_self _)) (by cases e:X.K.lookup (s.heap.objs.size+1) with | none=>rfl | some o=>exact absurd (Heap.lt_size (I.kIn _ o e)) (Nat.not_lt.mpr (Nat.le_succ _)))
  have I2:=Inv.made (C:=C) I
  have r2:Vals (V.ref (s.heap.objs.size+1)::(vs++dvs)) (Value.ref (s.heap.objs.size+1)::(us++ds)):=.cons rfl (r.append hd)
  have hl:(Value.ref (s.heap.objs.size+1)::us++ds).length=ps.length:=by
    have e:=r2.length
    rw [F.len _ _ _ _ hq] at e
    exact e.symm
  refine wpAny_call (qNw (f:=f) I.kIn M.makes M.init (beq_iff_eq.mp M.fn) (codeAny_mono (F.run _ X.stack _ _ ⟨Value.ref (s.heap.objs.size+1)::us,[]⟩ (Value.ref (s.heap.objs.size+1)::(us++ds)) _ _ E (hr.make C us [])
    (I2.qTc.make C us []) (hb _ (Value.ref (s.heap.objs.size+1)::us) I2.kIn hl) r2 hq) fun r s' hq'=>?_))
  cases r with
  | error e=>exact hx pins σ _ _ e s' I2 hq'
  | ok fl =>
    cases fl with
    | ret u =>
      obtain⟨v,H',I3,rv,ev,q3⟩:=I2.after hq'
      subst ev
      exact⟨rv,⟨V.ref (s.heap.objs.size+1),H',I3,rfl,q3⟩⟩
    | next=>exact False.elim hq'
    | brk=>exact False.elim hq'
    | cont=>exact False.elim hq'
theorem qPL (M:Mk X.K C f) (F:qw X.prog X.w X.K X.mg X.base CX k f fd ps sp) (hr:qAt (k+1) X.A) (hg:Gl X x) (hm:X.mg x=some (.ref C)) (hb:Binds X.K fd ps ds) (hd:Vals dvs ds) (hx:Passes CX X E)
    (ha:PA X (e::es) t) (hdb:(x==("__debug__" : Str))=false:=by decide) (he:starEach (e::es) X.env=(false,eval e X.env)::starEach es X.env:=by rfl) (hpl:(backTo pos (starEach es X.env)).any (·.1)=false:=by rfl) :
    PE X (.Call (.Name x p) (e::es) [] pos) (qP6 X.K C sp dvs E t):=by
  k_dat 0"r2"
  refine wpAny_Call_Name_kw (qEj I hg hm ?_ hdb)
  refine W.callWith_K (h₀:=X.base) I.ok.mod.kin M.kp (thn (ha pos pins s σ H _ I h) fun us s1 ⟨vs,H1,I1,r,q⟩=>⟨I1.kIn,?_⟩) he hpl
  exact qMk M F hr hb hd hx I1 r q
end
def PK (X:Cx) (kws:List Keyword) (t:TA):Prop :=
  ∀ (pos:Pos) (pins:List (Addr×Obj)) (s:Shared) (σ:St) (H:Hp) (Q:List V→Hp→Prop),Inv X pins σ H s→t σ H Q→wpAny (model X.prog X.w) X.A (evalAll ((backToKw pos (keywordEach kws X.env)).map (·.2))) (AP X pins σ Q) X.xe s
section
variable {X:Cx} {CX:CXT} {k:Nat} {f C:Addr} {fd:FuncData} {ps ks:List Str} {sp:Sp} {E:XK} {x m:Str} {p pos apos kpos:Pos} {e o:Expr} {es:List Expr} {kws:List Keyword} {te ta:TE} {t tk:TA} {nm:Option Str}
theorem qRh:PK X [] qTB:=fun _ _ _ _ H Q I h=>wpAny_evalAll_nil ⟨[],H,I,.nil,h⟩
theorem qPp (ha:PE X e te) (hr:PK X kws t):PK X (⟨nm,e,kpos⟩::kws) (qP2 te t):=by
  intro pos pins s σ H Q I h
  show wpAny _ _ (evalAll ((do let v ← eval e X.env;standAt pos;pure v)::(backToKw pos (keywordEach kws X.env)).map (·.2))) _ _ s
  refine wpAny_evalAll_cons (wpAny_bind (thn (ha pins s σ H _ I h) fun u s1 ⟨x,H1,I1,r1,q1⟩=>wpAny_bind (wpAny_standAt (wpAny_pure ?_))))
  k_dat 0"r90"
variable {g:List Value→List Value→List Value} {gV:List V→List V→List V}
end
structure qT (N P:List Str) (sc:Scope):Prop where
  kind:sc.kind = .function
  co:sc.isCoroutine=false
  gen:sc.isGenerator=false
  nd:N.Nodup
  pre:N.take P.length=P
  par:∀ x∈P,sc.names.lookup x=some .local∨sc.names.lookup x=some .cell
  nofree:∀ y∈sc.names,y.2≠.free
theorem qHX {kindOf:Str→Option NameKind} {x:Str}:∀ {binds:List (Str×Value)} {m:Str→Option Value},(∀ v,(x,v) ∉ binds)→bindL kindOf binds m x=m x
  | [],_,_=>rfl
  | (n,v)::r,m,h=>by
    unfold bindL
    rw [qHX fun w hw=>h w (List.mem_cons_of_mem _ hw)]
    split
    · have:x≠n:=by rintro rfl;exact h v List.mem_cons_self
      simp [this]
    · rfl
theorem qHW {kindOf:Str→Option NameKind} {x:Str}:∀ {binds:List (Str×Value)} {m:Str→Option Value},(∀ v,(x,v) ∉ binds)→bindC kindOf binds m x=m x
  | [],_,_=>rfl
  | (n,v)::r,m,h=>by
    unfold bindC
    rw [qHW fun w hw=>h w (List.mem_cons_of_mem _ hw)]
    split
    · rfl
    · have:x≠n:=by rintro rfl;exact h v List.mem_cons_self
      simp [this]
theorem qHg {kindOf:Str→Option NameKind} {x:Str} {v:Value}:∀ {P:List Str} {vs:List Value} {i:Nat} {m:Str→Option Value},P.Nodup→P[i]? = some x→vs[i]? = some v→kindOf x=some .local →
    bindL kindOf (P.zip vs) m x=some v
  | [],_,_,_,_,h,_,_=>by simp at h
  | _::_,[],_,_,_,_,h,_=>by simp at h
  | p::P,w::vs,0,m,nd,h1,h2,hk=>by
    simp at h1 h2;subst h1;subst h2
    show bindL kindOf ((p,w)::P.zip vs) m p=_
    unfold bindL
    rw [qHX fun v hv=>(List.nodup_cons.mp nd).1 (List.of_mem_zip hv).1,if_pos hk]
    simp
  | p::P,w::vs,i+1,m,nd,h1,h2,hk=>by
    show bindL kindOf ((p,w)::P.zip vs) m x=_
    unfold bindL
    exact qHg (i:=i) (List.nodup_cons.mp nd).2 (by simpa using h1) (by simpa using h2) hk
theorem qHK {kindOf:Str→Option NameKind} {x:Str} {v:Value}:∀ {P:List Str} {vs:List Value} {i:Nat} {m:Str→Option Value},P.Nodup→P[i]? = some x→vs[i]? = some v→kindOf x≠some .local →
    bindC kindOf (P.zip vs) m x=some v
  | [],_,_,_,_,h,_,_=>by simp at h
  | _::_,[],_,_,_,_,h,_=>by simp at h
  | p::P,w::vs,0,m,nd,h1,h2,hk=>by
    simp at h1 h2;subst h1;subst h2
    show bindC kindOf ((p,w)::P.zip vs) m p=_
    unfold bindC
    rw [qHW fun v hv=>(List.nodup_cons.mp nd).1 (List.of_mem_zip hv).1,if_neg hk]
    simp
  | p::P,w::vs,i+1,m,nd,h1,h2,hk=>by
    show bindC kindOf ((p,w)::P.zip vs) m x=_
    unfold bindC
    exact qHK (i:=i) (List.nodup_cons.mp nd).2 (by simpa using h1) (by simpa using h2) hk
noncomputable def start (N:List Str) (vs:List V):St:=vs.map some++List.replicate (N.length - vs.length) none
noncomputable def qKQ (CX:CXT) (P:Program) (w:World) (K:W.Frag) (mg:Str→Option Value) (base:Heap) (N:List Str) (qual:Str) (scope:Scope) (f:Addr) (cd:Value) (A:Around) (outer:List Env) (s:Shared) (H:Hp) (E:XK):Cx where
  prog:=P
  w:=w
  K:=K
  mg:=mg
  base:=base
  A:=A.deeper (envOfC qual scope s.heap.objs.size f cd)
  N:=N
  s₀:=s
  H₀:=H
  env:=envOfC qual scope s.heap.objs.size f cd
  outer:=outer
  stack:=envOfC qual scope s.heap.objs.size f cd::outer
  ex:=[]
  calm:=true
  fn:=fun _=>true
  pn:=[]
  xe:=fun e s'=>wpAny (model P w) (A.deeper (envOfC qual scope s.heap.objs.size f cd)) (leaving (envOfC qual scope s.heap.objs.size f cd) e) (fun _ s''=>CX outer H s E e s'') (fun e' s''=>CX outer H s E e' s'') s'
theorem qJY {sc:Scope} {n:Nat} {x:Str} (h:sc.names.lookup x=some .cell):∃ c,(cellsFrom n sc.names []).lookup x=some c:=by
  have q:=W.cellsFrom_some sc.names n [] (.inl h)
  exact Option.isSome_iff_exists.mp q
theorem qLi {CX:CXT} {P:Program} {w:World} {K:W.Frag} {mg:Str→Option Value} {base:Heap} {N ps:List Str} {qual:Str} {scope:Scope} {f:Addr} {cd:Value} {A:Around} {outer:List Env} {s s1:Shared} {H:Hp} {E:XK} {us:List Value} {vs:List V}
    (S:qT N ps scope) (hd:A.handled=none) (e0:qG2 P w K mg base A outer s H) (hl:vs.length=ps.length) (r:Vals vs us)
    (x:InCallC s s.heap.objs.size (bindL (envOfC qual scope s.heap.objs.size f cd).kindOf (ps.zip us) fun _=>none) (cellsFrom (s.heap.objs.size+1) scope.names []) (bindC (envOfC qual scope s.heap.objs.size f cd).kindOf (ps.zip us) fun _=>none) s1) :
    Inv (qKQ CX P w K mg base N qual scope f cd A outer s H E) [] (start N vs) H s1:=by
  have hpl:ps.length≤N.length:=by have:=congrArg List.length S.pre;rw [List.length_take] at this;omega
  obtain⟨h1,tk,rfl,hk⟩:=x.done
  have noA:∀ b:Addr,b ∉ (qKQ CX P w K mg base N qual scope f cd A outer s H E).ex:=fun b z=>absurd (show b∈([]:List Addr) from z) (by simp)
  refine⟨⟨e0.mod,S.kind,rfl,rfl,Nat.le_refl _,fun y z c h1 h2=>?_,fun y hy=>?_,fun y c _ h=>?_,fun _=>hd,Around.frames_deeper e0.frames,.inr ⟨rfl,rfl⟩,fun b z=>absurd z (noA b),e0.bs,e0.bsz,fun b _ _=>noA b,fun b z=>absurd z (noA b),e0.qFH,e0.frf⟩,
    rfl,e0.bare,Un.kept hk,⟨_,x.toInCall.ns,fun i y v h1 h2 h3=>?_⟩,fun y c h=>⟨_,x.cell y c h⟩,e0.hok.fresh (Nat.le_refl _),fun y c h=>?_,fun p hp=>absurd (show p∈([]:List (Addr×Obj)) from hp) (by simp),e0.hok.kept hk,?_⟩
  · exact name_of_addr x.apart (PySem.mem_of_lookup h1) (PySem.mem_of_lookup h2)
  · have hy:scope.names.lookup y=some .cell∨scope.names.lookup y=some .free:=hy
    rcases hy with hy | hy
    · exact qJY hy
    · exact absurd rfl (S.nofree _ (PySem.mem_of_lookup hy))
  · exact Nat.le_of_lt (x.above y c (PySem.mem_of_lookup h))
  · have hi:i<vs.length:=by
      unfold start at h2
      by_cases hi:i<vs.length
      · exact hi
      · rw [List.getElem?_append_right (by simpa using hi)] at h2
        rw [List.getElem?_replicate] at h2
        split at h2<;>cases h2
    have ha:vs[i]? = some v:=by
      unfold start at h2
      rw [List.getElem?_append_left (by simpa using hi),List.getElem?_map] at h2
      cases e:vs[i]? with
      | none=>rw [e] at h2;cases h2
      | some a=>rw [e] at h2;cases h2;rfl
    obtain⟨u,hu,rv⟩:=r.get ha
    have hp:ps[i]? = some y:=by
      rw [← S.pre,List.getElem?_take_of_lt (by omega)];exact h1
    have ndP:ps.Nodup:=by rw [← S.pre];exact S.nd.sublist (List.take_sublist _ _)
    refine⟨u,rv,?_⟩
    rcases S.par y (List.mem_of_getElem? hp) with k | k
    · exact .inl ⟨k,qHg ndP hp hu k⟩
    · obtain⟨c,e⟩:=qJY (n:=s.heap.objs.size+1) k
      refine .inr ⟨.inl k,c,e,?_⟩
      have q:=x.cell y c e
      rw [qHK ndP hp hu (by show scope.names.lookup y≠_;rw [k];decide)] at q
      exact q
  · exact e0.hok.fresh (Nat.le_of_lt (x.above y c (PySem.mem_of_lookup h)))
  · unfold start
    show _=N.length
    rw [List.length_append,List.length_map,List.length_replicate]
    omega
theorem qTM {CX:CXT} {P:Program} {w:World} {K:W.Frag} {mg:Str→Option Value} {base:Heap} {k:Nat} {f:Addr} {name qual:Str} {params:Arguments} {body:List Stmt} {scope:Scope} {dV kV doc pm cdv ct oc:Value} {an od:Option Addr}
    {osl:Array (Option Value)} {N ps:List Str} {sp:Sp} (lk:K.lookup f=some ⟨oc,od,.func (W.fnOf name qual params body scope dV kV doc pm an cdv ct),osl⟩) (hcd:W.codeIn K cdv qual=true) (S:qT N ps scope)
    (len:∀ vs H Q E,sp vs H Q E→vs.length=ps.length)
    (hbody:∀ (A:Around) (outer:List Env) (s:Shared) (H:Hp) (vs:List V) (Q:VK) (E:XK),qAt k (A.deeper (envOfC qual scope s.heap.objs.size f cdv))→sp vs H Q E →
      ∃ t,PSs (qKQ CX P w K mg base N qual scope f cdv A outer s H E) body t∧t { nx:=fun _ H'=>Q .non H',rt:=Q } (start N vs) H) :
    qw P w K mg base CX (k+1) f (W.fnOf name qual params body scope dV kV doc pm an cdv ct) ps sp:=by
  refine⟨len,fun A outer s H args us vs Q E hr e0 hb r hsp=>?_⟩
  have hl:=len _ _ _ _ hsp
  have KX:K.In s.heap:=e0.mod.kin.keeps fun b o e=>(e0.bs b o e).1
  have lim:s.heap.NoLimit:=e0.mod.nolimit.keeps fun b o e=>(e0.bs b o e).1
  have hkind:∀ y∈ps.zip us,scope.names.lookup y.1=some .local∨(scope.names.lookup y.1=some .cell∧((cellsFrom (s.heap.objs.size+1) scope.names []).lookup y.1).isSome=true):=fun ⟨n,v⟩ hy=>by
    rcases S.par n (List.of_mem_zip hy).1 with q | q
    · exact .inl q
    · exact .inr ⟨q,W.cellsFrom_some _ _ _ (.inl q)⟩
  refine codeAny_call_function hr.depth (KX _ _ lk) rfl S.co S.gen rfl (W.codeRec_of KX hcd) (hb _ _ _ _ ?_)
  refine wpAny_newFunctionEnv_cells S.kind hkind fun env he s1 x=>?_
  subst he
  refine⟨lim.keeps x.toInCall.keep,codeAny_func ?_⟩
  obtain⟨t,ht,hq⟩:=hbody A outer s H vs Q E (hr.deeper _) hsp
  have I:Inv (qKQ CX P w K mg base N qual scope f cdv A outer s H E) [] (start N vs) H s1:=qLi S hr.hd e0 hl r x
  refine wpAny_mono (ht [] s1 (start N vs) H _ I hq) (fun fl s' hs=>?_) fun e s' hs=>hs
  have fin:∀ {σ':St} {H':Hp} {v:V} {u:Value},Inv (qKQ CX P w K mg base N qual scope f cdv A outer s H E) [] σ' H' s'→RelV v u→Q v H'→CE outer P w H s Q u s' :=
    fun {σ' H' v u} J rv q=>⟨v,H',J.os,J.bare,J.base,J.hok,rv,q⟩
  cases fl with
  | ret u =>
    obtain⟨v,σ',H',J,rv,q⟩:=hs
    exact fin J rv q
  | next =>
    obtain⟨σ',H',J,q⟩:=hs
    exact fin (v:=V.non) (u:=Value.none) J rfl q
  | brk =>
    obtain⟨_,_,_,q⟩:=hs
    exact False.elim q
  | cont =>
    obtain⟨_,_,_,q⟩:=hs
    exact False.elim q
end L2
namespace L2
open PySem PySem.Spec PyProof.Rows
section
variable {X:Cx} {x:Str} {p pos:Pos} {e:Expr} {es:List Expr} {t:TA} {id T:String} {r:List V→Hp→VK→Prop}
noncomputable def tCB (r:List V→Hp→VK→Prop) (t:TA):TE:=fun σ H Q=>t σ H fun vs H1=>r vs H1 Q
theorem qOP (hc:qGA X (.builtin id) r) (hg:Gl X x) (hm:X.mg x=none) (hv:bootBuiltins x=some (.builtin id)) (ha:PA X (e::es) t) (hn:x ≠ "__name__":=by decide) (hdb:(x==("__debug__" : Str))=false:=by decide)
    (he:starEach (e::es) X.env=(false,eval e X.env)::starEach es X.env:=by rfl) (hpl:(backTo pos (starEach es X.env)).any (·.1)=false:=by rfl):PE X (.Call (.Name x p) (e::es) [] pos) (tCB r t):=by
  k_dat 0"r2"
  refine wpAny_Call_Name_kw (qEw I hg hm hv ?_ hn hdb)
  exact PyProof.Rows.callWith_builtin1 (thn (ha pos pins s σ H _ I h) fun us s1 ⟨vs,H1,I1,r1,q1⟩=>hc pins s1 σ H1 vs us Q I1 r1 q1) he hpl
theorem qLX (hc:qGA X (.type T) r) (hg:Gl X x) (hm:X.mg x=none) (hv:bootBuiltins x=some (.type T)) (ha:PA X (e::es) t) (hn:x ≠ "__name__":=by decide) (hdb:(x==("__debug__" : Str))=false:=by decide)
    (he:starEach (e::es) X.env=(false,eval e X.env)::starEach es X.env:=by rfl) (hpl:(backTo pos (starEach es X.env)).any (·.1)=false:=by rfl):PE X (.Call (.Name x p) (e::es) [] pos) (tCB r t):=by
  k_dat 0"r2"
  refine wpAny_Call_Name_kw (qEw I hg hm hv ?_ hn hdb)
  exact PyProof.Rows.callWith_type1 (thn (ha pos pins s σ H _ I h) fun us s1 ⟨vs,H1,I1,r1,q1⟩=>hc pins s1 σ H1 vs us Q I1 r1 q1) he hpl
end
end L2
namespace HT
open PySem PyProof.Rows
section
variable {prog:Program} {w:World} {A:Around} {E:Value→Shared→Prop} {s:Shared}
theorem qO3 {t b:Addr} {vs ws:List Value} {Q:Value→Shared→Prop} (ht:IsTup s.heap t vs.toArray) (hb:IsTup s.heap b ws.toArray) (hv:vs≠[])
    (h1:ws=[]→Q (.ref t) s) (h2:ws≠[]→Q (.ref s.heap.objs.size) { s with heap:=s.heap.push { cls:=.type "tuple",data:=.seq (vs++ws).toArray } })
    (hsz:vs.length+ws.length≤sizeLine):wpAny (model prog w) A (binaryOp .Add (.ref t) (.ref b)) Q E s:=by
  obtain⟨⟨cls,dd,data,sl⟩,ho,hc,n,hd⟩:=id ht
  obtain⟨⟨cls2,dd2,data2,sl2⟩,ho2,hc2,n2,hd2⟩:=id hb
  simp only at hc hd hc2 hd2
  subst hc hd hc2 hd2
  have e:vs.toArray++ws.toArray=(vs++ws).toArray:=by simp
  by_cases hw:ws=[]
  · exact concat_meets ⟨_,ho,rfl⟩ ⟨_,ho2,rfl⟩ noFill_tuple_add seq_tuple_add PySem.F.slot_tuple_add PySem.F.entry_tuple_add (PySem.F.args_tuple_add_2 _ _)
      (tuple_addW1 t b vs.toArray ws.toArray n n2 dd dd2 sl sl2 (by simpa using hv) (by simp [hw])) ⟨ho,ho2,h1 hw⟩
  · refine concat_meets ⟨_,ho,rfl⟩ ⟨_,ho2,rfl⟩ noFill_tuple_add seq_tuple_add PySem.F.slot_tuple_add PySem.F.entry_tuple_add (PySem.F.args_tuple_add_2 _ _)
      (tuple_addW2 t b vs.toArray ws.toArray n n2 dd dd2 sl sl2 (by simpa using hv) (by simpa using hw) (by rw [List.size_toArray,List.size_toArray];exact hsz)) ⟨ho,ho2,?_⟩
    rw [e]
    exact h2 hw
noncomputable def sIx (n d:Nat):Option Int→Nat
  | none=>d
  | some v=>if v<0 then (v+(n:Int)).toNat else min v.toNat n
theorem qGH (n d:Nat):sIx n d none=d:=rfl
theorem qEU (n d k:Nat):sIx n d (some (k:Int))=min k n:=by
  show (if (k:Int)<0 then ((k:Int)+(n:Int)).toNat else min (k:Int).toNat n)=min k n
  rw [if_neg (by omega),Int.toNat_natCast]
theorem qQj (n d:Nat) (hd:d≤n) (o:Option Int):sIx n d o≤n:=by
  cases o with
  | none=>exact hd
  | some v =>
    show (if v<0 then (v+(n:Int)).toNat else min v.toNat n)≤n
    by_cases hv:v<0
    · rw [if_pos hv];omega
    · rw [if_neg hv];exact Nat.min_le_right _ _
theorem qLI (v:Int) (n d:Nat):(if v<0 then max (v+(n:Int)) 0 else min v (n:Int))=((sIx n d (some v):Nat):Int):=by
  show (if v<0 then max (v+(n:Int)) 0 else min v (n:Int))=(((if v<0 then (v+(n:Int)).toNat else min v.toNat n):Nat):Int)
  by_cases hv:v<0
  · simp only [if_pos hv];omega
  · simp only [if_neg hv];omega
theorem qJs (lo hi:Option Int) (n:Nat):Builtin.Slice.sliceAdjust lo hi 1 (n:Int)=(((sIx n 0 lo:Nat):Int),((sIx n n hi:Nat):Int)):=by
  have h1:¬ ((1:Int)<0):=by omega
  unfold Builtin.Slice.sliceAdjust
  simp only [h1,if_false]
  refine Prod.ext ?_ ?_
  · cases lo with
    | none=>rfl
    | some v=>exact qLI v n 0
  · cases hi with
    | none=>rfl
    | some v=>exact qLI v n n
theorem qJ5 (i j:Nat):Builtin.Slice.slicePlaces (i:Int) (j:Int) 1=j - i:=by
  unfold Builtin.Slice.slicePlaces
  have h1:(1:Int) > 0:=by omega
  simp only [h1,if_true,Int.ediv_one]
  split<;>omega
theorem qGc {v:Value} {o:Option Int} {Q:Option Int→Shared→Prop} (p:IsPart v o) (h:Q o s):wpAny (model prog w) A (Builtin.Slice.slicePartIndex v) Q E s:=by
  cases p with
  | none=>exact slicePart_none h
  | int i t=>exact slicePart_int h
theorem qCe {sl:Addr} {vl vu:Value} {lo hi:Option Int} {n:Nat} {Q:Int×Int×Nat→Shared→Prop} (hs:s.heap.IsSliceOf sl vl vu .none) (pl:IsPart vl lo) (pu:IsPart vu hi)
    (h:Q (((sIx n 0 lo:Nat):Int),1,sIx n n hi - sIx n 0 lo) s):wpAny (model prog w) A (Builtin.Slice.sliceApplied (.ref sl) (pure (n:Int))) Q E s:=by
  obtain⟨os,hos,hcs,hds⟩:=id hs
  unfold Builtin.Slice.sliceApplied Builtin.Slice.sliceFields
  refine wpAny_bind (wpAny_bind (wpAny_field hos hds (x:=vl) rfl (wpAny_bind (wpAny_field hos hds (x:=vu) rfl (wpAny_bind (wpAny_field hos hds (x:=.none) rfl (wpAny_pure ?_)))))))
  refine wpAny_bind (slicePart_none ?_)
  show wpAny _ _ (if ((1:Int)==0)=true then _ else _) _ _ s
  rw [if_neg (by decide)]
  refine wpAny_bind (qGc pl (wpAny_bind (qGc pu (wpAny_bind (wpAny_pure ?_)))))
  show wpAny _ _ (match Builtin.Slice.sliceAdjust lo hi 1 (n:Int) with | (lo,hi)=>pure (lo,(1:Int),Builtin.Slice.slicePlaces lo hi 1)) _ _ s
  rw [qJs lo hi n]
  show wpAny _ _ (pure (((sIx n 0 lo:Nat):Int),(1:Int),Builtin.Slice.slicePlaces ((sIx n 0 lo:Nat):Int) ((sIx n n hi:Nat):Int) 1)) _ _ s
  rw [qJ5]
  exact wpAny_pure h
theorem qNj (xs:Array Value) (i k:Nat):((List.range k).filterMap fun (m:Nat)=>xs[((i:Int)+(m:Int) * 1).toNat]?).toArray=((xs.toList.drop i).take k).toArray:=by
  have e:(fun (m:Nat)=>xs[((i:Int)+(m:Int) * 1).toNat]?)=fun m=>xs[i+m]?:=by
    funext m
    have:((i:Int)+(m:Int) * 1).toNat=i+m:=by omega
    rw [this]
  rw [e]
  have:=pick_run xs i k
  rw [List.filterMap_map] at this
  have e2:((fun x=>xs[x]?) ∘ fun x=>i+x)=fun m=>xs[i+m]?:=rfl
  rw [e2] at this
  rw [this]
theorem qEM {t sl:Addr} {items:Array Value} {vl vu:Value} {lo hi:Option Int} {Q:Value→Shared→Prop} (ht:IsTup s.heap t items) (hs:s.heap.IsSliceOf sl vl vu .none) (pl:IsPart vl lo) (pu:IsPart vu hi)
    (hw:¬ (sIx items.size 0 lo=0∧sIx items.size items.size hi=items.size))
    (h:Q (.ref s.heap.objs.size) { s with heap:=s.heap.push { cls:=.type "tuple",data:=.seq ((items.toList.drop (sIx items.size 0 lo)).take (sIx items.size items.size hi - sIx items.size 0 lo)).toArray } })
    (hsz:items.size≤sizeLine):wpAny (model prog w) A (getItem (.ref t) (.ref sl)) Q E s:=by
  have htake:sizeOk (.seq ((items.toList.drop (sIx items.size 0 lo)).take (sIx items.size items.size hi - sIx items.size 0 lo)).toArray):=by
    show ((items.toList.drop (sIx items.size 0 lo)).take (sIx items.size items.size hi - sIx items.size 0 lo)).toArray.size≤sizeLine
    rw [List.size_toArray,List.length_take,List.length_drop,Array.length_toList]
    omega
  have hj:sIx items.size items.size hi≤items.size:=qQj _ _ (Nat.le_refl _) hi
  obtain⟨os,hos,hcs,hds⟩:=id hs
  have hTs:s.TypeIs (.ref sl) "slice":=⟨os,hos,hcs⟩
  unfold getItem
  try with_reducible refine wpAny_holding ?_
  first | refine wpAny_bind (wpAny_pure ?_) | skip
  refine wpAny_bind (wpAny_sequenceKey ht.typeIs (by decide) ?_)
  refine wpAny_bind (wpAny_callSpecial?_slot (name:=Str.ofString "__getitem__") ht.typeIs PyProof.Rows.slot_tuple_getitem
    (wpAny_call_entry PyProof.Rows.slot_tuple_getitem ht.typeIs entry_tuple_getitem ?_ (args_tuple_getitem _ _)))
  show wpAny _ _ (Builtin.Tuple.tupleItemsOf (.ref t) >>= _) _ _ s
  refine wpAny_bind (tupleItemsOf_ ht ?_)
  refine wpAny_bind (wpAny_typeOf hTs ?_)
  rw [if_pos (by decide)]
  refine wpAny_bind (qCe hs pl pu ?_)
  have hno:¬ ((((sIx items.size 0 lo:Nat):Int)==0&&(1:Int)==1&&(sIx items.size items.size hi - sIx items.size 0 lo)==items.size)=true):=by
    intro q
    rw [Bool.and_eq_true,Bool.and_eq_true] at q
    have q1:((sIx items.size 0 lo:Nat):Int)=0:=eq_of_beq q.1.1
    have q2:sIx items.size items.size hi - sIx items.size 0 lo=items.size:=eq_of_beq q.2
    exact hw ⟨by omega,by omega⟩
  k_dat 0"r91"
  rw [if_neg hno,qNj]
  first
    | exact wpAny_bind (m:=Builtin.Tuple.tupleExact _) (wpAny_newObj_type (wpAny_pure ⟨_,rfl,wpAny_pure h⟩) htake)
    | exact wpAny_bind (m:=Builtin.Tuple.tupleExact _) (wpAny_newObj_type (wpAny_bind (wpAny_pure (wpAny_pure ⟨_,rfl,wpAny_pure h⟩))) htake)
    | exact wpAny_bind (wpAny_bind (m:=Builtin.Tuple.tupleExact _) (wpAny_newObj_type (wpAny_pure (wpAny_pure ⟨_,rfl,wpAny_pure h⟩)) htake))
    | exact wpAny_bind (wpAny_bind (m:=Builtin.Tuple.tupleExact _) (wpAny_newObj_type (wpAny_pure ⟨_,rfl,wpAny_pure h⟩) htake))
end
end HT
namespace L2
open PySem PySem.Spec PyProof.Rows
noncomputable abbrev TO:=St→Hp→(Option Int→Hp→Prop)→Prop
def PO (X:Cx) (e:Option Expr) (t:TO):Prop :=
  ∀ (pins:List (Addr×Obj)) (s:Shared) (σ:St) (H:Hp) (Q:Option Int→Hp→Prop),Inv X pins σ H s→t σ H Q →
    wpAny (model X.prog X.w) X.A (evalPart e X.env) (fun u s'=>∃ o H',Inv X pins σ H' s'∧IsPart u o∧Q o H') X.xe s
noncomputable def qPA:TO:=fun _ H Q=>Q none H
noncomputable def qTb (t:TE):TO:=fun σ H Q=>t σ H fun x H1=>∃ i,x = .int i∧Q (some i) H1
section
variable {X:Cx} {e:Expr} {te:TE} {lo hi:Option Expr} {tl th:TO} {pos p2:Pos}
theorem qPt:PO X none qPA:=by
  k_dat 0"r2"
  rw [evalPart_none]
  exact wpAny_pure ⟨none,H,I,.none,h⟩
theorem qPW (h:PE X e te):PO X (some e) (qTb te):=by
  intro pins s σ H Q I hw
  rw [evalPart_some]
  refine thn (h pins s σ H _ I hw) fun u s1 ⟨x,H1,I1,r1,q1⟩=>?_
  obtain⟨i,rfl,q⟩:=q1
  obtain⟨t,rfl⟩:=r1
  exact⟨some i,H1,I1,.int i t,q⟩
def SlR (X:Cx) (r:V→Option Int→Option Int→Hp→VK→Prop):Prop :=
  ∀ (pins:List (Addr×Obj)) (s:Shared) (σ:St) (H:Hp) (x:V) (v vl vu:Value) (lo hi:Option Int) (sl:Addr) (Q:VK),Inv X pins σ H s→RelV x v→s.heap.IsSliceOf sl vl vu .none→IsPart vl lo→IsPart vu hi→r x lo hi H Q →
    ∃ T id,typeLookup (.type T) "__getitem__" = pure (some (.builtin id))∧s.TypeIs v T∧wpAny (model X.prog X.w) X.A (getItem v (.ref sl)) (EP X pins σ Q) X.xe s
theorem SlR.or {r r':V→Option Int→Option Int→Hp→VK→Prop} (h:SlR X r) (h':SlR X r'):SlR X (fun x lo hi H Q=>r x lo hi H Q∨r' x lo hi H Q):=by
  intro pins s σ H x v vl vu lo hi sl Q I rx hs pl pu q
  rcases q with q | q
  · exact h pins s σ H x v vl vu lo hi sl Q I rx hs pl pu q
  · exact h' pins s σ H x v vl vu lo hi sl Q I rx hs pl pu q
noncomputable def tSl (r:V→Option Int→Option Int→Hp→VK→Prop) (te:TE) (tl th:TO):TE:=fun σ H Q=>te σ H fun x H1=>tl σ H1 fun l H2=>th σ H2 fun u H3=>r x l u H3 Q
theorem qIw {r:V→Option Int→Option Int→Hp→VK→Prop} (hr:SlR X r) (he:PE X e te) (hl:PO X lo tl) (hu:PO X hi th):PE X (.Subscript e (.Slice lo hi none p2) pos) (tSl r te tl th):=by
  k_dat 0"r2"
  refine Subscript_ (thn (he pins s σ H _ I h) fun v s1 ⟨x,H1,I1,r1,q1⟩=>?_)
  refine wpAny_Slice (thn (hl pins s1 σ H1 _ I1 q1) fun vl s2 ⟨l,H2,I2,pl,q2⟩=>thn (hu pins s2 σ H2 _ I2 q2) fun vu s3 ⟨u,H3,I3,pu,q3⟩=>?_)
  rw [evalPart_none]
  refine wpAny_pure ?_
  have I4:Inv X pins σ H3 { s3 with heap:=s3.heap.push { cls:=.type "slice",data:=.fields #[vl,vu,.none] } }:=I3.kept (t':=s3.toks) fun b ob q=>Heap.get?_push_of_some _ q
  obtain⟨T,id,hT,ht,hg⟩:=hr pins { s3 with heap:=s3.heap.push { cls:=.type "slice",data:=.fields #[vl,vu,.none] } } σ H3 x v vl vu l u s3.heap.objs.size Q I4 r1 (Heap.IsSliceOf.new ..) pl pu q3
  show wpAny (model X.prog X.w) X.A (subscriptTail e (.Slice lo hi none p2) v (.ref s3.heap.objs.size)) (EP X pins σ Q) X.xe { s3 with heap:=s3.heap.push { cls:=.type "slice",data:=.fields #[vl,vu,.none] } }
  exact tail_any (ops:=[.ref s3.heap.objs.size,v]) ht hT hg (by with_unfolding_all rfl)
noncomputable def qFi (xs:List V) (lo hi:Option Int):List V:=(xs.drop (HT.sIx xs.length 0 lo)).take (HT.sIx xs.length xs.length hi - HT.sIx xs.length 0 lo)
theorem qFO (xs:List V) (lo hi:Option Int):(qFi xs lo hi).length≤xs.length:=by
  unfold qFi
  rw [List.length_take,List.length_drop]
  omega
noncomputable def qUO (K:W.Frag):V→Option Int→Option Int→Hp→VK→Prop:=fun x lo hi H Q=>∃ a xs,x = .ref a∧SqT K H a xs ∧
  ¬ (HT.sIx xs.length 0 lo=0∧HT.sIx xs.length xs.length hi=xs.length)∧∀ p,H p=none→Q (.ref p) (upd H p (.tup (qFi xs lo hi)))
theorem qOT:SlR X (qUO X.K):=by
  k_dat 0"r70"
  obtain⟨a,xs,rfl,hx,hw,q⟩:=h
  cases rx
  obtain⟨its,r,ht,hz⟩:=I.tuple hx
  have hlen:its.toArray.size=xs.length:=by rw [List.size_toArray];exact r.length.symm
  refine⟨"tuple",_,PyProof.Rows.slot_tuple_getitem.lookup,ht.typeIs,?_⟩
  refine HT.qEM ht hs pl pu (by rw [hlen];exact hw) ?_ (by rw [hlen];exact hz)
  rw [hlen]
  refine⟨.ref s.heap.objs.size,_,I.laid (t':=s.toks) (o:=.tup (qFi xs lo hi)) (fun b ob q=>Heap.get?_push_of_some _ q) (Nat.le_refl _) ?_,rfl,q _ (I.hok.fresh (Nat.le_refl _))⟩
  exact⟨Nat.le_trans (qFO xs lo hi) hz,_,(r.drop (HT.sIx xs.length 0 lo)).take (HT.sIx xs.length xs.length hi - HT.sIx xs.length 0 lo),IsTup.new _ _⟩
theorem Vals.qEL {xs:List V} {us:List Value} (r:Vals xs us):us=[]↔xs=[]:=by
  cases r with
  | nil=>simp
  | cons _ _=>simp
end
end L2
namespace L2
open PySem PySem.Spec PyProof.Rows
noncomputable def ixN (n:Nat) (i:Int):Option Nat:=if 0≤i then (if i<n then some i.toNat else none) else if -(n:Int)≤i then some (i+n).toNat else none
noncomputable def atI {α:Type} (xs:List α) (i:Int):Option α:=(ixN xs.length i).bind fun j=>xs[j]?
theorem qLL {n:Nat} {i:Int} {j:Nat} (h:ixN n i=some j):seqIndex? i n=some j∧j<n∧-(n:Int)≤i∧i<n:=by
  unfold ixN at h
  by_cases h0:0≤i
  · rw [if_pos h0] at h
    by_cases h1:i<n
    · rw [if_pos h1] at h
      have e:i.toNat=j:=Option.some.inj h
      exact⟨by rw [seqIndex_of h0 h1,e],by omega,by omega,h1⟩
    · rw [if_neg h1] at h;cases h
  · rw [if_neg h0] at h
    by_cases h1:-(n:Int)≤i
    · rw [if_pos h1] at h
      have e:(i+n).toNat=j:=Option.some.inj h
      exact⟨by rw [seqIndex_neg (by omega) h1,e],by omega,h1,by omega⟩
    · rw [if_neg h1] at h;cases h
theorem qHl {α:Type} {xs:List α} {i:Int} {v:α} (h:atI xs i=some v):∃ j,seqIndex? i xs.length=some j∧xs[j]? = some v∧j<xs.length∧-(xs.length:Int)≤i∧i<xs.length:=by
  unfold atI at h
  cases e:ixN xs.length i with
  | none=>rw [e] at h;cases h
  | some j =>
    rw [e] at h
    obtain⟨h1,h2,h3,h4⟩:=qLL e
    exact⟨j,h1,h,h2,h3,h4⟩
theorem qAV {α:Type} {xs:List α} {j:Nat} {v:α} (h:xs[j]? = some v):atI xs (j:Int)=some v:=by
  have hj:j<xs.length:=(List.getElem?_eq_some_iff.mp h).1
  have e:ixN xs.length (j:Int)=some j:=by
    unfold ixN
    rw [if_pos (by omega),if_pos (by omega)];simp
  unfold atI;rw [e];exact h
def qK4 (b:Expr):Prop:=∀ o i,subscripted b false o i=operate [o,i] (getItem o i)
def IxR (X:Cx) (r:R2):Prop :=
  ∀ (value slice:Expr) (pins:List (Addr×Obj)) (s:Shared) (σ:St) (H:Hp) (x y:V) (v u:Value) (Q:VK),Inv X pins σ H s→RelV x v→RelV y u→r x y H Q →
    subscripted slice false v u=operate [v,u] (getItem v u)→wpAny (model X.prog X.w) X.A (subscriptTail value slice v u) (EP X pins σ Q) X.xe s
def MtR (X:Cx) (id:String) (r:V→List V→Hp→VK→Prop):Prop :=
  ∀ (pins:List (Addr×Obj)) (s:Shared) (σ:St) (H:Hp) (x:V) (xs:List V) (v:Value) (us:List Value) (Q:VK),Inv X pins σ H s→RelV x v→Vals xs us→r x xs H Q →
    wpAny (model X.prog X.w) X.A (call (.builtin id) (v::us)) (EP X pins σ Q) X.xe s
section
variable {X:Cx} {a b:Expr} {ta tb:TE} {pos:Pos}
theorem IxR.or {r r':R2} (h:IxR X r) (h':IxR X r'):IxR X (fun x y H Q=>r x y H Q∨r' x y H Q):=by
  intro value slice pins s σ H x y v u Q I rx ry q hs
  rcases q with q | q
  · exact h value slice pins s σ H x y v u Q I rx ry q hs
  · exact h' value slice pins s σ H x y v u Q I rx ry q hs
theorem qTA {r:R2} (hr:IxR X r) (ha:PE X a ta) (hb:PE X b tb) (hs:qK4 b):PE X (.Subscript a b pos) (tOp r ta tb):=by
  k_dat 0"r2"
  exact Subscript_ (qRg ha hb I h fun v u s2 x y H2 I2 rx ry q=>hr a b pins s2 σ H2 x y v u Q I2 rx ry q (hs _ _))
noncomputable def qSj (K:W.Frag):R2:=fun x y H Q=>∃ p xs i v,x = .ref p∧y = .int i∧SqL K H p xs∧atI xs i=some v∧Q v H
noncomputable def qS7 (K:W.Frag):R2:=fun x y H Q=>∃ p xs i v,x = .ref p∧y = .int i∧SqT K H p xs∧atI xs i=some v∧Q v H
noncomputable def qTl:R2:=fun x y H Q=>∃ z i c,x = .str z∧y = .int i∧z.length≤sizeLine∧atI z.cps.toList i=some c∧Q (.str ⟨#[c]⟩) H
theorem qOg:IxR X (qSj X.K):=by
  k_dat 0"r71"
  obtain⟨p,xs,i,z,rfl,rfl,hq,he,q⟩:=h
  cases rx
  obtain⟨t,rfl⟩:=ry
  obtain⟨its,r,pl,hz⟩:=I.list hq
  obtain⟨j,h1,h2,h3,h4,h5⟩:=qHl he
  obtain⟨w,ew,rw'⟩:=r.get h2
  have hl:=r.length
  have hn:=qE0
  have fin:EP X pins σ Q w s:=⟨z,H,I,rw',q⟩
  by_cases h0:0≤i
  · have hj:i.toNat=j:=by
      rw [seqIndex_of h0 h5] at h1
      exact Option.some.inj h1
    exact item_listR pl.isList h0 (by omega) (by rw [hj];simpa using ew) fin hs
  · have hj:(i+(its.toArray.size:Int)).toNat=j:=by
      rw [seqIndex_neg (by omega) h4] at h1
      rw [List.size_toArray,← hl]
      exact Option.some.inj h1
    exact subscriptTail_builtinR (x:=w) pl.isList.typeIs slot_list_getitem.lookup
      (wpAny_getItem_list_neg (Q:=fun r s'=>r=w∧EP X pins σ Q r s') pl.isList (by omega) (by rw [List.size_toArray]<;>omega) (by omega) (by rw [hj];simpa using ew) ⟨rfl,fin⟩) hs
theorem qQW:IxR X (qS7 X.K):=by
  k_dat 0"r71"
  obtain⟨p,xs,i,z,rfl,rfl,hq,he,q⟩:=h
  cases rx
  obtain⟨t,rfl⟩:=ry
  obtain⟨its,r,pl,hz⟩:=I.tuple hq
  obtain⟨j,h1,h2,h3,h4,h5⟩:=qHl he
  obtain⟨w,ew,rw'⟩:=r.get h2
  have hl:=r.length
  have hn:=qE0
  have fin:EP X pins σ Q w s:=⟨z,H,I,rw',q⟩
  exact subscriptTail_builtinR (x:=w) pl.typeIs slot_tuple_getitem.lookup
    (getItem_tuple (j:=j) (Q:=fun r s'=>r=w∧EP X pins σ Q r s') pl (by omega) (by omega) (by rw [List.size_toArray,← hl];exact h1) (by simpa using ew) ⟨rfl,fin⟩) hs
theorem qR2:IxR X qTl:=by
  k_dat 0"r71"
  obtain⟨z,i,c,rfl,rfl,hz,he,q⟩:=h
  obtain⟨t,rfl⟩:=rx
  obtain⟨t',rfl⟩:=ry
  obtain⟨j,h1,h2,h3,h4,h5⟩:=qHl he
  have hl:z.cps.toList.length=z.length:=by simp [Str.length]
  rw [hl] at h1 h4 h5
  have hn:=qE0
  exact tail_any (typeIs_str s z t) slot_str_getitem.lookup (getItem_str (c:=c) (by
    have e1:decide (i < -(2 ^ 63:Int))=false:=decide_eq_false (by omega)
    have e2:decide (i ≥ 2 ^ 63)=false:=decide_eq_false (by omega)
    rw [e1,e2,Bool.or_false]) (by rw [h1];simpa using h2) ⟨.str ⟨#[c]⟩,H,I.tok _,⟨_,rfl⟩,q⟩) hs
noncomputable def rIx (K:W.Frag):R2:=fun x y H Q=>qSj K x y H Q∨qS7 K x y H Q∨qTl x y H Q
theorem qOS:IxR X (rIx X.K):=qOg.or (qQW.or qR2)
theorem qJp (its:List Value) (n j:Nat) (u:Value):Obj.mapSeq (·.setIfInBounds j u) { cls:=.type "list",data:=.seq its.toArray n }={ cls:=.type "list",data:=.seq (its.set j u).toArray n }:=by
  simp [Obj.mapSeq]
theorem Inv.lst {pins:List (Addr×Obj)} {σ:St} {H:Hp} {s:Shared} {p:Addr} {xs:List V} (I:Inv X pins σ H s) (h:H p=some (.lst xs)) :
    ∃ (its:List Value) (n:Nat),Vals xs its∧s.heap.get? p=some { cls:=.type "list",data:=.seq its.toArray n }∧xs.length≤sizeLine:=by
  obtain⟨z,its,n,r,e⟩:=I.hok p _ h
  exact⟨its,n,r,e,z⟩
theorem Inv.qRT {pins:List (Addr×Obj)} {σ:St} {H:Hp} {s:Shared} {p:Addr} {xs ys:List V} {its its':List Value} {n n':Nat} {f:Obj→Obj} (I:Inv X pins σ H s) (h:H p=some (.lst xs))
    (ho:s.heap.get? p=some { cls:=.type "list",data:=.seq its.toArray n }) (hf:f { cls:=.type "list",data:=.seq its.toArray n }={ cls:=.type "list",data:=.seq its'.toArray n' }) (r:Vals ys its') (hz:ys.length≤sizeLine) (t:Nat) :
    Inv X pins σ (upd H p (.lst ys)) { s with heap:=s.heap.update p f,toks:=t }:=by
  have e:(s.heap.update p f).get? p=some { cls:=.type "list",data:=.seq its'.toArray n' }:=by
    rw [Heap.get?_update_self f ho (by rw [hf]<;>rfl),hf]
  refine I.write (x:=p) (e:=p) (by rw [h];trivial) (.inl rfl) (fun b u hb q=>(Heap.get?_update_other _ _ (Ne.symm hb)).trans q) ⟨_,e⟩ ?_
  exact⟨hz,its',n',r,e⟩
noncomputable def qSo:V→V→V→Hp→(Hp→Prop)→Prop:=fun o i v H Q=>∃ p xs k j,o = .ref p∧i = .int k∧H p=some (.lst xs)∧ixN xs.length k=some j∧Q (upd H p (.lst (xs.set j v)))
theorem set_list:qTF X qSo:=by
  intro pins s σ H o i v ov iv u Q I ro ri rv h
  obtain⟨p,xs,k,j,rfl,rfl,hp,hj,q⟩:=h
  cases ro
  obtain⟨t,rfl⟩:=ri
  obtain⟨its,n,r,ho,hz⟩:=I.lst hp
  obtain⟨h1,h2,h3,h4⟩:=qLL hj
  have hl:=r.length
  have hn:=qE0
  have I':Inv X pins σ (upd H p (.lst (xs.set j v))) { s with heap:=s.heap.update p (Obj.mapSeq (·.setIfInBounds j u)) } :=
    I.qRT hp ho (qJp its n j u) (r.set rv j) (by rw [List.length_set];exact hz) s.toks
  by_cases h0:0≤k
  · have hk:k.toNat=j:=by
      rw [seqIndex_of h0 h4] at h1
      exact Option.some.inj h1
    exact W.ki_setAt ho h0 (by omega) (by rw [List.size_toArray,← hl];exact h4) (by rw [hk];exact⟨_,I',q⟩)
  · have hk:(k+(its.toArray.size:Int)).toNat=j:=by
      rw [seqIndex_neg (by omega) h3] at h1
      rw [List.size_toArray,← hl]
      exact Option.some.inj h1
    exact W.ki_setBack ho (by omega) (by rw [List.size_toArray,← hl];exact h3) (by omega) (by rw [hk];exact⟨_,I',q⟩)
theorem qIQ (lo hi:Option Int) (n:Nat):(sliceBounds lo hi none n).1=((HT.sIx n 0 lo:Nat):Int)∧(sliceBounds lo hi none n).2.1=((HT.sIx n n hi:Nat):Int)∧(sliceBounds lo hi none n).2.2=1:=by
  refine⟨?_,?_,rfl⟩
  · cases lo with
    | none=>simp [sliceBounds,HT.sIx]
    | some i =>
      simp only [sliceBounds,HT.sIx,Option.getD_none,show (1:Int) > 0 by decide,if_true]
      by_cases h:i<0
      · simp only [h,if_true]<;>omega
      · simp only [h,if_false]<;>omega
  · cases hi with
    | none=>simp [sliceBounds,HT.sIx]
    | some i =>
      simp only [sliceBounds,HT.sIx,Option.getD_none,show (1:Int) > 0 by decide,if_true]
      by_cases h:i<0
      · simp only [h,if_true]<;>omega
      · simp only [h,if_false]<;>omega
theorem qGy (its:List Value) (lo hi:Option Int):slicePick its.toArray lo hi none=((its.drop (HT.sIx its.length 0 lo)).take (HT.sIx its.length its.length hi - HT.sIx its.length 0 lo)).toArray:=by
  obtain⟨h1,h2,h3⟩:=qIQ lo hi its.toArray.size
  unfold slicePick
  rw [h1,h2,h3]
  simp only [sliceRange_one,pick_run,List.size_toArray]<;>rfl
noncomputable def qTq (K:W.Frag):V→Option Int→Option Int→Hp→VK→Prop:=fun x lo hi H Q=>∃ a xs,x = .ref a∧SqL K H a xs∧∀ p,H p=none→Q (.ref p) (upd H p (.lst (qFi xs lo hi)))
theorem qK7:SlR X (qTq X.K):=by
  k_dat 0"r70"
  obtain⟨a,xs,rfl,hx,q⟩:=h
  cases rx
  obtain⟨its,r,ht,hz⟩:=I.list hx
  have hlen:=r.length
  refine⟨"list",_,slot_list_getitem.lookup,ht.isList.typeIs,?_⟩
  refine wpAny_getItem_list_slice ht.isList hs pl pu .none (by simp) ?_ (by rw [List.size_toArray]<;>omega)
  rw [qGy,← hlen]
  refine⟨.ref s.heap.objs.size,_,I.laid (t':=s.toks) (o:=.lst (qFi xs lo hi)) (fun b ob q=>Heap.get?_push_of_some _ q) (Nat.le_refl _) ?_,rfl,q _ (I.hok.fresh (Nat.le_refl _))⟩
  exact⟨Nat.le_trans (qFO xs lo hi) hz,_,0,(r.drop (HT.sIx xs.length 0 lo)).take (HT.sIx xs.length xs.length hi - HT.sIx xs.length 0 lo),Heap.get?_push_size _ rfl⟩
noncomputable def qDz:V→Bool
  | .non=>true
  | .bl _=>true
  | .int _=>true
  | .str _=>true
  | _=>false
noncomputable def eqV:V→V→Bool
  | .non,.non=>true
  | .bl a,.bl b=>a==b
  | .bl a,.int b=>(if a then 1 else 0)==b
  | .int a,.bl b=>a==(if b then 1 else 0)
  | .int a,.int b=>a==b
  | .str a,.str b=>a==b
  | _,_=>false
theorem qRp {A:Around} {s:Shared} {y x:V} {u v:Value} (ry:RelV y u) (rx:RelV x v) (fy:qDz y=true) (fx:qDz x=true):SeqAt.EqAt A s u v (eqV y x):=by
  cases y with
  | non =>
    cases ry
    cases x with
    | non=>cases rx;exact SeqAt.EqAt.same _
    | bl b=>cases rx;exact SeqAt.EqAt.none_bool b
    | int b=>obtain⟨t,rfl⟩:=rx;exact SeqAt.EqAt.none_int b t
    | str b=>obtain⟨t,rfl⟩:=rx;exact SeqAt.EqAt.none_str b t
    | _=>exact absurd (show false=true from fx) Bool.false_ne_true
  | bl a =>
    cases ry
    cases x with
    | non=>cases rx;exact SeqAt.EqAt.bool_none a
    | bl b=>cases rx;exact SeqAt.EqAt.bool_bool a b
    | int b=>obtain⟨t,rfl⟩:=rx;exact SeqAt.EqAt.bool_int a b t
    | str b=>obtain⟨t,rfl⟩:=rx;exact SeqAt.EqAt.bool_str a b t
    | _=>exact absurd (show false=true from fx) Bool.false_ne_true
  | int a =>
    obtain⟨t',rfl⟩:=ry
    cases x with
    | non=>cases rx;exact SeqAt.EqAt.int_none a t'
    | bl b=>cases rx;exact SeqAt.EqAt.int_bool a t' b
    | int b=>obtain⟨t,rfl⟩:=rx;exact SeqAt.EqAt.int_int a t' b t
    | str b=>obtain⟨t,rfl⟩:=rx;exact SeqAt.EqAt.int_str a t' b t
    | _=>exact absurd (show false=true from fx) Bool.false_ne_true
  | str a =>
    obtain⟨t',rfl⟩:=ry
    cases x with
    | non=>cases rx;exact SeqAt.EqAt.str_none a t'
    | bl b=>cases rx;exact SeqAt.EqAt.str_bool a t' b
    | int b=>obtain⟨t,rfl⟩:=rx;exact SeqAt.EqAt.str_int a t' b t
    | str b=>obtain⟨t,rfl⟩:=rx;exact SeqAt.EqAt.str_str a t' b t
    | _=>exact absurd (show false=true from fx) Bool.false_ne_true
  | _=>exact absurd (show false=true from fy) Bool.false_ne_true
noncomputable def eqU (x:V) (u:Value):Bool:=match u with
  | .none=>eqV .non x
  | .bool b=>eqV (.bl b) x
  | .int i _=>eqV (.int i) x
  | .str z _=>eqV (.str z) x
  | _=>false
theorem qNb {x y:V} {u:Value} (r:RelV y u) (f:qDz y=true):eqU x u=eqV y x:=by
  cases y with
  | non=>cases r;rfl
  | bl b=>cases r;rfl
  | int i=>obtain⟨t,rfl⟩:=r;rfl
  | str z=>obtain⟨t,rfl⟩:=r;rfl
  | _=>exact absurd (show false=true from f) Bool.false_ne_true
theorem qH0 {x:V}:∀ {xs:List V} {us:List Value},Vals xs us→xs.all qDz=true→us.any (eqU x)=xs.any fun y=>eqV y x
  | _,_,.nil,_=>rfl
  | y::xs,u::us,.cons r t,f=>by
    rw [List.all_cons,Bool.and_eq_true] at f
    rw [List.any_cons,List.any_cons,qNb r f.1,qH0 t f.2]
theorem qGU {A:Around} {s:Shared} {x:V} {v:Value} (rx:RelV x v) (fx:qDz x=true):∀ {xs:List V} {us:List Value},Vals xs us→xs.all qDz=true→∀ u∈us,SeqAt.EqAt A s u v (eqU x u)
  | _,_,.nil,_=>fun u hu=>by cases hu
  | y::xs,u::us,.cons r t,f=>fun u' hu=>by
    rw [List.all_cons,Bool.and_eq_true] at f
    rcases List.mem_cons.mp hu with rfl | hu
    · rw [qNb r f.1];exact qRp r rx f.1 fx
    · exact qGU rx fx t f.2 u' hu
noncomputable def inV (x:V) (xs:List V):Bool:=xs.any fun y=>eqV y x
noncomputable def rIn (K:W.Frag) (neg:Bool):R2:=fun x y H Q=>∃ p xs,y = .ref p∧(SqL K H p xs∨SqT K H p xs)∧qDz x=true∧xs.all qDz=true∧Q (.bl (if neg then !inV x xs else inV x xs)) H
theorem qMU:OpR X (compareOp .In) (rIn X.K false):=by
  k_dat 0"r12"
  obtain⟨p,xs,rfl,hq,fx,fs,q⟩:=h
  cases ry
  rcases hq with hq | hq
  · obtain⟨its,r,pl,hz⟩:=I.list hq
    refine SeqAt.in_listAt (eqU x) pl.isList (fun w hw=>qGU rx fx r fs w (by simpa using hw)) ⟨.bl _,H,I,rfl,?_⟩
    rw [show its.toArray.any (eqU x)=its.any (eqU x) by simp,qH0 r fs]
    exact q
  · obtain⟨its,r,pl,hz⟩:=I.tuple hq
    refine SeqAt.in_tupleAt (eqU x) pl (fun w hw=>qGU rx fx r fs w (by simpa using hw)) ⟨.bl _,H,I,rfl,?_⟩
    rw [show its.toArray.any (eqU x)=its.any (eqU x) by simp,qH0 r fs]
    exact q
theorem qH6:qGA X (.builtin "len") (fun xs H Q=>∃ p ys,xs=[.ref p]∧(SqL X.K H p ys∨SqT X.K H p ys)∧Q (.int ys.length) H):=by
  intro pins s σ H xs us Q I r h
  obtain⟨p,ys,rfl,hq,q⟩:=h
  obtain⟨u,rfl,rx⟩:=vals1 r
  cases rx
  have hn:=qE0
  rcases hq with hq | hq
  · obtain⟨its,r',pl,hz⟩:=I.list hq
    have hlen:=r'.length
    exact Calls.call_len_list pl.isList (by simp only [List.size_toArray]<;>omega) ⟨.int ys.length,H,I.tok _,⟨s.toks+1,by rw [List.size_toArray,hlen]⟩,q⟩
  · obtain⟨its,r',pl,hz⟩:=I.tuple hq
    have hlen:=r'.length
    exact len_tuple pl (by simp only [List.size_toArray]<;>omega) ⟨.int ys.length,H,I.tok _,⟨s.toks+1,by rw [List.size_toArray,hlen]⟩,q⟩
theorem qIW:qGA X (.builtin "len") (fun xs H Q=>∃ z,xs=[.str z]∧z.length≤sizeLine∧Q (.int z.length) H):=by
  intro pins s σ H xs us Q I r h
  obtain⟨z,rfl,hz,q⟩:=h
  obtain⟨u,rfl,t,rfl⟩:=vals1 r
  have hn:=qE0
  exact len_str (by omega) ⟨.int z.length,H,I.tok _,⟨_,rfl⟩,q⟩
theorem qHG:qGA X (.type "tuple") (fun xs H Q=>∃ p ys,xs=[.ref p]∧((SqL X.K H p ys∧∀ l,H l=none→Q (.ref l) (upd H l (.tup ys)))∨(SqT X.K H p ys∧Q (.ref p) H))):=by
  intro pins s σ H xs us Q I r h
  obtain⟨p,ys,rfl,h⟩:=h
  obtain⟨u,rfl,rx⟩:=vals1 r
  cases rx
  rcases h with ⟨hq,q⟩ | ⟨hq,q⟩
  · obtain⟨its,r',pl,hz⟩:=I.list hq
    have hlen:=r'.length
    refine call_tuple_list pl.isList (fun h' kp=>?_) (by simp only [List.size_toArray]<;>omega)
    have I1:Inv X pins σ H { s with heap:=h' }:=I.kept (t':=s.toks) kp
    have I2:Inv X pins σ (upd H h'.objs.size (.tup ys)) { s with heap:=h'.push { cls:=.type "tuple",data:=.seq its.toArray } } :=
      I1.laid (t':=s.toks) (fun b o e=>Heap.get?_push_of_some _ e) (Nat.le_refl _) (show qA8 X.prog X.w _ _ _ (.tup ys) from⟨hz,its,r',IsTup.new _ _⟩)
    exact⟨.ref h'.objs.size,_,I2,rfl,q _ (I1.hok.fresh (Nat.le_refl _))⟩
  · obtain⟨its,r',pl,hz⟩:=I.tuple hq
    exact call_tuple_same pl ⟨.ref p,H,I,rfl,q⟩
def tyV (K:W.Frag) (T:String) (x:V) (H:Hp):Prop:=match x with
  | .str _=>T = "str"
  | .int _=>T = "int"
  | .ref p=>(T = "list" ∧ ∃ xs,SqL K H p xs)∨(T = "tuple" ∧ ∃ o,K.lookup p=some o∧o.cls = .type "tuple" ∧ o.dict=none) ∨
      (T = "dict" ∧ ((∃ kvs,H p=some (.dK kvs))∨∃ kvs,H p=some (.dT kvs)))∨(T = "set" ∧ ∃ S n,H p=some (.set S n))
  | _=>False
theorem qRO {pins:List (Addr×Obj)} {σ:St} {H:Hp} {s:Shared} {T:String} {x:V} {v:Value} (I:Inv X pins σ H s) (r:RelV x v) (ty:tyV X.K T x H) :
    s.TypeIs v T∧∀ a,v = .ref a→∃ ob,s.heap.get? a=some ob∧ob.dict=none:=by
  cases x with
  | str z =>
    obtain⟨t,rfl⟩:=r
    cases (show T = "str" from ty)
    exact⟨typeIs_str s z t,fun _ e=>nomatch e⟩
  | int i =>
    obtain⟨t,rfl⟩:=r
    cases (show T = "int" from ty)
    exact⟨typeIs_int s i t,fun _ e=>nomatch e⟩
  | ref p =>
    cases r
    rcases ty with ⟨rfl,xs,hq⟩ | ⟨rfl,o,hk,hc,hd⟩ | ⟨rfl,hk⟩ | ⟨rfl,S,n,hk⟩
    · obtain⟨its,_,pl,_⟩:=I.list hq
      refine⟨pl.isList.typeIs,fun a e=>?_⟩
      cases e
      obtain⟨o,n,e,c,hd,_⟩:=pl
      exact⟨o,e,hd⟩
    · refine⟨⟨o,I.kIn p o hk,hc⟩,fun a e=>?_⟩
      cases e
      exact⟨o,I.kIn _ o hk,hd⟩
    · have z:∃ o,s.heap.get? p=some o∧o.ExactDict:=by
        rcases hk with ⟨kvs,hk⟩ | ⟨kvs,hk⟩
        · obtain⟨_,_,_,_,o,_,_,e,ex,_⟩:=I.hok p _ hk
          exact⟨o,e,ex⟩
        · obtain⟨_,_,_,_,o,_,_,e,ex,_⟩:=I.hok p _ hk
          exact⟨o,e,ex⟩
      obtain⟨o,e,ex⟩:=z
      refine⟨⟨o,e,ex.1⟩,fun a e2=>?_⟩
      cases e2
      exact⟨o,e,ex.2.1⟩
    · obtain⟨o,_,_,_,e,ex,_⟩:=I.hok p _ hk
      refine⟨⟨o,e,ex.1⟩,fun a e2=>?_⟩
      cases e2
      exact⟨o,e,ex.2.1⟩
  | _=>exact False.elim ty
noncomputable def tBM (K:W.Frag) (T:String) (r:V→List V→Hp→VK→Prop) (to:TE) (t:TA):TE:=fun σ H Q=>to σ H fun x H1=>tyV K T x H1∧t σ H1 fun xs H2=>r x xs H2 Q
variable {o e:Expr} {es:List Expr} {to:TE} {t:TA} {name:Str} {apos cpos:Pos} {T id:String} {r:V→List V→Hp→VK→Prop}
theorem qQD (pa:PlainAttrs T) (slot:Slot T name id) (hty:typeOf (.builtin id)=pure (.type "method_descriptor")) (hm:MtR X id r) (ho:PE X o to) (ha:PA X (e::es) t)
    (hbase:attributeBase o name X.env (eval o X.env)=eval o X.env:=by rfl)
    (hfew:((backTo cpos (starEach (e::es) X.env)).all (fun x=>!x.1)&&(backToKw cpos (keywordEach [] X.env)).all (fun x=>x.1.isSome)
      && decide ((e::es).length+([]:List Keyword).length+(if ([]:List Keyword).isEmpty then 0 else 1)<30))=true:=by rfl)
    (hline:(apos.endLine==cpos.line)=true:=by rfl) (hs:starEach (e::es) X.env=(false,eval e X.env)::starEach es X.env:=by rfl) (hplain:(backTo cpos (starEach es X.env)).any (·.1)=false:=by rfl) :
    PE X (.Call (.Attribute o name apos) (e::es) [] cpos) (tBM X.K T r to t):=by
  k_dat 0"r2"
  refine wpAny_Call_method_late hbase hfew hline rfl (thn (ho pins s σ H _ I h) fun v s1 ⟨x,H1,I1,r1,ty,q1⟩=>?_)
  obtain⟨h1,h2⟩:=qRO I1 r1 ty
  refine⟨T,id,pa,slot,hty,h1,h2,?_⟩
  have hA:=ha cpos pins s1 σ H1 _ I1 q1
  rw [hs] at hA ⊢
  refine Calls.callWith_builtin (by show (false || (backTo cpos (starEach es X.env)).any (·.1))=false;rw [hplain]<;>rfl) (Calls.evalArgs_plain ?_)
  exact thn hA fun us s2 ⟨vs,H2,I2,r2,q2⟩=>hm pins s2 σ H2 x vs v us Q I2 r1 r2 q2
end
end L2
namespace L2
open PySem PySem.Spec PyProof.Rows
def MtM (X:Cx) (id:String) (r:V→List V→Hp→VK→Prop):Prop :=
  ∀ (pins:List (Addr×Obj)) (s:Shared) (σ:St) (H:Hp) (x:V) (xs:List V) (v:Value) (us:List Value) (Q:VK),Inv X pins σ H s→RelV x v→Vals xs us→r x xs H Q →
    wpAny (model X.prog X.w) X.A (call (.builtin id) (v::us)) (EP X pins σ Q) X.xe s
theorem Vals.one:∀ {x:V} {us:List Value},Vals [x] us→∃ u,us=[u]∧RelV x u
  | _,_,.cons r .nil=>⟨_,rfl,r⟩
theorem Vals.reverse {xs:List V} {us:List Value} (h:Vals xs us):Vals xs.reverse us.reverse:=by
  induction h with
  | nil=>exact .nil
  | cons r t ih=>rw [List.reverse_cons,List.reverse_cons];exact Vals.append ih (.cons r .nil)
theorem Vals.rep {xs:List V} {us:List Value} (h:Vals xs us):∀ k:Nat,Vals (List.replicate k xs).flatten (List.replicate k us).flatten
  | 0=>.nil
  | k+1=>by
    rw [List.replicate_succ,List.replicate_succ,List.flatten_cons,List.flatten_cons]
    exact Vals.append h (Vals.rep h k)
theorem foldl_rep (its:List Value):∀ (k:Nat) (acc:List Value),
    List.foldl (fun x1 x2=>x1++x2) acc.toArray (List.replicate k its.toArray)=(acc++(List.replicate k its).flatten).toArray
  | 0,acc=>by simp
  | k + 1,acc=>by
    have e:acc.toArray++its.toArray=(acc++its).toArray:=by simp
    have e2:(acc++its)++(List.replicate k its).flatten=acc++(List.replicate (k+1) its).flatten:=by
      rw [List.replicate_succ,List.flatten_cons,List.append_assoc]
    rw [← e2,← foldl_rep its k (acc++its),← e,List.replicate_succ,List.foldl_cons]
section
variable {X:Cx} {pins:List (Addr×Obj)} {σ:St} {H:Hp} {s:Shared} {l b:Addr} {xs ys zs:List V}
theorem Inv.qTT {its its':List Value} {n:Nat} {f:Array Value→Array Value} {t':Nat} (I:Inv X pins σ H s) (hH:H l=some (.lst xs))
    (e:s.heap.get? l=some { cls:=.type "list",data:=.seq its.toArray n }) (hf:f its.toArray=its'.toArray) (hv:Vals ys its') (hz:ys.length≤sizeLine) :
    Inv X pins σ (upd H l (.lst ys)) { s with heap:=s.heap.update l (Obj.mapSeq f),toks:=t' }:=by
  have q:=PySem.IsL.update e f
  rw [hf] at q
  refine I.write (x:=l) (e:=l) (by rw [hH];exact trivial) (.inl rfl) (fun b' u hb hu=>(Heap.get?_update_other s.heap (Obj.mapSeq f) (Ne.symm hb)).trans hu) ⟨_,q⟩ ?_
  exact⟨hz,its',_,hv,q⟩
theorem Inv.qSs {its:List Value} {t':Nat} (I:Inv X pins σ H s) (hv:Vals ys its) (hz:ys.length≤sizeLine) :
    Inv X pins σ (upd H s.heap.objs.size (.lst ys)) { s with heap:=s.heap.push { cls:=.type "list",data:=.seq its.toArray },toks:=t' } :=
  I.laid (fun _ _ q=>Heap.get?_push_of_some _ q) (Nat.le_refl _) ⟨hz,its,0,hv,Heap.get?_push_size _ rfl⟩
theorem Inv.fresh (I:Inv X pins σ H s):H s.heap.objs.size=none:=I.hok.fresh (Nat.le_refl _)
theorem Inv.qMi (I:Inv X pins σ H s) (hH:H l=some (.lst xs)):xs.length≤sizeLine∧∃ (its:List Value) (n:Nat),Vals xs its∧xs.length=its.length∧s.heap.get? l=some { cls:=.type "list",data:=.seq its.toArray n }:=by
  obtain⟨z,its,n,r,e⟩:=I.hok l _ hH
  exact⟨z,its,n,r,r.length,e⟩
theorem qJB {n:Nat} (h:n≤sizeLine):Builtin.List.listTooLong n=false:=by
  unfold Builtin.List.listTooLong
  exact decide_eq_false (by omega)
end
section
variable {X:Cx}
noncomputable def qOr:V→List V→Hp→VK→Prop:=fun x vs H Q=>∃ l xs y,x = .ref l∧vs=[y]∧H l=some (.lst xs)∧xs.length<sizeLine∧Q .non (upd H l (.lst (xs++[y])))
theorem qMF:MtM X "list.append" qOr:=by
  intro pins s σ H x vs v us Q I rx rv h
  obtain⟨l,xs,y,rfl,rfl,hH,hz,q⟩:=h
  cases rx
  obtain⟨u,rfl,ru⟩:=rv.one
  obtain⟨z,its,n,r,hl,e⟩:=I.qMi hH
  refine call_meets F.slot_list_append ⟨_,e,rfl⟩ F.entry_list_append (F.args_list_append_2 _ _) (PySem.list_append l its.toArray n u (by rw [List.size_toArray];omega)) ⟨e,?_⟩
  refine⟨.non,_,I.qTT (its':=its++[u]) hH e (by simp) (r.append (.cons ru .nil)) ?_,rfl,q⟩
  rw [List.length_append,List.length_singleton]
  omega
noncomputable def qTr:R2:=fun x y H Q=>∃ l b xs zs,x = .ref l∧y = .ref b∧H l=some (.lst xs)∧H b=some (.lst zs)∧xs.length+zs.length≤sizeLine∧∀ p,H p=none→Q (.ref p) (upd H p (.lst (xs++zs)))
theorem qSL:OpR X (binaryOp .Add) qTr:=by
  k_dat 0"r12"
  obtain⟨l,b,xs,zs,rfl,rfl,hH,hB,hz,q⟩:=h
  cases rx
  cases ry
  obtain⟨z,its,n,r,hl,e⟩:=I.qMi hH
  obtain⟨z2,its2,n2,r2,hl2,e2⟩:=I.qMi hB
  refine PySem.P.add_list e e2 ?_ (by rw [List.size_toArray,List.size_toArray];omega)
  have ea:its.toArray++its2.toArray=(its++its2).toArray:=by simp
  rw [ea]
  exact⟨.ref _,_,I.qSs (t':=s.toks) (r.append r2) (by rw [List.length_append];omega),rfl,q _ I.fresh⟩
noncomputable def qTs:R2:=fun x y H Q=>∃ l k xs,x = .ref l∧y = .int k∧H l=some (.lst xs)∧-(2 ^ 63)≤k∧k<2 ^ 63∧xs.length * k.toNat≤sizeLine ∧
  ∀ p,H p=none→Q (.ref p) (upd H p (.lst (List.replicate k.toNat xs).flatten))
theorem len_rep {α:Type} (xs:List α) (k:Nat):(List.replicate k xs).flatten.length=k * xs.length:=by
  induction k with
  | zero=>simp
  | succ k ih=>rw [List.replicate_succ,List.flatten_cons,List.length_append,ih,Nat.succ_mul,Nat.add_comm]
theorem qSN:OpR X (binaryOp .Mult) qTs:=by
  k_dat 0"r12"
  obtain⟨l,k,xs,rfl,rfl,hH,h1,h2,hz,q⟩:=h
  cases rx
  obtain⟨t,rfl⟩:=ry
  obtain⟨z,its,n,r,hl,e⟩:=I.qMi hH
  have hlen:its.toArray.size * k.toNat≤sizeLine:=by rw [List.size_toArray,← hl];exact hz
  have hcap:¬ its.toArray.size * k.toNat > (2 ^ 63 - 1) / 8:=by
    have:(sizeLine:Nat)≤(2 ^ 63 - 1) / 8:=by decide
    omega
  have hfit:¬ (!Builtin.List.listFitsIndex k)=true:=by
    rw [fitsIndex_both h1 h2]
    exact Bool.false_ne_true
  have hlong:¬ Builtin.List.listTooLong (its.toArray.size * k.toNat)=true:=by
    rw [qJB hlen]
    exact Bool.false_ne_true
  have hnew:List.foldl (fun x1 x2=>x1++x2) #[] (List.replicate (if its.toArray.isEmpty=true then 0 else k.toNat) its.toArray)=(List.replicate k.toNat its).flatten.toArray:=by
    have f0:∀ m:Nat,List.foldl (fun x1 x2=>x1++x2) #[] (List.replicate m its.toArray)=(List.replicate m its).flatten.toArray:=fun m=>by
      have:=foldl_rep its m []
      rw [List.nil_append] at this
      exact this
    rw [f0]
    cases its with
    | nil=>simp
    | cons a r'=>rw [if_neg (by simp)]
  refine wpAny_binaryOp_repeat_ref (T:= "list") (U:= "int") (by decide) ⟨_,e,rfl⟩ (fun s'=>typeIs_int s' k t) noFill_list_mul F.fills_int_mul F.slot_int_rmul repeat_list F.slot_int_index.lookup
    (call_meets F.slot_int_rmul (typeIs_int s k t) F.entry_int_rmul (F.args_int_rmul_2 _ _) (int___rmul___int_list k t l its.toArray n)
      ⟨e,rfl,⟨_,e,rfl⟩,call_meets F.slot_list_mul ⟨_,e,rfl⟩ F.entry_list_mul (F.args_list_mul_2 _ _) (AutoListH.list___mul___list_int_3 l its.toArray n k t hfit hcap hlong) ⟨e,?_⟩⟩)
  rw [hnew]
  exact⟨.ref _,_,I.qSs (t':=s.toks) (r.rep k.toNat) (by rw [len_rep,Nat.mul_comm];exact hz),rfl,q _ I.fresh⟩
end
end L2
namespace Att
open PySem PySem.W PySem.Calls PyProof.Rows
theorem qFh {P:Params} {h:Heap}:∀ (ns:List Int) (vs:List Value),WellAll P h vs (ns.map WData.int)→IntsAre vs ns:=by
  intro ns
  induction ns with
  | nil =>
    intro vs w
    rw [List.map_nil] at w
    cases w
    exact .nil
  | cons n ns ih =>
    intro vs w
    rw [List.map_cons] at w
    cases w with
    | cons a b =>
      cases a
      exact .cons _ _ (ih _ b)
theorem qLk {l:OpenLaw} {n:Nat} (hn:l.most=some n) {P:Params} {h:Heap} {args:List WData} {vals:List Value}
    (hpre:l.row.toRowW.claim.pre args=true) (hwl:WellAll P h vals args) :
    ∃ a vs ns,vals=[Value.ref a]∧args=[WData.list (ns.map WData.int)]∧h.get? a=some { cls:=.type "list",data:=.seq vs.toArray }∧IntsAre vs ns∧ns.length≤n:=by
  have hsh:WShape.hasAll [] args [.list .int]=true:=(pre_splitW hpre).1
  have hc:l.pre.holds [] { args:=args }=true:=(pre_splitW hpre).2
  obtain⟨d,r,rfl,h1,h2⟩:=hasAllW_cons hsh
  obtain rfl:=hasAllW_nil h2
  obtain⟨xs,rfl,h3⟩:=hasW_list h1
  obtain⟨ns,rfl⟩:=items_int h3
  have hlen:ns.length≤n:=by
    unfold OpenLaw.pre at hc
    have h4:(WTm.not (.lt (.lit (.int (n:Int))) (.len (.arg 0)))).holds [] { args:=[.list (ns.map .int)] }=true:=by
      have h4:=(holds_andW hc).1
      rw [hn] at h4
      exact h4
    have h5:=condW_of h4 (w_not (w_lt w_lit (w_len_list (w_arg rfl))))
    rw [List.length_map] at h5
    refine Nat.le_of_not_lt fun q=>?_
    have q':(n:Int)<((ns.length:Nat):Int):=by omega
    first
      | (rw [decide_eq_true q'] at h5;exact absurd h5 (by decide))
      | (simp at h5;omega)
  cases hwl with
  | cons w1 w2 =>
    cases w2
    cases w1 with
    | list ho hall=>exact⟨_,_,ns,rfl,rfl,ho,qFh ns _ hall,hlen⟩
theorem qL1 (l:OpenLaw) (args:List WData):l.row.toRowW.claim.post args (.bool true) args=true :=
  postW_of (r:=l.row.toRowW) (X:=(true==true))
    (show WShape.has [] (.bool true) .bool=true by first | rfl | decide | simp [WShape.has,WShape.arms,WShape.armsAll])
    (show (WTm.eq .res (.lit (.bool true))).value [] { args:=args,res:=some (.bool true),after:=args }=some (.bool (true==true)) from w_eq_bool (w_res rfl) w_lit) rfl
theorem qJT {l:OpenLaw} {n:Nat} {q:Program} {loose:List Str} {XP:(Str→Option Value)→Heap→Prop} {YP:World→Heap→Prop} {d:DefRec}
    (hn:l.most=some n) (hdf:d.params.defaults=[])
    (call:∀ (w:World) (s₀ s₁:Shared) (mg mb:Str→Option Value) (fa:Addr) (o:Obj) (pm cd doc:Value) (a:Addr) (vs:List Value) (ns:List Int),
      Ground q loose [] XP w s₀ mg mb s₁.heap→YP w s₁.heap →
      s₁.heap.get? fa=some o→o.data = .func (docDef d.name d.params d.body d.scope pm cd doc)→s₁.heap.CodeRec cd d.name→mg d.name=some (.ref fa) →
      s₁.heap.get? a=some { cls:=.type "list",data:=.seq vs.toArray }→IntsAre vs ns→ns.length≤n→s₁.gens=#[] →
      codeAny (model l.prog w) callerA (.call (.ref fa) ⟨[.ref a],[]⟩) (fun r s'=>r = .ok (.ret (.bool true))∧OldK s₁.heap s'.heap∧s'.os=s₁.os∧AllBare s'.gens) s₁) :
    WalkO q loose XP YP l.row.toRowW d [] (fun f vs=>PySem.call f vs):=by
  intro w s₀ s₁ mg mb G Y fa o pm cd doc dV kV ho hd hcd hD hmg hg args vals as hpre hlay hrd hwl hlo
  obtain rfl:dV = .none:=Dflts.none hD hdf
  obtain rfl:kV = .none:=Dflts.noKw hD
  obtain⟨a,vs,ns,rfl,rfl,hobj,hints,hlen⟩:=qLk hn hpre hwl
  refine enter_call (codeAny_mono (call w s₀ s₁ mg mb fa o pm cd doc a vs ns G Y ho (fd_plain hd) hcd hmg hobj hints hlen hg) fun r s' hq=>?_)
  obtain⟨rfl,h2,h3,h4⟩:=hq
  exact⟨.inl ⟨.bool true,.bool true,[],rfl,fun _=>rfl,.bool true,qL1 l _,fun _=>⟨List.Pairwise.nil,fun _ hm=>(nomatch hm)⟩⟩,h2,h3,h4⟩
end Att
namespace L2
open PySem PySem.Spec PyProof.Rows
theorem qHL:∀ {vs:List Value} {ns:List Int},IntsAre vs ns→Vals (ns.map V.int) vs
  | _,_,.nil=>.nil
  | _,_,.cons n t h=>.cons ⟨t,rfl⟩ (qHL h)
def qQT (H:Hp):Prop:=∀ b,H b=none∨∃ o xs,H b=some (.frz o (.lst xs))
theorem qM3 {P:Program} {w:World} {K:W.Frag} {mg mb:Str→Option Value} {CX:CXT} {k:Nat} {fa a:Addr} {fd:FuncData} {x:Str} {sp:Sp} {s₁:Shared} {vs:List Value} {ns:List Int}
    (KX:K.In s₁.heap) (hns:s₁.heap.Ns mainGlobals mg) (hb:s₁.heap.Ns builtinsNs mb) (hbb:∀ x:Str,x ≠ "__name__" → mb x=bootBuiltins x) (hlim:s₁.heap.NoLimit) (hg:s₁.gens=#[])
    (ha:s₁.heap.get? a=some { cls:=.type "list",data:=.seq vs.toArray }) (hi:IntsAre vs ns) (hl:ns.length≤sizeLine) (hr:qAt k callerA)
    (F:∀ base:Heap,K.In base→base.Ns mainGlobals mg→qw P w K mg base CX k fa fd [x] sp) (hbind:∀ (s:Shared) (u:Value),BindsTo s fd ⟨[u],[]⟩ [(x,u)])
    (hsp:∀ H:Hp,qQT H→SqL K H a (ns.map V.int)→sp [.ref a] H (fun v _=>v = .bl true) fun _ _ _=>False)
    (hCX:∀ H e s',CX [] H s₁ (fun _ _ _=>False) e s'→False) :
    codeAny (model P w) callerA (.call (.ref fa) ⟨[.ref a],[]⟩) (fun r s'=>r = .ok (.ret (.bool true))∧OldK s₁.heap s'.heap∧s'.os=s₁.os∧AllBare s'.gens) s₁:=by
  have rv:=qHL hi
  have lenV:=hi.length
  -- from an abstract heap in which nothing but the script may be tracked
  have core : ∀ H:Hp,qQT H→SqL K H a (ns.map V.int)→HOk P w H s₁.heap→(∀ b,H b≠none→b=a)→(H a≠none→K.lookup a=none) →
      codeAny (model P w) callerA (.call (.ref fa) ⟨[.ref a],[]⟩) (fun r s'=>r = .ok (.ret (.bool true))∧OldK s₁.heap s'.heap∧s'.os=s₁.os∧AllBare s'.gens) s₁:=by
    intro H hO hS hok hA hK
    have base_of:∀ {b:Addr} {o:Obj},s₁.heap.get? b=some o→H b=none→(qH7 s₁.heap H).get? b=some o:=fun e n=>qNS e n
    have noA:∀ {b:Addr} {o:Obj} {es:Array DictEntry} {ep:Nat},s₁.heap.get? b=some o→o.data = .dict es ep→H b=none:=fun {b o es ep} e d=>by
      cases q:H b with
      | none=>rfl
      | some u =>
        have e':b=a:=hA b (by rw [q];simp)
        subst e'
        rw [ha] at e;cases e
        have d':Data.seq vs.toArray _=Data.dict es ep:=d
        cases d'
    have nsK:∀ {b:Addr} {m:Str→Option Value},s₁.heap.Ns b m→(qH7 s₁.heap H).Ns b m:=fun {b m} ⟨o,es,ep,e,d,r⟩=>⟨o,es,ep,base_of e (noA e d),d,r⟩
    have hKb:K.In (qH7 s₁.heap H):=fun b o e=>base_of (KX b o e) (by
      cases q:H b with
      | none=>rfl
      | some u =>
        have e':b=a:=hA b (by rw [q];simp)
        subst e'
        rw [hK (by rw [q];simp)] at e;cases e)
    have hM:Mod K mg (qH7 s₁.heap H):=⟨hKb,nsK hns,⟨mb,nsK hb,hbb⟩,let ⟨mc,h1,h2⟩:=hlim;⟨mc,nsK h1,h2⟩⟩
    have e0:qG2 P w K mg (qH7 s₁.heap H) callerA [] s₁ H:=⟨rfl,hM,fun b o e=>qPO e,Nat.le_of_eq (qLz _ _),trivial,fun b hb=>absurd (show b∈([]:List Addr) from hb) (by simp),hok,.of_eq hg⟩
    refine codeAny_mono ((F _ hKb (nsK hns)).run callerA [] s₁ H ⟨[.ref a],[]⟩ [.ref a] [.ref a] _ _ hr e0 (hbind s₁ (.ref a)) (.cons rfl .nil) (hsp H hO hS)) fun r s' h=>?_
    cases r with
    | error e=>exact (hCX H e s' h).elim
    | ok fl =>
      cases fl with
      | next=>exact False.elim h
      | brk=>exact False.elim h
      | cont=>exact False.elim h
      | ret u =>
        obtain⟨v,H',os,bare,un,hok',r',q⟩:=h
        have q':v = .bl true:=q
        subst q'
        obtain rfl:u=Value.bool true:=r'
        refine⟨rfl,OldK.of_keep fun b o e=>?_,os,bare⟩
        cases q:H b with
        | none=>exact un.keep b o e q (by intro z;exact absurd (show b∈([]:List Addr) from z) (by simp)) (by simp)
        | some u =>
          rcases hO b with z | ⟨ob,xs,z⟩
          · rw [q] at z;cases z
          · have z2:=un.frzs b ob _ z
            obtain⟨e1,_⟩:=hok b _ z
            obtain⟨e2,_⟩:=hok' b _ z2
            rw [e] at e1;cases e1
            exact e2
  cases hk:K.lookup a with
  | some o =>
    -- the script is one of the module's own objects
    have e:=KX a o hk
    rw [ha] at e
    cases e
    refine core (fun _=>none) (fun _=>.inl rfl) (.inr ⟨_,vs.toArray,_,hk,rfl,rfl,rfl,by rw [List.size_toArray,lenV];exact hl,by simpa using rv⟩) (fun b u z=>by have z':(none:Option HO)=some u:=z;cases z') (fun b z=>absurd rfl z) fun z=>absurd rfl z
  | none =>
    refine core (fun b=>if b=a then some (.frz { cls:=.type "list",data:=.seq vs.toArray } (.lst (ns.map V.int))) else none) (fun b=>?_) (.inl (.inr ⟨{ cls:=.type "list",data:=.seq vs.toArray },if_pos rfl⟩)) (fun b u z=>?_) (fun b z=>?_) fun _=>hk
    · by_cases hb:b=a
      · exact .inr ⟨_,_,if_pos hb⟩
      · exact .inl (if_neg hb)
    · by_cases hb:b=a
      · have z':=(if_pos hb).symm.trans z
        cases z'
        subst hb
        exact⟨ha,by rw [List.length_map];exact hl,vs,_,rv,ha⟩
      · have z':=(if_neg hb).symm.trans z
        cases z'
    · by_cases hb:b=a
      · exact hb
      · exact absurd (if_neg hb) z
end L2
namespace L2
open PySem PySem.Spec PyProof.Rows
theorem qPH {l:W.OpenLaw} {n k:Nat} {q:Program} {loose:List Str} {XP:(Str→Option Value)→Heap→Prop} {YP:World→Heap→Prop} {d:DefRec} {K:Params→W.Frag} {CX:World→CXT} {sp:World→Sp} {x:Str}
    (hn:l.most=some n) (hn2:n≤sizeLine) (hdf:d.params.defaults=[]) (hr:qAt k callerA)
    (hY:∀ (w:World) (h:Heap),YP w h→(K w.params).In h)
    (F:∀ (w:World) (mg:Str→Option Value) (fa:Addr) (h:Heap),(K w.params).In h→h.Ns mainGlobals mg→mg d.name=some (.ref fa) →
      ∃ fd:FuncData,(∀ (s:Shared) (u:Value),BindsTo s fd ⟨[u],[]⟩ [(x,u)]) ∧
        ∀ base:Heap,(K w.params).In base→base.Ns mainGlobals mg→qw l.prog w (K w.params) mg base (CX w) k fa fd [x] (sp w))
    (hsp:∀ (w:World) (H:Hp) (a:Addr) (ns:List Int),ns.length≤n→qQT H→SqL (K w.params) H a (ns.map V.int)→sp w [.ref a] H (fun v _=>v = .bl true) fun _ _ _=>False)
    (hCX:∀ (w:World) (H:Hp) (s:Shared) (e:Value) (s':Shared),CX w [] H s (fun _ _ _=>False) e s'→False) :
    W.WalkO q loose XP YP l.row.toRowW d [] (fun f vs=>PySem.call f vs):=by
  refine Att.qJT hn hdf fun w s₀ s₁ mg mb fa o pm cd doc a vs ns G Y ho hd hcd hmg hobj hints hlen hg=>?_
  have KX:=hY w _ Y
  obtain⟨fd,hb,hF⟩:=F w mg fa _ KX G.T.g hmg
  exact qM3 KX G.T.g G.T.b G.T.builtins G.T.nolimit hg hobj hints (Nat.le_trans hlen hn2) hr hF hb (fun H hO hS=>hsp w H a ns hlen hO hS) fun H e s'=>hCX w H s₁ e s'
end L2
namespace L2
open PySem PySem.Spec PyProof.Rows
noncomputable def inClass (s:Stmt) (j:Nat):Stmt:=match s with
  | .ClassDef _ _ _ body _ _ _ _ _ _ _=>body.getD j (.Pass ⟨0,0,0,0⟩)
  | _=>.Pass ⟨0,0,0,0⟩
noncomputable def qAy (s:Stmt):Arguments:=match s with
  | .FunctionDef _ a _ _ _ _ _ _ _ _=>a
  | _=>{ posonlyargs:=[],args:=[],vararg:=none,kwonlyargs:=[],kw_defaults:=[],kwarg:=none,defaults:=[] }
noncomputable def qAl (s:Stmt):List Stmt:=match s with
  | .FunctionDef _ _ b _ _ _ _ _ _ _=>b
  | _=>[]
noncomputable def qK (s:Stmt):Scope:=match s with
  | .FunctionDef _ _ _ _ _ _ sc _ _ _=>sc
  | _=>{ kind:=.function,names:=[],isGenerator:=false,isCoroutine:=false }
noncomputable abbrev CX0:CXT:=fun _ _ _ _ _ _=>False
noncomputable abbrev E0:XK:=fun _ _ _=>False
theorem qOC {X:Cx}:Passes CX0 X E0:=fun _ _ _ _ _ _ _ h=>h.elim
structure Fun (K:W.Frag) (x qual:Str) (st:Stmt) (f:Addr) (fd:FuncData):Prop where
  ex:∃ (oc:Value) (od:Option Addr) (kV doc pm:Value) (an:Option Addr) (cdv ct:Value) (osl:Array (Option Value)),
    fd=W.fnOf x qual (qAy st) (qAl st) (qK st) .none kV doc pm an cdv ct∧K.lookup f=some ⟨oc,od,.func fd,osl⟩∧W.codeIn K cdv qual=true
  kp:W.keepIn K (.ref f)=true
section
variable {P:Program} {w:World} {K:W.Frag} {mg:Str→Option Value} {base:Heap}
theorem Fun.ok {x qual:Str} {st:Stmt} {f:Addr} {fd:FuncData} {N ps:List Str} {k:Nat} {sp:Sp} (F:Fun K x qual st f fd) (S:qT N ps (qK st)) (len:∀ vs H Q E,sp vs H Q E→vs.length=ps.length)
    (hbody:∀ (cdv:Value) (A:Around) (outer:List Env) (s:Shared) (H:Hp) (vs:List V) (Q:VK) (E:XK),qAt k (A.deeper (envOfC qual (qK st) s.heap.objs.size f cdv))→sp vs H Q E →
      ∃ t,PSs (qKQ CX0 P w K mg base N qual (qK st) f cdv A outer s H E).nox (qAl st) t∧t { nx:=fun _ H'=>Q .non H',rt:=Q } (start N vs) H):qw P w K mg base CX0 (k+1) f fd ps sp:=by
  obtain⟨oc,od,kV,doc,pm,an,cdv,ct,osl,rfl,lk,hcd⟩:=F.ex
  refine qTM lk hcd S len fun A outer s H vs Q E hr hsp=>?_
  obtain⟨t,h,q⟩:=hbody cdv A outer s H vs Q E hr hsp
  exact⟨t,h.nox,q⟩
theorem Fun.binds {x qual:Str} {st:Stmt} {f:Addr} {fd:FuncData} {ps:List Str} (F:Fun K x qual st f fd)
    (h:∀ (kV doc pm:Value) (an:Option Addr) (cdv ct:Value) (us:List Value),us.length=ps.length→bindArgs (W.fnOf x qual (qAy st) (qAl st) (qK st) .none kV doc pm an cdv ct) ⟨us,[]⟩=pure (ps.zip us)):Binds K fd ps []:=by
  obtain⟨oc,od,kV,doc,pm,an,cdv,ct,osl,rfl,lk,hcd⟩:=F.ex
  exact .all (h kV doc pm an cdv ct)
theorem qN4 {x qual:Str} {st:Stmt} {f:Addr} {oc:Value} {od an:Option Addr} {osl:Array (Option Value)} {kV doc pm cdv ct:Value} (l:K.lookup f=some ⟨oc,od,.func (W.fnOf x qual (qAy st) (qAl st) (qK st) .none kV doc pm an cdv ct),osl⟩)
    (c:W.codeIn K cdv qual=true) (k:W.keepIn K (.ref f)=true):Fun K x qual st f (W.fnOf x qual (qAy st) (qAl st) (qK st) .none kV doc pm an cdv ct):=⟨⟨oc,od,kV,doc,pm,an,cdv,ct,osl,rfl,l,c⟩,k⟩
end
theorem qAz {A B:Prop} (h:B):if false=true then A else B:=by
  rw [if_neg Bool.false_ne_true]
  exact h
theorem qA7 {A B:Prop} (h:A):if true=true then A else B:=by
  rw [if_pos rfl]
  exact h
def qS4 (H H':Hp):Prop:=∀ b o,H b=some o→H' b=some o
theorem qS4.free {H H':Hp} (e:qS4 H H') {l:Addr} (h:H' l=Option.none):H l=Option.none:=by
  cases q:H l with
  | none=>rfl
  | some o =>
    rw [e l o q] at h
    cases h
end L2
namespace L2
open PySem PySem.Spec PyProof.Rows
section
variable {κ:Type} [DecidableEq κ]
noncomputable def qBo (kvs:List (κ×V)) (k:κ):Option V:=(kvs.find? fun kv=>decide (kv.1=k)).map (·.2)
noncomputable def putK (kvs:List (κ×V)) (k:κ) (v:V):List (κ×V) :=
  if (kvs.any fun kv=>decide (kv.1=k))=true then kvs.map (fun kv=>if kv.1=k then (kv.1,v) else kv) else kvs++[(k,v)]
theorem qNp {k:κ}:qBo ([]:List (κ×V)) k=none:=rfl
theorem qGD {p:κ×V} {r:List (κ×V)} {k:κ} (e:p.1=k):qBo (p::r) k=some p.2:=by simp [qBo,List.find?_cons,e]
theorem qGM {p:κ×V} {r:List (κ×V)} {k:κ} (e:¬ p.1=k):qBo (p::r) k=qBo r k:=by simp [qBo,List.find?_cons,e]
theorem qI1 (k:κ):∀ kvs:List (κ×V),(kvs.any fun kv=>decide (kv.1=k))=(qBo kvs k).isSome
  | []=>rfl
  | p::r=>by
    rw [List.any_cons]
    by_cases e:p.1=k
    · simp only [qGD e,decide_eq_true e,Bool.true_or,Option.isSome_some]
    · rw [qGM e,decide_eq_false e,Bool.false_or];exact qI1 k r
theorem qDV (kvs:List (κ×V)) (k:κ) (v:V):(putK kvs k v).length≤kvs.length+1:=by
  unfold putK
  split
  · rw [List.length_map];omega
  · rw [List.length_append,List.length_cons,List.length_nil];omega
theorem qDA.qL3 {o:Option V} {u:Option Value} (r:qDA o u):o.isSome=u.isSome:=by
  cases o with
  | none=>cases u with
    | none=>rfl
    | some _=>exact (show False from r).elim
  | some _=>cases u with
    | none=>exact (show False from r).elim
    | some _=>rfl
theorem qDA.getD {o:Option V} {u:Option Value} {d:V} {d':Value} (r:qDA o u) (rd:RelV d d'):RelV (o.getD d) (u.getD d'):=by
  cases o with
  | none=>cases u with
    | none=>exact rd
    | some _=>exact (show False from r).elim
  | some _=>cases u with
    | none=>exact (show False from r).elim
    | some _=>exact r
theorem KV.val {kvs:List (κ×V)} {vs:List (κ×Value)} (r:KV kvs vs) (k:κ):qDA (qBo kvs k) (valueAt vs k):=by
  unfold KV at r
  induction r with
  | nil=>exact True.intro
  | @cons p q ps qs h t ih =>
    obtain⟨h1,h2⟩:=h
    by_cases e:p.1=k
    · have e':q.1=k:=h1.symm.trans e
      have b:valueAt (q::qs) k=some q.2:=by simp [valueAt,List.find?_cons,e']
      rw [qGD e,b];exact h2
    · have e':¬ q.1=k:=fun z=>e (h1.trans z)
      have b:valueAt (q::qs) k=valueAt qs k:=by simp [valueAt,List.find?_cons,e']
      rw [qGM e,b];exact ih
theorem KV.any {kvs:List (κ×V)} {vs:List (κ×Value)} (r:KV kvs vs) (k:κ):(kvs.any fun kv=>decide (kv.1=k))=vs.any fun kv=>decide (kv.1=k):=by
  unfold KV at r
  induction r with
  | nil=>rfl
  | cons h t ih=>rw [List.any_cons,List.any_cons,ih,h.1]
theorem KV.repl {kvs:List (κ×V)} {vs:List (κ×Value)} (r:KV kvs vs) (k:κ) {y:V} {u:Value} (ry:RelV y u) :
    KV (kvs.map fun kv=>if kv.1=k then (kv.1,y) else kv) (vs.map fun kv=>if kv.1=k then (kv.1,u) else kv):=by
  unfold KV at r ⊢
  induction r with
  | nil=>exact .nil
  | @cons p q ps qs h t ih =>
    rw [List.map_cons,List.map_cons]
    refine .cons ?_ ih
    obtain⟨h1,h2⟩:=h
    by_cases e:p.1=k
    · rw [if_pos e,if_pos (h1.symm.trans e)];exact⟨h1,ry⟩
    · rw [if_neg e,if_neg (fun z=>e (h1.trans z))];exact⟨h1,h2⟩
theorem KV.put {kvs:List (κ×V)} {vs:List (κ×Value)} (r:KV kvs vs) (k:κ) {y:V} {u:Value} (ry:RelV y u):KV (putK kvs k y) (stored vs k u):=by
  unfold putK stored
  rw [r.any k]
  by_cases e:(vs.any fun kv=>decide (kv.1=k))=true
  · rw [if_pos e,if_pos e];exact r.repl k ry
  · rw [if_neg e,if_neg e];exact Paired.snoc r ⟨rfl,ry⟩
theorem KV.keys {kvs:List (κ×V)} {vs:List (κ×Value)} (r:KV kvs vs):kvs.map (·.1)=vs.map (·.1):=by
  unfold KV at r
  induction r with
  | nil=>rfl
  | cons h t ih=>rw [List.map_cons,List.map_cons,ih,h.1]
theorem KV.length {kvs:List (κ×V)} {vs:List (κ×Value)} (r:KV kvs vs):kvs.length=vs.length:=Paired.length r
end
theorem qIx {P:Program} {w:World} {k:Key} {u:Value} (r:RelV (kV k) u):(qAb P w).is k u=true:=by
  cases k with
  | inl i=>obtain⟨t,e⟩:=(show ∃ t,u=Value.int i t from r);subst e;exact qJE P w i t
  | inr x=>obtain⟨t,e⟩:=(show ∃ t,u=Value.str x t from r);subst e;exact qJC P w x t
theorem qHN {P:Program} {w:World}:∀ {ks:List Key} {us:List Value},Vals (ks.map kV) us→ItemsAre (qAb P w) ks us
  | [],_,r=>by rw [List.map_nil] at r;cases r;exact .nil
  | k::ks,_,r=>by
    rw [List.map_cons] at r
    cases r with
    | cons h t=>exact .cons (qIx h) (qHN t)
noncomputable abbrev KT (H:Hp):List (List Key×V)→List (List Key×Addr×Value)→Prop:=Paired fun p q=>p.1=q.1∧H q.2.1=some (.tup (p.1.map kV))∧RelV p.2 q.2.2
theorem KT.val {H:Hp} {kvs:List (List Key×V)} {xs:List (List Key×Addr×Value)} (r:KT H kvs xs) (k:List Key):qDA (qBo kvs k) ((atKey xs k).map (·.2)):=by
  induction r with
  | nil=>exact True.intro
  | @cons p q ps qs h t ih =>
    obtain⟨h1,_,h2⟩:=h
    by_cases e:p.1=k
    · have e':q.1=k:=h1.symm.trans e
      have b:atKey (q::qs) k=some q.2:=by simp [atKey,List.find?_cons,e']
      rw [qGD e,b];exact h2
    · have e':¬ q.1=k:=fun z=>e (h1.trans z)
      have b:atKey (q::qs) k=atKey qs k:=by simp [atKey,List.find?_cons,e']
      rw [qGM e,b];exact ih
theorem KT.repl {H:Hp} {kvs:List (List Key×V)} {xs:List (List Key×Addr×Value)} (r:KT H kvs xs) (k:List Key) {y:V} {u:Value} (ry:RelV y u) :
    KT H (kvs.map fun kv=>if kv.1=k then (kv.1,y) else kv) (xs.map (putAt k u)):=by
  induction r with
  | nil=>exact .nil
  | @cons p q ps qs h t ih =>
    rw [List.map_cons,List.map_cons]
    refine .cons ?_ ih
    obtain⟨h1,h2,h3⟩:=h
    unfold putAt
    by_cases e:p.1=k
    · rw [if_pos e,if_pos (h1.symm.trans e)];exact⟨h1,h2,ry⟩
    · rw [if_neg e,if_neg (fun z=>e (h1.trans z))];exact⟨h1,h2,h3⟩
theorem KT.put {H:Hp} {kvs:List (List Key×V)} {xs:List (List Key×Addr×Value)} (r:KT H kvs xs) (k:List Key) {b:Addr} {y:V} {u:Value} (hb:H b=some (.tup (k.map kV))) (ry:RelV y u) :
    KT H (putK kvs k y) (storedH xs k b u):=by
  have e:(kvs.any fun kv=>decide (kv.1=k))=(atKey xs k).isSome:=by
    rw [qI1,(r.val k).qL3,Option.isSome_map]
  unfold putK storedH
  rw [e]
  by_cases q:(atKey xs k).isSome=true
  · rw [if_pos q,if_pos q];exact r.repl k ry
  · rw [if_neg q,if_neg q];exact Paired.snoc r ⟨rfl,hb,ry⟩
theorem KT.keeps {H H':Hp} {kvs:List (List Key×V)} {xs:List (List Key×Addr×Value)} (r:KT H kvs xs) (ht:∀ b ys,H b=some (.tup ys)→H' b=some (.tup ys)):KT H' kvs xs :=
  Paired.qRF r fun _ _ z=>⟨z.1,ht _ _ z.2.1,z.2.2⟩
section
variable {P:Program} {w:World} {H:Hp} {h:Heap} {a:Addr}
theorem qP0 {u:HO} (ok:HOk P w H h) (e:Rd H a u):qA8 P w H h a u:=e.ok ok
theorem qIg {kvs:List (Key×V)} (ok:HOk P w H h) (e:Rd H a (.dK kvs)):kvs.length≤sizeLine∧(a==sysModules)=false∧∃ vs,KV kvs vs∧h.DictOf (qAb P w) a vs :=
  show qA8 P w H h a (.dK kvs) from qP0 ok e
theorem qPy {kvs:List (Key×V)} (ok:HOk P w H h) (e:H a=some (.dK kvs)):kvs.length≤sizeLine∧(a==sysModules)=false∧∃ vs,KV kvs vs∧h.DictOf (qAb P w) a vs:=qIg ok (.inl e)
theorem qDc {ks:List Key} (ok:HOk P w H h) (e:H a=some (.tup (ks.map kV))):(tupleKind (qAb P w)).is h ks a:=by
  obtain⟨_,its,r,o,h1,h2,n,h3⟩:=(show qA8 P w H h a (.tup (ks.map kV)) from ok a _ e)
  exact⟨o,its.toArray,n,h1,h2,h3,by simpa using qHN r⟩
theorem qJK {kvs:List (List Key×V)} (ok:HOk P w H h) (e:Rd H a (.dT kvs)):kvs.length≤sizeLine∧(a==sysModules)=false ∧
    ∃ xs,KT H kvs xs∧h.DictOfH (tupleKind (qAb P w)) a xs:=by
  obtain⟨z,y,xs,r,o,es,ep,h1,h2,h3,h4,h5⟩:=(show qA8 P w H h a (.dT kvs) from qP0 ok e)
  refine⟨z,y,xs,r,o,es,ep,h1,h2,h3,h4,fun x hx=>?_,h5⟩
  have all:∀ {l:List (List Key×V)} {m:List (List Key×Addr×Value)},KT H l m→∀ x∈m,(tupleKind (qAb P w)).is h x.1 x.2.1:=by
    intro l m q
    induction q with
    | nil=>intro x hx;exact nomatch hx
    | @cons p q ps qs hq t ih =>
      intro x hx
      rcases List.mem_cons.mp hx with e | hx
      · subst e
        exact qDc ok (by rw [← hq.1];exact hq.2.1)
      · exact ih x hx
  exact all r x hx
theorem qKv {kvs:List (List Key×V)} (ok:HOk P w H h) (e:H a=some (.dT kvs)):kvs.length≤sizeLine∧(a==sysModules)=false ∧
    ∃ xs,KT H kvs xs∧h.DictOfH (tupleKind (qAb P w)) a xs:=qJK ok (.inl e)
end
def qFT (H:Hp) (a:Addr) (y:V) (r:Option V):Prop :=
  (∃ kvs k,Rd H a (.dK kvs)∧y=kV k∧r=qBo kvs k)∨∃ kvs k b,Rd H a (.dT kvs)∧y = .ref b∧H b=some (.tup (k.map kV))∧r=qBo kvs k
def qKB (H:Hp) (a:Addr) (y v:V) (H':Hp):Prop :=
  (∃ kvs k,H a=some (.dK kvs)∧y=kV k∧kvs.length<sizeLine∧H'=upd H a (.dK (putK kvs k v))) ∨
  ∃ kvs k b,H a=some (.dT kvs)∧y = .ref b∧H b=some (.tup (k.map kV))∧kvs.length<sizeLine∧H'=upd H a (.dT (putK kvs k v))
theorem qFT.k {H:Hp} {a:Addr} {kvs:List (Key×V)} {k:Key} (e:H a=some (.dK kvs)):qFT H a (kV k) (qBo kvs k):=.inl ⟨kvs,k,.inl e,rfl,rfl⟩
theorem qFT.t {H:Hp} {a b:Addr} {kvs:List (List Key×V)} {k:List Key} (e:H a=some (.dT kvs)) (eb:H b=some (.tup (k.map kV))):qFT H a (.ref b) (qBo kvs k):=.inr ⟨kvs,k,b,.inl e,rfl,eb,rfl⟩
theorem qKB.k {H:Hp} {a:Addr} {kvs:List (Key×V)} {k:Key} {v:V} (e:H a=some (.dK kvs)) (hl:kvs.length<sizeLine):qKB H a (kV k) v (upd H a (.dK (putK kvs k v))):=.inl ⟨kvs,k,e,rfl,hl,rfl⟩
theorem qKB.t {H:Hp} {a b:Addr} {kvs:List (List Key×V)} {k:List Key} {v:V} (e:H a=some (.dT kvs)) (eb:H b=some (.tup (k.map kV))) (hl:kvs.length<sizeLine) :
    qKB H a (.ref b) v (upd H a (.dT (putK kvs k v))):=.inr ⟨kvs,k,b,e,rfl,eb,hl,rfl⟩
section
variable {X:Cx} {pins:List (Addr×Obj)} {σ:St} {H:Hp} {s:Shared} {a:Addr} {y v:V} {u r:Value} {o:Option V} {A:Around} {E:Value→Shared→Prop}
theorem Inv.big (I:Inv X pins σ H s):sysModules<s.heap.objs.size:=by
  have h:mainGlobals<s.heap.objs.size:=(I.mod.glob.keeps I.bk).lt
  exact Nat.lt_trans (by decide) h
theorem qMK {Q:Value→Shared→Prop} (hu:A.units+1<cLine) (I:Inv X pins σ H s) (g:qFT H a y (some v)) (ry:RelV y u) (h:∀ w' s',Inv X pins σ H s'→RelV v w'→Q w' s') :
    wpAny (model X.prog X.w) A (getItem (.ref a) u) Q E s:=by
  rcases g with ⟨kvs,k,e,ey,l⟩ | ⟨kvs,k,b,e,ey,eb,l⟩
  · subst ey
    obtain⟨z,hd,vs,rel,dd⟩:=qIg I.hok e
    obtain⟨w',hw,rw'⟩:=qDA.some_of (v:=v) (o:=valueAt vs k) (by rw [l];exact rel.val k)
    exact wpAny_getItem_of (qIx ry) dd.mapOf hw (h w' _ (I.tok _) rw')
  · subst ey
    cases (show u=Value.ref b from ry)
    obtain⟨z,hd,xs,rel,dd⟩:=qJK I.hok e
    obtain⟨w',hw,rw'⟩:=qDA.some_of (v:=v) (o:=(atKey xs k).map (·.2)) (by rw [l];exact rel.val k)
    obtain⟨p,hp,hp2⟩:=Option.map_eq_some_iff.mp hw
    refine wpAny_getItem_heap (tupleKind_room_in1 hu) (qDc I.hok eb) dd hp ?_
    rw [hp2]
    exact h w' _ (I.tok _) rw'
theorem qIP {h':Heap} {t':Nat} {ob:HO} (I:Inv X pins σ H s) (mu:Mut (H a)) (hs:Heap.SameBut a s.heap h') (he:∃ q,h'.get? a=some q) (new:qA8 X.prog X.w (upd H a ob) h' a ob) :
    Inv X pins σ (upd H a ob) { s with heap:=h',toks:=t' } :=
  I.write (x:=a) (e:=a) mu (.inl rfl) (fun b q hb z=>(hs.2 b hb).trans z) he new
theorem qNe {P:Program} {w:World} {H':Hp} {h':Heap} {kvs:List (Key×V)} {vs:List (Key×Value)} (z:kvs.length≤sizeLine) (hd:(a==sysModules)=false) (rel:KV kvs vs) (dd:h'.DictOf (qAb P w) a vs) :
    qA8 P w H' h' a (.dK kvs):=⟨z,hd,vs,rel,dd⟩
theorem qLp {H':Hp} {Q:Unit→Shared→Prop} (hu:A.units+1<cLine) (I:Inv X pins σ H s) (g:qKB H a y v H') (ry:RelV y u) (rv:RelV v r) (h:∀ s',Inv X pins σ H' s'→Q () s') :
    wpAny (model X.prog X.w) A (setItem (.ref a) u r) Q E s:=by
  rcases g with ⟨kvs,k,e,ey,l,eH⟩ | ⟨kvs,k,b,e,ey,eb,l,eH⟩
  · subst ey eH
    obtain⟨z,hd,vs,rel,dd⟩:=qPy I.hok e
    have hz:vs.length≤sizeLine:=by rw [← rel.length];exact z
    have hl:(putK kvs k v).length≤sizeLine:=by have:=qDV kvs k v;omega
    refine wpAny_setItem_pairs (hsz:=hz) (qIx ry) dd fun h' dd' hs=>h _ ?_
    have he:∃ q,h'.get? a=some q:=let ⟨q,_,_,hq,_⟩:=dd';⟨q,hq⟩
    exact qIP I (by rw [e];exact True.intro) hs he (qNe hl hd (rel.put k rv) dd')
  · subst ey eH
    cases (show u=Value.ref b from ry)
    obtain⟨z,hd,xs,rel,dd⟩:=qKv I.hok e
    have hz:xs.length≤sizeLine:=by rw [← Paired.length rel];exact z
    have hl:(putK kvs k v).length≤sizeLine:=by have:=qDV kvs k v;omega
    refine wpAny_setItem_heap (hsz:=hz) (tupleKind_room_in1 hu) (qDc I.hok eb) dd fun h' dd' hs=>h _ ?_
    obtain⟨q,es,ep,hq,h2,h3,h4,_,h5⟩:=dd'
    refine qIP I (by rw [e];exact True.intro) hs ⟨q,hq⟩ ⟨hl,hd,_,(rel.put k eb rv).keeps fun c ys ec=>?_,q,es,ep,hq,h2,h3,h4,h5⟩
    rw [qQ (qHP ec e (fun z=>nomatch z))]
    exact ec
end
def qOy (i:Expr):Prop:=∀ ov iv,subscripted i false ov iv=operate [ov,iv] (getItem ov iv)
theorem qKu {prog:Program} {w:World} {A:Around} {E:Value→Shared→Prop} {s:Shared} {env:Env} {value slice:Expr} {pos:Pos} {T id:String} {Q:Value→Shared→Prop}
    (hl:typeLookup (.type T) "__getitem__" = pure (some (.builtin id))) (hs:qOy slice)
    (h:wpAny (model prog w) A (eval value env) (fun o s₁=>wpAny (model prog w) A (eval slice env) (fun i s₂=>s₂.TypeIs o T∧wpAny (model prog w) A (getItem o i) Q E s₂) E s₁) E s) :
    wpAny (model prog w) A (eval (.Subscript value slice pos) env) Q E s:=by
  refine Subscript_ (wpAny_mono h (fun o s₁ h₁=>wpAny_mono h₁ (fun i s₂ h₂=>?_) fun _ _ x=>x) fun _ _ x=>x)
  obtain⟨hT,h₂⟩:=h₂
  unfold subscriptTail
  refine wpAny_bind ?_
  rw [getitemInPython_of_ne hT.not_modules]
  refine wpAny_bind (wpAny_specialOf hT hl ?_)
  have fin:wpAny (model prog w) A (subscripted slice false o i) (fun r s₃=>wpAny (model prog w) A (letTemporaryGo value o r >>= fun _=>pure r) Q E s₃) E s₂:=by
    rw [hs o i]
    exact wpAny_operating (wpAny_mono h₂ (fun r s₃ h₃=>wpAny_bind (wpAny_letTemporaryGo (wpAny_pure h₃))) fun _ _ x=>x)
  first
    | exact wpAny_pure (wpAny_bind fin)
    | exact wpAny_bind (wpAny_pure (wpAny_bind fin))
    | exact wpAny_bind fin
theorem qIv {X:Cx} {pins:List (Addr×Obj)} {σ:St} {H:Hp} {s:Shared} {a:Addr} {y:V} {o:Option V} (I:Inv X pins σ H s) (g:qFT H a y o):s.TypeIs (.ref a) "dict":=by
  rcases g with ⟨kvs,k,e,_,_⟩ | ⟨kvs,k,b,e,_,_,_⟩
  · obtain⟨_,_,vs,_,dd⟩:=qIg I.hok e
    exact dd.typeIs
  · obtain⟨_,_,xs,_,dd⟩:=qJK I.hok e
    exact dd.typeIs
noncomputable def qS6 (td ty:TE):TE:=fun σ H Q=>td σ H fun x H1=>ty σ H1 fun y H2=>∃ a v,x = .ref a∧qFT H2 a y (some v)∧Q v H2
noncomputable def qTk (td ty tv:TE):TS:=fun D σ H=>tv σ H fun v H1=>td σ H1 fun x H2=>ty σ H2 fun y H3=>∃ a H4,x = .ref a∧qKB H3 a y v H4∧D.nx σ H4
section
variable {X:Cx} {o i e value:Expr} {pos pos' tpos:Pos} {td ty tv:TE}
theorem qOz (hu:X.A.units+1<cLine) (ho:PE X o td) (hi:PE X i ty) (hs:qOy i):PE X (.Subscript o i pos) (qS6 td ty):=by
  k_dat 0"r2"
  refine qKu PySem.F.slot_dict_getitem.lookup hs (thn (ho pins s σ H _ I h) fun u s1 ⟨x,H1,I1,rx,q1⟩=>thn (hi pins s1 σ H1 _ I1 q1) fun iv s2 ⟨y,H2,I2,ry,a,v,ex,g,q2⟩=>?_)
  subst ex
  obtain rfl:u=Value.ref a:=rx
  exact⟨qIv I2 g,qMK hu I2 g ry fun w' s3 I3 rw'=>⟨v,H2,I3,rw',q2⟩⟩
theorem qOw (hu:X.A.units+1<cLine) (ho:PE X o td) (hi:PE X i ty) (hv:PE X value tv) (hs:swapsWith value (some (.Subscript o i pos')) pos.line X.env=pure false) :
    PS X (.Assign [.Subscript o i pos'] value pos) (qTk td ty tv):=by
  k_dat 0"r15"
  refine wpAny_Assign_Subscript (thn (hv pins s σ H _ I h) fun r s1 ⟨v,H1,I1,rv,q1⟩=>thn (ho pins s1 σ H1 _ I1 q1) fun u s2 ⟨x,H2,I2,rx,q2⟩=>thn (hi pins s2 σ H2 _ I2 q2) fun iv s3 ⟨y,H3,I3,ry,a,H4,ex,g,q3⟩=>?_) hs
  subst ex
  obtain rfl:u=Value.ref a:=rx
  exact qLp hu I3 g ry rv fun s4 I4=>⟨σ,H4,I4,q3⟩
end
theorem qJI {P:Program} {w:World} {H:Hp} (h:Heap) (hb:sysModules<h.objs.size):qA8 P w H (h.push { cls:=.type "dict",data:=.dict #[] }) h.objs.size (.dK []) :=
  ⟨Nat.zero_le _,beq_eq_false_iff_ne.mpr (Ne.symm (Nat.ne_of_lt hb)),[],.nil,Heap.DictOf.new h⟩
noncomputable def qQi (K:W.Frag):TE:=fun _ H Q=>∀ p,H p=none→K.lookup p=none→Q (.ref p) (upd H p (.dK []))
section
variable {X:Cx} {pos:Pos}
theorem qNH:PE X (.Dict [] [] pos) (qQi X.K):=fun pins s σ H Q I h =>
  wpAny_Dict_empty ⟨.ref s.heap.objs.size,_,I.laid (a:=s.heap.objs.size) (o:=.dK []) (t':=s.toks) (fun _ _ q=>Heap.get?_push_of_some _ q) (Nat.le_refl _) (qJI s.heap I.big),rfl,h _ (I.hok.fresh (Nat.le_refl _)) (by cases e:X.K.lookup s.heap.objs.size with | none=>rfl | some o=>exact absurd (Heap.lt_size (I.kIn _ o e)) (Nat.lt_irrefl _))⟩
end
noncomputable def qHy:List (TE×TE)→St→Hp→(List (V×V)→Hp→Prop)→Prop
  | [],_,H,Q=>Q [] H
  | (tk,tv)::r,σ,H,Q=>tk σ H fun x H1=>tv σ H1 fun y H2=>qHy r σ H2 fun ps H3=>Q ((x,y)::ps) H3
noncomputable abbrev VV:List (V×V)→List (Value×Value)→Prop:=Paired fun p q=>RelV p.1 q.1∧RelV p.2 q.2
def PPs (X:Cx) (pos:Pos) (keys:List (Option Expr)) (values:List Expr) (trs:List (TE×TE)):Prop :=
  ∀ (pins:List (Addr×Obj)) (s:Shared) (σ:St) (H:Hp) (Q:List (V×V)→Hp→Prop),Inv X pins σ H s→qHy trs σ H Q →
    wpAny (model X.prog X.w) X.A (evalPairs (pairTrees keys values X.env pos)) (fun vs s'=>∃ ps H',Inv X pins σ H' s'∧VV ps vs∧Q ps H') X.xe s
theorem qO1 {X:Cx} {pos:Pos}:PPs X pos [] [] []:=fun pins s σ H Q I h=>pairTrees_nil_walk ⟨[],H,I,.nil,h⟩
theorem qNZ {X:Cx} {pos:Pos} {k v:Expr} {ks:List (Option Expr)} {vs:List Expr} {tk tv:TE} {trs:List (TE×TE)} (hk:PE X k tk) (hv:PE X v tv) (hr:PPs X pos ks vs trs) :
    PPs X pos (some k::ks) (v::vs) ((tk,tv)::trs):=fun pins s σ H Q I h =>
  pairTrees_cons_walk (thn (hk pins s σ H _ I h) fun u s1 ⟨x,H1,I1,rx,q1⟩=>thn (hv pins s1 σ H1 _ I1 q1) fun w2 s2 ⟨y,H2,I2,ry,q2⟩ =>
    thn (hr pins s2 σ H2 _ I2 q2) fun ws s3 ⟨ps,H3,I3,rel,q3⟩=>⟨(x,y)::ps,H3,I3,.cons ⟨rx,ry⟩ rel,q3⟩)
noncomputable def qEA (kvs more:List (Key×V)):List (Key×V):=more.foldl (fun acc kv=>putK acc kv.1 kv.2) kvs
theorem KV.merge:∀ {more:List (Key×V)} {rs:List (Key×Value)} {kvs:List (Key×V)} {vs:List (Key×Value)},KV more rs→KV kvs vs→KV (qEA kvs more) (merged vs rs):=by
  intro more rs kvs vs r
  unfold KV at r
  induction r generalizing kvs vs with
  | nil=>intro q;exact q
  | @cons p q ps qs h t ih =>
    intro r0
    have e:KV (putK kvs p.1 p.2) (stored vs q.1 q.2):=by
      have:=r0.put p.1 h.2
      rw [← h.1];exact this
    exact ih e
theorem qDw:∀ (more kvs:List (Key×V)),(qEA kvs more).length≤kvs.length+more.length
  | [],kvs=>by show kvs.length≤kvs.length+0;omega
  | p::r,kvs=>by
    have h1:=qDw r (putK kvs p.1 p.2)
    have h2:=qDV kvs p.1 p.2
    show (qEA (putK kvs p.1 p.2) r).length≤_
    rw [List.length_cons];omega
theorem qF5 {P:Program} {w:World}:∀ {kvs:List (Key×V)} {ws:List (Value×Value)},VV (kvs.map fun kv=>(kV kv.1,kv.2)) ws→∃ rs,Carries (qAb P w) ws rs∧KV kvs rs
  | [],_,r=>by rw [List.map_nil] at r;cases r;exact⟨[],True.intro,.nil⟩
  | p :: kvs,_,r=>by
    rw [List.map_cons] at r
    cases r with
    | @cons a b as bs h t =>
      obtain⟨rs,c,q⟩:=qF5 (P:=P) (w:=w) t
      obtain⟨b1,b2⟩:=b
      exact⟨(p.1,b2)::rs,⟨qIx h.1,rfl,c⟩,.cons ⟨rfl,h.2⟩ q⟩
noncomputable def qS8 (K:W.Frag) (trs:List (TE×TE)):TE:=fun σ H Q=>∀ p,H p=none→K.lookup p=none→qHy trs σ (upd H p (.dK [])) fun ps H2=>H2 p=some (.dK [])∧∃ kvs:List (Key×V),ps=kvs.map (fun kv=>(kV kv.1,kv.2))∧kvs.length≤15∧Q (.ref p) (upd H2 p (.dK (qEA [] kvs)))
theorem qPB {X:Cx} {pos:Pos} {keys:List (Option Expr)} {values:List Expr} {trs:List (TE×TE)} (h:PPs X pos keys values trs) (hall:keys.all (·.isSome)=true) (hl:keys.length=values.length) (h0:keys≠[])
    (h15:keys.length≤15):PE X (.Dict keys values pos) (qS8 X.K trs):=by
  intro pins s σ H Q I q
  have hn:=I.hok.fresh (Nat.le_refl s.heap.objs.size)
  have I1:=I.laid (a:=s.heap.objs.size) (o:=.dK []) (h':=s.heap.push { cls:=.type "dict",data:=.dict #[] }) (t':=s.toks) (fun _ _ q=>Heap.get?_push_of_some _ q) (Nat.le_refl _) (qJI s.heap I.big)
  refine wpAny_Dict_walk (knd:=qAb X.prog X.w) hall hl h0 h15 (thn (h pins _ σ _ _ I1 (q _ hn (by cases e:X.K.lookup s.heap.objs.size with | none=>rfl | some o=>exact absurd (Heap.lt_size (I.kIn _ o e)) (Nat.lt_irrefl _)))) fun ws s2 ⟨ps,H2,I2,rel,e,kvs,ep,lk,q2⟩=>?_)
  subst ep
  obtain⟨rs,c,rk⟩:=qF5 (P:=X.prog) (w:=X.w) rel
  obtain⟨z,hd,vs0,r0,dd⟩:=qPy I2.hok e
  cases r0
  refine⟨rs,c,dd,fun h' dd' hs=>⟨.ref s.heap.objs.size,_,?_,rfl,q2⟩⟩
  have hz:(qEA [] kvs).length≤sizeLine:=by
    have h1:=qDw kvs []
    rw [List.length_nil] at h1
    rw [sizeLine_eq];omega
  have he:∃ q,h'.get? s.heap.objs.size=some q:=let ⟨q,_,_,hq,_⟩:=dd';⟨q,hq⟩
  exact qIP I2 (by rw [e];exact True.intro) hs he (qNe hz hd (rk.merge .nil) dd')
structure M2 (X:Cx) (o:Expr) (m:Str) (apos:Pos) (e f:Expr) (cpos:Pos):Prop where
  base:attributeBase o m X.env (eval o X.env)=eval o X.env
  few:((backTo cpos (starEach [e,f] X.env)).all (fun x=>!x.1)&&(backToKw cpos (keywordEach [] X.env)).all (fun x=>x.1.isSome)
    && decide (([e,f]:List Expr).length+([]:List Keyword).length+(if ([]:List Keyword).isEmpty then 0 else 1)<30))=true
  line:(apos.endLine==cpos.line)=true
  trees:backTo cpos (starEach [e,f] X.env)=[(false,eval e X.env),(false,eval f X.env)]
def IsD (H:Hp) (a:Addr):Prop:=(∃ kvs,Rd H a (.dK kvs))∨∃ kvs,Rd H a (.dT kvs)
theorem qSU {X:Cx} {pins:List (Addr×Obj)} {σ:St} {H:Hp} {s:Shared} {a:Addr} (I:Inv X pins σ H s) (d:IsD H a) :
    s.TypeIs (.ref a) "dict" ∧ (∀ b,Value.ref a = .ref b→∃ ob,s.heap.get? b=some ob∧ob.dict=none)∧(a==sysModules)=false:=by
  rcases d with ⟨kvs,e⟩ | ⟨kvs,e⟩
  · obtain⟨_,hd,vs,_,dd⟩:=qIg I.hok e
    refine⟨dd.typeIs,fun b q=>?_,hd⟩
    cases q
    obtain⟨ob,_,_,h1,h2,_⟩:=dd
    exact⟨ob,h1,h2.2.1⟩
  · obtain⟨_,hd,xs,_,dd⟩:=qJK I.hok e
    refine⟨dd.typeIs,fun b q=>?_,hd⟩
    cases q
    obtain⟨ob,_,_,h1,h2,_⟩:=dd
    exact⟨ob,h1,h2.2.1⟩
section
variable {X:Cx} {pins:List (Addr×Obj)} {σ:St} {H:Hp} {s:Shared} {a:Addr} {y d:V} {u r:Value} {o:Option V} {A:Around} {E:Value→Shared→Prop}
theorem qQr {Q:Value→Shared→Prop} (hu:A.units+1<cLine) (I:Inv X pins σ H s) (g:qFT H a y o) (ry:RelV y u) (rd:RelV d r) (h:∀ w' s',Inv X pins σ H s'→RelV (o.getD d) w'→Q w' s') :
    wpAny (model X.prog X.w) A (call (.builtin "dict.get") [.ref a,u,r]) Q E s:=by
  rcases g with ⟨kvs,k,e,ey,l⟩ | ⟨kvs,k,b,e,ey,eb,l⟩
  · subst ey
    obtain⟨z,hd,vs,rel,dd⟩:=qIg I.hok e
    refine call_meetsIn PySem.F.slot_dict_get dd.typeIs PySem.F.entry_dict_get (PySem.F.args_dict_get_3 _ _ _) (meets_dict_get_default (qAb X.prog X.w) a (qIx ry) hd r) ⟨_,dd.mapOf,h _ _ (I.tok _) ?_⟩
    rw [l]
    exact (rel.val k).getD rd
  · subst ey
    cases (show u=Value.ref b from ry)
    obtain⟨z,hd,xs,rel,dd⟩:=qJK I.hok e
    refine call_meetsIn PySem.F.slot_dict_get dd.typeIs PySem.F.entry_dict_get (PySem.F.args_dict_get_3 _ _ _) (meetsH_dict_get_default (tupleKind (qAb X.prog X.w)) a b hd r) ⟨tupleKind_room_in1 hu,k,xs,qDc I.hok eb,dd,h _ _ (I.tok _) ?_⟩
    rw [l]
    exact (rel.val k).getD rd
end
noncomputable def qQR (td ty tx:TE):TE:=fun σ H Q=>td σ H fun x H1=>∃ a,x = .ref a∧IsD H1 a∧ty σ H1 fun y H2=>tx σ H2 fun z H3=>∃ o,qFT H3 a y o∧Q (o.getD z) H3
section
variable {X:Cx} {o e f:Expr} {apos cpos:Pos} {td ty tx:TE}
theorem qMc (hu:X.A.units+1<cLine) (ho:PE X o td) (he:PE X e ty) (hf:PE X f tx) (m:M2 X o "get" apos e f cpos):PE X (.Call (.Attribute o "get" apos) [e,f] [] cpos) (qQR td ty tx):=by
  k_dat 0"r2"
  refine wpAny_Call_method m.base m.few m.line PySem.F.plainAttrs_dict PySem.F.slot_dict_get PySem.F.type_dict_get (thn (ho pins s σ H _ I h) fun u s1 ⟨x,H1,I1,rx,a,ex,d,q1⟩=>?_)
  subst ex
  obtain rfl:u=Value.ref a:=rx
  obtain⟨t1,t2,_⟩:=qSU I1 d
  refine⟨t1,t2,?_⟩
  rw [m.trees]
  refine Calls.callWith_builtin rfl (Calls.evalArgs_plain (Calls.spliced_cons (thn (he pins s1 σ H1 _ I1 q1) fun iv s2 ⟨y,H2,I2,ry,q2⟩ =>
    Calls.spliced_cons (thn (hf pins s2 σ H2 _ I2 q2) fun fv s3 ⟨z,H3,I3,rz,ov,g,q3⟩=>Calls.spliced_nil ?_))))
  exact qQr hu I3 g ry rz fun w' s4 I4 rw'=>⟨_,H3,I4,rw',q3⟩
end
end L2
set_option maxHeartbeats 4000000
namespace L2
open PySem PySem.Spec PyProof.Rows
noncomputable def qEk (cells:List (Str×Addr)):List (Str×NameKind)→List (Str×Addr)→List (Str×Addr)
  | [],acc=>acc
  | (n,k)::r,acc=>qEk cells r (if k = .free then (n,(cells.lookup n).getD 0)::acc else acc)
theorem qGK {env:Env} {f:(Str×NameKind)→List (Str×Addr)→Sem (ForInStep (List (Str×Addr)))}
    (h1:∀ n k acc,k≠.free→f (n,k) acc=pure (.yield acc)) (h2:∀ n acc c,env.cells.lookup n=some c→f (n,.free) acc=pure (.yield ((n,c)::acc))) :
    ∀ (names:List (Str×NameKind)) (acc:List (Str×Addr)),(∀ x∈names,x.2 = .free→∃ c,env.cells.lookup x.1=some c)→forIn names acc f=(pure (qEk env.cells names acc):Sem (List (Str×Addr)))
  | [],acc,_=>by simp [qEk]
  | (n,k)::r,acc,h=>by
    rw [List.forIn_cons]
    by_cases hk:k = .free
    · subst hk
      obtain⟨c,hc⟩:=h (n,.free) List.mem_cons_self rfl
      rw [h2 n acc c hc,pure_bind]
      show forIn r ((n,c)::acc) f=_
      rw [qGK h1 h2 r ((n,c)::acc) fun x hx=>h x (List.mem_cons_of_mem _ hx)]
      show _=pure (qEk env.cells r (if NameKind.free = .free then (n,(env.cells.lookup n).getD 0)::acc else acc))
      rw [if_pos rfl,hc]
      rfl
    · rw [h1 n k acc hk,pure_bind]
      show forIn r acc f=_
      rw [qGK h1 h2 r acc fun x hx=>h x (List.mem_cons_of_mem _ hx)]
      show _=pure (qEk env.cells r (if k = .free then (n,(env.cells.lookup n).getD 0)::acc else acc))
      rw [if_neg hk]
theorem qKp {env:Env} {sc:Scope} (h:∀ x∈sc.names,x.2 = .free→∃ c,env.cells.lookup x.1=some c):closureFor sc env=pure (qEk env.cells sc.names []):=by
  simp only [closureFor]
  rw [qGK (env:=env) ?h1 ?h2 sc.names [] h,pure_bind]
  case h1 =>
    intro n k acc hk
    have:(k==NameKind.free)=false:=by simpa using hk
    simp only [this,Bool.false_eq_true,if_false]
  case h2 =>
    intro n acc c hc
    simp only [beq_self_eq_true,if_true,cellOf,hc]
    rfl
theorem qJM {cells:List (Str×Addr)} {x:Str} {c:Addr}:∀ (names:List (Str×NameKind)) (acc:List (Str×Addr)),(∀ y∈names,y.2 = .free→∃ c,cells.lookup y.1=some c)→(qEk cells names acc).lookup x=some c→acc.lookup x=some c∨cells.lookup x=some c
  | [],acc,_,h=>.inl h
  | (n, k)::r,acc,hf,h=>by
    rcases qJM r _ (fun y hy=>hf y (List.mem_cons_of_mem _ hy)) h with h | h
    · by_cases hk:k = .free
      · rw [if_pos hk] at h
        obtain⟨c',hc'⟩:=hf (n,k) List.mem_cons_self hk
        have hc2:cells.lookup n=some c':=hc'
        rw [hc2] at h
        by_cases e:x=n
        · subst e
          simp at h
          subst h
          exact .inr hc2
        · have:(x==n)=false:=by simpa using e
          rw [List.lookup_cons,this] at h
          exact .inl h
      · rw [if_neg hk] at h
        exact .inl h
    · exact .inr h
theorem qEy {cells:List (Str×Addr)} {x:Str}:∀ (names:List (Str×NameKind)) (acc:List (Str×Addr)),((∃ c,acc.lookup x=some c)∨(x,NameKind.free)∈names)→∃ c,(qEk cells names acc).lookup x=some c
  | [],acc,h=>by
    rcases h with h | h
    · exact h
    · cases h
  | (n, k)::r,acc,h=>by
    refine qEy r _ ?_
    rcases h with ⟨c,h⟩ | h
    · refine .inl ?_
      by_cases hk:k = .free
      · rw [if_pos hk,List.lookup_cons]
        by_cases e:(x==n)=true
        · rw [e];exact⟨_,rfl⟩
        · have e':(x==n)=false:=by simpa using e
          rw [e'];exact⟨c,h⟩
      · rw [if_neg hk];exact⟨c,h⟩
    · rcases List.mem_cons.mp h with e | h
      · injection e with e1 e2
        subst e1;subst e2
        refine .inl ?_
        rw [if_pos rfl,List.lookup_cons]
        simp
      · exact .inr h
theorem qDX {α:Type}:∀ {l:List (Str×α)} {x:Str} {k:α},l.lookup x=some k→(x,k)∈l
  | [],_,_,h=>by simp at h
  | (n,a)::r,x,k,h=>by
    rw [List.lookup_cons] at h
    by_cases e:x=n
    · subst e
      simp at h
      subst h
      exact List.mem_cons_self
    · have:(x==n)=false:=by simpa using e
      rw [this] at h
      exact List.mem_cons_of_mem _ (qDX h)
theorem qCs {env:Env}:∀ {names:List (Str×NameKind)} {x:Str} {k:NameKind},
    (names.map fun (n,k)=>if (k==NameKind.free&&env.scope.kind == .function&&env.kindOf n==some .cell) then (n,NameKind.cell) else (n,k)).lookup x=some k →
    ∃ k0,names.lookup x=some k0∧(k=k0∨k0 = .free)
  | [],_,_,h=>by simp at h
  | (n, k0)::r,x,k,h=>by
    rw [List.map_cons] at h
    by_cases e:x=n
    · subst e
      refine⟨k0,by simp,?_⟩
      by_cases hc:(k0==NameKind.free&&env.scope.kind == .function&&env.kindOf x==some .cell)=true
      · right
        simp at hc
        exact hc.1.1
      · left
        dsimp only at h
        rw [if_neg hc] at h
        simp at h
        exact h.symm
    · have e':(x==n)=false:=by simpa using e
      rw [List.lookup_cons,e']
      dsimp only at h
      split at h
      · rw [List.lookup_cons,e'] at h
        exact qCs h
      · rw [List.lookup_cons,e'] at h
        exact qCs h
theorem qCh {env:Env} (hk:env.scope.kind = .function):∀ {names:List (Str×NameKind)} {x:Str},names.lookup x=some .free→env.kindOf x=some .cell →
    (names.map fun (n,k)=>if (k==NameKind.free&&env.scope.kind == .function&&env.kindOf n==some .cell) then (n,NameKind.cell) else (n,k)).lookup x=some .cell
  | [],_,h,_=>by simp at h
  | (n,k0)::r,x,h,hx=>by
    rw [List.map_cons]
    by_cases e:x=n
    · subst e
      simp at h
      subst h
      have hc:(NameKind.free==NameKind.free&&env.scope.kind == .function&&env.kindOf x==some .cell)=true:=by simp [hk,hx]
      dsimp only
      rw [if_pos hc]
      simp
    · have e':(x==n)=false:=by simpa using e
      rw [List.lookup_cons,e'] at h
      dsimp only
      split
      · rw [List.lookup_cons,e'];exact qCh hk h hx
      · rw [List.lookup_cons,e'];exact qCh hk h hx
structure qAY (so:Scope) (N:List Str) (caps:List (Nat×Str)) (sc:Scope):Prop where
  kind:sc.kind = .function
  nocell:∀ y∈sc.names,y.2≠.cell
  names:∀ y∈sc.names,y.2 = .local→sc.names.lookup y.1=some .local
  free:∀ y∈sc.names,y.2 = .free→so.names.lookup y.1=some .cell
  caps:∀ p∈caps,N[p.1]? = some p.2∧so.names.lookup p.2=some .cell∧sc.names.lookup p.2=some .free
noncomputable def qHk (caps:List (Nat×Str)) (σ:St):St:=caps.map fun p=>(σ[p.1]?).join
noncomputable abbrev qAP (X:Cx) (L:List Str) (caps:List (Nat×Str)) (sc:Scope) (C:Addr) (s:Shared) (H:Hp) (fp:List Addr):Cx :=
  { X with N:=L++caps.map (·.2),s₀:=s,H₀:=H,env:=compEnvC sc (qEk X.env.cells sc.names []) C X.env,outer:=X.stack,stack:=X.stack,ex:=fp,fn:=fun _=>false,pn:=[],xe:=fun _ _=>False }
theorem qBn {a b:Addr} {n:Nat} (h:a<n) (h2:n≤b):a≠b:=Nat.ne_of_lt (Nat.lt_of_lt_of_le h h2)
section
variable {X:Cx} {pins:List (Addr×Obj)} {σ:St} {H:Hp} {s:Shared} {L:List Str} {caps:List (Nat×Str)} {sc:Scope} {C D:Addr} {fp:List Addr}
theorem Inv.qJy (I:Inv X pins σ H s) (S:qAY X.env.scope X.N caps sc):∀ x∈sc.names,x.2 = .free→∃ c,X.env.cells.lookup x.1=some c:=fun x hx hf =>
  I.ok.has x.1 (.inl (S.free x hx hf))
theorem Inv.qFL (I:Inv X pins σ H s) (S:qAY X.env.scope X.N caps sc) {x:Str} {c:Addr} (h:(qEk X.env.cells sc.names []).lookup x=some c):X.env.cells.lookup x=some c:=by
  rcases qJM sc.names [] (I.qJy S) h with h | h
  · simp at h
  · exact h
theorem qKa {h₁:Heap} {tk:Nat} {m:Str→Option Value} {oD:Obj} (I:Inv X pins σ H s) (S:qAY X.env.scope X.N caps sc) (hfp:∀ b∈fp,qGu X pins H b) (hfo:∀ b∈fp,∃ o,s.heap.get? b=some o)
    (hC:s.heap.objs.size≤C) (hn:h₁.Ns C m) (old:∀ b o,s.heap.get? b=some o→h₁.get? b=some o) (hD:s.heap.objs.size≤D) (hDC:D≠C) (eD:h₁.get? D=some oD) (dD:∀ v,oD.data≠.cell v) :
    Inv (qAP X L caps sc C s H fp) [(D,oD)] (List.replicate L.length none++qHk caps σ) H { s with heap:=h₁,toks:=tk }:=by
  have hcells:∀ x c,(qEk X.env.cells sc.names []).lookup x=some c→∃ v,s.heap.IsCell c v:=fun x c e=>I.cell x c (I.qFL S e)
  refine⟨⟨I.ok.mod,S.kind,I.ok.glob,I.ok.blt,hC,fun x y c h1 h2=>I.ok.inj x y c (I.qFL S h1) (I.qFL S h2),fun x hx=>?_,fun _ _ h=>(Bool.false_ne_true h).elim,I.ok.hd,I.ok.frames,.inl rfl,fun b hb=>⟨?_,fun x c e=>(hfp b hb).2.2.2.2.1 x c (I.qFL S e)⟩,I.bs,Nat.le_trans I.ok.bsz I.sz,fun b o e hb=>?_,fun b hb hz=>?_,I.stack,I.qKj⟩,
    rfl,I.bare,Un.kept old,⟨m,hn,fun i x v e1 e2 e3=>?_⟩,fun x c e=>?_,I.hok.fresh hC,fun x c e=>I.freeC x c (I.qFL S e),fun p hp=>?_,I.hok.kept old,?_⟩
  · -- has
    have key:∀ k,(relabel sc X.env).names.lookup x=some k→(k = .cell∨k = .free)→(x,NameKind.free)∈sc.names:=fun k e hk=>by
      obtain⟨k0,e0,h0⟩:=qCs e
      have hm:=qDX e0
      rcases h0 with h0 | h0
      · subst h0
        rcases hk with hk | hk
        · exact absurd hk (S.nocell _ hm)
        · rw [hk] at hm;exact hm
      · rw [h0] at hm;exact hm
    have hm:(x,NameKind.free)∈sc.names:=by
      rcases hx with hx | hx
      · exact key _ hx (.inl rfl)
      · exact key _ hx (.inr rfl)
    exact qEy sc.names [] (.inr hm)
  · obtain⟨o,e⟩:=hfo b hb
    exact Nat.ne_of_lt (Nat.lt_of_lt_of_le (Heap.lt_size e) hC)
  · rcases (hfp b hb).2.2.2.1 with z | z
    · exact I.ok.noex b o e z
    · exact absurd (Nat.lt_of_lt_of_le (Heap.lt_size e) (Nat.le_trans I.ok.bsz z)) (Nat.lt_irrefl _)
  · rcases List.mem_cons.mp (I.qIA b hz) with z | z
    · exact (hfp b hb).2.1 z
    · exact (hfp b hb).2.2.1 z
  · -- loc
    have e1':(L++caps.map (·.2))[i]? = some x:=e1
    by_cases hi:i<L.length
    · rw [List.getElem?_append_left (by simpa using hi),List.getElem?_replicate] at e2
      split at e2<;>cases e2
    · rw [List.getElem?_append_right (by simpa using Nat.not_lt.mp hi),List.length_replicate] at e2
      rw [List.getElem?_append_right (Nat.not_lt.mp hi)] at e1'
      unfold qHk at e2
      rw [List.getElem?_map] at e1' e2
      cases hp:caps[i - L.length]? with
      | none=>rw [hp] at e1';cases e1'
      | some p =>
        rw [hp] at e1' e2
        have ex:p.2=x:=Option.some.inj e1'
        have ev:(σ[p.1]?).join=some v:=Option.some.inj e2
        have ev':σ[p.1]? = some (some v):=by
          cases q:σ[p.1]? with
          | none=>rw [q] at ev;cases ev
          | some o=>rw [q] at ev;exact congrArg some ev
        obtain⟨c1,c2,c3⟩:=S.caps p (List.mem_of_getElem? hp)
        obtain⟨m0,hn0,hl⟩:=I.loc
        rw [ex] at c1 c2 c3
        obtain⟨u,r,l⟩:=hl p.1 x v c1 ev' (.inr (.inl c2))
        refine⟨u,r,.inr ⟨.inl (qCh I.ok.kind c3 c2),?_⟩⟩
        rcases l with ⟨hk,_⟩ | ⟨_,c,hc,hcell⟩
        · have:X.env.scope.names.lookup x=some .local:=hk
          rw [c2] at this;cases this
        · obtain⟨c',hc'⟩:=qEy (cells:=X.env.cells) sc.names [] (.inr (qDX c3))
          have:=I.qFL S hc'
          rw [hc] at this
          cases this
          obtain⟨o,ho,hd⟩:=hcell
          exact⟨c,hc',o,old _ _ ho,hd⟩
  · obtain⟨v,o,ho,hd⟩:=hcells x c e
    exact⟨v,o,old _ _ ho,hd⟩
  · have:p∈[(D,oD)]:=hp
    have ep:p=(D,oD):=by simpa using this
    subst ep
    refine⟨eD,I.hok.fresh hD,hDC,fun z=>?_,dD⟩
    have zz:H D=none:=I.hok.fresh hD
    obtain⟨_,o,ho,_⟩:=(I.stack).mem z
    exact absurd (Nat.lt_of_lt_of_le (Heap.lt_size ho) hD) (Nat.lt_irrefl _)
  · show (List.replicate L.length none++qHk caps σ).length=(L++caps.map (·.2)).length
    unfold qHk
    simp
def PIf (X:Cx) (ifs:List Expr) (t:TT):Prop :=
  ∀ (pins:List (Addr×Obj)) (s:Shared) (σ:St) (H:Hp) (Q:Bool→Hp→Prop),Inv X pins σ H s→t σ H Q →
    wpAny (model X.prog X.w) X.A (forIn ifs true fun c r=>if r=true then do let ok ← isTrue c X.env (eval c X.env);pure (ForInStep.yield ok) else pure (ForInStep.yield r)) (TP X pins σ Q) X.xe s
theorem qPq:PIf X [] (fun _ H Q=>Q true H):=fun pins s σ H Q I h=>wpAny_tests_nil ⟨H,I,h⟩
theorem qPd {c:Expr} {t:TT} (h:PT X c t):PIf X [c] t:=fun pins s σ H Q I hq=>wpAny_tests_one (h pins s σ H Q I hq)
theorem qIM {prog:Program} {w:World} {A:Around} {R:Result→Shared→Prop} {s:Shared} {elt target iter:Expr} {ifs:List Expr} {scope:Scope} {pos:Pos} {it acc:Value} {env:Env} (I:Nat→Shared→Prop)
    (turn : ∀ n s,I n s→wpAny (model prog w) A (pyNext it) (fun r s₁=>match r with
      | none=>R (.ok .next) s₁
      | some v=>wpAny (model prog w) A (letOwnedTupleGo target it v) (fun _ s1'=>wpAny (model prog w) A (assign target env v) (fun _ s₂ =>
          wpAny (model prog w) A (forIn ifs true fun c r=>if r=true then do let ok ← isTrue c env (eval c env);pure (ForInStep.yield ok) else pure (ForInStep.yield r)) (fun ok s₃ =>
            if ok=true then wpAny (model prog w) A (eval elt env) (fun x s₄ =>
              wpAny (model prog w) A (call (.builtin "list.append") [acc,x]) (fun _ s₅=>∃ m,m<n∧I m s₅) (fun _ _=>False) s₄) (fun _ _=>False) s₃
            else ∃ m,m<n∧I m s₃) (fun _ _=>False) s₂) (fun _ _=>False) s1') (fun _ _=>False) s₁) (fun _ _=>False) s)
    (n:Nat) (h:I n s):codeAny (model prog w) A (.compLoop (.ListComp elt [⟨target,iter,ifs,0⟩] scope pos) 0 it acc env) R s:=by
  refine codeAny_loop rfl I (fun n s hI=>?_) n h
  show wpAny _ A ((compTurn (.ListComp elt [⟨target,iter,ifs,0⟩] scope pos) 0 it acc env).onRaise (fun x=>do noteFrame x env;theTreesLotGoes x)) _ _ s
  refine wpAny_noted ?_
  rw [compTurn_list]
  refine wpAny_bind (wpAny_standAt (wpAny_bind (wpAny_mono (turn n s hI) (fun r s₁ h₁=>?_) fun _ _ h'=>h'.elim)))
  cases r with
  | none=>exact wpAny_pure h₁
  | some v =>
    refine wpAny_bind (wpAny_mono h₁ (fun _ s1' h1'=>?_) fun _ _ h'=>h'.elim)
    refine wpAny_bind (wpAny_mono h1' (fun _ s₂ h₂=>wpAny_bind (wpAny_mono h₂ (fun ok s₃ h₃=>?_) fun _ _ h'=>h'.elim)) fun _ _ h'=>h'.elim)
    cases ok with
    | false=>exact wpAny_pure ⟨rfl,h₃⟩
    | true =>
      exact wpAny_bind (wpAny_bind (wpAny_mono h₃ (fun x s₄ h₄=>wpAny_bind (wpAny_mono h₄ (fun _ s₅ h₅=>wpAny_pure (wpAny_pure ⟨rfl,h₅⟩)) fun _ _ h'=>h'.elim)) fun _ _ h'=>h'.elim))
def qK5 (J:It) (g:TG) (tc:TT) (te:TE) (σ0:St) (H1:Hp) (Fin:List V→Hp→Prop):Prop :=
  ∃ W : Nat→Nat→St→List V→Hp→Prop,(∃ m,W 0 m σ0 [] H1)∧∀ i m σ ys H,W i m σ ys H →
    (J.stop i H∧Fin ys H)∨(J.go i H∧ys.length<sizeLine∧∀ x H',J.yld i H x H'→g x σ H' fun σ2 H2=>tc σ2 H2 fun b H3 =>
      if b=true then te σ2 H3 fun y H4=>∃ m',m'<m∧W (i+1) m' σ2 (ys++[y]) H4 else ∃ m',m'<m∧W (i+1) m' σ2 ys H3)
theorem qGP {elt iter tg:Expr} {ifs:List Expr} {pos:Pos} {g:TG} {tc:TT} {te:TE} {J:It} {it:Addr} {tn:Nat→Heap→Prop} {Fin:List V→Hp→Prop} {RR:Value→Addr→Result→Shared→Prop} {E:Value→Shared→Prop} {s₂:Shared}
    (hc:X.calm=true) (S:qAY X.env.scope X.N caps sc) (I:Inv X pins σ H s₂) (T:Turn X.prog X.w X.K tg J fp it tn) (st:tn 0 s₂.heap) (hfp:∀ b∈fp,qGu X pins H b)
    (hg:∀ C,PG (qAP X L caps sc C s₂ H fp) tg g) (hif:∀ C,PIf (qAP X L caps sc C s₂ H fp) ifs tc) (he:∀ C,PE (qAP X L caps sc C s₂ H fp) elt te)
    (hW:qK5 J g tc te (List.replicate L.length none++qHk caps σ) H Fin)
    (hRR:∀ C D s' m ys H',Inv X pins σ (upd H' D (.lst ys)) s'→s'.heap.Ns C m→qGu X pins (upd H' D (.lst ys)) C→H' D=none→Fin ys H'→RR (.ref D) C (.ok .next) s') :
    wpAny (model X.prog X.w) X.A (newList []) (fun acc s₃=>wpAny (model X.prog X.w) X.A (newFunctionEnv sc X.env.globals (qEk X.env.cells sc.names []) [] X.env.qual none .none (some X.env)) (fun cenv s₄ =>
      codeAny (model X.prog X.w) X.A (.compStart (.ListComp elt [⟨tg,iter,ifs,0⟩] sc pos) 0 (.ref it) acc { cenv with scope:=relabel sc X.env }) (RR acc cenv.locals) s₄) E s₃) E s₂:=by
  refine wpAny_newObj_type (wpAny_newFunctionEnv S.nocell (by intro y hy;simp at hy) (fun h₁ hns₁ hsb₁=>?_) S.kind)
  dsimp only at hns₁ hsb₁ ⊢
  generalize hH2:s₂.heap.push { cls:=.type "list",dict:=none,data:=.seq ([]:List Value).toArray }=H2 at hns₁ hsb₁ ⊢
  have hCs:H2.objs.size=s₂.heap.objs.size+1:=by rw [← hH2,Heap.size_push]
  have hDC:s₂.heap.objs.size≠H2.objs.size:=by rw [hCs];exact Nat.ne_of_lt (Nat.lt_succ_self _)
  have hCle:s₂.heap.objs.size≤H2.objs.size:=by rw [hCs];exact Nat.le_succ _
  have below:∀ b,b<s₂.heap.objs.size→b≠H2.objs.size∧b≠s₂.heap.objs.size:=fun b hb=>⟨by rw [hCs];exact Nat.ne_of_lt (Nat.lt_succ_of_lt hb),Nat.ne_of_lt hb⟩
  have old:∀ b o,s₂.heap.get? b=some o→h₁.get? b=some o:=fun b o e=>hsb₁.extBut b o (below b (Heap.lt_size e)).1 (Heap.get?_push_of_some _ (hH2 ▸ Heap.get?_push_of_some _ e))
  have hacc:h₁.get? s₂.heap.objs.size=some { cls:=.type "list",data:=.seq ([]:List Value).toArray }:=hsb₁.extBut _ _ hDC (Heap.get?_push_of_some _ (hH2 ▸ Heap.get?_push_size _ rfl))
  generalize hCn:H2.objs.size=C at hns₁ hsb₁ hDC hCle below ⊢
  generalize hDn:s₂.heap.objs.size=D at hacc hDC ⊢
  have hDle:s₂.heap.objs.size≤D:=Nat.le_of_eq hDn
  have fo:∀ b∈fp,∃ o,s₂.heap.get? b=some o:=fun b hb=>let ⟨o,e,_⟩:=T.obj 0 _ st b hb;⟨o,e⟩
  have bD:∀ b∈fp,D≠b:=fun b hb z=>by
    obtain⟨o,e⟩:=fo b hb
    exact qBn (Heap.lt_size e) hDle z.symm
  have cD:∀ x c,X.env.cells.lookup x=some c→c≠D:=fun x c e=>by
    obtain⟨v,o,ho,_⟩:=I.cell x c e
    exact qBn (Heap.lt_size ho) hDle
  have cC:∀ x c,X.env.cells.lookup x=some c→c≠C:=fun x c e=>by
    obtain⟨v,o,ho,_⟩:=I.cell x c e
    exact qBn (Heap.lt_size ho) hCle
  have start:=fun tk=>qKa (L:=L) (fp:=fp) (tk:=tk) I S hfp fo hCle hns₁ old hDle hDC hacc (fun v z=>by
    have z':Data.seq _ _=Data.cell v:=z
    cases z')
  obtain⟨W,⟨m0,w0⟩,turn⟩:=hW
  -- the static facts of the iterator's records in the block
  have stat:∀ {pl:List (Addr×Obj)} {H':Hp},(∀ b∈fp,H' b=none)→(∀ p∈pl,p.1=D)→∀ b∈fp,qGu (qAP X L caps sc C s₂ H fp) pl H' b:=fun {pl H'} hn hpl b hb=>by
    obtain⟨f0,f1,f2,f3,f4,f5⟩:=hfp b hb
    obtain⟨o,e⟩:=fo b hb
    refine⟨hn b hb,(below b (Heap.lt_size e)).1,fun z=>?_,.inl hb,fun x c e'=>f4 x c (I.qFL S e'),fun p hp z=>?_⟩
    · rcases List.mem_cons.mp (I.qIA b z) with z | z
      · exact f1 z
      · exact f2 z
    · have hp':p∈pl:=hp
      exact bD b hb ((hpl p hp').symm.trans z)
  have fin:∀ (s':Shared) (σ':St) (H':Hp) (ys:List V) (its:List Value) (n:Nat),Inv (qAP X L caps sc C s₂ H fp) [(D,{ cls:=.type "list",data:=.seq its.toArray n })] σ' H' s'→Vals ys its→ys.length≤sizeLine→Fin ys H'→RR (.ref D) C (.ok .next) s':=fun s' σ' H' ys its n I' rv hz hF=>by
    obtain⟨m,hm,_⟩:=I'.loc
    obtain⟨eD,hDn',_,_,_⟩:=I'.pin (D,{ cls:=.type "list",data:=.seq its.toArray n }) (by simp)
    have eD':s'.heap.get? D=some { cls:=.type "list",data:=.seq its.toArray n }:=eD
    have hDnone:H' D=none:=hDn'
    have hCnone:H' C=none:=I'.free
    have neD:∀ b o,s₂.heap.get? b=some o→b≠D:=fun b o e=>qBn (Heap.lt_size e) hDle
    have neH:∀ b u,H b=some u→b≠D:=fun b u e=>qBn (I.hok.lt e) hDle
    have ub:=I'.base
    have hok:HOk X.prog X.w (upd H' D (.lst ys)) s'.heap:=fun b u e=>by
      by_cases hb:b=D
      · subst hb
        rw [qh] at e
        cases e
        exact⟨hz,its,n,rv,eD'⟩
      · rw [qQ hb] at e
        exact (I'.hok b u e).stay (fun c v _ q=>q) (fun c q=>by rw [qQ (qX q hDnone)];exact q) fun c xs q=>by rw [qQ (qX q hDnone)];exact q
    have un:Un (frs X.stack) fp H (upd H' D (.lst ys)) s₂.heap s'.heap:=⟨ub.keep,ub.slot,fun b o e n hx=>by rw [qQ (neD b o e)];exact ub.free b o e n hx,ub.there,fun b xs e=>by rw [qQ (neH b _ e)];exact ub.tups b xs e,
      fun b o u e=>by rw [qQ (neH b _ e)];exact ub.frzs b o u e,fun b ps e=>by rw [qQ (neH b _ e)];exact ub.tbls b ps e⟩
    have IX:Inv X pins σ (upd H' D (.lst ys)) s':=I.qTN (ch:=fp) I'.os un hok I'.bare fun b hb=>by
      obtain⟨f0,f1,f2,f3,f4,f5⟩:=hfp b hb
      exact⟨f3,f1,f4,f5⟩
    refine hRR C D s' m ys H' IX hm ⟨by rw [qQ (Ne.symm hDC)];exact hCnone,?_,?_,.inr (Nat.le_trans I.sz hCle),cC,fun p hp=>?_⟩ hDnone hF
    · exact Ne.symm (qBn I.lt hCle)
    · exact I.qTj hCle
    · exact qBn (Heap.lt_size (I.pin p hp).1) hCle
  have loop:∀ s₃:Shared,s₃={ s₂ with heap:=h₁,toks:=s₂.toks+([]:List (Str×Value)).length } →
      codeAny (model X.prog X.w) X.A (.compLoop (.ListComp elt [⟨tg,iter,ifs,0⟩] sc pos) 0 (.ref it) (.ref D) (compEnvC sc (qEk X.env.cells sc.names []) C X.env)) (RR (.ref D) C) s₃:=by
    rintro s₃ rfl
    refine qIM (fun k s'=>∃ i σ' H' ys its n,Inv (qAP X L caps sc C s₂ H fp) [(D,{ cls:=.type "list",data:=.seq its.toArray n })] σ' H' s'∧tn i s'.heap∧(∀ b∈fp,H' b=none)∧Vals ys its∧ys.length≤sizeLine∧W i k σ' ys H') ?_ m0
      ⟨0,_,H,[],[],0,start _,T.keep 0 _ _ st (fun b hb o e=>old b o e),fun b hb=>(hfp b hb).1,.nil,Nat.zero_le _,w0⟩
    rintro k s' ⟨i,σ',H',ys,its,n,I',st',fr',rv,hz,w'⟩
    have hpl:∀ p∈[(D,({ cls:=.type "list",data:=.seq its.toArray n }:Obj))],p.1=D:=fun p hp=>by
      rcases List.mem_cons.mp hp with e | e
      · rw [e]
      · cases e
    rcases turn i k σ' ys H' w' with ⟨stop,hF⟩ | ⟨go,hlen,step⟩
    · refine thn (T.done (qAP X L caps sc C s₂ H fp) rfl rfl rfl hc i _ s' σ' H' _ I' (stat fr' hpl) st' stop) fun r s4 ⟨hr,I4⟩=>?_
      subst hr
      exact fin s4 σ' H' ys its n I4 rv hz hF
    · refine thn (T.item (qAP X L caps sc C s₂ H fp) rfl rfl rfl hc i _ s' σ' H' _ I' (stat fr' hpl) st' go) fun r s4 ⟨u,hr,h4⟩=>?_
      subst hr
      refine thn h4 fun _ s5 ⟨x,H5,I5,r5,y5,st5,fr5⟩=>?_
      have I5':=I5.pinned (stat fr5 hpl) (T.obj _ _ st5)
      refine thn (hg C _ s5 σ' H5 x u _ I5' r5 (step x H5 y5)) fun _ s6 ⟨σ6,H6,I6,q6⟩=>?_
      refine thn (hif C _ s6 σ6 H6 _ I6 q6) fun ok s7 ⟨H7,I7,q7⟩=>?_
      have back:∀ {σ8:St} {H8:Hp} {s8:Shared},Inv (qAP X L caps sc C s₂ H fp) ([(D,{ cls:=.type "list",data:=.seq its.toArray n })]++qGv fp s5.heap) σ8 H8 s8 →
          tn (i+1) s8.heap∧∀ b∈fp,H8 b=none:=fun {σ8 H8 s8} I8=>by
        refine⟨T.keep _ _ _ st5 fun b hb o e=>(I8.pin (b,o) (List.mem_append_right _ (List.mem_append_right _ (qCt hb e)))).1,fun b hb=>?_⟩
        obtain⟨o,e,d⟩:=T.obj _ _ st5 b hb
        exact (I8.pin (b,o) (List.mem_append_right _ (List.mem_append_right _ (qCt hb e)))).2.1
      cases ok with
      | false =>
        rw [if_neg Bool.false_ne_true] at q7
        rw [if_neg Bool.false_ne_true]
        obtain⟨m',hm',w7⟩:=q7
        obtain⟨b1,b2⟩:=back I7
        exact⟨m',hm',i+1,σ6,H7,ys,its,n,I7.qEe,b1,b2,rv,hz,w7⟩
      | true =>
        rw [if_pos rfl] at q7
        rw [if_pos rfl]
        refine thn (he C _ s7 σ6 H7 _ I7 q7) fun yv s8 ⟨y,H8,I8,r8,m',hm',w8⟩=>?_
        obtain⟨b1,b2⟩:=back I8
        obtain⟨eD,hDn8,neL8,nf8,_⟩:=I8.pin (D,{ cls:=.type "list",data:=.seq its.toArray n }) (by simp)
        have hl:=rv.length
        refine append_at (s:=s8) eD (fun h9 sb e9=>?_) (by simp only [List.size_toArray];omega)
        have I8':Inv (qAP X L caps sc C s₂ H fp) [] σ6 H8 s8:=I8.qFr fun p hp=>nomatch hp
        have I9:Inv (qAP X L caps sc C s₂ H fp) [] σ6 H8 { s8 with heap:=h9 }:=I8'.turned (t':=s8.toks) (it:=D) (fun b o hb e=>(sb.2 b hb).trans e) hDn8 neL8 (.inr hDle) (fun x c e=>cD x c (I.qFL S e)) fun p hp=>nomatch (show p∈([]:List (Addr×Obj)) from hp)
        have ep:its.toArray.push yv=(its++[yv]).toArray:=by simp
        rw [ep] at e9
        refine⟨m',hm',i+1,σ6,H8,ys++[y],its++[yv],n+1,I9.qFr fun p hp=>?_,T.keep _ _ _ b1 fun b hb o e=>(sb.2 b (Ne.symm (bD b hb))).trans e,b2,Vals.append rv (.cons r8 .nil),by rw [List.length_append];exact hlen,w8⟩
        obtain rfl:p=(D,({ cls:=.type "list",data:=.seq (its++[yv]).toArray (n+1) }:Obj)):=by
          rcases List.mem_cons.mp hp with e | e
          · exact e
          · cases e
        exact⟨e9,hDn8,neL8,nf8,fun v z=>by
          have z':Data.seq _ _=Data.cell v:=z
          cases z'⟩
  exact codeAny_compStart_list (loop _ rfl) (T.self X.A 0 _ _ _ (T.keep 0 _ _ st fun b hb o e=>old b o e) (loop _ rfl))
noncomputable def qLN (wi:TI) (g:TG) (tc:TT) (te:TE) (nL:Nat) (caps:List (Nat×Str)):TE:=fun σ H Q=>wi σ H fun J H1 =>
  qK5 J g tc te (List.replicate nL none++qHk caps σ) H1 fun ys H2=>∀ p,H2 p=none→Q (.ref p) (upd H2 p (.lst ys))
theorem qLJ {elt iter tg:Expr} {ifs:List Expr} {pos:Pos} {wi:TI} {g:TG} {tc:TT} {te:TE} (L:List Str) (caps:List (Nat×Str)) (hc:X.calm=true) (S:qAY X.env.scope X.N caps sc) (hi:PI X tg iter wi)
    (hg:∀ C s H fp,PG (qAP X L caps sc C s H fp) tg g) (hif:∀ C s H fp,PIf (qAP X L caps sc C s H fp) ifs tc) (he:∀ C s H fp,PE (qAP X L caps sc C s H fp) elt te)
    (hs:∀ x,foldedSetIterable iter X.env x=pure x:=by intro _;rfl):PE X (.ListComp elt [⟨tg,iter,ifs,0⟩] sc pos) (qLN wi g tc te L.length caps):=by
  k_dat 0"r2"
  rw [eval_ListComp]
  refine wpAny_comprehension_free (use:=none) rfl hs (qKp (I.qJy S)) S.kind S.names (thn (hi pins s σ H _ I h) fun v s1 h1=>thn h1 fun itv s2 h2=>?_)
  obtain⟨it,fp,tn,J,H2,e,I2,T,st2,f2,hW⟩:=h2
  subst e
  refine qGP (L:=L) (RR:=fun acc C=>compPost (model X.prog X.w) X.A X.xe none (EP X pins σ Q) acc C) hc S I2 T st2 f2 (fun C=>hg C _ _ _) (fun C=>hif C _ _ _) (fun C=>he C _ _ _) hW ?_
  intro C D s' m ys H' I' hn hC hDn hF
  refine⟨m,hn,fun h' sb=>?_⟩
  obtain⟨f0,f1,f2,f3,f4,f5⟩:=hC
  exact⟨.ref D,_,I'.turned (t':=s'.toks) (it:=C) (fun b o hb e=>(sb.2 b hb).trans e) f0 f1 f3 f4 f5,rfl,hF D hDn⟩
theorem qOj {elt iter tg:Expr} {ifs:List Expr} {pos py spos:Pos} {wi:TI} {g:TG} {tc:TT} {te:TE} {i:Nat} {y:Str} (L:List Str) (caps:List (Nat×Str)) (hc:X.calm=true) (hN:X.N.Nodup) (hy:X.N[i]? = some y) (hyl:X.env.scope.names.lookup y=some .local)
    (S:qAY X.env.scope X.N caps sc) (hi:PI X tg iter wi)
    (hg:∀ C s H fp,PG (qAP X L caps sc C s H fp) tg g) (hif:∀ C s H fp,PIf (qAP X L caps sc C s H fp) ifs tc) (he:∀ C s H fp,PE (qAP X L caps sc C s H fp) elt te)
    (hsw:swapsWith (.ListComp elt [⟨tg,iter,ifs,0⟩] sc pos) (some (.Name y py)) spos.line X.env=pure true:=by rfl)
    (hs:∀ x,foldedSetIterable iter X.env x=pure x:=by intro _;rfl):PS X (.Assign [.Name y py] (.ListComp elt [⟨tg,iter,ifs,0⟩] sc pos) spos) (qOb (qLN wi g tc te L.length caps) (qGp i)):=by
  k_dat 0"r15"
  rw [exec_Assign_Name_used _ _ _ _ hsw]
  refine wpAny_bind (wpAny_standAt (wpAny_bind ?_))
  show wpAny _ X.A (do let _ ← comprehension (.ListComp elt [⟨tg,iter,ifs,0⟩] sc pos) sc X.env _ (newList []) false (eval iter X.env) (some (assign (.Name y py) X.env))) _ _ s
  refine wpAny_bind (wpAny_mono (wpAny_comprehension_free (use:=some (assign (.Name y py) X.env)) (Q:=fun _ s'=>SP X pins D .next s') rfl hs (qKp (I.qJy S)) S.kind S.names
    (thn (hi pins s σ H _ I h) fun v s1 h1=>thn h1 fun itv s2 h2=>?_)) (fun _ s' hq=>wpAny_pure (wpAny_pure hq)) fun _ _ e=>e)
  obtain⟨it,fp,tn,J,H2,e,I2,T,st2,f2,hW⟩:=h2
  subst e
  refine qGP (L:=L) (RR:=fun acc C=>compPost (model X.prog X.w) X.A X.xe (some (assign (.Name y py) X.env)) (fun _ s'=>SP X pins D .next s') acc C) hc S I2 T st2 f2 (fun C=>hg C _ _ _) (fun C=>hif C _ _ _) (fun C=>he C _ _ _) hW ?_
  intro C Dd s' m ys H' I' hn hC hDn hF
  obtain⟨f0,f1,f2,f3,f4,f5⟩:=hC
  show wpAny _ X.A (assign (.Name y py) X.env (.ref Dd)) _ _ _
  refine wpAny_assign_Name (qHM (v:=.ref Dd) I' hN hy (.inl hyl) rfl (fun s'' I'' hsb=>?_) (.inr hyl))
  obtain⟨a,hsb,ha⟩:=hsb
  have hL:a≠C:=by
    rcases ha with z | z
    · rw [z];exact Ne.symm f1
    · exact f4 y a z
  refine⟨m,hn.sameBut hsb (Ne.symm hL),fun h' sb=>?_⟩
  exact⟨_,_,I''.turned (t':=s''.toks) (it:=C) (fun b o hb e=>(sb.2 b hb).trans e) f0 f1 f3 f4 f5,hF Dd hDn⟩
end
end L2
namespace L3
open PySem PySem.Spec PyProof.Rows L2
inductive Dt where
  | non | bl (b:Bool) | int (i:Int) | str (x:Str) | tup (xs:List Dt) | lst (n:Nat) | ty (n:String) | dic (n:Nat) | ins (n:Nat)
inductive SO where
  | ro (xs:List Dt) | rw (xs:List Dt) | dc (kvs:List (Key×Dt)) | ob (C:Str) (fs:List (Str×Dt))
noncomputable def SO.items:SO→List Dt
  | .ro xs=>xs
  | .rw xs=>xs
  | .dc _=>[]
  | .ob _ _=>[]
def IsL (K:W.Frag) (H:Hp) (a:Addr):Prop:=∃ vs,SqL K H a vs
def IsD (H:Hp) (a:Addr):Prop:=∃ kvs,H a=some (.dK kvs)
def IsO (H:Hp) (a:Addr):Prop:=∃ C dx fs,H a=some (.ins C dx fs)
noncomputable abbrev Sto:=List SO
noncomputable abbrev Rho:=List (Option Dt)
mutual
noncomputable def D (K:W.Frag) (φ:Nat→Addr) (N:Nat) (H:Hp):Dt→V→Prop
  | .non,v=>v = .non
  | .bl b,v=>v = .bl b
  | .int i,v=>v = .int i
  | .str x,v=>v = .str x
  | .ty n,v=>v = .ty n
  | .tup ds,v=>∃ a vs,v = .ref a∧SqT K H a vs∧DL K φ N H ds vs
  | .lst n,v=>n<N∧v = .ref (φ n)∧IsL K H (φ n)
  | .dic n,v=>n<N∧v = .ref (φ n)∧IsD H (φ n)
  | .ins n,v=>n<N∧v = .ref (φ n)∧IsO H (φ n)
noncomputable def DL (K:W.Frag) (φ:Nat→Addr) (N:Nat) (H:Hp):List Dt→List V→Prop
  | [],vs=>vs=[]
  | d::ds,vs=>∃ v r,vs=v::r∧D K φ N H d v∧DL K φ N H ds r
end
structure Evo (K:W.Frag) (φ:Nat→Addr) (N:Nat) (H:Hp) (φ':Nat→Addr) (N':Nat) (H':Hp):Prop where
  le:N≤N'
  ext:∀ i,i<N→φ' i=φ i
  tup:∀ a vs,SqT K H a vs→SqT K H' a vs
  lst:∀ i,i<N→IsL K H (φ i)→IsL K H' (φ i)
  dic:∀ i,i<N→IsD H (φ i)→IsD H' (φ i)
  ins:∀ i,i<N→IsO H (φ i)→IsO H' (φ i)
section
variable {K:W.Frag} {φ φ' φ1 φ2:Nat→Addr} {N N' N1 N2:Nat} {H H' H1 H2:Hp}
theorem Evo.refl:Evo K φ N H φ N H:=⟨Nat.le_refl _,fun _ _=>rfl,fun _ _ h=>h,fun _ _ h=>h,fun _ _ h=>h,fun _ _ h=>h⟩
theorem Evo.trans (a:Evo K φ N H φ1 N1 H1) (b:Evo K φ1 N1 H1 φ2 N2 H2):Evo K φ N H φ2 N2 H2 :=
  ⟨Nat.le_trans a.le b.le,fun i hi=>(b.ext i (Nat.lt_of_lt_of_le hi a.le)).trans (a.ext i hi),fun x vs h=>b.tup x vs (a.tup x vs h), 
    fun i hi h=>(fun q:IsL K H1 (φ1 i)→IsL K H2 (φ1 i)=>a.ext i hi ▸ q (a.ext i hi ▸ a.lst i hi h)) (b.lst i (Nat.lt_of_lt_of_le hi a.le)),
    fun i hi h=>(fun q:IsD H1 (φ1 i)→IsD H2 (φ1 i)=>a.ext i hi ▸ q (a.ext i hi ▸ a.dic i hi h)) (b.dic i (Nat.lt_of_lt_of_le hi a.le)),
    fun i hi h=>(fun q:IsO H1 (φ1 i)→IsO H2 (φ1 i)=>a.ext i hi ▸ q (a.ext i hi ▸ a.ins i hi h)) (b.ins i (Nat.lt_of_lt_of_le hi a.le))⟩
mutual
theorem D.evo (e:Evo K φ N H φ' N' H'):∀ {d:Dt} {v:V},D K φ N H d v→D K φ' N' H' d v
  | .non,_,h=>by simpa [D] using h
  | .bl _,_,h=>by simpa [D] using h
  | .int _,_,h=>by simpa [D] using h
  | .str _,_,h=>by simpa [D] using h
  | .ty _,_,h=>by simpa [D] using h
  | .tup ds,v,h=>by
    simp only [D] at h ⊢
    obtain⟨a,vs,h1,h2,h3⟩:=h
    exact⟨a,vs,h1,e.tup a vs h2,DL.evo e h3⟩
  | .lst n,v,h=>by
    simp only [D] at h ⊢
    obtain⟨h1,h2,h3⟩:=h
    exact⟨Nat.lt_of_lt_of_le h1 e.le,by rw [e.ext n h1];exact h2,by rw [e.ext n h1];exact e.lst n h1 h3⟩
  | .dic n,v,h=>by
    simp only [D] at h ⊢
    obtain⟨h1,h2,h3⟩:=h
    exact⟨Nat.lt_of_lt_of_le h1 e.le,by rw [e.ext n h1];exact h2,by rw [e.ext n h1];exact e.dic n h1 h3⟩
  | .ins n,v,h=>by
    simp only [D] at h ⊢
    obtain⟨h1,h2,h3⟩:=h
    exact⟨Nat.lt_of_lt_of_le h1 e.le,by rw [e.ext n h1];exact h2,by rw [e.ext n h1];exact e.ins n h1 h3⟩
theorem DL.evo (e:Evo K φ N H φ' N' H'):∀ {ds:List Dt} {vs:List V},DL K φ N H ds vs→DL K φ' N' H' ds vs
  | [],vs,h=>by simpa [DL] using h
  | d::ds,vs,h=>by
    simp only [DL] at h ⊢
    obtain⟨v,r,h1,h2,h3⟩:=h
    exact⟨v,r,h1,D.evo e h2,DL.evo e h3⟩
end
theorem DL.length:∀ {ds:List Dt} {vs:List V},DL K φ N H ds vs→ds.length=vs.length
  | [],vs,h=>by simp only [DL] at h;rw [h];rfl
  | d::ds,vs,h=>by
    k_dat 0"r13"
    obtain⟨v,r,h1,_,h3⟩:=h
    rw [h1,List.length_cons,List.length_cons,DL.length h3]
theorem DL.get:∀ {ds:List Dt} {vs:List V} {i:Nat} {d:Dt},DL K φ N H ds vs→ds[i]? = some d→∃ v,vs[i]? = some v∧D K φ N H d v
  | [],_,_,_,_,e=>by simp at e
  | d::ds,vs,0,d',h,e=>by
    k_dat 0"r13"
    obtain⟨v,r,h1,h2,_⟩:=h
    simp at e
    subst e;subst h1
    exact⟨v,rfl,h2⟩
  | d::ds,vs,i+1,d',h,e=>by
    k_dat 0"r13"
    obtain⟨v,r,h1,_,h3⟩:=h
    subst h1
    obtain⟨w,e1,e2⟩:=DL.get (i:=i) h3 (by simpa using e)
    exact⟨w,by simpa using e1,e2⟩
theorem DL.nil:DL K φ N H [] []:=by simp [DL]
theorem DL.cons {d:Dt} {v:V} {ds:List Dt} {vs:List V} (h:D K φ N H d v) (t:DL K φ N H ds vs):DL K φ N H (d::ds) (v::vs):=by
  simp only [DL];exact⟨v,vs,rfl,h,t⟩
theorem DL.qCS {d:Dt} {v:V} {ds:List Dt} {vs:List V} (h:DL K φ N H (d::ds) (v::vs)):D K φ N H d v∧DL K φ N H ds vs:=by
  k_dat 0"r13"
  obtain⟨v',r,h1,h2,h3⟩:=h
  cases h1
  exact⟨h2,h3⟩
theorem DL.append:∀ {ds es:List Dt} {vs ws:List V},DL K φ N H ds vs→DL K φ N H es ws→DL K φ N H (ds++es) (vs++ws)
  | [],_,vs,_,h,h'=>by simp only [DL] at h;rw [h];exact h'
  | d::ds,es,vs,ws,h,h'=>by
    k_dat 0"r13"
    obtain⟨v,r,h1,h2,h3⟩:=h
    subst h1
    exact DL.cons h2 (DL.append h3 h')
theorem DL.drop:∀ {ds:List Dt} {vs:List V} (n:Nat),DL K φ N H ds vs→DL K φ N H (ds.drop n) (vs.drop n)
  | ds,vs,0,h=>h
  | [],vs,n+1,h=>by simp only [DL] at h;rw [h];simpa using DL.nil
  | d::ds,vs,n+1,h=>by
    k_dat 0"r13"
    obtain⟨v,r,h1,h2,h3⟩:=h
    subst h1
    exact DL.drop n h3
theorem DL.take:∀ {ds:List Dt} {vs:List V} (n:Nat),DL K φ N H ds vs→DL K φ N H (ds.take n) (vs.take n)
  | ds,vs,0,h=>by simpa using DL.nil
  | [],vs,n+1,h=>by simp only [DL] at h;rw [h];simpa using DL.nil
  | d::ds,vs,n+1,h=>by
    k_dat 0"r13"
    obtain⟨v,r,h1,h2,h3⟩:=h
    subst h1
    exact DL.cons h2 (DL.take n h3)
theorem DL.set {d:Dt} {v:V} (hd:D K φ N H d v):∀ {ds:List Dt} {vs:List V} (n:Nat),DL K φ N H ds vs→DL K φ N H (ds.set n d) (vs.set n v)
  | [],vs,n,h=>by simp only [DL] at h;rw [h];simpa using DL.nil
  | e::ds,vs,0,h=>by
    k_dat 0"r13"
    obtain⟨w,r,h1,h2,h3⟩:=h
    subst h1
    exact DL.cons hd h3
  | e::ds,vs,n+1,h=>by
    k_dat 0"r13"
    obtain⟨w,r,h1,h2,h3⟩:=h
    subst h1
    exact DL.cons h2 (DL.set hd n h3)
theorem DL.one {d:Dt} {vs:List V} (h:DL K φ N H [d] vs):∃ v,vs=[v]∧D K φ N H d v:=by
  k_dat 0"r13"
  obtain⟨v,r,h1,h2,h3⟩:=h
  subst h3
  exact⟨v,h1,h2⟩
theorem DL.two {d e:Dt} {vs:List V} (h:DL K φ N H [d,e] vs):∃ v w,vs=[v,w]∧D K φ N H d v∧D K φ N H e w:=by
  k_dat 0"r13"
  obtain⟨v,r,h1,h2,w,r',h3,h4,h5⟩:=h
  subst h5;subst h3
  exact⟨v,w,h1,h2,h4⟩
theorem D.int {i:Int} {v:V} (h:D K φ N H (.int i) v):v = .int i:=by simpa [D] using h
theorem D.bl {i:Bool} {v:V} (h:D K φ N H (.bl i) v):v = .bl i:=by simpa [D] using h
theorem D.str {i:Str} {v:V} (h:D K φ N H (.str i) v):v = .str i:=by simpa [D] using h
theorem D.non {v:V} (h:D K φ N H .non v):v = .non:=by simpa [D] using h
theorem D.ty {n:String} {v:V} (h:D K φ N H (.ty n) v):v = .ty n:=by simpa [D] using h
theorem D.tup {ds:List Dt} {v:V} (h:D K φ N H (.tup ds) v):∃ a vs,v = .ref a∧SqT K H a vs∧DL K φ N H ds vs:=by simpa [D] using h
theorem D.lst {n:Nat} {v:V} (h:D K φ N H (.lst n) v):n<N∧v = .ref (φ n):=by simp only [D] at h;exact⟨h.1,h.2.1⟩
theorem D.isL {n:Nat} {v:V} (h:D K φ N H (.lst n) v):IsL K H (φ n):=by simp only [D] at h;exact h.2.2
theorem D.dic {n:Nat} {v:V} (h:D K φ N H (.dic n) v):n<N∧v = .ref (φ n):=by simp only [D] at h;exact⟨h.1,h.2.1⟩
theorem D.isD {n:Nat} {v:V} (h:D K φ N H (.dic n) v):IsD H (φ n):=by simp only [D] at h;exact h.2.2
theorem D.ins {n:Nat} {v:V} (h:D K φ N H (.ins n) v):n<N∧v = .ref (φ n):=by simp only [D] at h;exact⟨h.1,h.2.1⟩
theorem D.mkInt {i:Int}:D K φ N H (.int i) (.int i):=by simp [D]
theorem D.qD7 {i:Bool}:D K φ N H (.bl i) (.bl i):=by simp [D]
theorem D.mkStr {i:Str}:D K φ N H (.str i) (.str i):=by simp [D]
theorem D.qKl:D K φ N H .non .non:=by simp [D]
theorem D.qUH {n:String}:D K φ N H (.ty n) (.ty n):=by simp [D]
theorem D.qCH {ds:List Dt} {a:Addr} {vs:List V} (h:SqT K H a vs) (t:DL K φ N H ds vs):D K φ N H (.tup ds) (.ref a):=by simp only [D];exact⟨a,vs,rfl,h,t⟩
theorem D.qP3 {n:Nat} (h:n<N) (hl:IsL K H (φ n)):D K φ N H (.lst n) (.ref (φ n)):=by simp only [D];exact⟨h,trivial,hl⟩
theorem D.qQA {n:Nat} (h:n<N) (hl:IsD H (φ n)):D K φ N H (.dic n) (.ref (φ n)):=by simp only [D];exact⟨h,trivial,hl⟩
theorem D.qSt {n:Nat} (h:n<N) (hl:IsO H (φ n)):D K φ N H (.ins n) (.ref (φ n)):=by simp only [D];exact⟨h,trivial,hl⟩
end
def SqR (K:W.Frag) (H:Hp) (a:Addr) (xs:List V):Prop :=
  (∃ o,H a=some (.frz o (.lst xs))) ∨
    ∃ (o:Obj) (its:Array Value) (n:Nat),K.lookup a=some o∧o.cls = .type "list" ∧ o.dict=none∧o.data = .seq its n∧its.size≤sizeLine∧Vals xs its.toList
theorem SqR.sq {K:W.Frag} {H:Hp} {a:Addr} {xs:List V} (h:SqR K H a xs):SqL K H a xs:=by
  rcases h with h | h
  · exact .inl (.inr h)
  · exact .inr h
noncomputable def Holds (K:W.Frag) (φ:Nat→Addr) (N:Nat) (H:Hp):SO→Addr→Prop
  | .ro xs,a=>∃ vs,SqR K H a vs∧DL K φ N H xs vs
  | .rw xs,a=>∃ vs,H a=some (.lst vs)∧DL K φ N H xs vs
  | .dc kvs,a=>∃ vs:List (Key×V),H a=some (.dK vs)∧K.lookup a=none∧kvs.map (·.1)=vs.map (·.1)∧DL K φ N H (kvs.map (·.2)) (vs.map (·.2))
  | .ob C fs,a=>∃ (c dx:Addr) (vs:List (Str×V)),H a=some (.ins c dx vs)∧K.lookup a=none∧W.nsIn K mainGlobals C=some (some (.ref c))∧fs.map (·.1)=vs.map (·.1)∧DL K φ N H (fs.map (·.2)) (vs.map (·.2))
noncomputable def SO.wr:SO→Bool
  | .ro _=>false
  | _=>true
structure Rep (K:W.Frag) (φ:Nat→Addr) (st:Sto) (H:Hp):Prop where
  injA:∀ (i j:Nat) a b,st[i]? = some a→st[j]? = some b→a.wr=true→b.wr=true→φ i=φ j→i=j
  all:∀ (i:Nat) o,st[i]? = some o→Holds K φ st.length H o (φ i)
section
variable {K:W.Frag} {φ φ':Nat→Addr} {N N':Nat} {st:Sto} {H H':Hp} {p:Addr}
theorem Rep.ro (R:Rep K φ st H):∀ (i:Nat) xs,st[i]? = some (.ro xs)→∃ vs,SqR K H (φ i) vs∧DL K φ st.length H xs vs:=fun i _ e=>R.all i _ e
theorem Rep.rw (R:Rep K φ st H):∀ (i:Nat) xs,st[i]? = some (.rw xs)→∃ vs,H (φ i)=some (.lst vs)∧DL K φ st.length H xs vs:=fun i _ e=>R.all i _ e
theorem Rep.seq (R:Rep K φ st H) {i:Nat} {o:SO} (e:st[i]? = some o) (hl:IsL K H (φ i)):∃ vs,SqL K H (φ i) vs∧DL K φ st.length H o.items vs:=by
  have no:∀ {u:HO},H (φ i)=some u→K.lookup (φ i)=none→(∀ vs,u≠.lst vs)→(∀ ob vs,u≠.frz ob vs)→False:=by
    intro u h hk h1 h2
    obtain⟨vs,(h3 | ⟨ob,h3⟩) | ⟨ob,_,_,h3,_⟩⟩:=hl
    · rw [h] at h3;exact h1 _ (Option.some.inj h3)
    · rw [h] at h3;exact h2 _ _ (Option.some.inj h3)
    · rw [hk] at h3;cases h3
  cases o with
  | ro xs =>
    obtain⟨vs,h1,h2⟩:=R.ro i xs e
    exact⟨vs,h1.sq,h2⟩
  | rw xs =>
    obtain⟨vs,h1,h2⟩:=R.rw i xs e
    exact⟨vs,SqL.of h1,h2⟩
  | dc kvs =>
    obtain⟨vs,h1,h2,_⟩:=R.all i _ e
    exact (no h1 h2 (fun _ z=>by cases z) (fun _ _ z=>by cases z)).elim
  | ob C fs =>
    obtain⟨c,dx,vs,h1,h2,_⟩:=R.all i _ e
    exact (no h1 h2 (fun _ z=>by cases z) (fun _ _ z=>by cases z)).elim
theorem qLM {a:Addr} {vs:List V} {o:HO} (h:SqT K H a vs) (hp:H p=none):SqT K (upd H p o) a vs:=by
  rcases h with (h | ⟨ob,h⟩) | h
  · exact .inl (.inl (by rw [qQ (qX h hp)];exact h))
  · exact .inl (.inr ⟨ob,by rw [qQ (qX h hp)];exact h⟩)
  · exact .inr h
theorem qKk {a:Addr} {vs:List V} {o:HO} (h:SqR K H a vs) (hp:H p=none):SqR K (upd H p o) a vs:=by
  rcases h with ⟨ob,h⟩ | h
  · exact .inl ⟨ob,by rw [qQ (qX h hp)];exact h⟩
  · exact .inr h
theorem qNJ {a:Addr} {vs ws:List V} {o:HO} (h:SqT K H a vs) (hp:H p=some (.lst ws)):SqT K (upd H p o) a vs:=by
  rcases h with (h | ⟨ob,h⟩) | h
  · exact .inl (.inl (by rw [qQ (qHP h hp (by intro z;cases z))];exact h))
  · exact .inl (.inr ⟨ob,by rw [qQ (qHP h hp (by intro z;cases z))];exact h⟩)
  · exact .inr h
theorem qPr {a:Addr} {vs:List V} {o:HO} (h:SqL K H a vs) (hp:H p=none):SqL K (upd H p o) a vs:=by
  rcases h with (h | ⟨ob,h⟩) | h
  · exact .inl (.inl (by rw [qQ (qX h hp)];exact h))
  · exact .inl (.inr ⟨ob,by rw [qQ (qX h hp)];exact h⟩)
  · exact .inr h
theorem qLB {a:Addr} {o:HO} (h:IsL K H a) (hp:H p=none):IsL K (upd H p o) a:=let ⟨vs,h⟩:=h;⟨vs,qPr h hp⟩
theorem qK1 {a:Addr} {o:HO} (h:IsD H a) (hp:H p=none):IsD (upd H p o) a:=let ⟨vs,h⟩:=h;⟨vs,by rw [qQ (qX h hp)];exact h⟩
theorem qK0 {a:Addr} {o:HO} (h:IsO H a) (hp:H p=none):IsO (upd H p o) a:=let ⟨c,d,f,h⟩:=h;⟨c,d,f,by rw [qQ (qX h hp)];exact h⟩
theorem qBE {o:HO} (hp:H p=none):Evo K φ N H φ N (upd H p o):=⟨Nat.le_refl _,fun _ _=>rfl,fun _ _ h=>qLM h hp,fun _ _ h=>qLB h hp,fun _ _ h=>qK1 h hp,fun _ _ h=>qK0 h hp⟩
theorem Holds.stay {o:SO} {a:Addr} (h:Holds K φ N H o a) (e:Evo K φ N H φ' N' H') (hr:∀ vs,SqR K H a vs→SqR K H' a vs) (hw:o.wr=true→H' a=H a):Holds K φ' N' H' o a:=by
  cases o with
  | ro xs=>obtain⟨vs,h1,h2⟩:=h;exact⟨vs,hr vs h1,h2.evo e⟩
  | rw xs=>obtain⟨vs,h1,h2⟩:=h;exact⟨vs,by rw [hw rfl];exact h1,h2.evo e⟩
  | dc kvs=>obtain⟨vs,h1,h2,h3,h4⟩:=h;exact⟨vs,by rw [hw rfl];exact h1,h2,h3,h4.evo e⟩
  | ob C fs=>obtain⟨c,dx,vs,h1,h2,h3,h4,h5⟩:=h;exact⟨c,dx,vs,by rw [hw rfl];exact h1,h2,h3,h4,h5.evo e⟩
theorem Holds.qP7 {o:SO} {a:Addr} (h:Holds K φ N H o a) (hw:o.wr=true):∃ u,H a=some u:=by
  cases o with
  | ro xs=>cases hw
  | rw xs=>obtain⟨vs,h1,_⟩:=h;exact⟨_,h1⟩
  | dc kvs=>obtain⟨vs,h1,_⟩:=h;exact⟨_,h1⟩
  | ob C fs=>obtain⟨c,dx,vs,h1,_⟩:=h;exact⟨_,h1⟩
theorem Rep.laid {o:HO} (R:Rep K φ st H) (hp:H p=none):Rep K φ st (upd H p o) :=
  ⟨R.injA,fun i x e=>(R.all i x e).stay (qBE hp) (fun _ h=>qKk h hp) fun w=>by
    obtain⟨u,h⟩:=(R.all i x e).qP7 w
    exact qQ (qX h hp)⟩
noncomputable def qAk (φ:Nat→Addr) (n:Nat) (p:Addr):Nat→Addr:=fun i=>if i=n then p else φ i
theorem qCQ {n:Nat}:qAk φ n p n=p:=by unfold qAk;rw [if_pos rfl]
theorem qFG {n i:Nat} (h:i<n):qAk φ n p i=φ i:=by unfold qAk;rw [if_neg (Nat.ne_of_lt h)]
theorem qDm {o:SO} {u:HO} (hp:H p=none):Evo K φ st.length H (qAk φ st.length p) (st++[o]).length (upd H p u) :=
  ⟨by rw [List.length_append];exact Nat.le_add_right _ _,fun i hi=>qFG hi,fun _ _ h=>qLM h hp,fun _ _ h=>qLB h hp,fun _ _ h=>qK1 h hp,fun _ _ h=>qK0 h hp⟩
theorem qOf {vs:List V} {xs:List Dt} (hp:H p=none):Evo K φ st.length H (qAk φ st.length p) (st++[SO.rw xs]).length (upd H p (.lst vs)):=qDm hp
theorem qEg {α:Type} {l:List α} {x y:α} {i:Nat} (e:(l++[x])[i]? = some y):(i<l.length∧l[i]? = some y)∨(i=l.length∧y=x):=by
  by_cases h:i<l.length
  · left
    rw [List.getElem?_append_left h] at e
    exact⟨h,e⟩
  · right
    rw [List.getElem?_append_right (Nat.not_lt.mp h)] at e
    have h0:i - l.length=0:=by
      cases q:i - l.length with
      | zero=>rfl
      | succ n=>rw [q] at e;simp at e
    rw [h0] at e
    have:x=y:=by simpa using e
    exact⟨by omega,this.symm⟩
theorem qAX {α:Type} {l:List α} {y:α} {i:Nat} (e:l[i]? = some y):i<l.length:=(List.getElem?_eq_some_iff.mp e).1
theorem Rep.add {o:SO} {u:HO} (R:Rep K φ st H) (hp:H p=none) (hd:Holds K (qAk φ st.length p) (st++[o]).length (upd H p u) o p):Rep K (qAk φ st.length p) (st++[o]) (upd H p u):=by
  have ev:Evo K φ st.length H (qAk φ st.length p) (st++[o]).length (upd H p u):=qDm hp
  have notp:∀ (i:Nat) x,st[i]? = some x→x.wr=true→φ i≠p:=fun i x e w z=>by
    obtain⟨v,h⟩:=(R.all i x e).qP7 w
    rw [z,hp] at h;cases h
  refine⟨fun i j a b e1 e2 w1 w2 h=>?_,fun i x e=>?_⟩
  · rcases qEg e1 with ⟨l1,e1⟩ | ⟨l1,e1⟩
    · rcases qEg e2 with ⟨l2,e2⟩ | ⟨l2,e2⟩
      · rw [qFG l1,qFG l2] at h
        exact R.injA i j _ _ e1 e2 w1 w2 h
      · rw [qFG l1,l2,qCQ] at h
        exact absurd h (notp i _ e1 w1)
    · rcases qEg e2 with ⟨l2,e2⟩ | ⟨l2,e2⟩
      · rw [qFG l2,l1,qCQ] at h
        exact absurd h.symm (notp j _ e2 w2)
      · rw [l1,l2]
  · rcases qEg e with ⟨l1,e1⟩ | ⟨l1,e1⟩
    · rw [qFG l1]
      exact (R.all i x e1).stay ev (fun _ h=>qKk h hp) fun w=>qQ (notp i x e1 w)
    · rw [l1,qCQ,e1];exact hd
theorem Rep.newL {vs:List V} {xs:List Dt} (R:Rep K φ st H) (hp:H p=none) (hd:DL K φ st.length H xs vs):Rep K (qAk φ st.length p) (st++[.rw xs]) (upd H p (.lst vs)) :=
  R.add hp ⟨vs,qh,hd.evo (qDm hp)⟩
theorem qM0 {a:Addr} {vs:List V} {u w:HO} (h:SqT K H a vs) (hp:H p=some u) (h1:∀ xs,u≠.tup xs) (h2:∀ o x,u≠.frz o x):SqT K (upd H p w) a vs:=by
  rcases h with (h | ⟨ob,h⟩) | h
  · exact .inl (.inl (by rw [qQ (qHP h hp (fun z=>h1 _ z.symm))];exact h))
  · exact .inl (.inr ⟨ob,by rw [qQ (qHP h hp (fun z=>h2 _ _ z.symm))];exact h⟩)
  · exact .inr h
theorem qOB {a:Addr} {vs:List V} {u w:HO} (h:SqR K H a vs) (hp:H p=some u) (h2:∀ o x,u≠.frz o x):SqR K (upd H p w) a vs:=by
  rcases h with ⟨ob,h⟩ | h
  · exact .inl ⟨ob,by rw [qQ (qHP h hp (fun z=>h2 _ _ z.symm))];exact h⟩
  · exact .inr h
noncomputable def qHI:HO→HO→Prop
  | .lst _,.lst _=>True
  | .dK _,.dK _=>True
  | .ins _ _ _,.ins _ _ _=>True
  | _,_=>False
theorem qJR {a:Addr} {u w:HO} (h:IsL K H a) (hp:H p=some u) (hk:qHI u w):IsL K (upd H p w) a:=by
  by_cases e:a=p
  · subst e
    cases u<;>cases w<;>first | exact hk.elim | skip
    · exact⟨_,SqL.of qh⟩
    · obtain⟨vs,(h | ⟨ob,h⟩) | h⟩:=h
      · rw [hp] at h;cases h
      · rw [hp] at h;cases h
      · exact⟨vs,.inr h⟩
    · obtain⟨vs,(h | ⟨ob,h⟩) | h⟩:=h
      · rw [hp] at h;cases h
      · rw [hp] at h;cases h
      · exact⟨vs,.inr h⟩
  · obtain⟨vs,(h | ⟨ob,h⟩) | h⟩:=h
    · exact⟨vs,.inl (.inl (by rw [qQ e];exact h))⟩
    · exact⟨vs,.inl (.inr ⟨ob,by rw [qQ e];exact h⟩)⟩
    · exact⟨vs,.inr h⟩
theorem qIh {a:Addr} {u w:HO} (h:IsD H a) (hp:H p=some u) (hk:qHI u w):IsD (upd H p w) a:=by
  by_cases e:a=p
  · subst e
    obtain⟨vs,h⟩:=h
    rw [hp] at h
    cases h
    cases w<;>first | exact hk.elim | exact⟨_,qh⟩
  · obtain⟨vs,h⟩:=h
    exact⟨vs,by rw [qQ e];exact h⟩
theorem qIs {a:Addr} {u w:HO} (h:IsO H a) (hp:H p=some u) (hk:qHI u w):IsO (upd H p w) a:=by
  by_cases e:a=p
  · subst e
    obtain⟨c,d,f,h⟩:=h
    rw [hp] at h
    cases h
    cases w<;>first | exact hk.elim | exact⟨_,_,_,qh⟩
  · obtain⟨c,d,f,h⟩:=h
    exact⟨c,d,f,by rw [qQ e];exact h⟩
theorem qGW {u w:HO} (hk:qHI u w):(∀ xs,u≠.tup xs)∧∀ o x,u≠.frz o x:=by
  cases u<;>first | exact hk.elim | exact⟨(fun _ z=>nomatch z),(fun _ _ z=>nomatch z)⟩
theorem qDP {n:Nat} {u w:HO} {o:SO} (hn:n<st.length) (h:H (φ n)=some u) (hk:qHI u w):Evo K φ st.length H φ (st.set n o).length (upd H (φ n) w) :=
  ⟨by rw [List.length_set];exact Nat.le_refl _,fun _ _=>rfl,fun _ _ hh=>qM0 hh h (qGW hk).1 (qGW hk).2,fun _ _ hh=>qJR hh h hk,fun _ _ hh=>qIh hh h hk,fun _ _ hh=>qIs hh h hk⟩
theorem qFw {n:Nat} {vs ws:List V} {o:SO} (h:H (φ n)=some (.lst ws)):Evo K φ st.length H φ (st.set n o).length (upd H (φ n) (.lst vs)) :=
  ⟨by rw [List.length_set];exact Nat.le_refl _,fun _ _=>rfl,fun _ _ hh=>qNJ hh h,fun _ _ hh=>qJR hh h trivial,fun _ _ hh=>qIh hh h trivial,fun _ _ hh=>qIs hh h trivial⟩
theorem Rep.put {n:Nat} {u w:HO} {o q:SO} (R:Rep K φ st H) (hn:st[n]? = some q) (hq:q.wr=true) (ho:o.wr=true) (h:H (φ n)=some u) (hk:qHI u w) (hd:Holds K φ (st.set n o).length (upd H (φ n) w) o (φ n)):Rep K φ (st.set n o) (upd H (φ n) w):=by
  have hlt:=qAX hn
  have ev:Evo K φ st.length H φ (st.set n o).length (upd H (φ n) w):=qDP hlt h hk
  have get:∀ {i:Nat} {x:SO},(st.set n o)[i]? = some x→(i=n∧x=o)∨(i≠n∧st[i]? = some x):=fun {i x} e=>by
    by_cases h:i=n
    · left
      subst h
      rw [List.getElem?_set_self hlt] at e
      exact⟨rfl,(Option.some.inj e).symm⟩
    · right
      rw [List.getElem?_set_ne (Ne.symm h)] at e
      exact⟨h,e⟩
  refine⟨fun i j a b e1 e2 w1 w2 hh=>?_,fun i x e=>?_⟩
  · have g:∀ {i:Nat} {a:SO},(st.set n o)[i]? = some a→a.wr=true→∃ a',st[i]? = some a'∧a'.wr=true:=fun {i a} e w=>by
      rcases get e with ⟨h,_⟩ | ⟨_,h⟩
      · rw [h];exact⟨q,hn,hq⟩
      · exact⟨a,h,w⟩
    obtain⟨z1,g1,y1⟩:=g e1 w1
    obtain⟨z2,g2,y2⟩:=g e2 w2
    exact R.injA i j z1 z2 g1 g2 y1 y2 hh
  · rcases get e with ⟨h1,h2⟩ | ⟨h1,h2⟩
    · rw [h1,h2];exact hd
    · exact (R.all i x h2).stay ev (fun _ hh=>qOB hh h (qGW hk).2) fun w=>qQ fun z=>h1 (R.injA i n x q h2 hn w hq z)
theorem Rep.qQp {n:Nat} {vs:List V} {xs ys:List Dt} (R:Rep K φ st H) (hn:st[n]? = some (.rw ys)) (hd:DL K φ st.length H xs vs):Rep K φ (st.set n (.rw xs)) (upd H (φ n) (.lst vs)):=by
  obtain⟨ws,hw,_⟩:=R.rw n ys hn
  exact R.put hn rfl rfl hw trivial ⟨vs,qh,hd.evo (qFw hw)⟩
end
noncomputable abbrev VD:=Dt→Sto→Prop
noncomputable abbrev TD:=Rho→Sto→VD→Prop
noncomputable abbrev TBD:=Rho→Sto→(Bool→Sto→Prop)→Prop
noncomputable abbrev TAD:=Rho→Sto→(List Dt→Sto→Prop)→Prop
structure qA4 where
  nx:Rho→Sto→Prop
  rt:VD
  bk:Rho→Sto→Prop:=fun _ _=>False
  ct:Rho→Sto→Prop:=fun _ _=>False
noncomputable abbrev TSD:=qA4→Rho→Sto→Prop
def DR (K:W.Frag) (φ:Nat→Addr) (N:Nat) (H:Hp) (ρ:Rho) (σ:L2.St):Prop :=
  ρ.length=σ.length∧∀ (i:Nat) d,ρ[i]? = some (some d)→∃ v,σ[i]? = some (some v)∧D K φ N H d v
section
variable {K:W.Frag} {φ φ':Nat→Addr} {N N':Nat} {H H':Hp} {ρ:Rho} {σ:L2.St}
theorem DR.evo (h:DR K φ N H ρ σ) (e:Evo K φ N H φ' N' H'):DR K φ' N' H' ρ σ :=
  ⟨h.1,fun i d q=>let ⟨v,h1,h2⟩:=h.2 i d q;⟨v,h1,h2.evo e⟩⟩
theorem DR.set {d:Dt} {v:V} (h:DR K φ N H ρ σ) (hd:D K φ N H d v) (i:Nat):DR K φ N H (ρ.set i (some d)) (σ.set i (some v)):=by
  refine⟨by rw [List.length_set,List.length_set];exact h.1,fun j e q=>?_⟩
  by_cases hj:j=i
  · subst hj
    have hl:j<ρ.length:=by
      have:=qAX q
      rwa [List.length_set] at this
    rw [List.getElem?_set_self hl] at q
    cases q
    exact⟨v,by rw [List.getElem?_set_self (by rw [← h.1];exact hl)],hd⟩
  · rw [List.getElem?_set_ne (Ne.symm hj)] at q
    rw [List.getElem?_set_ne (Ne.symm hj)]
    exact h.2 j e q
end
def Pre (K:W.Frag) (φ:Nat→Addr) (st:Sto) (H:Hp) (ρ:Rho) (σ:L2.St):Prop:=Rep K φ st H∧DR K φ st.length H ρ σ
def Bhd (K:W.Frag) (φ:Nat→Addr) (st:Sto) (H:Hp) (φ':Nat→Addr) (st':Sto) (H':Hp):Prop:=Rep K φ' st' H'∧Evo K φ st.length H φ' st'.length H'
noncomputable def qAd (K:W.Frag) (t:TD):TE:=fun σ H Q=>∃ φ st ρ P,Pre K φ st H ρ σ∧t ρ st P ∧
  ∀ d st',P d st'→∀ φ' H' v,Bhd K φ st H φ' st' H'→D K φ' st'.length H' d v→Q v H'
noncomputable def liftT (K:W.Frag) (t:TBD):TT:=fun σ H Q=>∃ φ st ρ P,Pre K φ st H ρ σ∧t ρ st P ∧
  ∀ b st',P b st'→∀ φ' H',Bhd K φ st H φ' st' H'→Q b H'
noncomputable def qLG (K:W.Frag) (t:TAD):TA:=fun σ H Q=>∃ φ st ρ P,Pre K φ st H ρ σ∧t ρ st P ∧
  ∀ ds st',P ds st'→∀ φ' H' vs,Bhd K φ st H φ' st' H'→DL K φ' st'.length H' ds vs→Q vs H'
noncomputable def qIZ (K:W.Frag) (t:TSD):TS:=fun E σ H=>∃ φ st ρ P,Pre K φ st H ρ σ∧t P ρ st ∧
  (∀ ρ' st',P.nx ρ' st'→∀ φ' H' σ',Bhd K φ st H φ' st' H'→DR K φ' st'.length H' ρ' σ'→E.nx σ' H') ∧
  (∀ ρ' st',P.bk ρ' st'→∀ φ' H' σ',Bhd K φ st H φ' st' H'→DR K φ' st'.length H' ρ' σ'→E.bk σ' H') ∧
  (∀ ρ' st',P.ct ρ' st'→∀ φ' H' σ',Bhd K φ st H φ' st' H'→DR K φ' st'.length H' ρ' σ'→E.ct σ' H') ∧
  (∀ d st',P.rt d st'→∀ φ' H' v,Bhd K φ st H φ' st' H'→D K φ' st'.length H' d v→E.rt v H')
def DE (X:Cx) (e:Expr) (t:TD):Prop:=PE X e (qAd X.K t)
def DT (X:Cx) (e:Expr) (t:TBD):Prop:=PT X e (liftT X.K t)
def DA (X:Cx) (es:List Expr) (t:TAD):Prop:=PA X es (qLG X.K t)
def DS (X:Cx) (s:Stmt) (t:TSD):Prop:=PS X s (qIZ X.K t)
def DSs (X:Cx) (s:List Stmt) (t:TSD):Prop:=PSs X s (qIZ X.K t)
section
variable {K:W.Frag} {φ φ1 φ2:Nat→Addr} {st st1 st2:Sto} {H H1 H2:Hp} {ρ:Rho} {σ:L2.St}
theorem Bhd.refl (h:Rep K φ st H):Bhd K φ st H φ st H:=⟨h,.refl⟩
theorem Bhd.trans (a:Bhd K φ st H φ1 st1 H1) (b:Bhd K φ1 st1 H1 φ2 st2 H2):Bhd K φ st H φ2 st2 H2:=⟨b.1,a.2.trans b.2⟩
theorem Pre.on (p:Pre K φ st H ρ σ) (b:Bhd K φ st H φ1 st1 H1):Pre K φ1 st1 H1 ρ σ:=⟨b.1,p.2.evo b.2⟩
end
theorem _root_.L2.PE.imp {X:Cx} {e:Expr} {t t':TE} (h:PE X e t) (i:∀ σ H Q,t' σ H Q→t σ H Q):PE X e t':=fun pins s σ H Q I q=>h pins s σ H Q I (i σ H Q q)
theorem _root_.L2.PT.imp {X:Cx} {e:Expr} {t t':TT} (h:PT X e t) (i:∀ σ H Q,t' σ H Q→t σ H Q):PT X e t':=fun pins s σ H Q I q=>h pins s σ H Q I (i σ H Q q)
theorem _root_.L2.PA.imp {X:Cx} {es:List Expr} {t t':TA} (h:PA X es t) (i:∀ σ H Q,t' σ H Q→t σ H Q):PA X es t':=fun pos pins s σ H Q I q=>h pos pins s σ H Q I (i σ H Q q)
theorem _root_.L2.PS.imp {X:Cx} {e:Stmt} {t t':TS} (h:PS X e t) (i:∀ D σ H,t' D σ H→t D σ H):PS X e t':=fun pins s σ H Dn I q=>h pins s σ H Dn I (i Dn σ H q)
theorem _root_.L2.PSs.imp {X:Cx} {e:List Stmt} {t t':TS} (h:PSs X e t) (i:∀ D σ H,t' D σ H→t D σ H):PSs X e t':=fun pins s σ H Dn I q=>h pins s σ H Dn I (i Dn σ H q)
end L3
namespace L3
open PySem PySem.Spec PyProof.Rows L2
open AutoSeq1 (wpAny_loadPart')
section
variable {prog:Program} {w:World} {A:Around} {E:Value→Shared→Prop} {s:Shared}
theorem qNX {t b:Addr} {vs ws:List Value} {Q:Value→Shared→Prop} (ht:IsTup s.heap t vs.toArray) (hb:IsTup s.heap b ws.toArray)
    (h0:vs=[]→Q (.ref b) s) (h1:vs≠[]→ws=[]→Q (.ref t) s) (h2:vs≠[]→ws≠[]→Q (.ref s.heap.objs.size) { s with heap:=s.heap.push { cls:=.type "tuple",data:=.seq (vs++ws).toArray } })
    (hsz:vs.length+ws.length≤sizeLine):wpAny (model prog w) A (binaryOp .Add (.ref t) (.ref b)) Q E s:=by
  by_cases hv:vs=[]
  · obtain⟨⟨cls,dd,data,sl⟩,ho,hc,n,hd⟩:=id ht
    obtain⟨⟨cls2,dd2,data2,sl2⟩,ho2,hc2,n2,hd2⟩:=id hb
    simp only at hc hd hc2 hd2
    subst hc hd hc2 hd2
    exact concat_meets ⟨_,ho,rfl⟩ ⟨_,ho2,rfl⟩ noFill_tuple_add seq_tuple_add PySem.F.slot_tuple_add PySem.F.entry_tuple_add (PySem.F.args_tuple_add_2 _ _)
      (tuple_addW0 t b vs.toArray ws.toArray n n2 dd dd2 sl sl2 (by simp [hv])) ⟨ho,ho2,h0 hv⟩
  · exact HT.qO3 ht hb hv (h1 hv) (h2 hv) hsz
end
theorem qBX:fillsNumberSlot (.type "tuple") "mul" = pure false :=
  PySem.fillsNumberSlot_seq (id:= "tuple.__mul__") (r:=some (.builtin "tuple.__rmul__")) F.slot_tuple_mul.lookup (by decide +kernel) F.slot_tuple_rmul.lookup (by decide +kernel)
theorem qCv:seqRepeat? (.type "tuple")=pure (some (.builtin "tuple.__mul__")):=by
  unfold seqRepeat?
  rw [PySem.seqSlot_of (T:= "tuple") (name:= "__mul__") (id:= "tuple.__mul__") F.slot_tuple_mul.lookup (by decide +kernel),PySem.seqSlot_of (T:= "tuple") (name:= "__rmul__") (id:= "tuple.__rmul__") F.slot_tuple_rmul.lookup (by decide +kernel)]
  rfl
theorem qB9 (a:Int) (t:Tok) (l:Addr) (items:Array Value) (n:Nat) (d:Option Addr) (sl:Array (Option Value)) :
    Meets (Builtin.«int.__rmul__» ⟨[.int a t,.ref l],[]⟩) (fun _ R s=>s.heap.get? l=some { cls:=.type "tuple",dict:=d,data:=.seq items n,slots:=sl }∧R (.ok (.ret Value.notImplemented)) s) :=
  .of_wp fun prog w A R s h=>by obtain⟨hp,g,d,tk,os⟩:=s;obtain⟨hl,h⟩:=h;wp_walk;exact⟨_,rfl,h⟩
theorem qJ4 (l:Addr) (items:Array Value) (n:Nat) (d:Option Addr) (sl:Array (Option Value)) (x:Int) (u:Tok) (h0:items.isEmpty=false) (h1:2≤x) (h2:x<2 ^ 20) (h3:items.size * x.toNat≤sizeLine) :
    Meets (Builtin.«tuple.__mul__» ⟨[.ref l,.int x u],[]⟩) (fun _ R s=>s.heap.get? l=some { cls:=.type "tuple",dict:=d,data:=.seq items n,slots:=sl } ∧
      R (.ok (.ret (Value.ref s.heap.objs.size))) { s with heap:=s.heap.push { cls:=Value.type "tuple",data:=Data.seq (List.foldl (fun x1 x2=>x1++x2) #[] (List.replicate x.toNat items)) },toks:=s.toks }) :=
  .of_wp fun prog w A R s h=>by
    k_dat 0"r43"
    have f1:=AutoSeq1.idx_int
    have e1:(decide (x < -(2 ^ 63)) || decide (x ≥ 2 ^ 63))=false:=by
      rw [decide_eq_false (by omega),decide_eq_false (by omega)];rfl
    have e2:(items.isEmpty || x==1)=false:=by
      rw [h0,Bool.false_or];exact beq_eq_false_iff_ne.mpr (by omega)
    have e3:(decide (x≤0) || items.isEmpty)=false:=by
      rw [h0,Bool.or_false];exact decide_eq_false (by omega)
    have e4:¬ ((items.size:Int) * x > (2 ^ 63 - 1) / 8):=by
      have hb:items.size * x.toNat≤16777216:=by rw [← sizeLine_eq];exact h3
      have:(items.size:Int) * x=((items.size * x.toNat:Nat):Int):=by
        rw [Int.natCast_mul,Int.toNat_of_nonneg (by omega)]
      rw [this]
      omega
    wp_walk using wpAny_loadPart' hl
    rw [if_neg (fun q=>Bool.false_ne_true (e1.symm.trans q))]
    wp_walk using wpAny_loadPart' hl
    rw [if_neg (fun q=>Bool.false_ne_true (e2.symm.trans q))]
    wp_walk using wpAny_loadPart' hl
    rw [if_neg (fun q=>Bool.false_ne_true (e3.symm.trans q))]
    wp_walk using wpAny_loadPart' hl
    rw [if_neg e4]
    wp_walk using wpAny_loadPart' hl
    have hx:(items.size:Int) * x=((items.size * x.toNat:Nat):Int):=by
      rw [Int.natCast_mul,Int.toNat_of_nonneg (by omega)]
    have e5:Builtin.Tuple.tupleTooMany ((items.size:Int) * x)=false:=by
      unfold Builtin.Tuple.tupleTooMany
      rw [hx]
      exact decide_eq_false (by omega)
    rw [if_neg (fun q=>Bool.false_ne_true (e5.symm.trans q))]
    have f0:List.foldl (fun x1 x2=>x1++x2) #[] (List.replicate x.toNat items)=(List.replicate x.toNat items.toList).flatten.toArray:=by
      have:=foldl_rep items.toList x.toNat []
      rw [List.nil_append,Array.toArray_toList] at this
      exact this
    have hsz:sizeOk (.seq (List.foldl (fun x1 x2=>x1++x2) #[] (List.replicate x.toNat items))):=by
      show (List.foldl (fun x1 x2=>x1++x2) #[] (List.replicate x.toNat items)).size≤sizeLine
      rw [f0,List.size_toArray,len_rep,Array.length_toList,Nat.mul_comm]
      exact h3
    unfold Builtin.Tuple.tupleExact
    exact wpAny_bind (wpAny_newObj_type (wpAny_pure ⟨_,rfl,h⟩) hsz)
section
variable {X:Cx}
theorem qO9:OpR X (binaryOp .Add) (fun x y H Q=>∃ a b xs ys,x = .ref a∧y = .ref b∧SqT X.K H a xs∧SqT X.K H b ys∧xs.length+ys.length≤sizeLine ∧
    (xs=[]→Q (.ref b) H)∧(xs≠[]→ys=[]→Q (.ref a) H)∧(xs≠[]→ys≠[]→∀ p,H p=none→Q (.ref p) (upd H p (.tup (xs++ys))))):=by
  k_dat 0"r12"
  obtain⟨a,b,xs,ys,rfl,rfl,ha,hb,hz,q0,q1,q2⟩:=h
  cases rx
  cases ry
  obtain⟨its,r1,p1,_⟩:=I.tuple ha
  obtain⟨its2,r2,p2,_⟩:=I.tuple hb
  refine qNX p1 p2 (fun z=>⟨.ref b,H,I,rfl,q0 (r1.qEL.mp z)⟩) (fun z1 z=>⟨.ref a,H,I,rfl,q1 (fun w=>z1 (r1.qEL.mpr w)) (r2.qEL.mp z)⟩) (fun z1 z=>?_) (by rw [← r1.length,← r2.length];exact hz)
  refine⟨.ref s.heap.objs.size,_,I.laid (t':=s.toks) (o:=.tup (xs++ys)) (fun b ob q=>Heap.get?_push_of_some _ q) (Nat.le_refl _) ?_,rfl,q2 (fun w=>z1 (r1.qEL.mpr w)) (fun w=>z (r2.qEL.mpr w)) _ (I.hok.fresh (Nat.le_refl _))⟩
  exact⟨by rw [List.length_append];exact hz,_,r1.append r2,IsTup.new _ _⟩
theorem qPg:OpR X (binaryOp .Mult) (fun x y H Q=>∃ a k xs,x = .ref a∧y = .int k∧SqT X.K H a xs∧xs≠[]∧2≤k∧k<2 ^ 20∧xs.length * k.toNat≤sizeLine ∧
    ∀ p,H p=none→Q (.ref p) (upd H p (.tup (List.replicate k.toNat xs).flatten))):=by
  k_dat 0"r12"
  obtain⟨a,k,xs,rfl,rfl,ha,hne,h2,h3,hz,q⟩:=h
  cases rx
  obtain⟨t,rfl⟩:=ry
  obtain⟨its,r1,p1,_⟩:=I.tuple ha
  have hl:=r1.length
  k_dat 0"r72"
  simp only at hc hd
  subst hc hd
  have f0:List.foldl (fun x1 x2=>x1++x2) #[] (List.replicate k.toNat its.toArray)=(List.replicate k.toNat its).flatten.toArray:=by
    have:=foldl_rep its k.toNat []
    rw [List.nil_append] at this
    exact this
  have hz':its.toArray.size * k.toNat≤sizeLine:=by rw [List.size_toArray,← hl];exact hz
  have he:its.toArray.isEmpty=false:=by
    cases its with
    | nil=>exact absurd (List.length_eq_zero_iff.mp hl) hne
    | cons _ _=>rfl
  refine wpAny_binaryOp_repeat_ref (T:= "tuple") (U:= "int") (by decide) ⟨_,ho,rfl⟩ (fun s'=>typeIs_int s' k t) qBX F.fills_int_mul F.slot_int_rmul qCv F.slot_int_index.lookup
    (call_meets F.slot_int_rmul (typeIs_int s k t) F.entry_int_rmul (F.args_int_rmul_2 _ _) (qB9 k t a its.toArray n dd sl)
      ⟨ho,rfl,⟨_,ho,rfl⟩,call_meets F.slot_tuple_mul ⟨_,ho,rfl⟩ F.entry_tuple_mul (F.args_tuple_mul_2 _ _) (qJ4 a its.toArray n dd sl k t he h2 h3 hz') ⟨ho,?_⟩⟩)
  rw [f0]
  refine⟨.ref s.heap.objs.size,_,I.laid (t':=s.toks) (o:=.tup (List.replicate k.toNat xs).flatten) (fun b ob q=>Heap.get?_push_of_some _ q) (Nat.le_refl _) ?_,rfl,q _ (I.hok.fresh (Nat.le_refl _))⟩
  exact⟨by rw [len_rep,Nat.mul_comm];exact hz,_,Vals.rep r1 _,IsTup.new _ _⟩
end
end L3
namespace L3
open PySem PySem.Spec PyProof.Rows L2
noncomputable def okD:Nat→Dt→Bool
  | 0,.tup _=>false
  | n+1,.tup xs=>xs.all (okD n)
  | _,.lst _=>false
  | _,.ty _=>false
  | _,.dic _=>false
  | _,.ins _=>false
  | _,_=>true
noncomputable def eqL (f:Dt→Dt→Bool):List Dt→List Dt→Bool
  | [],[]=>true
  | x::xs,y::ys=>f x y&&eqL f xs ys
  | _,_=>false
noncomputable def eqD:Nat→Dt→Dt→Bool
  | _,.non,.non=>true
  | _,.bl a,.bl b=>a==b
  | _,.bl a,.int b=>(if a then 1 else 0)==b
  | _,.int a,.bl b=>a==(if b then 1 else 0)
  | _,.int a,.int b=>a==b
  | _,.str a,.str b=>a==b
  | n+1,.tup a,.tup b=>eqL (eqD n) a b
  | _,_,_=>false
theorem qJb {f:Dt→Dt→Bool}:∀ {xs:List Dt},(∀ x∈xs,f x x=true)→eqL f xs xs=true
  | [],_=>rfl
  | x::xs,h=>by
    unfold eqL
    rw [h x List.mem_cons_self,qJb fun y hy=>h y (List.mem_cons_of_mem _ hy)]
    rfl
theorem qI8:∀ {n:Nat} {d:Dt},okD n d=true→eqD n d d=true
  | 0,.tup _,h=>by simp [okD] at h
  | n+1,.tup xs,h=>by
    simp only [okD] at h
    simp only [eqD]
    exact qJb fun x hx=>qI8 (List.all_eq_true.mp h x hx)
  | n,.non,_=>by cases n<;>rfl
  | n,.bl b,_=>by cases n<;>simp [eqD]
  | n,.int b,_=>by cases n<;>simp [eqD]
  | n,.str b,_=>by cases n<;>simp [eqD]
  | n,.lst _,h=>by cases n<;>simp [okD] at h
  | n,.ty _,h=>by cases n<;>simp [okD] at h
  | n,.dic _,h=>by cases n<;>simp [okD] at h
  | n,.ins _,h=>by cases n<;>simp [okD] at h
theorem qBt {f:Dt→Dt→Bool}:∀ (xs ys:List Dt),eqL f xs ys=((List.range (min xs.length ys.length)).all (fun j=>f (xs.getD j .non) (ys.getD j .non))&&xs.length==ys.length)
  | [],[]=>rfl
  | [],_::_=>by simp [eqL]
  | _::_,[]=>by simp [eqL]
  | x :: xs,y::ys=>by
    unfold eqL
    rw [qBt xs ys]
    have e:min (x::xs).length (y::ys).length=min xs.length ys.length+1:=by simp [Nat.succ_min_succ]
    rw [e,List.range_succ_eq_map,List.all_cons,List.all_map]
    simp only [List.getD_cons_zero,List.length_cons]
    have e2:((xs.length+1==ys.length+1):Bool)=(xs.length==ys.length):=by
      rw [Bool.eq_iff_iff];simp
    rw [e2,Bool.and_assoc]
    rfl
section
variable {X:Cx} {pins:List (Addr×Obj)} {σ:L2.St} {H:Hp} {s:Shared} {φ:Nat→Addr} {N:Nat}
theorem qFo {xs:List Dt} {j:Nat} {d:Dt} (h:xs[j]? = some d):xs.getD j .non=d:=by simp [List.getD,h]
theorem qIF {f:Dt→Bool} (hf:∀ {d e:Dt} {v:V},f d=true→f e=true→D X.K φ N H d v→D X.K φ N H e v→d=e):∀ {a b:List Dt} {vs:List V},DL X.K φ N H a vs→DL X.K φ N H b vs→a.all f=true→b.all f=true→a=b
  | [],[],_,_,_,_,_=>rfl
  | [],y::b,vs,h1,h2,_,_=>by
    have:=h1.length;have:=h2.length;simp at *;omega
  | x::a,[],vs,h1,h2,_,_=>by
    have:=h1.length;have:=h2.length;simp at *;omega
  | x::a,y::b,vs,h1,h2,o1,o2=>by
    rw [List.all_cons,Bool.and_eq_true] at o1 o2
    simp only [DL] at h1 h2
    obtain⟨v,r,rfl,p1,p2⟩:=h1
    obtain⟨v',r',e,q1,q2⟩:=h2
    cases e
    rw [hf o1.1 o2.1 p1 q1,qIF hf p2 q2 o1.2 o2.2]
theorem qTm (I:Inv X pins σ H s):∀ (n:Nat) {d e:Dt} {v:V},okD n d=true→okD n e=true→D X.K φ N H d v→D X.K φ N H e v→d=e:=by
  intro n
  induction n with
  | zero =>
    intro d e v o1 o2 h1 h2
    cases d<;>cases e<;>first
      | (exfalso;revert o1;simp [okD];done)
      | (exfalso;revert o2;simp [okD];done)
      | (simp only [D] at h1 h2;subst h1;first | (cases h2;rfl) | (cases h2))
  | succ n ih =>
    intro d e v o1 o2 h1 h2
    cases d<;>cases e<;>first
      | (exfalso;revert o1;simp [okD];done)
      | (exfalso;revert o2;simp [okD];done)
      | (simp only [D] at h1 h2;subst h1;first | (cases h2;rfl) | (cases h2;done) | (obtain⟨_,_,z,_⟩:=h2;cases z))
      | (simp only [D] at h1 h2;subst h2;obtain⟨_,_,z,_⟩:=h1;cases z)
      | (simp only [okD] at o1 o2
         obtain⟨p,vs,e1,hs,hd⟩:=h1.tup
         obtain⟨q,ws,e2,hs2,hd2⟩:=h2.tup
         rw [e1] at e2
         cases e2
         have:=I.qBu hs hs2
         subst this
         rw [qIF (f:=okD n) (fun a b c d=>ih a b c d) hd hd2 o1 o2])
theorem qSD (I:Inv X pins σ H s) {n:Nat} {a b:List Dt} {vs:List V} (h1:DL X.K φ N H a vs) (h2:DL X.K φ N H b vs) (o1:a.all (okD n)=true) (o2:b.all (okD n)=true):a=b :=
  qIF (fun a b c d=>qTm I n a b c d) h1 h2 o1 o2
theorem qON (I:Inv X pins σ H s):∀ (n:Nat) {A:Around} {d e:Dt} {v w:V} {u1 u2:Value},A.units+n<cLine→okD n d=true→okD n e=true→D X.K φ N H d v→D X.K φ N H e w→RelV v u1→RelV w u2→SeqAt.EqAt A s u1 u2 (eqD n d e)
  | n,A,.non,.non,v,w,u1,u2,hu,_,_,h1,h2,r1,r2=>by cases h1.non;cases h2.non;cases r1;cases r2;cases n<;>exact SeqAt.EqAt.same _
  | n,A,.non,.bl b,v,w,u1,u2,hu,_,_,h1,h2,r1,r2=>by cases h1.non;cases h2.bl;cases r1;cases r2;cases n<;>exact SeqAt.EqAt.none_bool b
  | n,A,.non,.int b,v,w,u1,u2,hu,_,_,h1,h2,r1,r2=>by cases h1.non;cases h2.int;cases r1;obtain⟨t,rfl⟩:=r2;cases n<;>exact SeqAt.EqAt.none_int b t
  | n,A,.non,.str b,v,w,u1,u2,hu,_,_,h1,h2,r1,r2=>by cases h1.non;cases h2.str;cases r1;obtain⟨t,rfl⟩:=r2;cases n<;>exact SeqAt.EqAt.none_str b t
  | n,A,.bl a,.non,v,w,u1,u2,hu,_,_,h1,h2,r1,r2=>by cases h1.bl;cases h2.non;cases r1;cases r2;cases n<;>exact SeqAt.EqAt.bool_none a
  | n,A,.bl a,.bl b,v,w,u1,u2,hu,_,_,h1,h2,r1,r2=>by cases h1.bl;cases h2.bl;cases r1;cases r2;cases n<;>exact SeqAt.EqAt.bool_bool a b
  | n,A,.bl a,.int b,v,w,u1,u2,hu,_,_,h1,h2,r1,r2=>by cases h1.bl;cases h2.int;cases r1;obtain⟨t,rfl⟩:=r2;cases n<;>exact SeqAt.EqAt.bool_int a b t
  | n,A,.bl a,.str b,v,w,u1,u2,hu,_,_,h1,h2,r1,r2=>by cases h1.bl;cases h2.str;cases r1;obtain⟨t,rfl⟩:=r2;cases n<;>exact SeqAt.EqAt.bool_str a b t
  | n,A,.int a,.non,v,w,u1,u2,hu,_,_,h1,h2,r1,r2=>by cases h1.int;cases h2.non;obtain⟨t,rfl⟩:=r1;cases r2;cases n<;>exact SeqAt.EqAt.int_none a t
  | n,A,.int a,.bl b,v,w,u1,u2,hu,_,_,h1,h2,r1,r2=>by cases h1.int;cases h2.bl;obtain⟨t,rfl⟩:=r1;cases r2;cases n<;>exact SeqAt.EqAt.int_bool a t b
  | n,A,.int a,.int b,v,w,u1,u2,hu,_,_,h1,h2,r1,r2=>by cases h1.int;cases h2.int;obtain⟨t,rfl⟩:=r1;obtain⟨t',rfl⟩:=r2;cases n<;>exact SeqAt.EqAt.int_int a t b t'
  | n,A,.int a,.str b,v,w,u1,u2,hu,_,_,h1,h2,r1,r2=>by cases h1.int;cases h2.str;obtain⟨t,rfl⟩:=r1;obtain⟨t',rfl⟩:=r2;cases n<;>exact SeqAt.EqAt.int_str a t b t'
  | n,A,.str a,.non,v,w,u1,u2,hu,_,_,h1,h2,r1,r2=>by cases h1.str;cases h2.non;obtain⟨t,rfl⟩:=r1;cases r2;cases n<;>exact SeqAt.EqAt.str_none a t
  | n,A,.str a,.bl b,v,w,u1,u2,hu,_,_,h1,h2,r1,r2=>by cases h1.str;cases h2.bl;obtain⟨t,rfl⟩:=r1;cases r2;cases n<;>exact SeqAt.EqAt.str_bool a t b
  | n,A,.str a,.int b,v,w,u1,u2,hu,_,_,h1,h2,r1,r2=>by cases h1.str;cases h2.int;obtain⟨t,rfl⟩:=r1;obtain⟨t',rfl⟩:=r2;cases n<;>exact SeqAt.EqAt.str_int a t b t'
  | n,A,.str a,.str b,v,w,u1,u2,hu,_,_,h1,h2,r1,r2=>by cases h1.str;cases h2.str;obtain⟨t,rfl⟩:=r1;obtain⟨t',rfl⟩:=r2;cases n<;>exact SeqAt.EqAt.str_str a t b t'
  | n,A,.tup a,.non,v,w,u1,u2,hu,_,_,h1,h2,r1,r2=>by
    obtain⟨p,vs,rfl,hs,hd⟩:=h1.tup;cases h2.non;cases r1;cases r2;obtain⟨its,_,ht,_⟩:=I.tuple hs;cases n<;>exact SeqAt.EqAt.tuple_none ht (by omega)
  | n,A,.tup a,.bl b,v,w,u1,u2,hu,_,_,h1,h2,r1,r2=>by
    obtain⟨p,vs,rfl,hs,hd⟩:=h1.tup;cases h2.bl;cases r1;cases r2;obtain⟨its,_,ht,_⟩:=I.tuple hs;cases n<;>exact SeqAt.EqAt.tuple_bool b ht (by omega)
  | n,A,.tup a,.int b,v,w,u1,u2,hu,_,_,h1,h2,r1,r2=>by
    obtain⟨p,vs,rfl,hs,hd⟩:=h1.tup;cases h2.int;cases r1;obtain⟨t',rfl⟩:=r2;obtain⟨its,_,ht,_⟩:=I.tuple hs;cases n<;>exact SeqAt.EqAt.tuple_int b t' ht (by omega)
  | n,A,.tup a,.str b,v,w,u1,u2,hu,_,_,h1,h2,r1,r2=>by
    obtain⟨p,vs,rfl,hs,hd⟩:=h1.tup;cases h2.str;cases r1;obtain⟨t',rfl⟩:=r2;obtain⟨its,_,ht,_⟩:=I.tuple hs;cases n<;>exact SeqAt.EqAt.tuple_str b t' ht (by omega)
  | n,A,.non,.tup b,v,w,u1,u2,hu,_,_,h1,h2,r1,r2=>by
    obtain⟨p,vs,rfl,hs,hd⟩:=h2.tup;cases h1.non;cases r1;cases r2;obtain⟨its,_,ht,_⟩:=I.tuple hs;cases n<;>exact SeqAt.EqAt.none_tuple ht (by omega)
  | n,A,.bl a,.tup b,v,w,u1,u2,hu,_,_,h1,h2,r1,r2=>by
    obtain⟨p,vs,rfl,hs,hd⟩:=h2.tup;cases h1.bl;cases r1;cases r2;obtain⟨its,_,ht,_⟩:=I.tuple hs;cases n<;>exact SeqAt.EqAt.bool_tuple a ht (by omega)
  | n,A,.int a,.tup b,v,w,u1,u2,hu,_,_,h1,h2,r1,r2=>by
    obtain⟨p,vs,rfl,hs,hd⟩:=h2.tup;cases h1.int;obtain⟨t',rfl⟩:=r1;cases r2;obtain⟨its,_,ht,_⟩:=I.tuple hs;cases n<;>exact SeqAt.EqAt.int_tuple a t' ht (by omega)
  | n,A,.str a,.tup b,v,w,u1,u2,hu,_,_,h1,h2,r1,r2=>by
    obtain⟨p,vs,rfl,hs,hd⟩:=h2.tup;cases h1.str;obtain⟨t',rfl⟩:=r1;cases r2;obtain⟨its,_,ht,_⟩:=I.tuple hs;cases n<;>exact SeqAt.EqAt.str_tuple a t' ht (by omega)
  | 0,A,.tup a,.tup b,v,w,u1,u2,hu,o1,_,h1,h2,r1,r2=>by simp [okD] at o1
  | n + 1,A,.tup a,.tup b,v,w,u1,u2,hu,o1,o2,h1,h2,r1,r2=>by
    simp only [okD] at o1 o2
    obtain⟨p,vs,rfl,hs,hd⟩:=h1.tup
    obtain⟨q,ws,rfl,hs2,hd2⟩:=h2.tup
    cases r1;cases r2
    obtain⟨its,rv,ht,_⟩:=I.tuple hs
    obtain⟨its2,rv2,ht2,_⟩:=I.tuple hs2
    k_dat 0"r44"
    k_dat 0"r45"
    have hu':A.in1.units+n<cLine:=by show A.units+1+n<cLine;omega
    have rc:SeqAt.RcAt A s (.ref p) (.ref q) (eqD (n+1) (.tup a) (.tup b)):=by
      have:=SeqAt.RcAt.tuples (A:=A) (s:=s) (e:=fun j=>eqD n (a.getD j .non) (b.getD j .non)) ht ht2 (by omega) (fun j h1 h2=>by
        have hj1:j<a.length:=by rw [← l1];exact h1
        have hj2:j<b.length:=by rw [← l2];exact h2
        have ea:a[j]? = some a[j]:=by simp [hj1]
        have eb:b[j]? = some b[j]:=by simp [hj2]
        obtain⟨x,ex,dx⟩:=hd.get ea
        obtain⟨y,ey,dy⟩:=hd2.get eb
        obtain⟨ux,eux,rx⟩:=rv.get ex
        obtain⟨uy,euy,ry⟩:=rv2.get ey
        have gx:its.toArray[j]=ux:=by
          have:its[j]? = some its[j]:=by simp at h1;simp [h1]
          rw [eux] at this
          k_dat 0"r46"
        have gy:its2.toArray[j]=uy:=by
          have:its2[j]? = some its2[j]:=by simp at h2;simp [h2]
          rw [euy] at this
          k_dat 0"r46"
        rw [gx,gy,qFo ea,qFo eb]
        exact qON I n hu' (List.all_eq_true.mp o1 _ (List.getElem_mem hj1)) (List.all_eq_true.mp o2 _ (List.getElem_mem hj2)) dx dy rx ry)
      rw [l1,l2] at this
      simp only [eqD]
      rw [qBt]
      exact this
    by_cases hpq:p=q
    · subst hpq
      have:eqD (n+1) (.tup a) (.tup b)=true∨eqD (n+1) (.tup a) (.tup b)=false:=by cases eqD (n+1) (.tup a) (.tup b)<;>simp
      have e1:its=its2:=by
        obtain⟨o,e,_,m,d⟩:=ht
        obtain⟨o',e',_,m',d'⟩:=ht2
        rw [e] at e';cases e'
        rw [d] at d'
        injection d' with d1 _
        simpa using congrArg Array.toList d1
      have ev:vs=ws:=by subst e1;exact rv.inj rv2
      have eab:a=b:=by
        subst ev
        exact qSD I hd hd2 o1 o2
      subst eab
      rw [qI8 (by simp only [okD];exact o1)]
      exact SeqAt.EqAt.same _
    · exact SeqAt.EqAt.of_refs hpq rc
  | n,A,.lst _,_,v,w,u1,u2,hu,o1,_,h1,h2,r1,r2=>by cases n<;>simp [okD] at o1
  | n,A,.ty _,_,v,w,u1,u2,hu,o1,_,h1,h2,r1,r2=>by cases n<;>simp [okD] at o1
  | n,A,.dic _,_,v,w,u1,u2,hu,o1,_,h1,h2,r1,r2=>by cases n<;>simp [okD] at o1
  | n,A,.ins _,_,v,w,u1,u2,hu,o1,_,h1,h2,r1,r2=>by cases n<;>simp [okD] at o1
  | n,A,.non,.lst _,v,w,u1,u2,hu,_,o1,h1,h2,r1,r2=>by cases n<;>simp [okD] at o1
  | n,A,.non,.ty _,v,w,u1,u2,hu,_,o1,h1,h2,r1,r2=>by cases n<;>simp [okD] at o1
  | n,A,.non,.dic _,v,w,u1,u2,hu,_,o1,h1,h2,r1,r2=>by cases n<;>simp [okD] at o1
  | n,A,.non,.ins _,v,w,u1,u2,hu,_,o1,h1,h2,r1,r2=>by cases n<;>simp [okD] at o1
  | n,A,.bl _,.lst _,v,w,u1,u2,hu,_,o1,h1,h2,r1,r2=>by cases n<;>simp [okD] at o1
  | n,A,.bl _,.ty _,v,w,u1,u2,hu,_,o1,h1,h2,r1,r2=>by cases n<;>simp [okD] at o1
  | n,A,.bl _,.dic _,v,w,u1,u2,hu,_,o1,h1,h2,r1,r2=>by cases n<;>simp [okD] at o1
  | n,A,.bl _,.ins _,v,w,u1,u2,hu,_,o1,h1,h2,r1,r2=>by cases n<;>simp [okD] at o1
  | n,A,.int _,.lst _,v,w,u1,u2,hu,_,o1,h1,h2,r1,r2=>by cases n<;>simp [okD] at o1
  | n,A,.int _,.ty _,v,w,u1,u2,hu,_,o1,h1,h2,r1,r2=>by cases n<;>simp [okD] at o1
  | n,A,.int _,.dic _,v,w,u1,u2,hu,_,o1,h1,h2,r1,r2=>by cases n<;>simp [okD] at o1
  | n,A,.int _,.ins _,v,w,u1,u2,hu,_,o1,h1,h2,r1,r2=>by cases n<;>simp [okD] at o1
  | n,A,.str _,.lst _,v,w,u1,u2,hu,_,o1,h1,h2,r1,r2=>by cases n<;>simp [okD] at o1
  | n,A,.str _,.ty _,v,w,u1,u2,hu,_,o1,h1,h2,r1,r2=>by cases n<;>simp [okD] at o1
  | n,A,.str _,.dic _,v,w,u1,u2,hu,_,o1,h1,h2,r1,r2=>by cases n<;>simp [okD] at o1
  | n,A,.str _,.ins _,v,w,u1,u2,hu,_,o1,h1,h2,r1,r2=>by cases n<;>simp [okD] at o1
  | n,A,.tup _,.lst _,v,w,u1,u2,hu,_,o1,h1,h2,r1,r2=>by cases n<;>simp [okD] at o1
  | n,A,.tup _,.ty _,v,w,u1,u2,hu,_,o1,h1,h2,r1,r2=>by cases n<;>simp [okD] at o1
  | n,A,.tup _,.dic _,v,w,u1,u2,hu,_,o1,h1,h2,r1,r2=>by cases n<;>simp [okD] at o1
  | n,A,.tup _,.ins _,v,w,u1,u2,hu,_,o1,h1,h2,r1,r2=>by cases n<;>simp [okD] at o1
end
end L3
namespace L3
open PySem PySem.Spec PyProof.Rows L2
noncomputable abbrev RD2:=Dt→Dt→Sto→VD→Prop
noncomputable abbrev RDL:=List Dt→Sto→VD→Prop
noncomputable def qOF (K:W.Frag) (r:RD2):R2:=fun v w H Q=>∃ φ st x y P,Rep K φ st H∧D K φ st.length H x v∧D K φ st.length H y w∧r x y st P ∧
  ∀ d st',P d st'→∀ φ' H' u,Bhd K φ st H φ' st' H'→D K φ' st'.length H' d u→Q u H'
noncomputable def qNN (K:W.Frag) (r:RDL):List V→Hp→VK→Prop:=fun vs H Q=>∃ φ st ds P,Rep K φ st H∧DL K φ st.length H ds vs∧r ds st P ∧
  ∀ d st',P d st'→∀ φ' H' u,Bhd K φ st H φ' st' H'→D K φ' st'.length H' d u→Q u H'
def OpD (X:Cx) (f:Value→Value→Sem Value) (r:RD2):Prop:=OpR X f (qOF X.K r)
def qHT (X:Cx) (f:Value) (r:RDL):Prop:=qGA X f (qNN X.K r)
def qB (i:Nat):TD:=fun ρ st P=>match ρ[i]? with
  | some (some d)=>P d st
  | _=>False
def qC (d:Dt):TD:=fun _ st P=>P d st
def qE (r:RD2) (ta tb:TD):TD:=fun ρ st P=>ta ρ st fun x st1=>tb ρ st1 fun y st2=>r x y st2 P
def qF (r:RDL) (t:TAD):TD:=fun ρ st P=>t ρ st fun ds st1=>r ds st1 P
section
variable {K:W.Frag} {r:RD2} {ta tb:TD} {σ:L2.St} {H:Hp} {Q:VK} {R:RDL} {t:TAD}
theorem qEP (h:qAd K (qE r ta tb) σ H Q):tOp (qOF K r) (qAd K ta) (qAd K tb) σ H Q:=by
  k_dat 0"r1"
  k_dat 0"r19"
  k_dat 0"r73"
  exact⟨φ2,st2,x,y,P,b2.1,dx.evo b2.2,dy,h2,fun d st' hp φ' H' u b3 du=>hq d st' hp φ' H' u (b1.trans (b2.trans b3)) du⟩
theorem qEq (h:qAd K (qF R t) σ H Q):tCB (qNN K R) (qLG K t) σ H Q:=by
  k_dat 0"r1"
  refine⟨φ,st,ρ,_,pre,ht,fun ds st1 h1 φ1 H1 vs b1 dx=>?_⟩
  exact⟨φ1,st1,ds,P,b1.1,dx,h1,fun d st' hp φ' H' u b3 du=>hq d st' hp φ' H' u (b1.trans b3) du⟩
end
section
variable {X:Cx} {a b c e:Expr} {es:List Expr} {ta tb tc t:TD} {tas:TAD} {pos:Pos}
theorem qRX (i:Nat) {x:Str} (hN:X.N[i]? = some x:=by rfl) (hv:Vis X.env.scope x:=by first | exact Or.inl rfl | exact Or.inr (Or.inl rfl) | exact Or.inr (Or.inr rfl)) (hd:(x==("__debug__" : Str))=false:=by decide)
    (hcd:(x==("__classdict__" : Str))=false:=by decide):DE X (.Name x pos) (qB i):=(qQw hN hv hd hcd).imp fun σ H Q h=>by
  k_dat 0"r1"
  unfold qB at ht
  split at ht
  · rename_i d e
    obtain⟨v,e1,e2⟩:=pre.2.2 i d e
    exact⟨v,e1,hq d st ht φ H v (.refl pre.1) e2⟩
  · exact ht.elim
theorem qCa {d:Dt} {v:V} {K:W.Frag} (h:∀ φ N H,D K φ N H d v):∀ (σ:L2.St) H Q,qAd K (qC d) σ H Q→tC v σ H Q:=fun σ H Q h'=>by
  obtain⟨φ,st,ρ,P,pre,ht,hq⟩:=h'
  exact hq d st ht φ H v (.refl pre.1) (h _ _ _)
theorem qRx {i j pos}:DE X (.Constant (.int i) j pos) (qC (.int i)):=(qQ8).imp (qCa fun _ _ _=>D.mkInt)
theorem qTJ {i j pos}:DE X (.Constant (.bool i) j pos) (qC (.bl i)):=(qSq).imp (qCa fun _ _ _=>D.qD7)
theorem qSa {j pos}:DE X (.Constant .none j pos) (qC .non):=(qQg).imp (qCa fun _ _ _=>D.qKl)
theorem qSO {i j pos}:DE X (.Constant (.str i) j pos) (qC (.str i)):=(qNB).imp (qCa fun _ _ _=>D.mkStr)
theorem qLE {x:Str} {T:String} (hm:X.mg x=none) (hv:bootBuiltins x=some (.type T)) (hg:Gl X x:=by rfl) (hn:x ≠ "__name__":=by decide) (hd:(x==("__debug__" : Str))=false:=by decide):DE X (.Name x pos) (qC (.ty T)) :=
  (qOt (v:=.ty T) hg hm hv rfl hn hd).imp (qCa fun _ _ _=>D.qUH)
theorem qO8 {x:Str} {d:Dt} {v:V} {u:Value} (hm:X.mg x=some u) (r:RelV v u) (hD:∀ φ N H,D X.K φ N H d v) (hg:Gl X x:=by rfl) (hd:(x==("__debug__" : Str))=false:=by decide):DE X (.Name x pos) (qC d) :=
  (qPC hg hm r hd).imp (qCa hD)
theorem qFM {op:Operator} {r:RD2} (ho:OpD X (binaryOp op) r) (ha:DE X a ta) (hb:DE X b tb):DE X (.BinOp a op b pos) (qE r ta tb):=(qSd ho ha hb).imp fun _ _ _=>qEP
theorem qD4 {op:CmpOp} {r:RD2} (ho:OpD X (compareOp op) r) (ha:DE X a ta) (hb:DE X b tb) (hm:behindInMarks op b=false:=by first | exact qKO _ | with_unfolding_all rfl):DE X (.Compare a [op] [b] pos) (qE r ta tb):=(qPE ho ha hb hm).imp fun _ _ _=>qEP
def qH (t:TD):TBD:=fun ρ st P=>t ρ st fun x st1=>match x with
  | .bl k=>P k st1
  | _=>False
theorem qDi {K:W.Frag} {t:TD} {σ:L2.St} {H:Hp} {Q:Bool→Hp→Prop} (h:liftT K (qH t) σ H Q):qAd K t σ H fun x H'=>∃ k,x = .bl k∧Q k H':=by
  k_dat 0"r1"
  k_dat 0"r28"
  cases d with
  | bl k=>exact⟨k,dx.bl,hq k st1 h1 φ1 H1 b1⟩
  | _=>exact h1.elim
theorem qDG {op:CmpOp} {r:RD2} (ho:OpD X (compareOp op) r) (ha:DE X a ta) (hb:DE X b tb) (hm:behindInMarks op b=false:=by first | exact qKO _ | with_unfolding_all rfl):DT X (.Compare a [op] [b] pos) (qH (qE r ta tb)) :=
  (qPF ho ha hb hm).imp fun σ H Q h=>qEP (qDi h)
theorem qQM (h:DE X e t) (he:∀ whole,isTrue e X.env whole=(do let v ← whole;standAt e.pos;holding [v] (truthy v)):=by intro _;rfl):DT X e (qH t):=(qQV h he).imp fun σ H Q h=>qDi h
def qA2 (t:TBD):TBD:=fun ρ st P=>t ρ st fun k st1=>P (!k) st1
theorem qRV {t:TBD} (h:DT X a t):DT X (.UnaryOp .Not a pos) (qA2 t):=(qQ1 h).imp fun σ H Q h=>by
  k_dat 0"r1"
  exact⟨φ,st,ρ,_,pre,ht,fun k st1 h1 φ1 H1 b1=>hq _ st1 h1 φ1 H1 b1⟩
def DW (X:Cx) (e:Expr) (t:TBD):Prop:=PW X e (liftT X.K t)
theorem PW.imp {X:Cx} {e:Expr} {t t':TT} (h:PW X e t) (i:∀ σ H Q,t' σ H Q→t σ H Q):PW X e t':=fun wh pins s σ H Q I q=>h wh pins s σ H Q I (i σ H Q q)
def qA5 (t u:TBD):TBD:=fun ρ st P=>t ρ st fun k st1=>if k=true then u ρ st1 P else P false st1
def qDT (t u:TBD):TBD:=fun ρ st P=>t ρ st fun k st1=>if k=true then P true st1 else u ρ st1 P
variable {tA tB':TBD} {rest:List Expr}
theorem qPY (h:DT X a tA):DW X (.BoolOp .And [a] pos) tA:=qPI h
theorem qQu (h:DT X a tA):DW X (.BoolOp .Or [a] pos) tA:=qQk h
theorem qNk (ha:DT X a tA) (hb:DW X (.BoolOp .And (b::rest) pos) tB'):DW X (.BoolOp .And (a::b::rest) pos) (qA5 tA tB'):=PW.imp (qRP ha hb) fun σ H Q h=>by
  k_dat 0"r1"
  k_dat 0"r47"
  cases k with
  | true =>
    rw [if_pos rfl] at h1 ⊢
    k_dat 0"r92"
  | false =>
    rw [if_neg Bool.false_ne_true] at h1 ⊢
    exact hq false st1 h1 φ1 H1 b1
theorem qPz (ha:DT X a tA) (hb:DW X (.BoolOp .Or (b::rest) pos) tB'):DW X (.BoolOp .Or (a::b::rest) pos) (qDT tA tB'):=PW.imp (qTZ ha hb) fun σ H Q h=>by
  k_dat 0"r1"
  k_dat 0"r47"
  cases k with
  | false =>
    rw [if_neg Bool.false_ne_true] at h1 ⊢
    k_dat 0"r92"
  | true =>
    rw [if_pos rfl] at h1 ⊢
    exact hq true st1 h1 φ1 H1 b1
theorem qKv {tA:TBD} (h:DW X e tA):DT X e tA:=h _
def qAi (t u:TD):TD:=fun ρ st P=>t ρ st fun x st1=>match x with
  | .bl k=>if k=true then u ρ st1 P else P (.bl false) st1
  | _=>False
def qF2 (t u:TD):TD:=fun ρ st P=>t ρ st fun x st1=>match x with
  | .bl k=>if k=true then P (.bl true) st1 else u ρ st1 P
  | _=>False
def qB7 (t:TD):TD:=fun ρ st P=>t ρ st fun x st1=>match x with
  | .bl k=>P (.bl (!k)) st1
  | _=>False
theorem qSG {op} (h:DE X a t):DE X (.BoolOp op [a] pos) t:=qQx h
theorem qRB (ha:DE X a ta) (hb:DE X (.BoolOp .And (b::rest) pos) tb):DE X (.BoolOp .And (a::b::rest) pos) (qAi ta tb):=(qQh ha hb).imp fun σ H Q h=>by
  k_dat 0"r1"
  k_dat 0"r28"
  cases d with
  | bl k =>
    refine⟨k,dx.bl,?_⟩
    cases k with
    | true=>exact qA7 ⟨φ1,st1,ρ,P,pre.on b1,h1,fun k st2 h2 φ2 H2 v2 b2=>hq k st2 h2 φ2 H2 v2 (b1.trans b2)⟩
    | false=>exact qAz (hq _ st1 h1 φ1 H1 _ b1 D.qD7)
  | _=>exact h1.elim
theorem qRu (ha:DE X a ta):DE X (.UnaryOp .Not a pos) (qB7 ta):=(qSb ha).imp fun σ H Q h=>by
  k_dat 0"r1"
  k_dat 0"r28"
  cases d with
  | bl k=>exact⟨k,dx.bl,hq _ st1 h1 φ1 H1 _ b1 D.qD7⟩
  | _=>exact h1.elim
def qBe (c:TBD) (t u:TD):TD:=fun ρ st P=>c ρ st fun k st1=>if k=true then t ρ st1 P else u ρ st1 P
theorem qTV {tC:TBD} (hc:DT X c tC) (ha:DE X a ta) (hb:DE X b tb):DE X (.IfExp c a b pos) (qBe tC ta tb):=(qMq hc ha hb).imp fun σ H Q h=>by
  k_dat 0"r1"
  k_dat 0"r47"
  cases k with
  | true=>exact qA7 ⟨φ1,st1,ρ,P,pre.on b1,(by rw [if_pos rfl] at h1;exact h1),fun k st2 h2 φ2 H2 v2 b2=>hq k st2 h2 φ2 H2 v2 (b1.trans b2)⟩
  | false=>exact qAz ⟨φ1,st1,ρ,P,pre.on b1,(by rw [if_neg Bool.false_ne_true] at h1;exact h1),fun k st2 h2 φ2 H2 v2 b2=>hq k st2 h2 φ2 H2 v2 (b1.trans b2)⟩
def qAq (p q:Int→Int→Bool) (ta tb tc:TD):TD:=fun ρ st P=>ta ρ st fun x st1=>tb ρ st1 fun y st2=>match x,y with
  | .int i,.int j=>if p i j=true then tc ρ st2 fun z st3=>(match z with
      | .int k=>P (.bl (q j k)) st3
      | _=>False) else P (.bl false) st2
  | _,_=>False
theorem qGo {K:W.Frag} {p q:Int→Int→Bool} {σ:L2.St} {H:Hp} {Q:VK} (h:qAd K (qAq p q ta tb tc) σ H Q) :
    qJ3 (rI0 fun i j=>.bl (p i j)) (rI0 fun i j=>.bl (q i j)) (qAd K ta) (qAd K tb) (qAd K tc) σ H Q:=by
  k_dat 0"r1"
  k_dat 0"r19"
  k_dat 0"r73"
  cases x with
  | int i =>
    cases y with
    | int j =>
      refine⟨i,j,dx.int,dy.int,p i j,rfl,?_⟩
      have h2':if p i j=true then tc ρ st2 fun z st3=>(match z with
        | .int k=>P (.bl (q j k)) st3
        | _=>False) else P (.bl false) st2:=h2
      cases hp:p i j with
      | true =>
        rw [hp,if_pos rfl] at h2'
        refine qA7 ⟨φ2,st2,ρ,_,(pre.on b1).on b2,h2',fun z st3 h3 φ3 H3 w3 b3 dz=>?_⟩
        cases z with
        | int k=>exact⟨j,k,dy.int,dz.int,hq _ st3 h3 φ3 H3 _ (b1.trans (b2.trans b3)) D.qD7⟩
        | _=>exact h3.elim
      | false =>
        rw [hp,if_neg Bool.false_ne_true] at h2'
        exact qAz (hq _ st2 h2' φ2 H2 _ (b1.trans b2) D.qD7)
    | _=>exact h2.elim
  | _=>cases y<;>exact h2.elim
theorem qMl {op op':CmpOp} {p q:Int→Int→Bool} (ho:OpR X (compareOp op) (rI0 fun i j=>.bl (p i j))) (ho':OpR X (compareOp op') (rI0 fun i j=>.bl (q i j))) (ha:DE X a ta) (hb:DE X b tb) (hc:DE X c tc)
    (hm:lastMarks [op,op'] [b,c]=false:=by with_unfolding_all rfl):DE X (.Compare a [op,op'] [b,c] pos) (qAq p q ta tb tc):=(qNo ho ho' ha hb hc hm).imp fun σ H Q h=>qGo h
theorem qMe {op op':CmpOp} {p q:Int→Int→Bool} (ho:OpR X (compareOp op) (rI0 fun i j=>.bl (p i j))) (ho':OpR X (compareOp op') (rI0 fun i j=>.bl (q i j))) (ha:DE X a ta) (hb:DE X b tb) (hc:DE X c tc)
    (hm:lastMarks [op,op'] [b,c]=false:=by with_unfolding_all rfl):DT X (.Compare a [op,op'] [b,c] pos) (qH (qAq p q ta tb tc)):=(qNV ho ho' ha hb hc hm).imp fun σ H Q h=>qGo (qDi h)
noncomputable def qD:TAD:=fun _ st P=>P [] st
noncomputable def qA (t:TD) (u:TAD):TAD:=fun ρ st P=>t ρ st fun x st1=>u ρ st1 fun xs st2=>P (x::xs) st2
theorem qEm:DA X [] qD:=(qR6).imp fun σ H Q h=>by
  k_dat 0"r1"
  exact hq [] st ht φ H [] (.refl pre.1) .nil
theorem qCm (ha:DE X e t) (hr:DA X es tas) (hs:starEach (e::es) X.env=(false,eval e X.env)::starEach es X.env:=by rfl):DA X (e::es) (qA t tas):=(qPx ha hr hs).imp fun σ H Q h=>by
  k_dat 0"r1"
  k_dat 0"r19"
  refine⟨φ1,st1,ρ,_,pre.on b1,h1,fun xs st2 h2 φ2 H2 vs b2 dxs=>?_⟩
  exact hq _ st2 h2 φ2 H2 _ (b1.trans b2) (.cons (dx.evo b2.2) dxs)
def qN (t:TAD):TD:=fun ρ st P=>t ρ st fun ds st1=>ds.length≤sizeLine∧P (.tup ds) st1
def qg (t:TAD):TD:=fun ρ st P=>t ρ st fun ds st1=>ds.length≤sizeLine∧P (.lst st1.length) (st1++[.rw ds])
theorem qBL {K:W.Frag} {φ:Nat→Addr} {st:Sto} {H:Hp} {p:Addr} {o:HO} (R:Rep K φ st H) (hp:H p=none):Bhd K φ st H φ st (upd H p o):=⟨R.laid hp,qBE hp⟩
theorem qCx {K:W.Frag} {φ:Nat→Addr} {st:Sto} {H:Hp} {p:Addr} {ds:List Dt} {vs:List V} (R:Rep K φ st H) (hp:H p=none) (hd:DL K φ st.length H ds vs) :
    Bhd K φ st H (qAk φ st.length p) (st++[.rw ds]) (upd H p (.lst vs)):=⟨R.newL hp hd,qOf hp⟩
theorem qGI {K:W.Frag} {φ:Nat→Addr} {st:Sto} {H:Hp} {p:Addr} {ds:List Dt} {vs:List V}:D K (qAk φ st.length p) (st++[SO.rw ds]).length (upd H p (.lst vs)) (.lst st.length) (.ref p):=by
  have:=D.qP3 (K:=K) (φ:=qAk φ st.length p) (H:=upd H p (.lst vs)) (n:=st.length) (N:=(st++[SO.rw ds]).length) (by simp) (by rw [qCQ];exact⟨vs,SqL.of qh⟩)
  rw [qCQ] at this
  exact this
theorem qQ9 {x1} (h:DA X es tas):DE X (.Tuple es x1 pos) (qN tas):=(qQd h).imp fun σ H Q h=>by
  k_dat 0"r1"
  k_dat 0"r93"
  exact hq _ st1 h1.2 φ1 _ _ (b1.trans (qBL b1.1 hp)) (.qCH (SqT.of qh) (dx.evo (qBE hp)))
theorem qRz (h:DA X es tas):DE X (.List es pos) (qg tas):=(qRv h).imp fun σ H Q h=>by
  k_dat 0"r1"
  k_dat 0"r93"
  exact hq _ _ h1.2 _ _ _ (b1.trans (qCx b1.1 hp dx)) qGI
end
end L3
namespace L3
open PySem PySem.Spec PyProof.Rows L2
def qu:RD2:=fun x y st P=>match x,y with
  | .int i,.int j=>P (.int (i+j)) st
  | .str i,.str j=>i.length+j.length≤sizeLine∧P (.str (i++j)) st
  | .tup i,.tup j=>i.length+j.length≤sizeLine∧P (.tup (i++j)) st
  | .lst n,.lst m=>match st[n]?,st[m]? with
    | some (.rw xs),some (.rw ys)=>xs.length+ys.length≤sizeLine∧P (.lst st.length) (st++[.rw (xs++ys)])
    | _,_=>False
  | _,_=>False
def qCY:RD2:=fun x y st P=>match x,y with
  | .int i,.int j=>P (.int (i - j)) st
  | _,_=>False
def qBA:RD2:=fun x y st P=>match x,y with
  | .int i,.int j=>qOR i j∧P (.int (i * j)) st
  | .tup xs,.int k=>xs≠[]∧2≤k∧k<2 ^ 20∧xs.length * k.toNat≤sizeLine∧P (.tup (List.replicate k.toNat xs).flatten) st
  | .lst n,.int k=>match st[n]? with
    | some (.rw xs)=>0≤k∧k<2 ^ 20∧xs.length * k.toNat≤sizeLine∧P (.lst st.length) (st++[.rw (List.replicate k.toNat xs).flatten])
    | _=>False
  | _,_=>False
def qAn:RD2:=fun x y st P=>match x,y with
  | .int i,.int j=>qNW i j∧P (.int (i / j)) st
  | _,_=>False
def qo:RD2:=fun x y st P=>match x,y with
  | .int i,.int j=>0<j∧P (.int (i%j)) st
  | _,_=>False
def qCX:RD2:=fun x y st P=>match x,y with
  | .int i,.int j=>P (.int (Builtin.bitAnd i j)) st
  | _,_=>False
def qAN (p:Int→Int→Bool):RD2:=fun x y st P=>match x,y with
  | .int i,.int j=>P (.bl (p i j)) st
  | _,_=>False
def qW (neg:Bool):RD2:=fun x y st P=>match x,y with
  | .lst n,.lst m=>match st[n]?,st[m]? with
    | some a,some b=>a.items.all (okD 8)=true∧b.items.all (okD 8)=true∧P (.bl (eqL (eqD 8) a.items b.items != neg)) st
    | _,_=>False
  | x,y=>okD 8 x=true∧okD 8 y=true∧P (.bl (eqD 8 x y != neg)) st
def qBf (neg:Bool):RD2:=fun x y st P=>match x,y with
  | .bl a,.bl b=>P (.bl ((a==b) != neg)) st
  | .non,.non=>P (.bl (true != neg)) st
  | .bl _,.non=>P (.bl (false != neg)) st
  | .int _,.non=>P (.bl (false != neg)) st
  | .str _,.non=>P (.bl (false != neg)) st
  | .tup _,.non=>P (.bl (false != neg)) st
  | .lst _,.non=>P (.bl (false != neg)) st
  | _,_=>False
noncomputable def qa (st:Sto):Dt→Option (List Dt)
  | .tup xs=>some xs
  | .lst n=>(st[n]?).map SO.items
  | _=>none
def qBH (neg:Bool):RD2:=fun x y st P=>match x,y with
  | .str i,.str j=>P (.bl ((!(Builtin.Str.occurrences j i 0 j.length 1).isEmpty) != neg)) st
  | x,y=>match qa st y with
    | some xs=>okD 0 x=true∧xs.all (okD 0)=true∧P (.bl (xs.any (fun z=>eqD 0 z x) != neg)) st
    | none=>False
section
variable {X:Cx} {K:W.Frag} {φ:Nat→Addr} {st:Sto} {H:Hp} {P:VD} {Q:VK} {d:Dt} {v:V}
abbrev Go (K:W.Frag) (φ:Nat→Addr) (st:Sto) (H:Hp) (P:VD) (Q:VK):Prop:=∀ d st',P d st'→∀ φ' H' u,Bhd K φ st H φ' st' H'→D K φ' st'.length H' d u→Q u H'
theorem Go.here (g:Go K φ st H P Q) (R:Rep K φ st H) (hp:P d st) (hd:D K φ st.length H d v):Q v H:=g d st hp φ H v (.refl R) hd
theorem qRl:OpD X (binaryOp .Add) qu:=by
  k_dat 0"r14"
  k_dat 0"r11"
  cases x with
  | int i =>
    cases y with
    | int j=>exact qQn pins s σ H v w u1 u2 Q I r1 r2 ⟨i,j,dx.int,dy.int,Go.here hq R hr D.mkInt⟩
    | _=>exact hr.elim
  | str i =>
    cases y with
    | str j=>exact qKL pins s σ H v w u1 u2 Q I r1 r2 ⟨i,j,dx.str,dy.str,hr.1,Go.here hq R hr.2 D.mkStr⟩
    | _=>exact hr.elim
  | tup i =>
    cases y with
    | tup j =>
      obtain⟨a,vs,e1,s1,d1⟩:=dx.tup
      obtain⟨b,ws,e2,s2,d2⟩:=dy.tup
      have l1:=d1.length
      have l2:=d2.length
      have hr1:i.length+j.length≤sizeLine:=hr.1
      have hr2:P (.tup (i++j)) st:=hr.2
      refine qO9 pins s σ H v w u1 u2 Q I r1 r2 ⟨a,b,vs,ws,e1,e2,s1,s2,by omega,fun z=>?_,fun z1 z2=>?_,fun z1 z2 p hp=>?_⟩
      · rw [z] at l1
        have:i=[]:=List.length_eq_zero_iff.mp l1
        rw [this,List.nil_append] at hr2
        exact Go.here hq R hr2 (.qCH s2 d2)
      · rw [z2] at l2
        have:j=[]:=List.length_eq_zero_iff.mp l2
        rw [this,List.append_nil] at hr2
        exact Go.here hq R hr2 (.qCH s1 d1)
      · exact hq _ st hr2 φ _ _ (qBL R hp) (.qCH (SqT.of qh) ((d1.append d2).evo (qBE hp)))
    | _=>exact hr.elim
  | lst n =>
    cases y with
    | lst m =>
      have hr':match st[n]?,st[m]? with
        | some (.rw xs),some (.rw ys)=>xs.length+ys.length≤sizeLine∧P (.lst st.length) (st++[.rw (xs++ys)])
        | _,_=>False:=hr
      split at hr'
      · rename_i xs ys e1 e2
        obtain⟨vs,h1,d1⟩:=R.rw n xs e1
        obtain⟨ws,h2,d2⟩:=R.rw m ys e2
        have l1:=d1.length
        have l2:=d2.length
        have z:=hr'.1
        exact qSL pins s σ H v w u1 u2 Q I r1 r2 ⟨φ n,φ m,vs,ws,dx.lst.2,dy.lst.2,h1,h2,by omega,fun p hp=>hq _ _ hr'.2 _ _ _ (qCx R hp (d1.append d2)) qGI⟩
      · exact hr'.elim
    | _=>exact hr.elim
  | _=>cases y<;>exact hr.elim
theorem qR4:OpD X (binaryOp .Sub) qCY:=by
  k_dat 0"r14"
  k_dat 0"r11"
  cases x with
  | int i =>
    cases y with
    | int j=>exact qRn pins s σ H v w u1 u2 Q I r1 r2 ⟨i,j,dx.int,dy.int,Go.here hq R hr D.mkInt⟩
    | _=>exact hr.elim
  | _=>cases y<;>exact hr.elim
theorem qNK:OpD X (binaryOp .Mult) qBA:=by
  k_dat 0"r14"
  k_dat 0"r11"
  cases x with
  | int i =>
    cases y with
    | int j=>exact qR8 pins s σ H v w u1 u2 Q I r1 r2 ⟨i,j,dx.int,dy.int,hr.1,Go.here hq R hr.2 D.mkInt⟩
    | _=>exact hr.elim
  | tup xs =>
    cases y with
    | int k =>
      obtain⟨a,vs,e1,s1,d1⟩:=dx.tup
      obtain⟨h1,h2,h3,h4,h5⟩:xs≠[]∧2≤k∧k<2 ^ 20∧xs.length * k.toNat≤sizeLine∧P (.tup (List.replicate k.toNat xs).flatten) st:=hr
      have rep:∀ m:Nat,DL X.K φ st.length H (List.replicate m xs).flatten (List.replicate m vs).flatten:=fun m=>by
        induction m with
        | zero=>exact .nil
        | succ m ih=>rw [List.replicate_succ,List.replicate_succ,List.flatten_cons,List.flatten_cons];exact d1.append ih
      refine qPg pins s σ H v w u1 u2 Q I r1 r2 ⟨a,k,vs,e1,dy.int,s1,fun z=>?_,h2,h3,by rw [← d1.length];exact h4,fun p hp=>?_⟩
      · have:=d1.length
        rw [z] at this
        exact h1 (List.length_eq_zero_iff.mp this)
      · exact hq _ st h5 φ _ _ (qBL R hp) (.qCH (SqT.of qh) ((rep _).evo (qBE hp)))
    | _=>exact hr.elim
  | lst n =>
    cases y with
    | int k =>
      have hr':match st[n]? with
        | some (.rw xs)=>0≤k∧k<2 ^ 20∧xs.length * k.toNat≤sizeLine∧P (.lst st.length) (st++[.rw (List.replicate k.toNat xs).flatten])
        | _=>False:=hr
      split at hr'
      · rename_i xs e1
        obtain⟨vs,h1,d1⟩:=R.rw n xs e1
        obtain⟨g1,g2,g3,g4⟩:=hr'
        have rep:∀ m:Nat,DL X.K φ st.length H (List.replicate m xs).flatten (List.replicate m vs).flatten:=fun m=>by
          induction m with
          | zero=>exact .nil
          | succ m ih=>rw [List.replicate_succ,List.replicate_succ,List.flatten_cons,List.flatten_cons];exact d1.append ih
        exact qSN pins s σ H v w u1 u2 Q I r1 r2 ⟨φ n,k,vs,dx.lst.2,dy.int,h1,by omega,by omega,by rw [← d1.length];exact g3,fun p hp=>hq _ _ g4 _ _ _ (qCx R hp (rep _)) qGI⟩
      · exact hr'.elim
    | _=>exact hr.elim
  | _=>cases y<;>exact hr.elim
theorem qSH:OpD X (binaryOp .FloorDiv) qAn:=by
  k_dat 0"r14"
  k_dat 0"r11"
  cases x with
  | int i =>
    cases y with
    | int j=>exact qPV pins s σ H v w u1 u2 Q I r1 r2 ⟨i,j,dx.int,dy.int,hr.1,Go.here hq R hr.2 D.mkInt⟩
    | _=>exact hr.elim
  | _=>cases y<;>exact hr.elim
theorem qQ2:OpD X (binaryOp .Mod) qo:=by
  k_dat 0"r14"
  k_dat 0"r11"
  cases x with
  | int i =>
    cases y with
    | int j=>exact qR9 pins s σ H v w u1 u2 Q I r1 r2 ⟨i,j,dx.int,dy.int,hr.1,Go.here hq R hr.2 D.mkInt⟩
    | _=>exact hr.elim
  | _=>cases y<;>exact hr.elim
theorem qQa:OpD X (binaryOp .BitAnd) qCX:=by
  k_dat 0"r14"
  k_dat 0"r11"
  cases x with
  | int i =>
    cases y with
    | int j=>exact qQQ pins s σ H v w u1 u2 Q I r1 r2 ⟨i,j,dx.int,dy.int,Go.here hq R hr D.mkInt⟩
    | _=>exact hr.elim
  | _=>cases y<;>exact hr.elim
theorem qHs {op:CmpOp} {p:Int→Int→Bool} (ho:OpR X (compareOp op) (rI0 fun i j=>.bl (p i j))):OpD X (compareOp op) (qAN p):=by
  k_dat 0"r14"
  k_dat 0"r11"
  cases x with
  | int i =>
    cases y with
    | int j=>exact ho pins s σ H v w u1 u2 Q I r1 r2 ⟨i,j,dx.int,dy.int,Go.here hq R hr D.qD7⟩
    | _=>exact hr.elim
  | _=>cases y<;>exact hr.elim
theorem qQF:OpD X (compareOp .Lt) (qAN fun i j=>decide (i<j)):=qHs qOA
theorem qSk:OpD X (compareOp .Gt) (qAN fun i j=>decide (j<i)):=qHs qSr
theorem qP4:OpD X (compareOp .GtE) (qAN fun i j=>decide (j≤i)):=qHs qS9
theorem qAc (k:Bool):(k != false)=k:=by cases k<;>rfl
theorem qDn (k:Bool):(k != true) = !k:=by cases k<;>rfl
theorem qBd {pins:List (Addr×Obj)} {σ:L2.St} {s:Shared} (I:Inv X pins σ H s) (g:Go X.K φ st H P Q) (R:Rep X.K φ st H) {k k':Bool} (hp:P (.bl k) st) (e:k=k'):EP X pins σ Q (.bool k') s:=by
  subst e
  exact⟨.bl k,H,I,rfl,Go.here g R hp D.qD7⟩
end
section
variable {X:Cx} {pins:List (Addr×Obj)} {σ:L2.St} {H:Hp} {s:Shared} {φ:Nat→Addr} {N:Nat}
theorem qKo (I:Inv X pins σ H s) {n:Nat} {A:Around} {a b:List Dt} {vs ws:List V} {its its2:List Value} (hu:A.units+n+1<cLine) (hd:DL X.K φ N H a vs) (hd2:DL X.K φ N H b ws) (rv:Vals vs its) (rv2:Vals ws its2)
    (o1:a.all (okD n)=true) (o2:b.all (okD n)=true) {j:Nat} (h1:j<its.toArray.size) (h2:j<its2.toArray.size):SeqAt.EqAt A.in1 s its.toArray[j] its2.toArray[j] (eqD n (a.getD j .non) (b.getD j .non)):=by
  k_dat 0"r44"
  k_dat 0"r45"
  have hj1:j<a.length:=by rw [← l1];exact h1
  have hj2:j<b.length:=by rw [← l2];exact h2
  have ea:a[j]? = some a[j]:=by simp [hj1]
  have eb:b[j]? = some b[j]:=by simp [hj2]
  obtain⟨x,ex,dx⟩:=hd.get ea
  obtain⟨y,ey,dy⟩:=hd2.get eb
  obtain⟨ux,eux,rx⟩:=rv.get ex
  obtain⟨uy,euy,ry⟩:=rv2.get ey
  have gx:its.toArray[j]=ux:=by
    have:its[j]? = some its[j]:=by simp at h1;simp [h1]
    rw [eux] at this
    k_dat 0"r46"
  have gy:its2.toArray[j]=uy:=by
    have:its2[j]? = some its2[j]:=by simp at h2;simp [h2]
    rw [euy] at this
    k_dat 0"r46"
  rw [gx,gy,qFo ea,qFo eb]
  exact qON I n (by show A.units+1+n<cLine;omega) (List.all_eq_true.mp o1 _ (List.getElem_mem hj1)) (List.all_eq_true.mp o2 _ (List.getElem_mem hj2)) dx dy rx ry
theorem qQS (I:Inv X pins σ H s) (n:Nat) {A:Around}:∀ {d e:Dt} {v w:V} {u1 u2:Value},A.units+n+1<cLine→okD (n+1) d=true→okD (n+1) e=true→D X.K φ N H d v→D X.K φ N H e w→RelV v u1→RelV w u2→SeqAt.RcAt A s u1 u2 (eqD (n+1) d e)
  | .non,.non,v,w,u1,u2,hu,_,_,h1,h2,r1,r2=>by cases h1.non;cases h2.non;cases r1;cases r2;exact SeqAt.RcAt.none_none
  | .non,.bl b,v,w,u1,u2,hu,_,_,h1,h2,r1,r2=>by cases h1.non;cases h2.bl;cases r1;cases r2;exact SeqAt.RcAt.none_bool b
  | .non,.int b,v,w,u1,u2,hu,_,_,h1,h2,r1,r2=>by cases h1.non;cases h2.int;cases r1;obtain⟨t',rfl⟩:=r2;exact SeqAt.RcAt.none_int b t'
  | .non,.str b,v,w,u1,u2,hu,_,_,h1,h2,r1,r2=>by cases h1.non;cases h2.str;cases r1;obtain⟨t',rfl⟩:=r2;exact SeqAt.RcAt.none_str b t'
  | .bl a,.non,v,w,u1,u2,hu,_,_,h1,h2,r1,r2=>by cases h1.bl;cases h2.non;cases r1;cases r2;exact SeqAt.RcAt.bool_none a
  | .bl a,.bl b,v,w,u1,u2,hu,_,_,h1,h2,r1,r2=>by cases h1.bl;cases h2.bl;cases r1;cases r2;exact SeqAt.RcAt.bool_bool a b
  | .bl a,.int b,v,w,u1,u2,hu,_,_,h1,h2,r1,r2=>by cases h1.bl;cases h2.int;cases r1;obtain⟨t',rfl⟩:=r2;exact SeqAt.RcAt.bool_int a b t'
  | .bl a,.str b,v,w,u1,u2,hu,_,_,h1,h2,r1,r2=>by cases h1.bl;cases h2.str;cases r1;obtain⟨t',rfl⟩:=r2;exact SeqAt.RcAt.bool_str a b t'
  | .int a,.non,v,w,u1,u2,hu,_,_,h1,h2,r1,r2=>by cases h1.int;cases h2.non;obtain⟨t,rfl⟩:=r1;cases r2;exact SeqAt.RcAt.int_none a t
  | .int a,.bl b,v,w,u1,u2,hu,_,_,h1,h2,r1,r2=>by cases h1.int;cases h2.bl;obtain⟨t,rfl⟩:=r1;cases r2;exact SeqAt.RcAt.int_bool a t b
  | .int a,.int b,v,w,u1,u2,hu,_,_,h1,h2,r1,r2=>by cases h1.int;cases h2.int;obtain⟨t,rfl⟩:=r1;obtain⟨t',rfl⟩:=r2;exact SeqAt.RcAt.int_int a t b t'
  | .int a,.str b,v,w,u1,u2,hu,_,_,h1,h2,r1,r2=>by cases h1.int;cases h2.str;obtain⟨t,rfl⟩:=r1;obtain⟨t',rfl⟩:=r2;exact SeqAt.RcAt.int_str a t b t'
  | .str a,.non,v,w,u1,u2,hu,_,_,h1,h2,r1,r2=>by cases h1.str;cases h2.non;obtain⟨t,rfl⟩:=r1;cases r2;exact SeqAt.RcAt.str_none a t
  | .str a,.bl b,v,w,u1,u2,hu,_,_,h1,h2,r1,r2=>by cases h1.str;cases h2.bl;obtain⟨t,rfl⟩:=r1;cases r2;exact SeqAt.RcAt.str_bool a t b
  | .str a,.int b,v,w,u1,u2,hu,_,_,h1,h2,r1,r2=>by cases h1.str;cases h2.int;obtain⟨t,rfl⟩:=r1;obtain⟨t',rfl⟩:=r2;exact SeqAt.RcAt.str_int a t b t'
  | .str a,.str b,v,w,u1,u2,hu,_,_,h1,h2,r1,r2=>by cases h1.str;cases h2.str;obtain⟨t,rfl⟩:=r1;obtain⟨t',rfl⟩:=r2;exact SeqAt.RcAt.str_str a t b t'
  | .tup a,.non,v,w,u1,u2,hu,_,_,h1,h2,r1,r2=>by
    obtain⟨p,vs,rfl,hs,hd⟩:=h1.tup;cases h2.non;cases r1;cases r2;obtain⟨its,_,ht,_⟩:=I.tuple hs;exact SeqAt.RcAt.tuple_none ht (by omega)
  | .non,.tup a,v,w,u1,u2,hu,_,_,h1,h2,r1,r2=>by
    obtain⟨p,vs,rfl,hs,hd⟩:=h2.tup;cases h1.non;cases r2;cases r1;obtain⟨its,_,ht,_⟩:=I.tuple hs;exact SeqAt.RcAt.none_tuple ht (by omega)
  | .tup a,.bl b,v,w,u1,u2,hu,_,_,h1,h2,r1,r2=>by
    obtain⟨p,vs,rfl,hs,hd⟩:=h1.tup;cases h2.bl;cases r1;cases r2;obtain⟨its,_,ht,_⟩:=I.tuple hs;exact SeqAt.RcAt.tuple_bool b ht (by omega)
  | .bl b,.tup a,v,w,u1,u2,hu,_,_,h1,h2,r1,r2=>by
    obtain⟨p,vs,rfl,hs,hd⟩:=h2.tup;cases h1.bl;cases r2;cases r1;obtain⟨its,_,ht,_⟩:=I.tuple hs;exact SeqAt.RcAt.bool_tuple b ht (by omega)
  | .tup a,.int b,v,w,u1,u2,hu,_,_,h1,h2,r1,r2=>by
    obtain⟨p,vs,rfl,hs,hd⟩:=h1.tup;cases h2.int;cases r1;obtain⟨t',rfl⟩:=r2;obtain⟨its,_,ht,_⟩:=I.tuple hs;exact SeqAt.RcAt.tuple_int b t' ht (by omega)
  | .int b,.tup a,v,w,u1,u2,hu,_,_,h1,h2,r1,r2=>by
    obtain⟨p,vs,rfl,hs,hd⟩:=h2.tup;cases h1.int;cases r2;obtain⟨t',rfl⟩:=r1;obtain⟨its,_,ht,_⟩:=I.tuple hs;exact SeqAt.RcAt.int_tuple b t' ht (by omega)
  | .tup a,.str b,v,w,u1,u2,hu,_,_,h1,h2,r1,r2=>by
    obtain⟨p,vs,rfl,hs,hd⟩:=h1.tup;cases h2.str;cases r1;obtain⟨t',rfl⟩:=r2;obtain⟨its,_,ht,_⟩:=I.tuple hs;exact SeqAt.RcAt.tuple_str b t' ht (by omega)
  | .str b,.tup a,v,w,u1,u2,hu,_,_,h1,h2,r1,r2=>by
    obtain⟨p,vs,rfl,hs,hd⟩:=h2.tup;cases h1.str;cases r2;obtain⟨t',rfl⟩:=r1;obtain⟨its,_,ht,_⟩:=I.tuple hs;exact SeqAt.RcAt.str_tuple b t' ht (by omega)
  | .tup a,.tup b,v,w,u1,u2,hu,o1,o2,h1,h2,r1,r2=>by
    simp only [okD] at o1 o2
    obtain⟨p,vs,rfl,hs,hd⟩:=h1.tup
    obtain⟨q,ws,rfl,hs2,hd2⟩:=h2.tup
    cases r1;cases r2
    obtain⟨its,rv,ht,_⟩:=I.tuple hs
    obtain⟨its2,rv2,ht2,_⟩:=I.tuple hs2
    k_dat 0"r44"
    k_dat 0"r45"
    have:=SeqAt.RcAt.tuples (A:=A) (s:=s) (e:=fun j=>eqD n (a.getD j .non) (b.getD j .non)) ht ht2 (by omega) (fun j h1 h2=>qKo I hu hd hd2 rv rv2 o1 o2 h1 h2)
    rw [l1,l2] at this
    simp only [eqD]
    rw [qBt]
    exact this
  | .lst _,_,v,w,u1,u2,hu,o1,_,h1,h2,r1,r2=>by simp [okD] at o1
  | .non,.lst _,v,w,u1,u2,hu,_,o1,h1,h2,r1,r2=>by simp [okD] at o1
  | .bl _,.lst _,v,w,u1,u2,hu,_,o1,h1,h2,r1,r2=>by simp [okD] at o1
  | .int _,.lst _,v,w,u1,u2,hu,_,o1,h1,h2,r1,r2=>by simp [okD] at o1
  | .str _,.lst _,v,w,u1,u2,hu,_,o1,h1,h2,r1,r2=>by simp [okD] at o1
  | .tup _,.lst _,v,w,u1,u2,hu,_,o1,h1,h2,r1,r2=>by simp [okD] at o1
  | .ty _,_,v,w,u1,u2,hu,o1,_,h1,h2,r1,r2=>by simp [okD] at o1
  | .dic _,_,v,w,u1,u2,hu,o1,_,h1,h2,r1,r2=>by simp [okD] at o1
  | .ins _,_,v,w,u1,u2,hu,o1,_,h1,h2,r1,r2=>by simp [okD] at o1
  | .non,.ty _,v,w,u1,u2,hu,_,o1,h1,h2,r1,r2=>by simp [okD] at o1
  | .non,.dic _,v,w,u1,u2,hu,_,o1,h1,h2,r1,r2=>by simp [okD] at o1
  | .non,.ins _,v,w,u1,u2,hu,_,o1,h1,h2,r1,r2=>by simp [okD] at o1
  | .bl _,.ty _,v,w,u1,u2,hu,_,o1,h1,h2,r1,r2=>by simp [okD] at o1
  | .bl _,.dic _,v,w,u1,u2,hu,_,o1,h1,h2,r1,r2=>by simp [okD] at o1
  | .bl _,.ins _,v,w,u1,u2,hu,_,o1,h1,h2,r1,r2=>by simp [okD] at o1
  | .int _,.ty _,v,w,u1,u2,hu,_,o1,h1,h2,r1,r2=>by simp [okD] at o1
  | .int _,.dic _,v,w,u1,u2,hu,_,o1,h1,h2,r1,r2=>by simp [okD] at o1
  | .int _,.ins _,v,w,u1,u2,hu,_,o1,h1,h2,r1,r2=>by simp [okD] at o1
  | .str _,.ty _,v,w,u1,u2,hu,_,o1,h1,h2,r1,r2=>by simp [okD] at o1
  | .str _,.dic _,v,w,u1,u2,hu,_,o1,h1,h2,r1,r2=>by simp [okD] at o1
  | .str _,.ins _,v,w,u1,u2,hu,_,o1,h1,h2,r1,r2=>by simp [okD] at o1
  | .tup _,.ty _,v,w,u1,u2,hu,_,o1,h1,h2,r1,r2=>by simp [okD] at o1
  | .tup _,.dic _,v,w,u1,u2,hu,_,o1,h1,h2,r1,r2=>by simp [okD] at o1
  | .tup _,.ins _,v,w,u1,u2,hu,_,o1,h1,h2,r1,r2=>by simp [okD] at o1
theorem qSJ (I:Inv X pins σ H s) (n:Nat) {A:Around}:∀ {d e:Dt} {v w:V} {u1 u2:Value},A.units+n+1<cLine→okD (n+1) d=true→okD (n+1) e=true→D X.K φ N H d v→D X.K φ N H e w→RelV v u1→RelV w u2→SeqAt.RcNeAt A s u1 u2 (!(eqD (n+1) d e))
  | .non,.non,v,w,u1,u2,hu,_,_,h1,h2,r1,r2=>by cases h1.non;cases h2.non;cases r1;cases r2;exact SeqAt.RcNeAt.none_none
  | .non,.bl b,v,w,u1,u2,hu,_,_,h1,h2,r1,r2=>by cases h1.non;cases h2.bl;cases r1;cases r2;exact SeqAt.RcNeAt.none_bool b
  | .non,.int b,v,w,u1,u2,hu,_,_,h1,h2,r1,r2=>by cases h1.non;cases h2.int;cases r1;obtain⟨t',rfl⟩:=r2;exact SeqAt.RcNeAt.none_int b t'
  | .non,.str b,v,w,u1,u2,hu,_,_,h1,h2,r1,r2=>by cases h1.non;cases h2.str;cases r1;obtain⟨t',rfl⟩:=r2;exact SeqAt.RcNeAt.none_str b t'
  | .bl a,.non,v,w,u1,u2,hu,_,_,h1,h2,r1,r2=>by cases h1.bl;cases h2.non;cases r1;cases r2;exact SeqAt.RcNeAt.bool_none a
  | .bl a,.bl b,v,w,u1,u2,hu,_,_,h1,h2,r1,r2=>by cases h1.bl;cases h2.bl;cases r1;cases r2;exact SeqAt.RcNeAt.bool_bool a b
  | .bl a,.int b,v,w,u1,u2,hu,_,_,h1,h2,r1,r2=>by cases h1.bl;cases h2.int;cases r1;obtain⟨t',rfl⟩:=r2;exact SeqAt.RcNeAt.bool_int a b t'
  | .bl a,.str b,v,w,u1,u2,hu,_,_,h1,h2,r1,r2=>by cases h1.bl;cases h2.str;cases r1;obtain⟨t',rfl⟩:=r2;exact SeqAt.RcNeAt.bool_str a b t'
  | .int a,.non,v,w,u1,u2,hu,_,_,h1,h2,r1,r2=>by cases h1.int;cases h2.non;obtain⟨t,rfl⟩:=r1;cases r2;exact SeqAt.RcNeAt.int_none a t
  | .int a,.bl b,v,w,u1,u2,hu,_,_,h1,h2,r1,r2=>by cases h1.int;cases h2.bl;obtain⟨t,rfl⟩:=r1;cases r2;exact SeqAt.RcNeAt.int_bool a t b
  | .int a,.int b,v,w,u1,u2,hu,_,_,h1,h2,r1,r2=>by cases h1.int;cases h2.int;obtain⟨t,rfl⟩:=r1;obtain⟨t',rfl⟩:=r2;exact SeqAt.RcNeAt.int_int a t b t'
  | .int a,.str b,v,w,u1,u2,hu,_,_,h1,h2,r1,r2=>by cases h1.int;cases h2.str;obtain⟨t,rfl⟩:=r1;obtain⟨t',rfl⟩:=r2;exact SeqAt.RcNeAt.int_str a t b t'
  | .str a,.non,v,w,u1,u2,hu,_,_,h1,h2,r1,r2=>by cases h1.str;cases h2.non;obtain⟨t,rfl⟩:=r1;cases r2;exact SeqAt.RcNeAt.str_none a t
  | .str a,.bl b,v,w,u1,u2,hu,_,_,h1,h2,r1,r2=>by cases h1.str;cases h2.bl;obtain⟨t,rfl⟩:=r1;cases r2;exact SeqAt.RcNeAt.str_bool a t b
  | .str a,.int b,v,w,u1,u2,hu,_,_,h1,h2,r1,r2=>by cases h1.str;cases h2.int;obtain⟨t,rfl⟩:=r1;obtain⟨t',rfl⟩:=r2;exact SeqAt.RcNeAt.str_int a t b t'
  | .str a,.str b,v,w,u1,u2,hu,_,_,h1,h2,r1,r2=>by cases h1.str;cases h2.str;obtain⟨t,rfl⟩:=r1;obtain⟨t',rfl⟩:=r2;exact SeqAt.RcNeAt.str_str a t b t'
  | .tup a,.non,v,w,u1,u2,hu,_,_,h1,h2,r1,r2=>by
    obtain⟨p,vs,rfl,hs,hd⟩:=h1.tup;cases h2.non;cases r1;cases r2;obtain⟨its,_,ht,_⟩:=I.tuple hs;exact SeqAt.RcNeAt.tuple_none ht (by omega)
  | .non,.tup a,v,w,u1,u2,hu,_,_,h1,h2,r1,r2=>by
    obtain⟨p,vs,rfl,hs,hd⟩:=h2.tup;cases h1.non;cases r2;cases r1;obtain⟨its,_,ht,_⟩:=I.tuple hs;exact SeqAt.RcNeAt.none_tuple ht (by omega)
  | .tup a,.bl b,v,w,u1,u2,hu,_,_,h1,h2,r1,r2=>by
    obtain⟨p,vs,rfl,hs,hd⟩:=h1.tup;cases h2.bl;cases r1;cases r2;obtain⟨its,_,ht,_⟩:=I.tuple hs;exact SeqAt.RcNeAt.tuple_bool b ht (by omega)
  | .bl b,.tup a,v,w,u1,u2,hu,_,_,h1,h2,r1,r2=>by
    obtain⟨p,vs,rfl,hs,hd⟩:=h2.tup;cases h1.bl;cases r2;cases r1;obtain⟨its,_,ht,_⟩:=I.tuple hs;exact SeqAt.RcNeAt.bool_tuple b ht (by omega)
  | .tup a,.int b,v,w,u1,u2,hu,_,_,h1,h2,r1,r2=>by
    obtain⟨p,vs,rfl,hs,hd⟩:=h1.tup;cases h2.int;cases r1;obtain⟨t',rfl⟩:=r2;obtain⟨its,_,ht,_⟩:=I.tuple hs;exact SeqAt.RcNeAt.tuple_int b t' ht (by omega)
  | .int b,.tup a,v,w,u1,u2,hu,_,_,h1,h2,r1,r2=>by
    obtain⟨p,vs,rfl,hs,hd⟩:=h2.tup;cases h1.int;cases r2;obtain⟨t',rfl⟩:=r1;obtain⟨its,_,ht,_⟩:=I.tuple hs;exact SeqAt.RcNeAt.int_tuple b t' ht (by omega)
  | .tup a,.str b,v,w,u1,u2,hu,_,_,h1,h2,r1,r2=>by
    obtain⟨p,vs,rfl,hs,hd⟩:=h1.tup;cases h2.str;cases r1;obtain⟨t',rfl⟩:=r2;obtain⟨its,_,ht,_⟩:=I.tuple hs;exact SeqAt.RcNeAt.tuple_str b t' ht (by omega)
  | .str b,.tup a,v,w,u1,u2,hu,_,_,h1,h2,r1,r2=>by
    obtain⟨p,vs,rfl,hs,hd⟩:=h2.tup;cases h1.str;cases r2;obtain⟨t',rfl⟩:=r1;obtain⟨its,_,ht,_⟩:=I.tuple hs;exact SeqAt.RcNeAt.str_tuple b t' ht (by omega)
  | .tup a,.tup b,v,w,u1,u2,hu,o1,o2,h1,h2,r1,r2=>by
    simp only [okD] at o1 o2
    obtain⟨p,vs,rfl,hs,hd⟩:=h1.tup
    obtain⟨q,ws,rfl,hs2,hd2⟩:=h2.tup
    cases r1;cases r2
    obtain⟨its,rv,ht,_⟩:=I.tuple hs
    obtain⟨its2,rv2,ht2,_⟩:=I.tuple hs2
    k_dat 0"r44"
    k_dat 0"r45"
    have:=SeqAt.RcNeAt.tuples (A:=A) (s:=s) (e:=fun j=>eqD n (a.getD j .non) (b.getD j .non)) ht ht2 (by omega) (fun j h1 h2=>qKo I hu hd hd2 rv rv2 o1 o2 h1 h2)
    rw [l1,l2] at this
    simp only [eqD]
    rw [qBt]
    exact this
  | .lst _,_,v,w,u1,u2,hu,o1,_,h1,h2,r1,r2=>by simp [okD] at o1
  | .non,.lst _,v,w,u1,u2,hu,_,o1,h1,h2,r1,r2=>by simp [okD] at o1
  | .bl _,.lst _,v,w,u1,u2,hu,_,o1,h1,h2,r1,r2=>by simp [okD] at o1
  | .int _,.lst _,v,w,u1,u2,hu,_,o1,h1,h2,r1,r2=>by simp [okD] at o1
  | .str _,.lst _,v,w,u1,u2,hu,_,o1,h1,h2,r1,r2=>by simp [okD] at o1
  | .tup _,.lst _,v,w,u1,u2,hu,_,o1,h1,h2,r1,r2=>by simp [okD] at o1
  | .ty _,_,v,w,u1,u2,hu,o1,_,h1,h2,r1,r2=>by simp [okD] at o1
  | .dic _,_,v,w,u1,u2,hu,o1,_,h1,h2,r1,r2=>by simp [okD] at o1
  | .ins _,_,v,w,u1,u2,hu,o1,_,h1,h2,r1,r2=>by simp [okD] at o1
  | .non,.ty _,v,w,u1,u2,hu,_,o1,h1,h2,r1,r2=>by simp [okD] at o1
  | .non,.dic _,v,w,u1,u2,hu,_,o1,h1,h2,r1,r2=>by simp [okD] at o1
  | .non,.ins _,v,w,u1,u2,hu,_,o1,h1,h2,r1,r2=>by simp [okD] at o1
  | .bl _,.ty _,v,w,u1,u2,hu,_,o1,h1,h2,r1,r2=>by simp [okD] at o1
  | .bl _,.dic _,v,w,u1,u2,hu,_,o1,h1,h2,r1,r2=>by simp [okD] at o1
  | .bl _,.ins _,v,w,u1,u2,hu,_,o1,h1,h2,r1,r2=>by simp [okD] at o1
  | .int _,.ty _,v,w,u1,u2,hu,_,o1,h1,h2,r1,r2=>by simp [okD] at o1
  | .int _,.dic _,v,w,u1,u2,hu,_,o1,h1,h2,r1,r2=>by simp [okD] at o1
  | .int _,.ins _,v,w,u1,u2,hu,_,o1,h1,h2,r1,r2=>by simp [okD] at o1
  | .str _,.ty _,v,w,u1,u2,hu,_,o1,h1,h2,r1,r2=>by simp [okD] at o1
  | .str _,.dic _,v,w,u1,u2,hu,_,o1,h1,h2,r1,r2=>by simp [okD] at o1
  | .str _,.ins _,v,w,u1,u2,hu,_,o1,h1,h2,r1,r2=>by simp [okD] at o1
  | .tup _,.ty _,v,w,u1,u2,hu,_,o1,h1,h2,r1,r2=>by simp [okD] at o1
  | .tup _,.dic _,v,w,u1,u2,hu,_,o1,h1,h2,r1,r2=>by simp [okD] at o1
  | .tup _,.ins _,v,w,u1,u2,hu,_,o1,h1,h2,r1,r2=>by simp [okD] at o1
end
theorem qP9 {X:Cx} (hu:X.A.units+16<cLine):OpD X (compareOp .Eq) (qW false):=by
  k_dat 0"r14"
  k_dat 0"r11"
  have gen:okD 8 x=true→okD 8 y=true→P (.bl (eqD 8 x y != false)) st→wpAny (model X.prog X.w) X.A (compareOp .Eq u1 u2) (EP X pins σ Q) X.xe s:=fun o1 o2 hp=>by
    rw [qAc] at hp
    exact qQS I 7 (by omega) o1 o2 dx dy r1 r2 _ _ _ _ (qBd I hq R hp rfl)
  cases x with
  | lst n =>
    cases y with
    | lst m =>
      have hr':match st[n]?,st[m]? with
        | some a,some b=>a.items.all (okD 8)=true∧b.items.all (okD 8)=true∧P (.bl (eqL (eqD 8) a.items b.items != false)) st
        | _,_=>False:=hr
      split at hr'
      · rename_i a b e1 e2
        obtain⟨o1,o2,hp⟩:=hr'
        rw [qAc] at hp
        obtain⟨vs,s1,d1⟩:=R.seq e1 dx.isL
        obtain⟨ws,s2,d2⟩:=R.seq e2 dy.isL
        obtain⟨its,rv,pl,_⟩:=I.list s1
        obtain⟨its2,rv2,pl2,_⟩:=I.list s2
        have e1':=dx.lst.2
        have e2':=dy.lst.2
        subst e1';subst e2'
        cases r1;cases r2
        k_dat 0"r94"
        k_dat 0"r95"
        rw [qBt] at hp
        by_cases hl:its.toArray.size=its2.toArray.size
        · have:=SeqAt.RcAt.lists (A:=X.A) (s:=s) (e:=fun j=>eqD 8 (a.items.getD j .non) (b.items.getD j .non)) pl.isList pl2.isList hl (by omega) (fun j h1 h2=>qKo I (by omega) d1 d2 rv rv2 o1 o2 h1 h2)
          refine this _ _ _ _ (qBd I hq R hp ?_)
          rw [← l1,← l2,← hl,Nat.min_self]
          simp
        · have hl':(its.toArray.size != its2.toArray.size)=true:=by simpa using hl
          refine SeqAt.RcAt.lists_lengths (A:=X.A) pl.isList pl2.isList hl' (by omega) _ _ _ _ (qBd I hq R hp ?_)
          rw [← l1,← l2]
          have:(its.toArray.size==its2.toArray.size)=false:=by simpa using hl
          rw [this,Bool.and_false]
      · exact hr'.elim
    | _=>exact absurd (show okD 8 (.lst n)=true from hr.1) (by simp [okD])
  | _=>cases y<;>exact gen hr.1 hr.2.1 hr.2.2
theorem qQE {X:Cx} (hu:X.A.units+16<cLine):OpD X (compareOp .NotEq) (qW true):=by
  k_dat 0"r14"
  k_dat 0"r11"
  have gen:okD 8 x=true→okD 8 y=true→P (.bl (eqD 8 x y != true)) st→wpAny (model X.prog X.w) X.A (compareOp .NotEq u1 u2) (EP X pins σ Q) X.xe s:=fun o1 o2 hp=>by
    rw [qDn] at hp
    exact qSJ I 7 (by omega) o1 o2 dx dy r1 r2 _ _ _ _ (qBd I hq R hp rfl)
  cases x with
  | lst n =>
    cases y with
    | lst m =>
      have hr':match st[n]?,st[m]? with
        | some a,some b=>a.items.all (okD 8)=true∧b.items.all (okD 8)=true∧P (.bl (eqL (eqD 8) a.items b.items != true)) st
        | _,_=>False:=hr
      split at hr'
      · rename_i a b e1 e2
        obtain⟨o1,o2,hp⟩:=hr'
        rw [qDn] at hp
        obtain⟨vs,s1,d1⟩:=R.seq e1 dx.isL
        obtain⟨ws,s2,d2⟩:=R.seq e2 dy.isL
        obtain⟨its,rv,pl,_⟩:=I.list s1
        obtain⟨its2,rv2,pl2,_⟩:=I.list s2
        have e1':=dx.lst.2
        have e2':=dy.lst.2
        subst e1';subst e2'
        cases r1;cases r2
        k_dat 0"r94"
        k_dat 0"r95"
        rw [qBt] at hp
        by_cases hl:its.toArray.size=its2.toArray.size
        · have:=SeqAt.RcNeAt.lists (A:=X.A) (s:=s) (e:=fun j=>eqD 8 (a.items.getD j .non) (b.items.getD j .non)) pl.isList pl2.isList hl (by omega) (fun j h1 h2=>qKo I (by omega) d1 d2 rv rv2 o1 o2 h1 h2)
          refine this _ _ _ _ (qBd I hq R hp ?_)
          rw [← l1,← l2,← hl,Nat.min_self]
          simp
        · have hl':(its.toArray.size != its2.toArray.size)=true:=by simpa using hl
          refine SeqAt.RcNeAt.lists_lengths (A:=X.A) pl.isList pl2.isList hl' (by omega) _ _ _ _ (qBd I hq R hp ?_)
          rw [← l1,← l2]
          have:(its.toArray.size==its2.toArray.size)=false:=by simpa using hl
          rw [this,Bool.and_false]
          rfl
      · exact hr'.elim
    | _=>exact absurd (show okD 8 (.lst n)=true from hr.1) (by simp [okD])
  | _=>cases y<;>exact gen hr.1 hr.2.1 hr.2.2
end L3
namespace L3
open PySem PySem.Spec PyProof.Rows L2
section
variable {X:Cx}
theorem qP8:OpD X (compareOp .Is) (qBf false):=by
  k_dat 0"r14"
  k_dat 0"r11"
  have nn:y = .non→v≠.non→P (.bl (false != false)) st→wpAny (model X.prog X.w) X.A (compareOp .Is u1 u2) (EP X pins σ Q) X.xe s:=fun e hv hp=>by
    subst e
    have:=dy.non
    exact qNv pins s σ H v w u1 u2 Q I r1 r2 ⟨this,by rw [decide_eq_false hv];exact Go.here hq R hp D.qD7⟩
  cases x with
  | bl a =>
    cases y with
    | bl b =>
      cases dx.bl;cases dy.bl;cases r1;cases r2
      exact is_bool (qBd I hq R hr (by rw [qAc]))
    | non=>exact nn rfl (by rw [dx.bl];intro z;cases z) hr
    | _=>exact hr.elim
  | non =>
    cases y with
    | non=>exact qNv pins s σ H v w u1 u2 Q I r1 r2 ⟨dy.non,by rw [decide_eq_true dx.non];exact Go.here hq R hr D.qD7⟩
    | _=>exact hr.elim
  | int a =>
    cases y with
    | non=>exact nn rfl (by rw [dx.int];intro z;cases z) hr
    | _=>exact hr.elim
  | str a =>
    cases y with
    | non=>exact nn rfl (by rw [dx.str];intro z;cases z) hr
    | _=>exact hr.elim
  | tup a =>
    cases y with
    | non=>exact nn rfl (by obtain⟨_,_,e,_⟩:=dx.tup;rw [e];intro z;cases z) hr
    | _=>exact hr.elim
  | lst a =>
    cases y with
    | non=>exact nn rfl (by rw [dx.lst.2];intro z;cases z) hr
    | _=>exact hr.elim
  | _=>cases y<;>exact hr.elim
theorem qJU:OpD X (compareOp .IsNot) (qBf true):=by
  k_dat 0"r14"
  k_dat 0"r11"
  have nn:y = .non→v≠.non→P (.bl (false != true)) st→wpAny (model X.prog X.w) X.A (compareOp .IsNot u1 u2) (EP X pins σ Q) X.xe s:=fun e hv hp=>by
    subst e
    exact qK8 pins s σ H v w u1 u2 Q I r1 r2 ⟨dy.non,by rw [decide_eq_false hv];exact Go.here hq R hp D.qD7⟩
  cases x with
  | bl a =>
    cases y with
    | bl b =>
      cases dx.bl;cases dy.bl;cases r1;cases r2
      exact isnot_bool (qBd I hq R hr (by rw [qDn];rfl))
    | non=>exact nn rfl (by rw [dx.bl];intro z;cases z) hr
    | _=>exact hr.elim
  | non =>
    cases y with
    | non=>exact qK8 pins s σ H v w u1 u2 Q I r1 r2 ⟨dy.non,by rw [decide_eq_true dx.non];exact Go.here hq R hr D.qD7⟩
    | _=>exact hr.elim
  | int a =>
    cases y with
    | non=>exact nn rfl (by rw [dx.int];intro z;cases z) hr
    | _=>exact hr.elim
  | str a =>
    cases y with
    | non=>exact nn rfl (by rw [dx.str];intro z;cases z) hr
    | _=>exact hr.elim
  | tup a =>
    cases y with
    | non=>exact nn rfl (by obtain⟨_,_,e,_⟩:=dx.tup;rw [e];intro z;cases z) hr
    | _=>exact hr.elim
  | lst a =>
    cases y with
    | non=>exact nn rfl (by rw [dx.lst.2];intro z;cases z) hr
    | _=>exact hr.elim
  | _=>cases y<;>exact hr.elim
end
end L3
namespace L3
open PySem PySem.Spec PyProof.Rows L2
section
variable {X:Cx}
theorem qKx {K:W.Frag} {φ:Nat→Addr} {N:Nat} {H:Hp} {d:Dt} {v:V} (h:D K φ N H d v) (o:okD 0 d=true):qDz v=true:=by
  cases d with
  | non=>cases h.non;rfl
  | bl _=>cases h.bl;rfl
  | int _=>cases h.int;rfl
  | str _=>cases h.str;rfl
  | _=>exact absurd o (by simp [okD])
theorem qJP {K:W.Frag} {φ:Nat→Addr} {N:Nat} {H:Hp}:∀ {ds:List Dt} {vs:List V},DL K φ N H ds vs→ds.all (okD 0)=true→vs.all qDz=true
  | [],vs,h,_=>by simp only [DL] at h;rw [h];rfl
  | d::ds,vs,h,o=>by
    k_dat 0"r13"
    obtain⟨v,r,rfl,h2,h3⟩:=h
    rw [List.all_cons,Bool.and_eq_true] at o ⊢
    exact⟨qKx h2 o.1,qJP h3 o.2⟩
theorem qSK {K:W.Frag} {φ:Nat→Addr} {N:Nat} {H:Hp} {d e:Dt} {v w:V} (h:D K φ N H d v) (h':D K φ N H e w) (o:okD 0 d=true) (o':okD 0 e=true):eqV v w=eqD 0 d e:=by
  cases d<;>(try (exfalso;revert o;simp [okD];done))<;>cases e<;>(try (exfalso;revert o';simp [okD];done))<;>(simp only [D] at h h';subst h;subst h';rfl)
theorem qKr {K:W.Frag} {φ:Nat→Addr} {N:Nat} {H:Hp} {d:Dt} {v:V} (h':D K φ N H d v) (o':okD 0 d=true):∀ {ds:List Dt} {vs:List V},DL K φ N H ds vs→ds.all (okD 0)=true→inV v vs=ds.any (fun z=>eqD 0 z d)
  | [],vs,h,_=>by simp only [DL] at h;rw [h];rfl
  | e::ds,vs,h,o=>by
    k_dat 0"r13"
    obtain⟨w,r,rfl,h2,h3⟩:=h
    rw [List.all_cons,Bool.and_eq_true] at o
    have ih:=qKr h' o' h3 o.2
    unfold inV at ih ⊢
    rw [List.any_cons,List.any_cons,ih,qSK h2 h' o.1 o']
theorem qEB {K:W.Frag} {φ:Nat→Addr} {st:Sto} {H:Hp} {y:Dt} {w:V} {xs:List Dt} (R:Rep K φ st H) (dy:D K φ st.length H y w) (e:qa st y=some xs) :
    ∃ p vs,w = .ref p∧((SqL K H p vs∧∃ n,y = .lst n)∨(SqT K H p vs∧y = .tup xs))∧DL K φ st.length H xs vs:=by
  cases y with
  | tup zs =>
    have e':zs=xs:=Option.some.inj e
    subst e'
    obtain⟨a,vs,e1,s1,d1⟩:=dy.tup
    exact⟨a,vs,e1,.inr ⟨s1,rfl⟩,d1⟩
  | lst n =>
    have e':(st[n]?).map SO.items=some xs:=e
    cases q:st[n]? with
    | none=>rw [q] at e';cases e'
    | some o =>
      rw [q] at e'
      have e2:o.items=xs:=Option.some.inj e'
      obtain⟨vs,h1,h2⟩:=R.seq q dy.isL
      rw [e2] at h2
      exact⟨φ n,vs,dy.lst.2,.inl ⟨h1,n,rfl⟩,h2⟩
  | _=>cases e
theorem qQC:OpD X (compareOp .In) (qBH false):=by
  k_dat 0"r14"
  k_dat 0"r11"
  have gen:(match qa st y with
    | some xs=>okD 0 x=true∧xs.all (okD 0)=true∧P (.bl (xs.any (fun z=>eqD 0 z x) != false)) st
    | none=>False)→wpAny (model X.prog X.w) X.A (compareOp .In u1 u2) (EP X pins σ Q) X.xe s:=fun hg=>by
    split at hg
    · rename_i xs e
      obtain⟨o1,o2,hp⟩:=hg
      obtain⟨p,vs,e1,hs,hd⟩:=qEB R dy e
      refine qMU pins s σ H v w u1 u2 Q I r1 r2 ⟨p,vs,e1,hs.elim (fun z=>.inl z.1) fun z=>.inr z.1,qKx dx o1,qJP hd o2,?_⟩
      rw [if_neg Bool.false_ne_true,qKr dx o1 hd o2]
      rw [qAc] at hp
      exact Go.here hq R hp D.qD7
    · exact hg.elim
  cases x with
  | str i =>
    cases y with
    | str j =>
      have hr':P (.bl ((!(Builtin.Str.occurrences j i 0 j.length 1).isEmpty) != false)) st:=hr
      rw [qAc] at hr'
      exact qMB pins s σ H v w u1 u2 Q I r1 r2 ⟨i,j,dx.str,dy.str,Go.here hq R hr' D.qD7⟩
    | _=>exact gen hr
  | _=>exact gen hr
end
end L3
namespace L3
open PySem PySem.Spec PyProof.Rows L2
section
variable {X:Cx}
def qI:RD2:=fun x y st P=>match y with
  | .int i=>(match x with
    | .str z=>z.length≤sizeLine∧(match atI z.cps.toList i with
      | some c=>P (.str ⟨#[c]⟩) st
      | none=>False)
    | x => match qa st x with
      | some xs=>(match atI xs i with
        | some d=>P d st
        | none=>False)
      | none=>False)
  | _=>False
theorem DL.atI {K:W.Frag} {φ:Nat→Addr} {N:Nat} {H:Hp} {ds:List Dt} {vs:List V} {i:Int} {d:Dt} (h:DL K φ N H ds vs) (e:L2.atI ds i=some d):∃ v,L2.atI vs i=some v∧D K φ N H d v:=by
  unfold L2.atI at e ⊢
  rw [← h.length]
  cases q:ixN ds.length i with
  | none=>rw [q] at e;cases e
  | some j =>
    rw [q] at e
    exact h.get e
theorem qS5 {a b:Expr} {ta tb:TD} {pos:Pos} (ha:DE X a ta) (hb:DE X b tb) (hs:qK4 b:=by exact fun _ _=>rfl):DE X (.Subscript a b pos) (qE qI ta tb):=by
  have key:IxR X (qOF X.K qI):=by
    intro value slice pins s σ H v w u1 u2 Q I r1 r2 h hsub
    k_dat 0"r11"
    cases y with
    | int i =>
      have gen:(match qa st x with
        | some xs=>(match atI xs i with
          | some d=>P d st
          | none=>False)
        | none=>False)→wpAny (model X.prog X.w) X.A (subscriptTail value slice u1 u2) (EP X pins σ Q) X.xe s:=fun hg=>by
        split at hg
        · rename_i xs e
          split at hg
          · rename_i d ed
            obtain⟨p,vs,e1,hs,hd⟩:=qEB R dx e
            obtain⟨z,ez,dz⟩:=hd.atI ed
            refine qOS value slice pins s σ H v w u1 u2 Q I r1 r2 ?_ hsub
            rcases hs with ⟨hs,_⟩ | ⟨hs,_⟩
            · exact .inl ⟨p,vs,i,z,e1,dy.int,hs,ez,Go.here hq R hg dz⟩
            · exact .inr (.inl ⟨p,vs,i,z,e1,dy.int,hs,ez,Go.here hq R hg dz⟩)
          · exact hg.elim
        · exact hg.elim
      cases x with
      | str z =>
        have hr':z.length≤sizeLine∧(match atI z.cps.toList i with
          | some c=>P (.str ⟨#[c]⟩) st
          | none=>False):=hr
        obtain⟨h1,h2⟩:=hr'
        split at h2
        · rename_i c ec
          exact qOS value slice pins s σ H v w u1 u2 Q I r1 r2 (.inr (.inr ⟨z,i,c,dx.str,dy.int,h1,ec,Go.here hq R h2 D.mkStr⟩)) hsub
        · exact h2.elim
      | _=>exact gen hr
    | _=>exact hr.elim
  exact (qTA key ha hb hs).imp fun _ _ _=>qEP
noncomputable abbrev TOD:=Rho→Sto→(Option Int→Sto→Prop)→Prop
noncomputable def qTR (K:W.Frag) (t:TOD):TO:=fun σ H Q=>∃ φ st ρ P,Pre K φ st H ρ σ∧t ρ st P∧∀ o st',P o st'→∀ φ' H',Bhd K φ st H φ' st' H'→Q o H'
def DO (X:Cx) (e:Option Expr) (t:TOD):Prop:=PO X e (qTR X.K t)
noncomputable def qv:TOD:=fun _ st P=>P none st
noncomputable def qp (t:TD):TOD:=fun ρ st P=>t ρ st fun x st1=>match x with
  | .int i=>P (some i) st1
  | _=>False
theorem qPP:DO X none qv:=fun pins s σ H Q I h=>by
  k_dat 0"r1"
  exact qPt pins s σ H Q I (hq none st ht φ H (.refl pre.1))
theorem qOo {e:Expr} {t:TD} (he:DE X e t):DO X (some e) (qp t):=fun pins s σ H Q I h=>by
  refine qPW he pins s σ H Q I ?_
  k_dat 0"r1"
  k_dat 0"r28"
  cases d with
  | int i=>exact⟨i,dx.int,hq _ st1 h1 φ1 H1 b1⟩
  | _=>exact h1.elim
noncomputable def cutD (xs:List Dt) (lo hi:Option Int):List Dt:=(xs.drop (HT.sIx xs.length 0 lo)).take (HT.sIx xs.length xs.length hi - HT.sIx xs.length 0 lo)
def qBQ (te:TD) (tl th:TOD):TD:=fun ρ st P=>te ρ st fun x st1=>tl ρ st1 fun lo st2=>th ρ st2 fun hi st3=>match x with
  | .tup xs=>¬ (HT.sIx xs.length 0 lo=0∧HT.sIx xs.length xs.length hi=xs.length)∧P (.tup (cutD xs lo hi)) st3
  | .lst n=>(match st3[n]? with
    | some o=>P (.lst st3.length) (st3++[.rw (cutD o.items lo hi)])
    | none=>False)
  | _=>False
theorem qMp {e:Expr} {lo hi:Option Expr} {te:TD} {tl th:TOD} {pos p2:Pos} (he:DE X e te) (hl:DO X lo tl) (hu:DO X hi th):DE X (.Subscript e (.Slice lo hi none p2) pos) (qBQ te tl th):=by
  refine PE.imp (qIw (qOT.or qK7) he hl hu) fun σ H Q h=>?_
  k_dat 0"r1"
  k_dat 0"r19"
  refine⟨φ1,st1,ρ,_,pre.on b1,h1,fun l st2 h2 φ2 H2 b2=>?_⟩
  refine⟨φ2,st2,ρ,_,(pre.on b1).on b2,h2,fun u st3 h3 φ3 H3 b3=>?_⟩
  have b:=b1.trans (b2.trans b3)
  have dx3:=(dx.evo b2.2).evo b3.2
  cases x with
  | tup xs =>
    obtain⟨a,vs,e1,s1,d1⟩:=dx3.tup
    have h3':¬ (HT.sIx xs.length 0 l=0∧HT.sIx xs.length xs.length u=xs.length)∧P (.tup (cutD xs l u)) st3:=h3
    refine .inl ⟨a,vs,e1,s1,by rw [← d1.length];exact h3'.1,fun p hp=>hq _ st3 h3'.2 φ3 _ _ (b.trans (qBL b3.1 hp)) (.qCH (SqT.of qh) ?_)⟩
    unfold cutD qFi
    rw [← d1.length]
    exact ((d1.drop _).take _).evo (qBE hp)
  | lst n =>
    have h3':(match st3[n]? with
      | some o=>P (.lst st3.length) (st3++[.rw (cutD o.items l u)])
      | none=>False):=h3
    split at h3'
    · rename_i o eo
      obtain⟨vs,s1,d1⟩:=b3.1.seq eo dx3.isL
      refine .inr ⟨φ3 n,vs,dx3.lst.2,s1,fun p hp=>?_⟩
      have:DL X.K φ3 st3.length H3 (cutD o.items l u) (qFi vs l u):=by
        unfold cutD qFi
        rw [← d1.length]
        exact (d1.drop _).take _
      exact hq _ _ h3' _ _ _ (b.trans (qCx b3.1 hp this)) qGI
    · exact h3'.elim
  | _=>exact h3.elim
end
end L3
namespace L3
open PySem PySem.Spec PyProof.Rows L2
noncomputable def qS (K:W.Frag) (sp:RDL):Sp:=fun vs H Q _=>qNN K sp vs H Q
section
variable {X:Cx} {e:Expr} {es:List Expr} {t:TAD} {pos p:Pos} {x:Str}
theorem qPa {k:Nat} {f:Addr} {fd:FuncData} {ps:List Str} {sp:RDL} (F:qw X.prog X.w X.K X.mg X.base CX0 k f fd ps (qS X.K sp)) (hr:qAt k X.A) (hm:X.mg x=some (.ref f)) (hk:W.keepIn X.K (.ref f)=true)
    (hb:Binds X.K fd ps []) (ha:DA X (e::es) t) (hg:Gl X x:=by rfl) (hdb:(x==("__debug__" : Str))=false:=by decide) (he:starEach (e::es) X.env=(false,eval e X.env)::starEach es X.env:=by rfl)
    (hpl:(backTo pos (starEach es X.env)).any (·.1)=false:=by rfl):DE X (.Call (.Name x p) (e::es) [] pos) (qF sp t):=by
  refine PE.imp (qPn F hr hg hm hk hb .nil qOC ha hdb he hpl) fun σ H Q h=>?_
  have:=qEq h
  obtain⟨φ,st,ρ,P,pre,ht,hq⟩:=this
  refine⟨φ,st,ρ,P,pre,ht,fun ds st' hp φ' H' vs b d=>?_⟩
  show qS X.K sp (vs++[]) H' Q E0
  rw [List.append_nil]
  exact hq ds st' hp φ' H' vs b d
theorem qJV {id:String} {r:RDL} (hc:qHT X (.builtin id) r) (hm:X.mg x=none) (hv:bootBuiltins x=some (.builtin id)) (ha:DA X (e::es) t) (hg:Gl X x:=by rfl) (hn:x ≠ "__name__":=by decide) (hdb:(x==("__debug__" : Str))=false:=by decide)
    (he:starEach (e::es) X.env=(false,eval e X.env)::starEach es X.env:=by rfl) (hpl:(backTo pos (starEach es X.env)).any (·.1)=false:=by rfl):DE X (.Call (.Name x p) (e::es) [] pos) (qF r t) :=
  PE.imp (qOP hc hg hm hv ha hn hdb he hpl) fun σ H Q h=>qEq h
theorem qHe {T:String} {r:RDL} (hc:qHT X (.type T) r) (hm:X.mg x=none) (hv:bootBuiltins x=some (.type T)) (ha:DA X (e::es) t) (hg:Gl X x:=by rfl) (hn:x ≠ "__name__":=by decide) (hdb:(x==("__debug__" : Str))=false:=by decide)
    (he:starEach (e::es) X.env=(false,eval e X.env)::starEach es X.env:=by rfl) (hpl:(backTo pos (starEach es X.env)).any (·.1)=false:=by rfl):DE X (.Call (.Name x p) (e::es) [] pos) (qF r t) :=
  PE.imp (qLX hc hg hm hv ha hn hdb he hpl) fun σ H Q h=>qEq h
def qBC:RDL:=fun ds st P=>match ds with
  | [.str z]=>z.length≤sizeLine∧P (.int z.length) st
  | [x]=>(match qa st x with
    | some xs=>P (.int xs.length) st
    | none=>False)
  | _=>False
theorem qRG:qHT X (.builtin "len") qBC:=by
  intro pins s σ H vs us Q I rv h
  obtain⟨φ,st,ds,P,R,dl,hr,hq⟩:=h
  rcases ds with _ | ⟨x,_ | ⟨y,r⟩⟩
  · exact hr.elim
  rotate_left
  · cases x<;>exact hr.elim
  · obtain⟨v,rfl,dx⟩:=dl.one
    have gen:(match qa st x with
      | some xs=>P (.int xs.length) st
      | none=>False)→wpAny (model X.prog X.w) X.A (call (.builtin "len") us) (EP X pins σ Q) X.xe s:=fun hg=>by
      split at hg
      · rename_i xs e
        obtain⟨p,ws,e1,hs,hd⟩:=qEB R dx e
        refine qH6 pins s σ H [v] us Q I rv ⟨p,ws,by rw [e1],hs.elim (fun z=>.inl z.1) fun z=>.inr z.1,?_⟩
        rw [← hd.length]
        exact Go.here hq R hg D.mkInt
      · exact hg.elim
    cases x with
    | str z=>exact qIW pins s σ H [v] us Q I rv ⟨z,by rw [dx.str],hr.1,Go.here hq R hr.2 D.mkInt⟩
    | _=>exact gen hr
def qj:RDL:=fun ds st P=>match ds with
  | [x]=>(match qa st x with
    | some xs=>P (.tup xs) st
    | none=>False)
  | _=>False
theorem qMr:qHT X (.type "tuple") qj:=by
  intro pins s σ H vs us Q I rv h
  obtain⟨φ,st,ds,P,R,dl,hr,hq⟩:=h
  rcases ds with _ | ⟨x,_ | ⟨y,r⟩⟩
  · exact hr.elim
  rotate_left
  · cases x<;>exact hr.elim
  · obtain⟨v,rfl,dx⟩:=dl.one
    have hr':(match qa st x with
      | some xs=>P (.tup xs) st
      | none=>False):=hr
    split at hr'
    · rename_i xs e
      obtain⟨p,ws,e1,hs,hd⟩:=qEB R dx e
      refine qHG pins s σ H [v] us Q I rv ⟨p,ws,by rw [e1],?_⟩
      rcases hs with ⟨hs,_⟩ | ⟨hs,ex⟩
      · exact .inl ⟨hs,fun l hl=>hq _ st hr' φ _ _ (qBL R hl) (.qCH (SqT.of qh) (hd.evo (qBE hl)))⟩
      · exact .inr ⟨hs,Go.here hq R hr' (.qCH hs hd)⟩
    · exact hr'.elim
end
end L3
namespace L3
open PySem PySem.Spec PyProof.Rows L2
section
variable {X:Cx}
noncomputable def tyN:Dt→Option String
  | .non=>some "NoneType"
  | .bl _=>some "bool"
  | .int _=>some "int"
  | .str _=>some "str"
  | .tup _=>some "tuple"
  | .lst _=>some "list"
  | .ty _=>none
  | .dic _=>none
  | .ins _=>none
noncomputable def isT (t c:String):Bool:=t==c || (t == "bool" && c == "int")
theorem qEn (K:W.Frag) {t c:String} (ht:t = "NoneType" ∨ t = "bool" ∨ t = "int" ∨ t = "str" ∨ t = "tuple" ∨ t = "list") (hc:c = "bool" ∨ c = "int" ∨ c = "str" ∨ c = "tuple" ∨ c = "list"):W.kitOne K (.type t) (.type c)=some (isT t c):=by
  rcases ht with rfl | rfl | rfl | rfl | rfl | rfl<;>rcases hc with rfl | rfl | rfl | rfl | rfl<;>kernel_rfl
def qAI:RDL:=fun ds st P=>match ds with
  | [x,.ty c]=>(c = "bool" ∨ c = "int" ∨ c = "str" ∨ c = "tuple" ∨ c = "list")∧(match tyN x with
    | some t=>P (.bl (isT t c)) st
    | none=>False)
  | _=>False
theorem qMN:qHT X (.builtin "isinstance") qAI:=by
  intro pins s σ H vs us Q I rv h
  obtain⟨φ,st,ds,P,R,dl,hr,hq⟩:=h
  rcases ds with _ | ⟨x,_ | ⟨y,_ | ⟨z,r⟩⟩⟩
  · exact hr.elim
  · exact hr.elim
  rotate_left
  · cases y<;>exact hr.elim
  · cases y<;>first
      | exact hr.elim
      | skip
    rename_i c
    obtain⟨v,w,rfl,dx,dy⟩:=dl.two
    obtain⟨u,u',rfl,ru,ru'⟩:=vals2 rv
    have:=dy.ty
    subst this
    have:=(show u'=Value.type c from ru')
    subst this
    obtain⟨hc,hr⟩:=hr
    have fin:∀ {t:String},P (.bl (isT t c)) st→∀ tk,EP X pins σ Q (.bool (isT t c)) { s with toks:=tk }:=fun {t} hp tk=>⟨.bl _,H,I.tok tk,rfl,Go.here hq R hp D.qD7⟩
    cases x with
    | non=>cases dx.non;cases ru;exact W.kia_one W.kitx_none I.kIn True.intro (qEn _ (.inl rfl) hc) (fun z=>nomatch z) (fin hr)
    | bl k=>cases dx.bl;cases ru;exact W.kia_one W.kitx_bool I.kIn True.intro (qEn _ (.inr (.inl rfl)) hc) (fun z=>nomatch z) (fin hr)
    | int k=>cases dx.int;obtain⟨t,rfl⟩:=ru;exact W.kia_one W.kitx_int I.kIn True.intro (qEn _ (.inr (.inr (.inl rfl))) hc) (fun z=>nomatch z) (fin hr)
    | str k=>cases dx.str;obtain⟨t,rfl⟩:=ru;exact W.kia_one W.kitx_str I.kIn True.intro (qEn _ (.inr (.inr (.inr (.inl rfl)))) hc) (fun z=>nomatch z) (fin hr)
    | tup xs =>
      obtain⟨a,ws,e1,s1,d1⟩:=dx.tup
      subst e1
      cases ru
      obtain⟨its,_,⟨o,h1,h2,_⟩,_⟩:=I.tuple s1
      exact W.kia_one W.kitx_tuple I.kIn ⟨o,h1,h2⟩ (qEn _ (.inr (.inr (.inr (.inr (.inl rfl))))) hc) (fun z=>nomatch z) (fin hr)
    | lst n =>
      obtain⟨ws,s1⟩:=dx.isL
      obtain⟨hn,e1⟩:=dx.lst
      subst e1
      cases ru
      obtain⟨its,_,pl,_⟩:=I.list s1
      obtain⟨ob,h1,h2,_⟩:=pl.isList
      exact W.kia_one W.kitx_list I.kIn ⟨ob,h1,h2⟩ (qEn _ (.inr (.inr (.inr (.inr (.inr rfl))))) hc) (fun z=>nomatch z) (fin hr)
    | ty _=>exact hr.elim
    | dic _=>exact hr.elim
    | ins _=>exact hr.elim
end
end L3
namespace L3
open PySem PySem.Spec PyProof.Rows L2
section
variable {X:Cx} {s:Stmt} {rest:List Stmt} {t u:TSD} {e:Expr} {te:TD} {pos:Pos}
def qG:TSD:=fun E ρ st=>E.nx ρ st
def tseq (t u:TSD):TSD:=fun E ρ st=>t { E with nx:=u E } ρ st
theorem qO0:DSs X [] qG:=(qPM).imp fun E σ H h=>by
  k_dat 0"r17"
  exact n ρ st ht φ H σ (.refl pre.1) pre.2
theorem qIj (h1:DS X s t) (h2:DSs X rest u):DSs X (s::rest) (tseq t u):=(qOW h1 h2).imp fun E σ H h=>by
  k_dat 0"r17"
  refine⟨φ,st,ρ,{ P with nx:=u P },pre,ht,fun ρ' st' hu φ' H' σ' bh dr=>?_,b,c,r⟩
  exact⟨φ',st',ρ',P,⟨bh.1,dr⟩,hu,fun ρ2 st2 h2 φ2 H2 σ2 b2 d2=>n ρ2 st2 h2 φ2 H2 σ2 (bh.trans b2) d2,fun ρ2 st2 h2 φ2 H2 σ2 b2 d2=>b ρ2 st2 h2 φ2 H2 σ2 (bh.trans b2) d2,
    fun ρ2 st2 h2 φ2 H2 σ2 b2 d2=>c ρ2 st2 h2 φ2 H2 σ2 (bh.trans b2) d2,fun d st2 h2 φ2 H2 v b2 d2=>r d st2 h2 φ2 H2 v (bh.trans b2) d2⟩
def qA3 (te:TD):TSD:=fun E ρ st=>te ρ st fun _ st1=>E.nx ρ st1
theorem qPD (he:DE X e te) (hs:swapsWith e none pos.line X.env=pure false:=by rfl):DS X (.Expr e pos) (qA3 te):=(qOi he hs).imp fun E σ H h=>by
  k_dat 0"r17"
  exact⟨φ,st,ρ,_,pre,ht,fun d st1 h1 φ1 H1 v b1 dx=>n ρ st1 h1 φ1 H1 σ b1 (pre.on b1).2⟩
def qM (te:TD):TSD:=fun E ρ st=>te ρ st E.rt
theorem qRJ (he:DE X e te):DS X (.Return (some e) pos) (qM te):=(qQe he).imp fun E σ H h=>by
  k_dat 0"r17"
  exact⟨φ,st,ρ,P.rt,pre,ht,r⟩
def qV (c:TBD) (t u:TSD):TSD:=fun E ρ st=>c ρ st fun k st1=>if k=true then t E ρ st1 else u E ρ st1
theorem qTe {c:Expr} {a b:List Stmt} {tc:TBD} (hc:DT X c tc) (ha:DSs X a t) (hb:DSs X b u):DS X (.If c a b pos) (qV tc t u):=(qSf hc ha hb).imp fun E σ H h=>by
  k_dat 0"r17"
  k_dat 0"r47"
  have on:∀ {v:TSD},v P ρ st1→qIZ X.K v E σ H1:=fun {v} hv=>⟨φ1,st1,ρ,P,pre.on b1,hv,fun ρ2 st2 h2 φ2 H2 σ2 b2 d2=>n ρ2 st2 h2 φ2 H2 σ2 (b1.trans b2) d2,fun ρ2 st2 h2 φ2 H2 σ2 b2 d2=>b ρ2 st2 h2 φ2 H2 σ2 (b1.trans b2) d2,
    fun ρ2 st2 h2 φ2 H2 σ2 b2 d2=>c ρ2 st2 h2 φ2 H2 σ2 (b1.trans b2) d2,fun d st2 h2 φ2 H2 v b2 d2=>r d st2 h2 φ2 H2 v (b1.trans b2) d2⟩
  cases k with
  | true=>exact qA7 (on (by rw [if_pos rfl] at h1;exact h1))
  | false=>exact qAz (on (by rw [if_neg Bool.false_ne_true] at h1;exact h1))
noncomputable abbrev TGD:=Dt→Rho→Sto→(Rho→Sto→Prop)→Prop
noncomputable abbrev qIn:=List Dt→Rho→Sto→(Rho→Sto→Prop)→Prop
noncomputable def qHb (K:W.Frag) (g:TGD):TG:=fun v σ H Q=>∃ φ st ρ d P,Pre K φ st H ρ σ∧D K φ st.length H d v∧g d ρ st P∧∀ ρ' st',P ρ' st'→∀ φ' H' σ',Bhd K φ st H φ' st' H'→DR K φ' st'.length H' ρ' σ'→Q σ' H'
noncomputable def qQm (K:W.Frag) (g:qIn):TGs:=fun vs σ H Q=>∃ φ st ρ ds P,Pre K φ st H ρ σ∧DL K φ st.length H ds vs∧g ds ρ st P∧∀ ρ' st',P ρ' st'→∀ φ' H' σ',Bhd K φ st H φ' st' H'→DR K φ' st'.length H' ρ' σ'→Q σ' H'
def DG (X:Cx) (tg:Expr) (g:TGD):Prop:=PG X tg (qHb X.K g)
def DGs (X:Cx) (tg:List Expr) (g:qIn):Prop:=PGs X tg (qQm X.K g)
theorem _root_.L2.PG.imp {X:Cx} {e:Expr} {t t':TG} (h:PG X e t) (i:∀ v σ H Q,t' v σ H Q→t v σ H Q):PG X e t':=fun pins s σ H v u Q I r q=>h pins s σ H v u Q I r (i v σ H Q q)
theorem _root_.L2.PGs.imp {X:Cx} {e:List Expr} {t t':TGs} (h:PGs X e t) (i:∀ v σ H Q,t' v σ H Q→t v σ H Q):PGs X e t':=fun pins s σ H v u Q I r q=>h pins s σ H v u Q I r (i v σ H Q q)
noncomputable def qJ (i:Nat):TGD:=fun d ρ st P=>P (ρ.set i (some d)) st
theorem qIK (i:Nat) {x:Str} (hN:X.N.Nodup) (hi:X.N[i]? = some x:=by rfl) (hx:Loc X.env.scope x:=by first | exact Or.inl rfl | exact Or.inr rfl) (hf:X.fn x=true∨X.env.scope.names.lookup x=some .local:=by first | exact .inl rfl | exact .inr rfl | assumption):DG X (.Name x pos) (qJ i) :=
  (qIR hN hi hx hf).imp fun v σ H Q h=>by
    obtain⟨φ,st,ρ,d,P,pre,hd,hg,hq⟩:=h
    exact hq _ st hg φ H _ (.refl pre.1) (pre.2.set hd i)
noncomputable def qAK:qIn:=fun ds ρ st P=>match ds with
  | []=>P ρ st
  | _=>False
noncomputable def qY (g:TGD) (gs:qIn):qIn:=fun ds ρ st P=>match ds with
  | d::r=>g d ρ st fun ρ1 st1=>gs r ρ1 st1 P
  | _=>False
theorem qKs:DGs X [] qAK:=(qOd).imp fun v σ H Q h=>by
  obtain⟨φ,st,ρ,ds,P,pre,hd,hg,hq⟩:=h
  cases ds with
  | nil =>
    have:v=[]:=by simpa [DL] using hd
    exact⟨this,hq _ st hg φ H _ (.refl pre.1) pre.2⟩
  | cons _ _=>exact hg.elim
theorem qGw {es:List Expr} {g:TGD} {gs:qIn} (h1:DG X e g) (h2:DGs X es gs) (hs:(assignEach (e::es) X.env).map (·.2)=assign e X.env::(assignEach es X.env).map (·.2):=by rfl):DGs X (e::es) (qY g gs):=(qMg h1 h2 hs).imp fun v σ H Q h=>by
  obtain⟨φ,st,ρ,ds,P,pre,hd,hg,hq⟩:=h
  cases ds with
  | nil=>exact hg.elim
  | cons d r =>
    simp only [DL] at hd
    obtain⟨w,ws,rfl,dw,dws⟩:=hd
    refine⟨w,ws,rfl,φ,st,ρ,d,_,pre,dw,hg,fun ρ1 st1 h1 φ1 H1 σ1 b1 dr1=>?_⟩
    exact⟨φ1,st1,ρ1,r,P,⟨b1.1,dr1⟩,dws.evo b1.2,h1,fun ρ2 st2 h2 φ2 H2 σ2 b2 d2=>hq ρ2 st2 h2 φ2 H2 σ2 (b1.trans b2) d2⟩
noncomputable def qi (n:Nat) (gs:qIn):TGD:=fun d ρ st P=>match qa st d with
  | some xs=>xs.length=n∧gs xs ρ st P
  | none=>False
theorem qHV {prog:Program} {w:World} {A:Around} {E:Value→Shared→Prop} {it l:Addr} {items:Array Value} (hne:l≠it):∀ (n i:Nat) (s:Shared) (Q:List Value→Shared→Prop),s.heap.IsListIter it l i→s.heap.IsList l items→i+n≤items.size →
    (∀ h',h'.IsListIter it l (i+n)→Heap.SameBut it s.heap h'→Q ((items.toList.drop i).take n) { s with heap:=h' })→wpAny (model prog w) A (draw (.ref it) n) Q E s
  | 0,i,s,Q,hit,hl,hn,h=>by
    unfold draw
    have:=h s.heap (by simpa using hit) (.refl ..)
    simpa using wpAny_pure this
  | n + 1,i,s,Q,hit,hl,hn,h=>by
    unfold draw
    have hi:i<items.size:=by omega
    refine wpAny_bind (wpAny_pyNext_list_item hit hl (x:=items[i]) (by simp [hi]) fun h1 hit1 sb1=>?_)
    dsimp only
    refine wpAny_bind (wpAny_holding ?_)
    refine qHV hne n (i+1) { s with heap:=h1 } _ hit1 (hl.extBut sb1.extBut hne) (by omega) fun h2 hit2 sb2=>?_
    refine wpAny_pure ?_
    have e:(items.toList.drop i).take (n+1)=items[i]::(items.toList.drop (i+1)).take n:=by
      rw [List.drop_eq_getElem_cons (by simpa using hi),List.take_succ_cons]
      simp
    have:=h h2 (by rw [show i+(n+1)=i+1+n by omega];exact hit2) (sb1.trans sb2)
    rw [e] at this
    exact this
end
end L3
namespace L3
open PySem PySem.Spec PyProof.Rows L2
section
variable {prog:Program} {w:World} {A:Around} {E:Value→Shared→Prop} {s:Shared}
theorem qEp {l:Addr} {items:Array Value} {Q:List Value→Shared→Prop} (hh:A.handled=none) (hl:s.heap.IsList l items)
    (hQ:∀ h',Heap.ExtBut s.heap.objs.size s.heap h'→Q items.toList { s with heap:=h' }):wpAny (model prog w) A (unpackItems (.ref l) items.size none) Q E s:=by
  have hlt:l≠s.heap.objs.size:=by obtain⟨o,ho,_⟩:=hl;exact Nat.ne_of_lt (Heap.lt_size ho)
  unfold unpackItems
  refine wpAny_bind ?_
  unfold notIterableAtAll
  refine wpAny_bind (wpAny_specialOf hl.typeIs slot_list_iter.lookup ?_)
  refine wpAny_pure ?_
  simp only [Bool.false_eq_true,if_false]
  refine wpAny_bind (wpAny_holding (wpAny_pyIter_list hl ?_))
  refine wpAny_bind (wpAny_holding (qHV hlt items.size 0 _ _ ⟨_,Heap.get?_push_size _ rfl,rfl,rfl⟩ (hl.push _) (by omega) fun h₁ hit₁ hs₁=>?_))
  have hall:List.take items.size (List.drop 0 items.toList)=items.toList:=by
    rw [List.drop_zero];exact List.take_of_length_le (by simp)
  rw [hall]
  rw [if_neg (by simp)]
  have hl₁:h₁.IsList l items:=(hl.push _).extBut hs₁.extBut hlt
  refine wpAny_bind (wpAny_holding (wpAny_pyNext_list_end hh hit₁ hl₁ (by simp) fun h₂ he₂=>?_))
  simp only [Option.isSome_none,Bool.false_eq_true,if_false]
  exact wpAny_pure (hQ h₂ fun b o hb e=>he₂ b o hb (hs₁.extBut b o hb (Heap.get?_push_of_some _ e)))
theorem qEZ {env:Env} {elts:List Expr} {x1} {pos:Pos} {t:Addr} {items:Array Value} {Q:Unit→Shared→Prop} (hh:A.handled=none) (ht:s.heap.IsList t items)
    (hn:(assignEach elts env).length=items.size) (hstar:(assignEach elts env).findIdx? (·.1)=none)
    (h:∀ h',Heap.ExtBut s.heap.objs.size s.heap h'→wpAny (model prog w) A (assignInOrder ((assignEach elts env).map (·.2)) items.toList) Q E { s with heap:=h' }) :
    wpAny (model prog w) A (assign (.Tuple elts x1 pos) env (.ref t)) Q E s:=by
  rw [assign_Tuple]
  refine wpAny_bind (wpAny_standAt ?_)
  unfold unpack
  rw [hn,hstar]
  exact wpAny_bind (wpAny_holding (qEp hh ht h))
end
section
variable {X:Cx} {pos:Pos} {e:Expr} {te:TD}
theorem qHZ {es:List Expr} {k:Nat} {gs:qIn} (n:Nat) (hc:X.calm=true) (h:DGs X es gs) (hn:(assignEach es X.env).length=n:=by rfl) (hst:(assignEach es X.env).findIdx? (·.1)=none:=by rfl):DG X (.Tuple es k pos) (qi n gs):=by
  intro pins s σ H v u Q I r hw
  obtain⟨φ,st,ρ,d,P,pre,hd,hg,hq⟩:=hw
  unfold qi at hg
  split at hg
  · rename_i xs ex
    obtain⟨hl,hg⟩:=hg
    obtain⟨p,vs,e1,hs,dl⟩:=qEB pre.1 hd ex
    subst e1
    cases r
    have hlen:=dl.length
    rcases hs with ⟨hs,_⟩ | ⟨hs,_⟩
    · obtain⟨its,rv,pl,_⟩:=I.list hs
      have:=rv.length
      refine qEZ (I.ok.hd hc) pl.isList (by rw [hn,List.size_toArray];omega) hst fun h' hx=>?_
      k_dat 0"r96"
      exact h pins _ σ H vs _ Q I1 (by simpa using rv) ⟨φ,st,ρ,xs,P,pre,dl,hg,hq⟩
    · obtain⟨its,rv,ht,_⟩:=I.tuple hs
      have:=rv.length
      refine assign_Tuple_tuple (I.ok.hd hc) ht (by rw [hn,List.size_toArray];omega) hst fun h' hx=>?_
      k_dat 0"r96"
      exact h pins _ σ H vs _ Q I1 (by simpa using rv) ⟨φ,st,ρ,xs,P,pre,dl,hg,hq⟩
  · exact hg.elim
def qP (te:TD) (g:TGD):TSD:=fun E ρ st=>te ρ st fun d st1=>g d ρ st1 E.nx
theorem qOQ {K:W.Frag} {te:TD} {g:TGD} {E:Ends} {σ:L2.St} {H:Hp} (h:qIZ K (qP te g) E σ H):qOb (qAd K te) (qHb K g) E σ H:=by
  k_dat 0"r17"
  k_dat 0"r28"
  exact⟨φ1,st1,ρ,d,P.nx,pre.on b1,dx,h1,fun ρ2 st2 h2 φ2 H2 σ2 b2 d2=>n ρ2 st2 h2 φ2 H2 σ2 (b1.trans b2) d2⟩
theorem qQJ {tg:Expr} {g:TGD} (he:DE X e te) (hg:DG X tg g) (hs:swapsWithSole [tg] e pos.line X.env=pure false:=by rfl) (hw:swappedStores [tg] e X.env=pure none:=by rfl)
    (h1:(assignEach [tg] X.env).map (·.2)=[assign tg X.env]:=by rfl):DS X (.Assign [tg] e pos) (qP te g):=(qRK he hg hs hw h1).imp fun _ _ _=>qOQ
theorem qSQ (i:Nat) {x:Str} {pos':Pos} (hN:X.N.Nodup) (he:DE X e te) (hi:X.N[i]? = some x:=by rfl) (hx:Loc X.env.scope x:=by first | exact Or.inl rfl | exact Or.inr rfl) (hs:swapsWith e (some (.Name x pos')) pos.line X.env=pure false:=by rfl)
    (hf:X.fn x=true∨X.env.scope.names.lookup x=some .local:=by first | exact .inl rfl | exact .inr rfl | assumption):DS X (.Assign [.Name x pos'] e pos) (qP te (qJ i)):=(qRs hN hi hx he hs hf).imp fun E σ H h=>by
  k_dat 0"r17"
  exact⟨φ,st,ρ,_,pre,ht,fun d st1 h1 φ1 H1 v b1 dx=>n _ st1 h1 φ1 H1 _ b1 ((pre.on b1).2.set dx i)⟩
noncomputable def qRZ (to ti:TD):TGD:=fun d ρ st P=>to ρ st fun o st1=>ti ρ st1 fun i st2=>match o,i with
  | .lst n,.int k=>(match st2[n]? with
    | some (.rw xs)=>(match ixN xs.length k with
      | some j=>P ρ (st2.set n (.rw (xs.set j d)))
      | none=>False)
    | _=>False)
  | _,_=>False
theorem qSB {o i:Expr} {to ti:TD} (ho:DE X o to) (hi:DE X i ti)
    (ha:∀ v,assign (.Subscript o i pos) X.env v=(do
      let ov ← holding [v] (eval o X.env)
      let iv ← holding [v,ov] (eval i X.env)
      standAt pos
      holding [v,ov,iv] (setItem ov iv v)
      release [v,ov,iv] []):=by intro _;rfl):DG X (.Subscript o i pos) (qRZ to ti):=(qSX ho hi set_list ha).imp fun v σ H Q h=>by
  obtain⟨φ,st,ρ,d,P,pre,hd,hg,hq⟩:=h
  refine⟨φ,st,ρ,_,pre,hg,fun x st1 h1 φ1 H1 w b1 dx=>?_⟩
  refine⟨φ1,st1,ρ,_,pre.on b1,h1,fun y st2 h2 φ2 H2 z b2 dy=>?_⟩
  cases x with
  | lst n =>
    cases y with
    | int k =>
      have h2':(match st2[n]? with
        | some (.rw xs)=>(match ixN xs.length k with
          | some j=>P ρ (st2.set n (.rw (xs.set j d)))
          | none=>False)
        | _=>False):=h2
      split at h2'
      · rename_i xs ex
        split at h2'
        · rename_i j ej
          obtain⟨vs,hv,dl⟩:=b2.1.rw n xs ex
          have dx2:=dx.evo b2.2
          have hd2:=(hd.evo b1.2).evo b2.2
          refine⟨φ2 n,vs,k,j,dx2.lst.2,dy.int,hv,by rw [← dl.length];exact ej,?_⟩
          have bb:Bhd X.K φ2 st2 H2 φ2 (st2.set n (.rw (xs.set j d))) (upd H2 (φ2 n) (.lst (vs.set j v))):=⟨b2.1.qQp ex (dl.set hd2 j),qFw hv⟩
          exact hq _ _ h2' φ2 _ σ (b1.trans (b2.trans bb)) (((pre.on b1).on b2).on bb).2
        · exact h2'.elim
      · exact h2'.elim
    | _=>exact h2.elim
  | _=>cases y<;>exact h2.elim
def qAe (to te:TD):TD:=fun ρ st P=>to ρ st fun o st1=>match o with
  | .lst n=>te ρ st1 fun d st2=>(match st2[n]? with
    | some (.rw xs)=>xs.length<sizeLine∧P .non (st2.set n (.rw (xs++[d])))
    | _=>False)
  | _=>False
theorem qLP {o:Expr} {to:TD} {apos cpos:Pos} (ho:DE X o to) (he:DE X e te)
    (hbase:attributeBase o "append" X.env (eval o X.env)=eval o X.env:=by rfl)
    (hfew:((backTo cpos (starEach [e] X.env)).all (fun x=>!x.1)&&(backToKw cpos (keywordEach [] X.env)).all (fun x=>x.1.isSome)
      && decide (([e]:List Expr).length+([]:List Keyword).length+(if ([]:List Keyword).isEmpty then 0 else 1)<30))=true:=by rfl)
    (hline:(apos.endLine==cpos.line)=true:=by rfl) (hs:starEach [e] X.env=(false,eval e X.env)::starEach [] X.env:=by rfl) (hplain:(backTo cpos (starEach ([]:List Expr) X.env)).any (·.1)=false:=by rfl) :
    DE X (.Call (.Attribute o "append" apos) [e] [] cpos) (qAe to te):=by
  refine PE.imp (qQD PySem.F.plainAttrs_list PySem.F.slot_list_append PySem.F.type_list_append qMF ho (qCm he qEm hs) hbase hfew hline hs hplain) fun σ H Q h=>?_
  k_dat 0"r1"
  k_dat 0"r19"
  cases x with
  | lst n =>
    have hn:=dx.lst.1
    obtain⟨so,eo⟩:∃ so,st1[n]? = some so:=⟨st1[n],by simp [hn]⟩
    obtain⟨ws,hws,_⟩:=b1.1.seq eo dx.isL
    refine⟨?_,?_⟩
    · rw [dx.lst.2]
      exact .inl ⟨rfl,ws,hws⟩
    refine⟨φ1,st1,ρ,(fun ds st2=>match ds with
      | [d]=>(match st2[n]? with
        | some (.rw xs)=>xs.length<sizeLine∧P .non (st2.set n (.rw (xs++[d])))
        | _=>False)
      | _=>False),pre.on b1,h1,fun ds st2 h2 φ2 H2 zs b2 dz=>?_⟩
    k_dat 0"r48"
    · exact h2.elim
    rotate_left
    · exact h2.elim
    · have h2:(match st2[n]? with
        | some (.rw xs)=>xs.length<sizeLine∧P .non (st2.set n (.rw (xs++[d])))
        | _=>False):=h2
      split at h2
      · rename_i xs ex
        obtain⟨y,rfl,dy⟩:=dz.one
        obtain⟨vs,hv,dl⟩:=b2.1.rw n xs ex
        have dx2:=dx.evo b2.2
        have bb:Bhd X.K φ2 st2 H2 φ2 (st2.set n (.rw (xs++[d]))) (upd H2 (φ2 n) (.lst (vs++[y]))):=⟨b2.1.qQp ex (dl.append (.cons dy .nil)),qFw hv⟩
        exact⟨φ2 n,vs,y,dx2.lst.2,rfl,hv,by rw [← dl.length];exact h2.1,hq _ _ h2.2 φ2 _ _ (b1.trans (b2.trans bb)) D.qKl⟩
      · exact h2.elim
  | _=>exact h1.elim
end
end L3
namespace L3
open PySem PySem.Spec PyProof.Rows L2
def qOG (items:List Dt) (ok:Sto→Prop) (g:TGD) (tb:TSD):TSD:=fun E ρ st=>∃ Inv:Nat→Rho→Sto→Prop,Inv 0 ρ st∧(∀ i ρ' st',i≤items.length→Inv i ρ' st'→ok st') ∧
  (∀ (i:Nat) d ρ' st',items[i]? = some d→Inv i ρ' st'→g d ρ' st' fun ρ2 st2=>tb { E with nx:=Inv (i+1),ct:=Inv (i+1),bk:=E.nx } ρ2 st2)∧∀ ρ' st',Inv items.length ρ' st'→E.nx ρ' st'
def qGh (K:W.Frag) (φ1:Nat→Addr) (st1:Sto) (H1:Hp) (J:It) (items:List Dt) (ok:Sto→Prop):Prop :=
  ∀ (i:Nat) φ' st' H',Bhd K φ1 st1 H1 φ' st' H'→ok st'→i≤items.length→(i=items.length→J.stop i H') ∧
    (∀ d,items[i]? = some d→J.go i H'∧∀ y H2,J.yld i H' y H2→Bhd K φ' st' H' φ' st' H2∧D K φ' st'.length H2 d y)
section
variable {K:W.Frag} {φ1:Nat→Addr} {st1:Sto} {H1:Hp} {ρ1:Rho} {σ1:L2.St} {J:It} {items:List Dt} {ok:Sto→Prop} {g:TGD} {tb:TSD}
theorem qPQ {E:qA4} {E':Ends} (pre:Pre K φ1 st1 H1 ρ1 σ1) (hJ:qGh K φ1 st1 H1 J items ok) (hf:qOG items ok g tb E ρ1 st1)
    (n:∀ ρ' st',E.nx ρ' st'→∀ φ' H' σ',Bhd K φ1 st1 H1 φ' st' H'→DR K φ' st'.length H' ρ' σ'→E'.nx σ' H')
    (r:∀ d st',E.rt d st'→∀ φ' H' v,Bhd K φ1 st1 H1 φ' st' H'→D K φ' st'.length H' d v→E'.rt v H') :
    ∃ W:Nat→Nat→L2.St→Hp→Prop,(∃ m,W 0 m σ1 H1)∧∀ i m σ H,W i m σ H →
      (J.stop i H∧E'.nx σ H)∨(J.go i H∧∃ N:L2.St→Hp→Prop,(∀ σ' H',N σ' H'→∃ m',m'<m∧W (i+1) m' σ' H')∧∀ x H',J.yld i H x H'→qHb K g x σ H' fun σ2 H2=>qIZ K tb { E' with nx:=N,ct:=N,bk:=E'.nx } σ2 H2):=by
  obtain⟨Inv,h0,hok,step,fin⟩:=hf
  refine⟨fun i m σ H=>m=items.length - i∧i≤items.length∧∃ φ' st' ρ',Pre K φ' st' H ρ' σ∧Bhd K φ1 st1 H1 φ' st' H∧Inv i ρ' st',⟨items.length,by simp,Nat.zero_le _,φ1,st1,ρ1,pre,.refl pre.1,h0⟩,?_⟩
  rintro i m σ H ⟨rfl,hi,φ',st',ρ',pre',bh,hI⟩
  obtain⟨js,jg⟩:=hJ i φ' st' H bh (hok i ρ' st' hi hI) hi
  by_cases hlt:i<items.length
  · have ed:items[i]? = some items[i]:=by simp [hlt]
    obtain⟨go,yl⟩:=jg _ ed
    refine .inr ⟨go,fun σ3 H3=>∃ φ3 st3 ρ3,Pre K φ3 st3 H3 ρ3 σ3∧Bhd K φ1 st1 H1 φ3 st3 H3∧Inv (i+1) ρ3 st3,fun σ3 H3 h3=>⟨items.length - (i+1),by omega,rfl,hlt,h3⟩,fun y H2 hy=>?_⟩
    obtain⟨b2,dy⟩:=yl y H2 hy
    refine⟨φ',st',ρ',items[i],_,pre'.on b2,dy,step i _ ρ' st' ed hI,fun ρ3 st3 h3 φ3 H3 σ3 b3 d3=>?_⟩
    have b13:=bh.trans (b2.trans b3)
    refine⟨φ3,st3,ρ3,_,⟨b3.1,d3⟩,h3,fun ρ4 st4 h4 φ4 H4 σ4 b4 d4=>⟨φ4,st4,ρ4,⟨b4.1,d4⟩,b13.trans b4,h4⟩,fun ρ4 st4 h4 φ4 H4 σ4 b4 d4=>n ρ4 st4 h4 φ4 H4 σ4 (b13.trans b4) d4,
      fun ρ4 st4 h4 φ4 H4 σ4 b4 d4=>⟨φ4,st4,ρ4,⟨b4.1,d4⟩,b13.trans b4,h4⟩,fun d st4 h4 φ4 H4 v b4 d4=>r d st4 h4 φ4 H4 v (b13.trans b4) d4⟩
  · have e:i=items.length:=by omega
    subst e
    exact .inl ⟨js rfl,n ρ' st' (fin ρ' st' hI) φ' H σ bh pre'.2⟩
end
noncomputable abbrev TID:=Rho→Sto→(List Dt→(Sto→Prop)→Sto→Prop)→Prop
noncomputable def qMd (K:W.Frag) (t:TID):TI:=fun σ H R=>∃ φ st ρ P,Pre K φ st H ρ σ∧t ρ st P∧∀ items ok st',P items ok st'→∀ φ' H' J,Bhd K φ st H φ' st' H'→qGh K φ' st' H' J items ok→R J H'
def DI (X:Cx) (tg it:Expr) (t:TID):Prop:=PI X tg it (qMd X.K t)
def qCb (ti:TID) (g:TGD) (tb:TSD):TSD:=fun E ρ st=>ti ρ st fun items ok st1=>qOG items ok g tb E ρ st1
section
variable {X:Cx} {tg iter:Expr} {body:List Stmt} {pos:Pos} {ti:TID} {g:TGD} {tb:TSD}
theorem qRa (hp:PassesOwn (model X.prog X.w) X.A X.env X.xe) (hc:X.calm=true) (hi:DI X tg iter ti) (hg:DG X tg g) (hb:DSs X body tb) (hs:∀ x,foldedSetIterable iter X.env x=pure x:=by intro _;rfl):DS X (.For tg iter body [] pos) (qCb ti g tb) :=
  (qQy hp hc hi hg hb hs).imp fun E σ H h=>by
    k_dat 0"r17"
    k_dat 0"r74"
    exact qPQ (pre.on b1) hJ h1 (fun ρ2 st2 h2 φ2 H2 σ2 b2 d2=>n ρ2 st2 h2 φ2 H2 σ2 (b1.trans b2) d2) fun d st2 h2 φ2 H2 v b2 d2=>r d st2 h2 φ2 H2 v (b1.trans b2) d2
def qBI (te:TD):TID:=fun ρ st P=>te ρ st fun x st1=>match qa st1 x with
  | some xs=>P xs (fun st'=>qa st' x=some xs) st1
  | none=>False
theorem qSE {te:TD} (he:DE X iter te):DI X tg iter (qBI te):=by
  intro pins s σ H R I h
  k_dat 0"r1"
  refine thn (he pins s σ H _ I ⟨φ,st,ρ,_,pre,ht,fun x st1 h1 φ1 H1 v b1 dx=>(show ∃ φ1 st1 x,Bhd X.K φ st H φ1 st1 H1∧D X.K φ1 st1.length H1 x v∧(match qa st1 x with
    | some xs=>P xs (fun st'=>qa st' x=some xs) st1
    | none=>False) from⟨φ1,st1,x,b1,dx,h1⟩)⟩) fun u s1 ⟨v,H1,I1,ru,φ1,st1,x,b1,dx,h1⟩=>?_
  split at h1
  · rename_i xs ex
    obtain⟨a,vs,e1,hs,dl⟩:=qEB b1.1 dx ex
    subst e1
    cases ru
    rcases hs with ⟨hs,n,exn⟩ | ⟨hs,_⟩
    · obtain⟨its,rv,pl,hz⟩:=I1.list hs
      refine wpAny_pyIter_list pl.isList ?_
      refine⟨s1.heap.objs.size,[s1.heap.objs.size],_,_,H1,rfl,I1.kept (t':=s1.toks) fun b o e=>Heap.get?_push_of_some _ e,qLh a _,⟨_,Heap.get?_push_size _ rfl,rfl,rfl⟩,fun b hb=>?_,hq xs _ st1 h1 φ1 H1 _ b1 ?_⟩
      · have e:b=s1.heap.objs.size:=by simpa using hb
        subst e
        k_dat 0"r68"
      · intro i φ' st' H' bh hok hi
        obtain⟨a',ws,e2,hs',dl'⟩:=qEB bh.1 (dx.evo bh.2) hok
        cases e2
        have hsl:SqL X.K H' a ws:=by
          rcases hs' with z | ⟨_,z⟩
          · exact z.1
          · rw [exn] at z;cases z
        have hlen:=dl'.length
        refine⟨fun e=>⟨ws,hsl,by omega⟩,fun d ed=>?_⟩
        obtain⟨y,ey,dy⟩:=dl'.get ed
        refine⟨⟨ws,y,hsl,ey⟩,fun y' H2 hy=>?_⟩
        obtain⟨rfl,hy⟩:=hy
        have:=hy ws hsl
        rw [ey] at this
        cases this
        exact⟨.refl bh.1,dy⟩
    · obtain⟨its,rv,pl,hz⟩:=I1.tuple hs
      refine wpAny_pyIter_tuple (show s1.heap.IsTuple a its.toArray from pl) ?_
      refine⟨s1.heap.objs.size,[s1.heap.objs.size],_,_,H1,rfl,I1.kept (t':=s1.toks) fun b o e=>Heap.get?_push_of_some _ e,qJv a _,⟨_,Heap.get?_push_size _ rfl,rfl,rfl⟩,fun b hb=>?_,hq xs _ st1 h1 φ1 H1 _ b1 ?_⟩
      · have e:b=s1.heap.objs.size:=by simpa using hb
        subst e
        k_dat 0"r68"
      · intro i φ' st' H' bh hok hi
        have hsl:SqT X.K H' a vs:=bh.2.tup a vs hs
        have dl':=dl.evo bh.2
        have hlen:=dl'.length
        refine⟨fun e=>⟨vs,hsl,by omega⟩,fun d ed=>?_⟩
        obtain⟨y,ey,dy⟩:=dl'.get ed
        refine⟨⟨vs,y,hsl,ey⟩,fun y' H2 hy=>?_⟩
        obtain⟨rfl,hy⟩:=hy
        have:=hy vs hsl
        rw [ey] at this
        cases this
        exact⟨.refl bh.1,dy⟩
  · exact h1.elim
noncomputable def qDa (lo:Int) (n:Nat):List Dt:=(List.range n).map fun k=>.int (lo+(k:Nat))
theorem qDp {lo:Int} {n i:Nat} {d:Dt} (h:(qDa lo n)[i]? = some d):i<n∧d = .int (lo+(i:Nat)):=by
  unfold qDa at h
  rw [List.getElem?_map] at h
  cases q:(List.range n)[i]? with
  | none=>rw [q] at h;cases h
  | some k =>
    rw [q] at h
    have:=List.getElem?_eq_some_iff.mp q
    obtain⟨h1,h2⟩:=this
    rw [List.getElem_range] at h2
    subst h2
    rw [List.length_range] at h1
    exact⟨h1,(Option.some.inj h).symm⟩
theorem qCV {lo:Int} {n:Nat}:(qDa lo n).length=n:=by unfold qDa;simp
theorem qIV {K:W.Frag} {φ:Nat→Addr} {st:Sto} {H:Hp} {lo:Int} {n:Nat}:qGh K φ st H (Itr lo n) (qDa lo n) (fun _=>True):=fun i φ' st' H' bh _ hi=>by
  rw [qCV] at hi
  refine⟨fun e=>by rw [qCV] at e;exact Nat.le_of_eq e.symm,fun d ed=>?_⟩
  obtain⟨h1,rfl⟩:=qDp ed
  refine⟨h1,fun y H2 hy=>?_⟩
  obtain⟨rfl,rfl⟩:=hy
  exact⟨.refl bh.1,D.mkInt⟩
def qBJ (ta:TD):TID:=fun ρ st P=>ta ρ st fun x st1=>match x with
  | .int j=>-(2 ^ 62)≤j∧j<2 ^ 62∧P (qDa 0 j.toNat) (fun _=>True) st1
  | _=>False
theorem qMH {a:Expr} {ta:TD} {p:Pos} (hm:X.mg "range" = none) (ha:DE X a ta) (hg:Gl X "range":=by rfl) (hs:starEach [a] X.env=[(false,eval a X.env)]:=by rfl):DI X tg (.Call (.Name "range" p) [a] [] pos) (qBJ ta):=by
  intro pins s σ H R I h
  refine qLn hg hm (qCm ha qEm hs) hs pins s σ H R I ?_
  k_dat 0"r1"
  refine⟨φ,st,ρ,(fun ds st1=>match ds with
    | [x]=>(match x with
      | .int j=>-(2 ^ 62)≤j∧j<2 ^ 62∧P (qDa 0 j.toNat) (fun _=>True) st1
      | _=>False)
    | _=>False),pre,?_,fun ds st1 h1 φ1 H1 vs b1 dl=>?_⟩
  · exact ht
  · k_dat 0"r48"
    · exact h1.elim
    rotate_left
    · exact h1.elim
    · cases d<;>first
        | exact h1.elim
        | skip
      rename_i j
      obtain⟨v,rfl,dv⟩:=dl.one
      obtain⟨h2,h3,h4⟩:=h1
      exact⟨j,by rw [dv.int],h2,h3,hq _ _ st1 h4 φ1 H1 _ b1 qIV⟩
def qKn (items:List Dt) (ok:Sto→Prop) (tc:TBD) (te:TD) (cρ:Rho) (st:Sto) (Fin:List Dt→Sto→Prop):Prop:=∃ Inv:Nat→List Dt→Sto→Prop,Inv 0 [] st∧(∀ i ys st',i≤items.length→Inv i ys st'→ok st') ∧
  (∀ (i:Nat) d ys st',items[i]? = some d→Inv i ys st'→ys.length<sizeLine∧tc (some d::cρ) st' fun k st1=>if k=true then te (some d::cρ) st1 fun y st2=>Inv (i+1) (ys++[y]) st2 else Inv (i+1) ys st1) ∧
  ∀ ys st',Inv items.length ys st'→Fin ys st'
noncomputable def qFU (caps:List (Nat×Str)) (ρ:Rho):Rho:=caps.map fun p=>(ρ[p.1]?).join
theorem qM6 {K:W.Frag} {φ:Nat→Addr} {N:Nat} {H:Hp} {ρ:Rho} {σ:L2.St} (h:DR K φ N H ρ σ) (caps:List (Nat×Str)):DR K φ N H (qFU caps ρ) (qHk caps σ):=by
  refine⟨by unfold qFU qHk;simp,fun i d e=>?_⟩
  unfold qFU at e
  rw [List.getElem?_map] at e
  unfold qHk
  rw [List.getElem?_map]
  cases q:caps[i]? with
  | none=>rw [q] at e;cases e
  | some p =>
    rw [q] at e
    have e':(ρ[p.1]?).join=some d:=Option.some.inj e
    have e2:ρ[p.1]? = some (some d):=by
      cases q:ρ[p.1]? with
      | none=>rw [q] at e';cases e'
      | some o=>rw [q] at e';exact congrArg some e'
    obtain⟨v,ev,dv⟩:=h.2 p.1 d e2
    exact⟨v,by show some ((σ[p.1]?).join)=_;rw [ev];rfl,dv⟩
theorem qPo {K:W.Frag} {φ:Nat→Addr} {N:Nat} {H:Hp} {ρ:Rho} {σ:L2.St} {o:Option V} {d:Dt} {v:V} (h:DR K φ N H ρ σ) (hd:D K φ N H d v):DR K φ N H (some d::ρ) (some v::σ):=by
  refine⟨by rw [List.length_cons,List.length_cons,h.1],fun i e q=>?_⟩
  cases i with
  | zero=>simp at q;subst q;exact⟨v,rfl,hd⟩
  | succ i=>exact h.2 i e (by simpa using q)
def DIf (X:Cx) (ifs:List Expr) (t:TBD):Prop:=PIf X ifs (liftT X.K t)
theorem qO5:DIf X [] (fun _ st P=>P true st):=fun pins s σ H Q I h=>by
  k_dat 0"r1"
  exact qPq pins s σ H Q I (hq true st ht φ H (.refl pre.1))
theorem qPT {c:Expr} {t:TBD} (h:DT X c t):DIf X [c] t:=qPd h
theorem qMZ {K:W.Frag} {φ1:Nat→Addr} {st1:Sto} {H1:Hp} {cρ:Rho} {cσ:L2.St} {J:It} {items:List Dt} {ok:Sto→Prop} {tc:TBD} {te:TD} {Fin:List Dt→Sto→Prop} {Fin':List V→Hp→Prop}
    (R:Rep K φ1 st1 H1) (dr:DR K φ1 st1.length H1 cρ cσ) (hJ:qGh K φ1 st1 H1 J items ok) (hc:qKn items ok tc te cρ st1 Fin)
    (hF:∀ ys st' φ' H' vs,Fin ys st'→Bhd K φ1 st1 H1 φ' st' H'→DL K φ' st'.length H' ys vs→Fin' vs H') :
    qK5 J (qGp 0) (liftT K tc) (qAd K te) (List.replicate 1 none++cσ) H1 Fin':=by
  obtain⟨Inv,h0,hok,step,fin⟩:=hc
  refine⟨fun i m σ vs H=>m=items.length - i∧i≤items.length∧∃ φ' st' ys o,σ=o::cσ∧Bhd K φ1 st1 H1 φ' st' H∧DL K φ' st'.length H ys vs∧Inv i ys st',
    ⟨items.length,by simp,Nat.zero_le _,φ1,st1,[],none,rfl,.refl R,.nil,h0⟩,?_⟩
  rintro i m σ vs H ⟨rfl,hi,φ',st',ys,o,rfl,bh,dl,hI⟩
  obtain⟨js,jg⟩:=hJ i φ' st' H bh (hok i ys st' hi hI) hi
  by_cases hlt:i<items.length
  · have ed:items[i]? = some items[i]:=by simp [hlt]
    obtain⟨go,yl⟩:=jg _ ed
    obtain⟨hz,hstep⟩:=step i _ ys st' ed hI
    refine .inr ⟨go,by rw [← dl.length];exact hz,fun y H2 hy=>?_⟩
    obtain⟨b2,dy⟩:=yl y H2 hy
    have b12:=bh.trans b2
    have pre2:Pre K φ' st' H2 (some items[i]::cρ) (some y::cσ):=⟨b2.1,qPo (o:=none) (dr.evo b12.2) dy⟩
    show liftT K tc (some y::cσ) H2 _
    refine⟨φ',st',_,_,pre2,hstep,fun k st3 h3 φ3 H3 b3=>?_⟩
    cases k with
    | false =>
      rw [if_neg Bool.false_ne_true] at h3 ⊢
      exact⟨items.length - (i+1),by omega,rfl,hlt,φ3,st3,ys,some y,rfl,b12.trans b3,dl.evo (b2.2.trans b3.2),h3⟩
    | true =>
      rw [if_pos rfl] at h3 ⊢
      refine⟨φ3,st3,_,_,pre2.on b3,h3,fun z st4 h4 φ4 H4 w b4 dz=>?_⟩
      exact⟨items.length - (i+1),by omega,rfl,hlt,φ4,st4,ys++[z],some y,rfl,b12.trans (b3.trans b4),(dl.evo (b2.2.trans (b3.2.trans b4.2))).append (.cons dz .nil),h4⟩
  · have e:i=items.length:=by omega
    subst e
    exact .inl ⟨js rfl,hF ys st' φ' H vs (fin ys st' hI) bh dl⟩
def qAh (ti:TID) (tc:TBD) (te:TD) (caps:List (Nat×Str)):TD:=fun ρ st P=>ti ρ st fun items ok st1=>qKn items ok tc te (qFU caps ρ) st1 fun ys st2=>P (.lst st2.length) (st2++[.rw ys])
theorem qHf {K:W.Frag} {tc:TBD} {te:TD} {caps:List (Nat×Str)} {σ:L2.St} {H:Hp} {Q:VK} (h:qAd K (qAh ti tc te caps) σ H Q):qLN (qMd K ti) (qGp 0) (liftT K tc) (qAd K te) 1 caps σ H Q:=by
  k_dat 0"r1"
  k_dat 0"r74"
  refine qMZ b1.1 (qM6 (pre.on b1).2 caps) hJ h1 fun ys st2 φ2 H2 vs hF b2 dl p hp=>?_
  exact hq _ _ hF _ _ _ (b1.trans (b2.trans (qCx b2.1 hp dl))) qGI
variable {elt:Expr} {ifs:List Expr} {sc:Scope} {x:Str} {px:Pos} {tc:TBD} {te:TD}
theorem qH8 (caps:List (Nat×Str)) (hc:X.calm=true) (S:qAY X.env.scope X.N caps sc) (hx:sc.names.lookup x=some .local) (hnd:([x]++caps.map (·.2)).Nodup) (hi:DI X (.Name x px) iter ti)
    (hif:∀ C s H fp,DIf (qAP X [x] caps sc C s H fp) ifs tc) (he:∀ C s H fp,DE (qAP X [x] caps sc C s H fp) elt te)
    (hs:∀ x,foldedSetIterable iter X.env x=pure x:=by intro _;rfl):DE X (.ListComp elt [⟨.Name x px,iter,ifs,0⟩] sc pos) (qAh ti tc te caps) :=
  PE.imp (qLJ (g:=qGp 0) (tc:=liftT X.K tc) (te:=qAd X.K te) [x] caps hc S hi (fun C s H fp=>qIR hnd rfl (.inl (lookup_relabel_local hx)) (.inr (lookup_relabel_local hx))) hif he hs) fun σ H Q h=>qHf h
theorem qHj (i:Nat) {y:Str} {py spos:Pos} (caps:List (Nat×Str)) (hc:X.calm=true) (hN:X.N.Nodup) (S:qAY X.env.scope X.N caps sc) (hx:sc.names.lookup x=some .local) (hnd:([x]++caps.map (·.2)).Nodup) (hi:DI X (.Name x px) iter ti)
    (hif:∀ C s H fp,DIf (qAP X [x] caps sc C s H fp) ifs tc) (he:∀ C s H fp,DE (qAP X [x] caps sc C s H fp) elt te)
    (hy:X.N[i]? = some y:=by rfl) (hyl:X.env.scope.names.lookup y=some .local:=by rfl)
    (hsw:swapsWith (.ListComp elt [⟨.Name x px,iter,ifs,0⟩] sc pos) (some (.Name y py)) spos.line X.env=pure true:=by rfl)
    (hs:∀ x,foldedSetIterable iter X.env x=pure x:=by intro _;rfl):DS X (.Assign [.Name y py] (.ListComp elt [⟨.Name x px,iter,ifs,0⟩] sc pos) spos) (qP (qAh ti tc te caps) (qJ i)) :=
  PS.imp (qOj (g:=qGp 0) (tc:=liftT X.K tc) (te:=qAd X.K te) [x] caps hc hN hy hyl S hi (fun C s H fp=>qIR hnd rfl (.inl (lookup_relabel_local hx)) (.inr (lookup_relabel_local hx))) hif he hsw hs) fun E σ H h=>by
    k_dat 0"r17"
    refine qHf (ti:=ti) (tc:=tc) (te:=te) (caps:=caps) ⟨φ,st,ρ,_,pre,ht,fun d st1 h1 φ1 H1 v b1 dx=>?_⟩
    exact n _ st1 h1 φ1 H1 _ b1 ((pre.on b1).2.set dx i)
noncomputable def qU (N:List Str) (ds:List Dt):Rho:=ds.map some++List.replicate (N.length - ds.length) none
theorem qNQ {K:W.Frag} {φ:Nat→Addr} {n:Nat} {H:Hp} {ds:List Dt} {vs:List V} (h:DL K φ n H ds vs) (N:List Str):DR K φ n H (qU N ds) (L2.start N vs):=by
  refine⟨by unfold qU L2.start;simp [h.length],fun i d e=>?_⟩
  unfold qU at e
  unfold L2.start
  by_cases hi:i<ds.length
  · rw [List.getElem?_append_left (by simpa using hi),List.getElem?_map] at e
    cases q:ds[i]? with
    | none=>rw [q] at e;cases e
    | some d' =>
      rw [q] at e
      have:d'=d:=by
        have e':some (some d')=some (some d):=e
        injection e' with e1;injection e1
      subst this
      obtain⟨v,ev,dv⟩:=h.get q
      refine⟨v,?_,dv⟩
      rw [List.getElem?_append_left (by simp;rw [← h.length];exact hi),List.getElem?_map,ev]
      rfl
  · rw [List.getElem?_append_right (by simpa using Nat.not_lt.mp hi),List.getElem?_replicate] at e
    split at e<;>cases e
theorem qRW {P:Program} {w:World} {K:W.Frag} {mg:Str→Option Value} {base:Heap} {x qual:Str} {stt:Stmt} {f:Addr} {fd:FuncData} {N ps:List Str} {k:Nat} {sp:RDL} (F:Fun K x qual stt f fd) (S:qT N ps (qK stt))
    (len:∀ ds st Pd,sp ds st Pd→ds.length=ps.length)
    (hbody:∀ (cdv:Value) (A:Around) (outer:List Env) (s:Shared) (H:Hp) (E:XK),qAt k (A.deeper (envOfC qual (qK stt) s.heap.objs.size f cdv)) →
      ∃ t,DSs (qKQ CX0 P w K mg base N qual (qK stt) f cdv A outer s H E).nox (qAl stt) t∧∀ ds st Pd,sp ds st Pd→t { nx:=fun _ st'=>Pd .non st',rt:=Pd } (qU N ds) st):qw P w K mg base CX0 (k+1) f fd ps (qS K sp):=by
  refine F.ok S (fun vs H Q E h=>?_) fun cdv A outer s H vs Q E hr h=>?_
  · obtain⟨φ,st,ds,Pd,R,dl,hs,hq⟩:=h
    rw [← dl.length]
    exact len ds st Pd hs
  · obtain⟨t,ht,hb⟩:=hbody cdv A outer s H E hr
    obtain⟨φ,st,ds,Pd,R,dl,hs,hq⟩:=h
    refine⟨_,ht,φ,st,qU N ds,_,⟨R,qNQ dl N⟩,hb ds st Pd hs,fun ρ' st' h' φ' H' σ' b' d'=>hq _ st' h' φ' H' _ b' D.qKl,fun ρ' st' h'=>h'.elim,fun ρ' st' h'=>h'.elim,fun d st' h' φ' H' v b' d'=>hq d st' h' φ' H' v b' d'⟩
end
end L3
namespace L3
open PySem PySem.Spec PyProof.Rows L2
structure qR (P:Program) (w:World) (K:W.Frag) (mg:Str→Option Value) (base:Heap) (x:Str) (k:Nat) (sp:RDL):Prop where
  ex:∃ f fd ps,qw P w K mg base CX0 k f fd ps (qS K sp)∧mg x=some (.ref f)∧W.keepIn K (.ref f)=true∧Binds K fd ps []
section
variable {X:Cx} {e:Expr} {es:List Expr} {t:TAD} {pos p:Pos} {x:Str}
theorem qM4 {k:Nat} {sp:RDL} (F:qR X.prog X.w X.K X.mg X.base x k sp) (hr:qAt k X.A) (ha:DA X (e::es) t) (hg:Gl X x) (hdb:(x==("__debug__" : Str))=false) (he:starEach (e::es) X.env=(false,eval e X.env)::starEach es X.env)
    (hpl:(backTo pos (starEach es X.env)).any (·.1)=false):DE X (.Call (.Name x p) (e::es) [] pos) (qF sp t):=by
  obtain⟨f,fd,ps,h1,h2,h3,h4⟩:=F.ex
  exact qPa h1 hr h2 h3 h4 ha hg hdb he hpl
theorem qTy {A:Around} {k:Nat} (hr:qAt k A):A.units+16<cLine:=Nat.lt_of_le_of_lt (Nat.add_le_add_left (by decide:16≤64) _) hr.units
structure qAW (K:W.Frag) (mg:Str→Option Value) (x:Str) (d:Dt):Prop where
  ex:∃ v u,mg x=some u∧RelV v u∧∀ φ N H,D K φ N H d v
theorem qQq {d:Dt} (h:qAW X.K X.mg x d) (hg:Gl X x) (hd:(x==("__debug__" : Str))=false):DE X (.Name x pos) (qC d):=by
  obtain⟨v,u,h1,h2,h3⟩:=h.ex
  exact qO8 h1 h2 h3 hg hd
structure Hint (caps:List (Nat×Str)):Prop where
  ok:True
end
section
variable {X:Cx} {a b c:Expr} {ta tb tc:TD} {pos:Pos}
theorem qRw (ha:DE X a ta) (hb:DE X b tb):DE X (.BinOp a .Add b pos) (qE L3.qu ta tb):=qFM qRl ha hb
theorem qRt (ha:DE X a ta) (hb:DE X b tb):DE X (.BinOp a .Sub b pos) (qE qCY ta tb):=qFM qR4 ha hb
theorem qRC (ha:DE X a ta) (hb:DE X b tb):DE X (.BinOp a .Mult b pos) (qE qBA ta tb):=qFM qNK ha hb
theorem qRS (ha:DE X a ta) (hb:DE X b tb):DE X (.BinOp a .FloorDiv b pos) (qE qAn ta tb):=qFM qSH ha hb
theorem qRr (ha:DE X a ta) (hb:DE X b tb):DE X (.BinOp a .Mod b pos) (qE qo ta tb):=qFM qQ2 ha hb
theorem qSI (ha:DE X a ta) (hb:DE X b tb):DE X (.BinOp a .BitAnd b pos) (qE qCX ta tb):=qFM qQa ha hb
theorem qTd (hu:X.A.units+16<cLine) (ha:DE X a ta) (hb:DE X b tb) (hm:behindInMarks .Eq b=false):DE X (.Compare a [.Eq] [b] pos) (qE (qW false) ta tb):=qD4 (qP9 hu) ha hb hm
theorem qQz (hu:X.A.units+16<cLine) (ha:DE X a ta) (hb:DE X b tb) (hm:behindInMarks .Eq b=false):DT X (.Compare a [.Eq] [b] pos) (qH (qE (qW false) ta tb)):=qDG (qP9 hu) ha hb hm
theorem qSl (hu:X.A.units+16<cLine) (ha:DE X a ta) (hb:DE X b tb) (hm:behindInMarks .NotEq b=false):DE X (.Compare a [.NotEq] [b] pos) (qE (qW true) ta tb):=qD4 (qQE hu) ha hb hm
theorem qSV (hu:X.A.units+16<cLine) (ha:DE X a ta) (hb:DE X b tb) (hm:behindInMarks .NotEq b=false):DT X (.Compare a [.NotEq] [b] pos) (qH (qE (qW true) ta tb)):=qDG (qQE hu) ha hb hm
theorem qTh (ha:DE X a ta) (hb:DE X b tb) (hm:behindInMarks .Lt b=false):DE X (.Compare a [.Lt] [b] pos) (qE (qAN fun i j=>decide (i<j)) ta tb):=qD4 qQF ha hb hm
theorem qQs (ha:DE X a ta) (hb:DE X b tb) (hm:behindInMarks .Lt b=false):DT X (.Compare a [.Lt] [b] pos) (qH (qE (qAN fun i j=>decide (i<j)) ta tb)):=qDG qQF ha hb hm
theorem qRH (ha:DE X a ta) (hb:DE X b tb) (hm:behindInMarks .Gt b=false):DT X (.Compare a [.Gt] [b] pos) (qH (qE (qAN fun i j=>decide (j<i)) ta tb)):=qDG qSk ha hb hm
theorem qSz (ha:DE X a ta) (hb:DE X b tb) (hm:behindInMarks .GtE b=false):DE X (.Compare a [.GtE] [b] pos) (qE (qAN fun i j=>decide (j≤i)) ta tb):=qD4 qP4 ha hb hm
theorem qQY (ha:DE X a ta) (hb:DE X b tb) (hm:behindInMarks .GtE b=false):DT X (.Compare a [.GtE] [b] pos) (qH (qE (qAN fun i j=>decide (j≤i)) ta tb)):=qDG qP4 ha hb hm
theorem qTS (ha:DE X a ta) (hb:DE X b tb) (hm:behindInMarks .In b=false):DE X (.Compare a [.In] [b] pos) (qE (qBH false) ta tb):=qD4 qQC ha hb hm
theorem qRE (ha:DE X a ta) (hb:DE X b tb) (hm:behindInMarks .In b=false):DT X (.Compare a [.In] [b] pos) (qH (qE (qBH false) ta tb)):=qDG qQC ha hb hm
theorem qS0 (ha:DE X a ta) (hb:DE X b tb) (hm:behindInMarks .Is b=false):DE X (.Compare a [.Is] [b] pos) (qE (qBf false) ta tb):=qD4 qP8 ha hb hm
theorem qQ5 (ha:DE X a ta) (hb:DE X b tb) (hm:behindInMarks .Is b=false):DT X (.Compare a [.Is] [b] pos) (qH (qE (qBf false) ta tb)):=qDG qP8 ha hb hm
theorem qN8 (ha:DE X a ta) (hb:DE X b tb) (hm:behindInMarks .IsNot b=false):DE X (.Compare a [.IsNot] [b] pos) (qE (qBf true) ta tb):=qD4 qJU ha hb hm
theorem qMG (ha:DE X a ta) (hb:DE X b tb) (hm:behindInMarks .IsNot b=false):DT X (.Compare a [.IsNot] [b] pos) (qH (qE (qBf true) ta tb)):=qDG qJU ha hb hm
theorem qNq (ha:DE X a ta) (hb:DE X b tb) (hc:DE X c tc) (hm:lastMarks [.LtE,.Lt] [b,c]=false):DE X (.Compare a [.LtE,.Lt] [b,c] pos) (qAq (fun i j=>decide (i≤j)) (fun i j=>decide (i<j)) ta tb tc):=qMl qQI qOA ha hb hc hm
theorem qMS (ha:DE X a ta) (hb:DE X b tb) (hc:DE X c tc) (hm:lastMarks [.LtE,.Lt] [b,c]=false):DT X (.Compare a [.LtE,.Lt] [b,c] pos) (qH (qAq (fun i j=>decide (i≤j)) (fun i j=>decide (i<j)) ta tb tc)):=qMe qQI qOA ha hb hc hm
theorem qSP {e:Expr} {es:List Expr} {t:TAD} {p:Pos} (hm:X.mg "len" = none) (ha:DA X (e::es) t) (hg:Gl X "len") (he:starEach (e::es) X.env=(false,eval e X.env)::starEach es X.env) (hpl:(backTo pos (starEach es X.env)).any (·.1)=false):DE X (.Call (.Name "len" p) (e::es) [] pos) (qF qBC t):=qJV qRG hm PySem.boot_len ha hg (by decide) (by decide) he hpl
theorem qLt {e:Expr} {es:List Expr} {t:TAD} {p:Pos} (hm:X.mg "isinstance" = none) (ha:DA X (e::es) t) (hg:Gl X "isinstance") (he:starEach (e::es) X.env=(false,eval e X.env)::starEach es X.env) (hpl:(backTo pos (starEach es X.env)).any (·.1)=false):DE X (.Call (.Name "isinstance" p) (e::es) [] pos) (qF qAI t):=qJV qMN hm boot_isinstance ha hg (by decide) (by decide) he hpl
theorem qMy {e:Expr} {es:List Expr} {t:TAD} {p:Pos} (hm:X.mg "tuple" = none) (ha:DA X (e::es) t) (hg:Gl X "tuple") (he:starEach (e::es) X.env=(false,eval e X.env)::starEach es X.env) (hpl:(backTo pos (starEach es X.env)).any (·.1)=false):DE X (.Call (.Name "tuple" p) (e::es) [] pos) (qF qj t):=qHe qMr hm PyProof.Rows.boot_tuple ha hg (by decide) (by decide) he hpl
theorem qMt (hm:X.mg "int" = none) (hg:Gl X "int"):DE X (.Name "int" pos) (qC (.ty "int")):=qLE hm PyProof.Rows.boot_int hg
theorem qLq (hm:X.mg "bool" = none) (hg:Gl X "bool"):DE X (.Name "bool" pos) (qC (.ty "bool")):=qLE hm PyProof.Rows.boot_bool hg
theorem qNU (hm:X.mg "str" = none) (hg:Gl X "str"):DE X (.Name "str" pos) (qC (.ty "str")):=qLE hm PyProof.Rows.boot_str hg
theorem qKb (hm:X.mg "tuple" = none) (hg:Gl X "tuple"):DE X (.Name "tuple" pos) (qC (.ty "tuple")):=qLE hm PyProof.Rows.boot_tuple hg
end
noncomputable def qFz (so:Scope) (N:List Str) (caps:List (Nat×Str)) (sc:Scope):Bool :=
  decide (sc.kind = .function)&&(sc.names.all fun y=>decide (y.2≠.cell))&&(sc.names.all fun y=>decide (y.2 = .local→sc.names.lookup y.1=some .local))&&(sc.names.all fun y=>decide (y.2 = .free→so.names.lookup y.1=some .cell)) &&
    (caps.all fun p=>decide (N[p.1]? = some p.2∧so.names.lookup p.2=some .cell∧sc.names.lookup p.2=some .free))
theorem qJa {so:Scope} {N:List Str} {caps:List (Nat×Str)} {sc:Scope} (h:qFz so N caps sc=true):qAY so N caps sc:=by
  unfold qFz at h
  simp only [Bool.and_eq_true] at h
  obtain⟨⟨⟨⟨h1,h2⟩,h3⟩,h4⟩,h5⟩:=h
  exact⟨of_decide_eq_true h1,fun y hy=>of_decide_eq_true (List.all_eq_true.mp h2 y hy),fun y hy=>of_decide_eq_true (List.all_eq_true.mp h3 y hy),fun y hy=>of_decide_eq_true (List.all_eq_true.mp h4 y hy),fun y hy=>of_decide_eq_true (List.all_eq_true.mp h5 y hy)⟩
theorem qH5 {so:Scope} {N:List Str} {caps:List (Nat×Str)} {sc:Scope} (_:Hint caps) (h:qFz so N caps sc=true):qAY so N caps sc:=qJa h
def qIp:RDL:=fun ds st P=>∃ ns:List Int,ds=[.lst 0]∧st=[.ro (ns.map .int)]∧ns.length≤63∧∀ st',P (.bl true) st'
theorem DL.ints {K:W.Frag} {φ:Nat→Addr} {N:Nat} {H:Hp}:∀ ns:List Int,DL K φ N H (ns.map .int) (ns.map V.int)
  | []=>.nil
  | n::ns=>.cons D.mkInt (DL.ints ns)
theorem qM7 {l:W.OpenLaw} {q:Program} {loose:List Str} {XP:(Str→Option Value)→Heap→Prop} {YP:World→Heap→Prop} {d:DefRec} {K:Params→W.Frag} (k:Nat) (hn:l.most=some 63) (hdf:d.params.defaults=[]) (hr:qAt k callerA)
    (hY:∀ (w:World) (h:Heap),YP w h→(K w.params).In h)
    (F:∀ (w:World) (mg:Str→Option Value) (fa:Addr) (h:Heap),(K w.params).In h→h.Ns mainGlobals mg→mg d.name=some (.ref fa) →
      ∃ fd:FuncData,(∀ (s:Shared) (u:Value),BindsTo s fd ⟨[u],[]⟩ [("script",u)])∧∀ base:Heap,(K w.params).In base→base.Ns mainGlobals mg→qw l.prog w (K w.params) mg base CX0 k fa fd ["script"] (qS (K w.params) qIp)) :
    W.WalkO q loose XP YP l.row.toRowW d [] (fun f vs=>PySem.call f vs):=by
  refine L2.qPH (n:=63) (k:=k) (x:= "script") (CX:=fun _=>CX0) (sp:=fun w=>qS (K w.params) qIp) hn (by decide) hdf hr hY F (fun w H a ns hl hO hS=>?_) fun _ _ _ _ _ z=>z
  have hR:SqR (K w.params) H a (ns.map V.int):=by
    rcases hS with (h | h) | h
    · rcases hO a with z | ⟨o,xs,z⟩
      · rw [h] at z;cases z
      · rw [h] at z;cases z
    · exact .inl h
    · exact .inr h
  refine⟨fun _=>a,[.ro (ns.map .int)],[.lst 0],fun d st'=>d = .bl true,⟨fun i j x y e _ hw=>?_,fun i x e=>?_⟩,.cons (D.qP3 (by show 0<1;decide) ⟨_,hR.sq⟩) .nil,⟨ns,rfl,rfl,hl,fun _=>rfl⟩,fun d st' hd φ' H' u b du=>by rw [hd] at du;exact du.bl⟩
  · cases i with
    | zero=>simp at e;subst e;cases hw
    | succ i=>simp at e
  · cases i with
    | zero =>
      simp at e
      subst e
      exact⟨ns.map V.int,hR,DL.ints ns⟩
    | succ i=>simp at e
end L3
namespace L3
open PySem PySem.Spec PyProof.Rows L2
noncomputable def qCW:Nat→List Dt→List Dt
  | _,[]=>[]
  | n,d::ds=>.tup [.int (n:Nat),d]::qCW (n+1) ds
theorem qGN:∀ {ds:List Dt} {n i:Nat} {x:Dt},(qCW n ds)[i]? = some x→∃ d,ds[i]? = some d∧x = .tup [.int ((n+i:Nat)),d]
  | [],_,_,_,h=>by simp [qCW] at h
  | d::ds,n,0,x,h=>by
    simp [qCW] at h
    exact⟨d,rfl,by rw [← h];rfl⟩
  | d::ds,n,i+1,x,h=>by
    obtain⟨e,h1,h2⟩:=qGN (ds:=ds) (n:=n+1) (i:=i) (x:=x) (by simpa [qCW] using h)
    exact⟨e,by simpa using h1,by rw [h2,show n+1+i=n+(i+1) by omega]⟩
theorem qEf:∀ {ds:List Dt} {n:Nat},(qCW n ds).length=ds.length
  | [],_=>rfl
  | d::ds,n=>by simp [qCW,qEf]
def qTL (te:TD):TID:=fun ρ st P=>te ρ st fun x st1=>match x with
  | .lst n=>(match st1[n]? with
    | some o=>P (qCW 0 o.items) (fun st'=>(st'[n]?).map SO.items=some o.items) st1
    | none=>False)
  | _=>False
section
variable {X:Cx} {a:Expr} {elts:List Expr} {x1:Nat} {tpos pos p:Pos} {te:TD}
structure qJz (K:W.Frag) (mg:Str→Option Value) (x:Str) (ds:List Dt):Prop where
  ex:∃ a o vs its n,mg x=some (.ref a)∧K.lookup a=some o∧o.cls = .type "tuple" ∧ o.dict=none∧o.data = .seq its n∧its.size≤sizeLine∧Vals vs its.toList∧∀ φ N H,DL K φ N H ds vs
theorem qJz.con {K:W.Frag} {mg:Str→Option Value} {x:Str} {ds:List Dt} (h:qJz K mg x ds):qAW K mg x (.tup ds):=by
  obtain⟨a,o,vs,its,n,h1,h2,h3,h4,h5,h6,h7,h8⟩:=h.ex
  exact⟨.ref a,_,h1,rfl,fun φ N H=>.qCH (.inr ⟨o,its,n,h2,h3,h5,h6,h7⟩) (h8 φ N H)⟩
def qB5 (ds:List Dt) (te:TD):TD:=fun ρ st P=>te ρ st fun y st1=>okD 0 y=true∧ds.all (okD 0)=true∧(match ds.findIdx? (fun z=>eqD 0 z y) with
  | some j=>P (.int (j:Nat)) st1
  | none=>False)
end
noncomputable def qBc:List Value→List Str→Bool
  | [],[]=>true
  | .str x _::us,s::ss=>x==s&&qBc us ss
  | _,_=>false
theorem qHQ:∀ {us:List Value} {ss:List Str},qBc us ss=true→Vals (ss.map V.str) us
  | [],[],_=>.nil
  | [],_::_,h=>by simp [qBc] at h
  | u::us,[],h=>by cases u<;>simp [qBc] at h
  | u :: us,s::ss,h=>by
    cases u with
    | str x t =>
      rw [qBc,Bool.and_eq_true] at h
      have e:x=s:=eq_of_beq h.1
      subst e
      exact .cons ⟨t,rfl⟩ (qHQ h.2)
    | _=>simp [qBc] at h
theorem DL.strs {K:W.Frag} {φ:Nat→Addr} {N:Nat} {H:Hp}:∀ ss:List Str,DL K φ N H (ss.map .str) (ss.map V.str)
  | []=>.nil
  | n::ns=>.cons D.mkStr (DL.strs ns)
theorem qE9 {K:W.Frag} {mg:Str→Option Value} {x:Str} {a:Addr} {its:Array Value} {n:Nat} {sl:Array (Option Value)} {ss:List Str} (hm:mg x=some (.ref a)) (l:K.lookup a=some ⟨.type "tuple",none,.seq its n,sl⟩) (v:qBc its.toList ss=true) (sz:its.size≤sizeLine) :
    qJz K mg x (ss.map .str):=⟨a,_,ss.map V.str,its,n,hm,l,rfl,rfl,rfl,sz,qHQ v,fun _ _ _=>DL.strs ss⟩
theorem qBr {K:W.Frag} {mg:Str→Option Value} {x:Str} {i:Int} {t:Tok} (hm:mg x=some (.int i t)):qAW K mg x (.int i):=⟨.int i,_,hm,⟨t,rfl⟩,fun _ _ _=>D.mkInt⟩
def qDR:RDL:=fun ds st P=>match ds with
  | [x]=>(match x with
    | .bl k=>P (.int (if k then 1 else 0)) st
    | .int i=>P (.int i) st
    | _=>False)
  | _=>False
theorem qQU {X:Cx}:qHT X (.type "int") qDR:=by
  intro pins s σ H vs us Q I rv h
  obtain⟨φ,st,ds,P,R,dl,hr,hq⟩:=h
  rcases ds with _ | ⟨x,_ | ⟨y,r⟩⟩
  · exact hr.elim
  rotate_left
  · exact hr.elim
  · obtain⟨v,rfl,dx⟩:=dl.one
    cases x with
    | bl k=>exact qHa pins s σ H [v] us Q I rv (.inr ⟨k,by rw [dx.bl],Go.here hq R hr D.mkInt⟩)
    | int k=>exact qHa pins s σ H [v] us Q I rv (.inl ⟨k,by rw [dx.int],Go.here hq R hr D.mkInt⟩)
    | _=>exact hr.elim
theorem qSA {X:Cx} {pos:Pos} {e:Expr} {es:List Expr} {t:TAD} {p:Pos} (hm:X.mg "int" = none) (ha:DA X (e::es) t) (hg:Gl X "int") (he:starEach (e::es) X.env=(false,eval e X.env)::starEach es X.env) (hpl:(backTo pos (starEach es X.env)).any (·.1)=false):DE X (.Call (.Name "int" p) (e::es) [] pos) (qF qDR t):=qHe qQU hm PyProof.Rows.boot_int ha hg (by decide) (by decide) he hpl
structure qTX (caps:List (Nat×Str)):Prop where
  ok:True
theorem qGF {so:Scope} {N:List Str} {caps:List (Nat×Str)} {sc:Scope} (_:qTX caps) (h:qFz so N caps sc=true):qAY so N caps sc:=qJa h
theorem qO {st:Sto} {i:Nat} {o x:SO} (h:st[i]? = some o):(st++[x])[i]? = some o:=by
  rw [List.getElem?_append_left (qAX h)];exact h
theorem qe {st:Sto} {i j:Nat} {o x:SO} (h:st[i]? = some o) (hne:j≠i):(st.set j x)[i]? = some o:=by
  rw [List.getElem?_set_ne hne];exact h
theorem qAR {st:Sto} {i:Nat} {o x:SO} (h:st[i]? = some o):(st.set i x)[i]? = some x:=by
  rw [List.getElem?_set_self (qAX h)]
theorem qL {st:Sto} {x:SO}:(st++[x])[st.length]? = some x:=by simp
def ql (st st':Sto):Prop:=∀ (i:Nat) o,st[i]? = some o→st'[i]? = some o
theorem ql.refl (st:Sto):ql st st:=fun _ _ h=>h
theorem ql.trans {a b c:Sto} (h:ql a b) (h':ql b c):ql a c:=fun i o q=>h' i o (h i o q)
theorem ql.app (st:Sto) (x:SO):ql st (st++[x]):=fun _ _ h=>qO h
noncomputable abbrev Ed (Pd:VD):qA4:={ nx:=fun _ st'=>Pd .non st',rt:=Pd }
theorem qEH {i j:Int} (h1:0≤i) (h2:i<4294967296):qOR i j:=.inl ⟨by omega,by omega⟩
theorem small {n:Nat} (h:n<1000):n<sizeLine:=Nat.lt_trans h (by decide)
theorem cdiv {i j:Int} (h1:0<j) (h2:j<1073741824):qNW i j:=⟨h1,h2⟩
end L3
namespace L3
open PySem PySem.Spec PyProof.Rows L2
theorem hu1 {k:Nat} {A:Around} (r:qAt k A):A.units+1<cLine:=by have:=r.units;omega
end L3
namespace L3
open PySem PySem.Spec PyProof.Rows L2
end L3
namespace L3
open PySem PySem.Spec PyProof.Rows L2
end L3
namespace L3
open PySem PySem.Spec PyProof.Rows L2
open AutoSeq1 (wpAny_loadPart')
def qNn:RD2:=fun x y st P=>match x,y with
  | .tup xs,.int k=>xs≠[]∧-(2 ^ 20)<k∧k<2 ^ 20∧xs.length * k.toNat≤sizeLine∧P (.tup (List.replicate k.toNat xs).flatten) st
  | _,_=>False
theorem qIk (l:Addr) (items:Array Value) (n:Nat) (d:Option Addr) (sl:Array (Option Value)) (u:Tok) :
    Meets (Builtin.«tuple.__mul__» ⟨[.ref l,.int 1 u],[]⟩) (fun _ R s=>s.heap.get? l=some { cls:=.type "tuple",dict:=d,data:=.seq items n,slots:=sl }∧R (.ok (.ret (Value.ref l))) s) :=
  .of_wp fun prog w A R s h=>by
    k_dat 0"r43"
    have f1:=AutoSeq1.idx_int
    wp_walk using wpAny_loadPart' hl
    exact⟨_,rfl,h⟩
theorem qJO (l:Addr) (items:Array Value) (n:Nat) (d:Option Addr) (sl:Array (Option Value)) (x:Int) (u:Tok) (h0:items.isEmpty=false) (h1:x≤0) (h2:-(2 ^ 20)<x) :
    Meets (Builtin.«tuple.__mul__» ⟨[.ref l,.int x u],[]⟩) (fun _ R s=>s.heap.get? l=some { cls:=.type "tuple",dict:=d,data:=.seq items n,slots:=sl } ∧
      R (.ok (.ret (Value.ref s.heap.objs.size))) { s with heap:=s.heap.push { cls:=Value.type "tuple",data:=Data.seq #[] },toks:=s.toks }) :=
  .of_wp fun prog w A R s h=>by
    k_dat 0"r43"
    have f1:=AutoSeq1.idx_int
    have e1:(decide (x < -(2 ^ 63)) || decide (x ≥ 2 ^ 63))=false:=by
      rw [decide_eq_false (by omega),decide_eq_false (by omega)];rfl
    have e2:(items.isEmpty || x==1)=false:=by
      rw [h0,Bool.false_or];exact beq_eq_false_iff_ne.mpr (by omega)
    have e3:(decide (x≤0) || items.isEmpty)=true:=by
      rw [decide_eq_true h1];rfl
    wp_walk using wpAny_loadPart' hl
    rw [if_neg (fun q=>Bool.false_ne_true (e1.symm.trans q))]
    wp_walk using wpAny_loadPart' hl
    rw [if_neg (fun q=>Bool.false_ne_true (e2.symm.trans q))]
    wp_walk using wpAny_loadPart' hl
    exact⟨_,rfl,h⟩
section
variable {X:Cx}
theorem qO2:OpR X (binaryOp .Mult) (fun x y H Q=>∃ a xs,x = .ref a∧y = .int 1∧SqT X.K H a xs∧Q (.ref a) H):=by
  k_dat 0"r12"
  obtain⟨a,xs,rfl,rfl,ha,q⟩:=h
  cases rx
  obtain⟨t,rfl⟩:=ry
  obtain⟨its,r1,p1,_⟩:=I.tuple ha
  k_dat 0"r72"
  simp only at hc hd
  subst hc hd
  exact wpAny_binaryOp_repeat_ref (T:= "tuple") (U:= "int") (by decide) ⟨_,ho,rfl⟩ (fun s'=>typeIs_int s' 1 t) qBX F.fills_int_mul F.slot_int_rmul qCv F.slot_int_index.lookup
    (call_meets F.slot_int_rmul (typeIs_int s 1 t) F.entry_int_rmul (F.args_int_rmul_2 _ _) (qB9 1 t a its.toArray n dd sl)
      ⟨ho,rfl,⟨_,ho,rfl⟩,call_meets F.slot_tuple_mul ⟨_,ho,rfl⟩ F.entry_tuple_mul (F.args_tuple_mul_2 _ _) (qIk a its.toArray n dd sl t) ⟨ho,⟨.ref a,H,I,rfl,q⟩⟩⟩)
theorem qOc:OpR X (binaryOp .Mult) (fun x y H Q=>∃ a k xs,x = .ref a∧y = .int k∧SqT X.K H a xs∧xs≠[]∧k≤0∧-(2 ^ 20)<k∧∀ p,H p=none→Q (.ref p) (upd H p (.tup []))):=by
  k_dat 0"r12"
  obtain⟨a,k,xs,rfl,rfl,ha,hne,h2,h3,q⟩:=h
  cases rx
  obtain⟨t,rfl⟩:=ry
  obtain⟨its,r1,p1,_⟩:=I.tuple ha
  have hl:=r1.length
  k_dat 0"r72"
  simp only at hc hd
  subst hc hd
  have he:its.toArray.isEmpty=false:=by
    cases its with
    | nil=>exact absurd (List.length_eq_zero_iff.mp hl) hne
    | cons _ _=>rfl
  refine wpAny_binaryOp_repeat_ref (T:= "tuple") (U:= "int") (by decide) ⟨_,ho,rfl⟩ (fun s'=>typeIs_int s' k t) qBX F.fills_int_mul F.slot_int_rmul qCv F.slot_int_index.lookup
    (call_meets F.slot_int_rmul (typeIs_int s k t) F.entry_int_rmul (F.args_int_rmul_2 _ _) (qB9 k t a its.toArray n dd sl)
      ⟨ho,rfl,⟨_,ho,rfl⟩,call_meets F.slot_tuple_mul ⟨_,ho,rfl⟩ F.entry_tuple_mul (F.args_tuple_mul_2 _ _) (qJO a its.toArray n dd sl k t he h2 h3) ⟨ho,?_⟩⟩)
  refine⟨.ref s.heap.objs.size,_,I.laid (t':=s.toks) (o:=.tup []) (fun b ob q=>Heap.get?_push_of_some _ q) (Nat.le_refl _) ?_,rfl,q _ (I.hok.fresh (Nat.le_refl _))⟩
  exact⟨Nat.zero_le _,[],.nil,IsTup.new _ _⟩
theorem qPc:OpD X (binaryOp .Mult) qNn:=by
  k_dat 0"r14"
  have h0:=h
  k_dat 0"r11"
  cases x with
  | tup xs =>
    cases y with
    | int k =>
      obtain⟨g1,g2,g3,g4,g5⟩:=hr
      obtain⟨a,vs,e1,s1,d1⟩:=dx.tup
      have hl:=d1.length
      by_cases k2:2≤k
      · exact qNK pins s σ H v w u1 u2 Q I r1 r2 ⟨φ,st,.tup xs,.int k,P,R,dx,dy,⟨g1,k2,g3,g4,g5⟩,hq⟩
      by_cases k1:k=1
      · subst k1
        rw [show (List.replicate (1:Int).toNat xs).flatten=xs by simp] at g5
        exact qO2 pins s σ H v w u1 u2 Q I r1 r2 ⟨a,vs,e1,dy.int,s1,Go.here hq R g5 (by rw [← e1];exact dx)⟩
      · have k0:k.toNat=0:=by omega
        rw [k0] at g5
        refine qOc pins s σ H v w u1 u2 Q I r1 r2 ⟨a,k,vs,e1,dy.int,s1,fun z=>g1 (List.length_eq_zero_iff.mp (by rw [hl,z];rfl)),by omega,g2,fun p hp=>?_⟩
        exact hq _ st g5 φ _ _ (qBL R hp) (.qCH (SqT.of qh) .nil)
    | _=>exact hr.elim
  | _=>cases y<;>exact hr.elim
theorem qQc {es:List Expr} {x1} {b:Expr} {ta tb:TD} {pos p1:Pos} (ha:DE X (.Tuple es x1 p1) ta) (hb:DE X b tb):DE X (.BinOp (.Tuple es x1 p1) .Mult b pos) (qE qNn ta tb):=qFM qPc ha hb
end
end L3
namespace HT
open PySem PySem.Spec PyProof.Rows
section
variable {prog:Program} {w:World} {A:Around} {E:Value→Shared→Prop} {s:Shared}
theorem qDr {t sl:Addr} {items:Array Value} {vl vu:Value} {lo hi:Option Int} {Q:Value→Shared→Prop} (ht:IsTup s.heap t items) (hs:s.heap.IsSliceOf sl vl vu .none) (pl:IsPart vl lo) (pu:IsPart vu hi)
    (hw:sIx items.size 0 lo=0∧sIx items.size items.size hi=items.size) (h:Q (.ref t) s):wpAny (model prog w) A (getItem (.ref t) (.ref sl)) Q E s:=by
  obtain⟨os,hos,hcs,hds⟩:=id hs
  have hTs:s.TypeIs (.ref sl) "slice":=⟨os,hos,hcs⟩
  unfold getItem
  try with_reducible refine wpAny_holding ?_
  first | refine wpAny_bind (wpAny_pure ?_) | skip
  refine wpAny_bind (wpAny_sequenceKey ht.typeIs (by decide) ?_)
  refine wpAny_bind (wpAny_callSpecial?_slot (name:=Str.ofString "__getitem__") ht.typeIs PyProof.Rows.slot_tuple_getitem
    (wpAny_call_entry PyProof.Rows.slot_tuple_getitem ht.typeIs entry_tuple_getitem ?_ (args_tuple_getitem _ _)))
  show wpAny _ _ (Builtin.Tuple.tupleItemsOf (.ref t) >>= _) _ _ s
  refine wpAny_bind (tupleItemsOf_ ht ?_)
  refine wpAny_bind (wpAny_typeOf hTs ?_)
  rw [if_pos (by decide)]
  refine wpAny_bind (qCe hs pl pu ?_)
  have hyes:(((sIx items.size 0 lo:Nat):Int)==0&&(1:Int)==1&&(sIx items.size items.size hi - sIx items.size 0 lo)==items.size)=true:=by
    rw [hw.1,hw.2];simp
  k_dat 0"r91"
  rw [if_pos hyes]
  unfold Builtin.Tuple.tupleIsExact
  refine wpAny_bind (wpAny_bind (wpAny_typeOf ht.typeIs (wpAny_pure ?_)))
  rw [if_pos (by decide)]
  first
    | exact wpAny_bind (wpAny_pure (wpAny_pure ⟨_,rfl,wpAny_pure h⟩))
    | exact wpAny_bind (wpAny_rule (wpAny_bind (wpAny_pure (wpAny_pure ⟨_,rfl,wpAny_pure h⟩))))
    | exact wpAny_bind (wpAny_rule (wpAny_bind (wpAny_pure ⟨_,rfl,wpAny_pure h⟩)))
    | exact wpAny_pure ⟨_,rfl,wpAny_pure h⟩
    | exact wpAny_bind (wpAny_pure ⟨_,rfl,wpAny_pure h⟩)
end
end HT
namespace L3
open PySem PySem.Spec PyProof.Rows L2
noncomputable def qTx (K:W.Frag):V→Option Int→Option Int→Hp→VK→Prop:=fun x lo hi H Q=>∃ a xs,x = .ref a∧SqT K H a xs∧(HT.sIx xs.length 0 lo=0∧HT.sIx xs.length xs.length hi=xs.length)∧Q (.ref a) H
section
variable {X:Cx}
theorem qNg:SlR X (qTx X.K):=by
  k_dat 0"r70"
  obtain⟨a,xs,rfl,hx,hw,q⟩:=h
  cases rx
  obtain⟨its,r,ht,hz⟩:=I.tuple hx
  have hlen:its.toArray.size=xs.length:=by rw [List.size_toArray];exact r.length.symm
  refine⟨"tuple",_,PyProof.Rows.slot_tuple_getitem.lookup,ht.typeIs,?_⟩
  exact HT.qDr ht hs pl pu (by rw [hlen];exact hw) ⟨.ref a,H,I,rfl,q⟩
def qAG (te:TD) (tl th:TOD):TD:=fun ρ st P=>te ρ st fun x st1=>tl ρ st1 fun lo st2=>th ρ st2 fun hi st3=>match x with
  | .tup xs=>P (.tup (cutD xs lo hi)) st3
  | .lst n=>(match st3[n]? with
    | some o=>P (.lst st3.length) (st3++[.rw (cutD o.items lo hi)])
    | none=>False)
  | _=>False
theorem qLb {xs:List Dt} {lo hi:Option Int} (h:HT.sIx xs.length 0 lo=0∧HT.sIx xs.length xs.length hi=xs.length):cutD xs lo hi=xs:=by
  unfold cutD
  rw [h.1,h.2]
  simp
theorem qMC {e:Expr} {lo hi:Option Expr} {te:TD} {tl th:TOD} {pos p2:Pos} (he:DE X e te) (hl:DO X lo tl) (hu:DO X hi th):DE X (.Subscript e (.Slice lo hi none p2) pos) (qAG te tl th):=by
  refine PE.imp (qIw ((qOT.or qK7).or qNg) he hl hu) fun σ H Q h=>?_
  k_dat 0"r1"
  k_dat 0"r19"
  refine⟨φ1,st1,ρ,_,pre.on b1,h1,fun l st2 h2 φ2 H2 b2=>?_⟩
  refine⟨φ2,st2,ρ,_,(pre.on b1).on b2,h2,fun u st3 h3 φ3 H3 b3=>?_⟩
  have b:=b1.trans (b2.trans b3)
  have dx3:=(dx.evo b2.2).evo b3.2
  cases x with
  | tup xs =>
    obtain⟨a,vs,e1,s1,d1⟩:=dx3.tup
    have h3':P (.tup (cutD xs l u)) st3:=h3
    by_cases hw:HT.sIx xs.length 0 l=0∧HT.sIx xs.length xs.length u=xs.length
    · rw [qLb hw] at h3'
      exact .inr ⟨a,vs,e1,s1,by rw [← d1.length];exact hw,hq _ st3 h3' φ3 _ _ b (by rw [← e1];exact dx3)⟩
    refine .inl (.inl ⟨a,vs,e1,s1,by rw [← d1.length];exact hw,fun p hp=>hq _ st3 h3' φ3 _ _ (b.trans (qBL b3.1 hp)) (.qCH (SqT.of qh) ?_)⟩)
    unfold cutD qFi
    rw [← d1.length]
    exact ((d1.drop _).take _).evo (qBE hp)
  | lst n =>
    have h3':(match st3[n]? with
      | some o=>P (.lst st3.length) (st3++[.rw (cutD o.items l u)])
      | none=>False):=h3
    split at h3'
    · rename_i o eo
      obtain⟨vs,s1,d1⟩:=b3.1.seq eo dx3.isL
      refine .inl (.inr ⟨φ3 n,vs,dx3.lst.2,s1,fun p hp=>?_⟩)
      have:DL X.K φ3 st3.length H3 (cutD o.items l u) (qFi vs l u):=by
        unfold cutD qFi
        rw [← d1.length]
        exact (d1.drop _).take _
      exact hq _ _ h3' _ _ _ (b.trans (qCx b3.1 hp this)) qGI
    · exact h3'.elim
  | _=>exact h3.elim
end
end L3
namespace L3
open PySem PySem.Spec PyProof.Rows L2
end L3
namespace L3
open PySem PySem.Spec PyProof.Rows L2
end L3
namespace L3
open PySem PySem.Spec PyProof.Rows L2
end L3
namespace HT
open PySem PySem.Spec PyProof.Rows
end HT
namespace L3
open PySem PySem.Spec PyProof.Rows L2
theorem DL.reverse {K:W.Frag} {φ:Nat→Addr} {N:Nat} {H:Hp}:∀ {ds:List Dt} {vs:List V},DL K φ N H ds vs→DL K φ N H ds.reverse vs.reverse
  | [],[],_=>by simpa using DL.nil
  | d::ds,[],h=>by simp [DL] at h
  | [],v::vs,h=>by simp [DL] at h
  | d::ds,v::vs,h=>by
    k_dat 0"r13"
    obtain⟨v1,r,e,h1,h2⟩:=h
    cases e
    rw [List.reverse_cons,List.reverse_cons]
    exact (DL.reverse h2).append (.cons h1 .nil)
end L3
namespace L3
open PySem PySem.Spec PyProof.Rows L2
theorem qOq (l:Addr) (xs:Array Value) (n:Nat) (b:Addr) (ys:Array Value) (m:Nat) (dd:Option Addr) (sl:Array (Option Value)) (h0:¬(!xs.isEmpty&&Builtin.List.listTooLong (xs.size+ys.size))=true) (h1:xs.size≤sizeLine) (h2:xs.size+ys.size≤sizeLine+1) :
    Meets (Builtin.«list.extend» ⟨[.ref l,.ref b],[]⟩) (fun _ R s=>s.heap.get? l=some { cls:=.type "list",dict:=none,data:=.seq xs n,slots:=#[] } ∧
      s.heap.get? b=some { cls:=.type "tuple",dict:=dd,data:=.seq ys m,slots:=sl } ∧
      R (.ok (.ret Value.none)) { s with heap:=s.heap.update l (Obj.mapSeq fun x=>x++ys),toks:=s.toks }) :=
  .of_wp fun prog w A R s h=>by
    obtain⟨hp,g,d,tk,os⟩:=s
    obtain⟨hl,hb,h⟩:=h
    have f1:=AutoSeq1.idx_int
    have f2:=AutoSeq1.sub_tuple_tuple
    have f3:=AutoSeq1.sub_list_list
    have f4:=AutoSeq1.sub_tuple_list
    have f5:=AutoSeq1.sub_list_tuple
    have hz:(xs++ys).size≤sizeLine+1:=by rw [Array.size_append];exact h2
    wp_walk using (wpAny_updateSeq hl rfl (hz:=h1) (_hz':=hz)),AutoSeq1.wpAny_loadPart' hl,AutoSeq1.wpAny_loadPart' hb
    exact⟨_,rfl,h⟩
section
variable {X:Cx} {e:Expr} {te:TD} {pos:Pos}
noncomputable def qOM (K:W.Frag):V→List V→Hp→VK→Prop:=fun x vs H Q=>∃ l b xs zs,x = .ref l∧vs=[.ref b]∧H l=some (.lst xs)∧SqT K H b zs∧xs.length+zs.length≤sizeLine∧Q .non (upd H l (.lst (xs++zs)))
theorem qKD:MtM X "list.extend" (qOM X.K):=by
  intro pins s σ H x vs v us Q I rx rv h
  obtain⟨l,b,xs,zs,rfl,rfl,hH,hB,hz,q⟩:=h
  cases rx
  obtain⟨u,rfl,ru⟩:=rv.one
  cases ru
  obtain⟨z,its,n,r,hl,e⟩:=I.qMi hH
  obtain⟨its2,r2,ht,hz2⟩:=I.tuple hB
  have hl2:its2.length=zs.length:=r2.length.symm
  obtain⟨⟨cls,dd,data,sl⟩,ho,hc,n2,hd⟩:=ht
  simp only at hc hd
  subst hc hd
  have hsz:its.toArray.size+its2.toArray.size≤sizeLine:=by rw [List.size_toArray,List.size_toArray];omega
  have hlong:¬ (!its.toArray.isEmpty&&Builtin.List.listTooLong (its.toArray.size+its2.toArray.size))=true:=by
    rw [qJB hsz,Bool.and_false]
    exact Bool.false_ne_true
  refine call_meets F.slot_list_extend ⟨_,e,rfl⟩ F.entry_list_extend (F.args_list_extend_2 _ _)
    (qOq l its.toArray n b its2.toArray n2 dd sl hlong (by rw [List.size_toArray];omega) (by omega)) ⟨e,ho,?_⟩
  refine⟨.non,_,I.qTT (its':=its++its2) hH e (by simp) (r.append r2) ?_,rfl,q⟩
  rw [List.length_append]
  omega
def qF0 (to te:TD):TD:=fun ρ st P=>to ρ st fun o st1=>match o with
  | .lst n=>te ρ st1 fun d st2=>(match d with
    | .tup ds=>(match st2[n]? with
      | some (.rw xs)=>xs.length+ds.length≤sizeLine∧P .non (st2.set n (.rw (xs++ds)))
      | _=>False)
    | _=>False)
  | _=>False
theorem qLc {o:Expr} {to:TD} {apos cpos:Pos} (ho:DE X o to) (he:DE X e te)
    (hbase:attributeBase o "extend" X.env (eval o X.env)=eval o X.env)
    (hfew:((backTo cpos (starEach [e] X.env)).all (fun x=>!x.1)&&(backToKw cpos (keywordEach [] X.env)).all (fun x=>x.1.isSome)
      && decide (([e]:List Expr).length+([]:List Keyword).length+(if ([]:List Keyword).isEmpty then 0 else 1)<30))=true)
    (hline:(apos.endLine==cpos.line)=true) (hs:starEach [e] X.env=(false,eval e X.env)::starEach [] X.env) (hplain:(backTo cpos (starEach ([]:List Expr) X.env)).any (·.1)=false) :
    DE X (.Call (.Attribute o "extend" apos) [e] [] cpos) (qF0 to te):=by
  refine PE.imp (qQD PySem.F.plainAttrs_list PySem.F.slot_list_extend PySem.F.type_list_extend qKD ho (qCm he qEm hs) hbase hfew hline hs hplain) fun σ H Q h=>?_
  k_dat 0"r1"
  k_dat 0"r19"
  cases x with
  | lst n =>
    have hn:=dx.lst.1
    obtain⟨so,eo⟩:∃ so,st1[n]? = some so:=⟨st1[n],by simp [hn]⟩
    obtain⟨ws,hws,_⟩:=b1.1.seq eo dx.isL
    refine⟨?_,?_⟩
    · rw [dx.lst.2]
      exact .inl ⟨rfl,ws,hws⟩
    refine⟨φ1,st1,ρ,(fun ds st2=>match ds with
      | [.tup zs]=>(match st2[n]? with
        | some (.rw xs)=>xs.length+zs.length≤sizeLine∧P .non (st2.set n (.rw (xs++zs)))
        | _=>False)
      | _=>False),pre.on b1,?_,fun ds st2 h2 φ2 H2 zs b2 dz=>?_⟩
    · show te ρ st1 fun d st2=>_
      have h1:te ρ st1 fun d st2=>(match d with
        | .tup ds=>(match st2[n]? with
          | some (.rw xs)=>xs.length+ds.length≤sizeLine∧P .non (st2.set n (.rw (xs++ds)))
          | _=>False)
        | _=>False):=h1
      have e:(fun (d:Dt) (st2:Sto)=>(match d with
        | .tup ds=>(match st2[n]? with
          | some (.rw xs)=>xs.length+ds.length≤sizeLine∧P .non (st2.set n (.rw (xs++ds)))
          | _=>False)
        | _ => False))=(fun x st1=>qD ρ st1 fun xs st2=>(match x::xs with
          | [.tup zs]=>(match st2[n]? with
            | some (.rw xs)=>xs.length+zs.length≤sizeLine∧P .non (st2.set n (.rw (xs++zs)))
            | _=>False)
          | _=>False)):=by
        funext d st2
        cases d<;>rfl
      rw [e] at h1
      exact h1
    k_dat 0"r48"
    · exact h2.elim
    rotate_left
    · cases d<;>exact h2.elim
    · cases d with
      | tup ts =>
        have h2:(match st2[n]? with
          | some (.rw xs)=>xs.length+ts.length≤sizeLine∧P .non (st2.set n (.rw (xs++ts)))
          | _=>False):=h2
        split at h2
        · rename_i xs ex
          obtain⟨y,rfl,dy⟩:=dz.one
          obtain⟨a,us,e1,s1,d1⟩:=dy.tup
          subst e1
          obtain⟨vs,hv,dl⟩:=b2.1.rw n xs ex
          have dx2:=dx.evo b2.2
          have bb:Bhd X.K φ2 st2 H2 φ2 (st2.set n (.rw (xs++ts))) (upd H2 (φ2 n) (.lst (vs++us))):=⟨b2.1.qQp ex (dl.append d1),qFw hv⟩
          exact⟨φ2 n,a,vs,us,dx2.lst.2,rfl,hv,s1,by rw [← dl.length,← d1.length];exact h2.1,hq _ _ h2.2 φ2 _ _ (b1.trans (b2.trans bb)) D.qKl⟩
        · exact h2.elim
      | _=>exact h2.elim
  | _=>exact h1.elim
def qN7 (i:Nat) (te:TD):TSD:=fun E ρ st=>match ρ[i]? with
  | some (some (.int x))=>te ρ st fun d st1=>(match d with
    | .int y=>E.nx (ρ.set i (some (.int (x+y)))) st1
    | _=>False)
  | _=>False
theorem qQv (i:Nat) {x:Str} {pos':Pos} (hN:X.N.Nodup) (he:DE X e te) (hi:X.N[i]? = some x) (hx:Loc X.env.scope x) (hf:X.fn x=true∨X.env.scope.names.lookup x=some .local):DS X (.AugAssign (.Name x pos') .Add e pos) (qN7 i te):=by
  refine PS.imp (qQo hN hi hx he (fun pins s σ H a b v u Q I ra rb q=>qUG qPK I ra rb q) hf) fun E σ H h=>?_
  k_dat 0"r17"
  unfold qN7 at ht
  split at ht
  · rename_i x ex
    obtain⟨v,e1,e2⟩:=pre.2.2 i _ ex
    refine⟨v,e1,φ,st,ρ,_,pre,ht,fun d st1 h1 φ1 H1 w b1 dx=>?_⟩
    cases d with
    | int y =>
      rw [e2.int,dx.int]
      exact⟨x,y,rfl,rfl,n _ st1 h1 φ1 H1 _ b1 ((pre.on b1).2.set D.mkInt i)⟩
    | _=>exact h1.elim
  · exact ht.elim
end
end L3
namespace L3
open PySem PySem.Spec PyProof.Rows L2
end L3
namespace L3
open PySem PySem.Spec PyProof.Rows L2
end L3
namespace L3
open PySem PySem.Spec PyProof.Rows L2
end L3
namespace L3
open PySem PySem.Spec PyProof.Rows L2
end L3
namespace L3
open PySem PySem.Spec PyProof.Rows L2
noncomputable def qFV:Dt→Option Key
  | .int i=>some (.inl i)
  | .str x=>some (.inr x)
  | _=>none
noncomputable def qFZ (kvs:List (Key×Dt)) (k:Key):Option Dt:=(kvs.find? fun kv=>decide (kv.1=k)).map (·.2)
noncomputable def putD (kvs:List (Key×Dt)) (k:Key) (d:Dt):List (Key×Dt) :=
  if (kvs.any fun kv=>decide (kv.1=k))=true then kvs.map (fun kv=>if kv.1=k then (kv.1,d) else kv) else kvs++[(k,d)]
def KD (K:W.Frag) (φ:Nat→Addr) (N:Nat) (H:Hp) (kvs:List (Key×Dt)) (vs:List (Key×V)):Prop:=kvs.map (·.1)=vs.map (·.1)∧DL K φ N H (kvs.map (·.2)) (vs.map (·.2))
section
variable {K:W.Frag} {φ:Nat→Addr} {N:Nat} {H:Hp}
theorem qDc {y:Dt} {k:Key} {v:V} (e:qFV y=some k) (d:D K φ N H y v):v=kV k:=by
  cases y with
  | int i=>cases e;exact d.int
  | str x=>cases e;exact d.str
  | _=>cases e
theorem KD.qCS {k:Key} {d:Dt} {r:List (Key×Dt)} {vs:List (Key×V)} (h:KD K φ N H ((k,d)::r) vs):∃ v r',vs=(k,v)::r'∧D K φ N H d v∧KD K φ N H r r':=by
  obtain⟨h1,h2⟩:=h
  cases vs with
  | nil=>cases h1
  | cons p r' =>
    obtain⟨k',v⟩:=p
    rw [List.map_cons,List.map_cons] at h1
    injection h1 with e1 e2
    have e1:k=k':=e1
    subst e1
    obtain⟨a,b⟩:=DL.qCS (d:=d) (v:=v) h2
    exact⟨v,r',rfl,a,e2,b⟩
theorem KD.cons {k:Key} {d:Dt} {v:V} {r:List (Key×Dt)} {r':List (Key×V)} (a:D K φ N H d v) (h:KD K φ N H r r'):KD K φ N H ((k,d)::r) ((k,v)::r'):=⟨by rw [List.map_cons,List.map_cons,h.1],.cons a h.2⟩
theorem KD.nil:KD K φ N H [] []:=⟨rfl,.nil⟩
theorem KD.qJA {vs:List (Key×V)} (h:KD K φ N H [] vs):vs=[]:=by
  cases vs with
  | nil=>rfl
  | cons p r=>cases h.1
theorem KD.val:∀ {kvs:List (Key×Dt)} {vs:List (Key×V)} (k:Key),KD K φ N H kvs vs→(qFZ kvs k=none∧qBo vs k=none)∨∃ d v,qFZ kvs k=some d∧qBo vs k=some v∧D K φ N H d v
  | [],vs,k,h=>by rw [h.qJA];exact .inl ⟨rfl,rfl⟩
  | (k',d)::r,vs,k,h=>by
    obtain⟨v,r',rfl,dv,h'⟩:=h.qCS
    by_cases e:k'=k
    · exact .inr ⟨d,v,by simp [qFZ,List.find?_cons,e],by simp [qBo,List.find?_cons,e],dv⟩
    · have e1:qFZ ((k',d)::r) k=qFZ r k:=by simp [qFZ,List.find?_cons,e]
      have e2:qBo ((k',v)::r') k=qBo r' k:=by simp [qBo,List.find?_cons,e]
      rw [e1,e2]
      exact h'.val k
theorem KD.any:∀ {kvs:List (Key×Dt)} {vs:List (Key×V)} (k:Key),KD K φ N H kvs vs→(kvs.any fun kv=>decide (kv.1=k))=(vs.any fun kv=>decide (kv.1=k))
  | [],vs,k,h=>by rw [h.qJA];rfl
  | (k',d)::r,vs,k,h=>by
    obtain⟨v,r',rfl,_,h'⟩:=h.qCS
    rw [List.any_cons,List.any_cons,h'.any k]
theorem KD.app:∀ {a b:List (Key×Dt)} {c e:List (Key×V)},KD K φ N H a c→KD K φ N H b e→KD K φ N H (a++b) (c++e)
  | [],b,c,e,h,h'=>by rw [h.qJA];exact h'
  | (k,d)::r,b,c,e,h,h'=>by
    obtain⟨v,r',rfl,dv,h2⟩:=h.qCS
    exact (h2.app h').cons dv
theorem KD.put {d:Dt} {v:V} (dv:D K φ N H d v) (k:Key) {kvs:List (Key×Dt)} {vs:List (Key×V)} (h:KD K φ N H kvs vs):KD K φ N H (putD kvs k d) (putK vs k v):=by
  unfold putD putK
  rw [h.any k]
  split
  · have go:∀ {kvs:List (Key×Dt)} {vs:List (Key×V)},KD K φ N H kvs vs→KD K φ N H (kvs.map fun kv=>if kv.1=k then (kv.1,d) else kv) (vs.map fun kv=>if kv.1=k then (kv.1,v) else kv):=by
      intro kvs
      induction kvs with
      | nil=>intro vs h;rw [h.qJA];exact .nil
      | cons p r ih =>
        intro vs h
        obtain⟨k',d'⟩:=p
        obtain⟨v',r',rfl,dv',h'⟩:=h.qCS
        rw [List.map_cons,List.map_cons]
        by_cases e:k'=k
        · rw [if_pos e,if_pos e];exact (ih h').cons dv
        · rw [if_neg e,if_neg e];exact (ih h').cons dv'
    exact go h
  · exact h.app (KD.cons dv .nil)
theorem KD.length {kvs:List (Key×Dt)} {vs:List (Key×V)} (h:KD K φ N H kvs vs):kvs.length=vs.length:=by
  have:=congrArg List.length h.1
  rwa [List.length_map,List.length_map] at this
theorem Rep.dc {st:Sto} (R:Rep K φ st H) {n:Nat} {kvs:List (Key×Dt)} (e:st[n]? = some (.dc kvs)):∃ vs,H (φ n)=some (.dK vs)∧K.lookup (φ n)=none∧KD K φ st.length H kvs vs:=by
  obtain⟨vs,h1,h2,h3,h4⟩:=R.all n _ e
  exact⟨vs,h1,h2,h3,h4⟩
theorem qJf {st:Sto} {p:Addr} {kvs:List (Key×Dt)} {vs:List (Key×V)} (R:Rep K φ st H) (hp:H p=none) (hk:K.lookup p=none) (hd:KD K φ st.length H kvs vs):Bhd K φ st H (qAk φ st.length p) (st++[.dc kvs]) (upd H p (.dK vs)) :=
  ⟨R.add hp ⟨vs,qh,hk,hd.1,hd.2.evo (qDm hp)⟩,qDm hp⟩
theorem qSW {st:Sto} {p:Addr} {kvs:List (Key×Dt)} {vs:List (Key×V)}:D K (qAk φ st.length p) (st++[SO.dc kvs]).length (upd H p (.dK vs)) (.dic st.length) (.ref p):=by
  have:=D.qQA (K:=K) (φ:=qAk φ st.length p) (H:=upd H p (.dK vs)) (n:=st.length) (N:=(st++[SO.dc kvs]).length) (by simp) (by rw [qCQ];exact⟨vs,qh⟩)
  rw [qCQ] at this
  exact this
theorem qIc {st:Sto} {n:Nat} {kvs kvs':List (Key×Dt)} {vs':List (Key×V)} (R:Rep K φ st H) (e:st[n]? = some (.dc kvs)) (hd:KD K φ st.length H kvs' vs'):Bhd K φ st H φ (st.set n (.dc kvs')) (upd H (φ n) (.dK vs')):=by
  obtain⟨vs,h1,h2,h3⟩:=R.dc e
  exact⟨R.put e rfl rfl h1 trivial ⟨vs',qh,h2,hd.1,hd.2.evo (qDP (o:=.dc kvs') (w:=.dK vs') (qAX e) h1 trivial)⟩,qDP (w:=.dK vs') (qAX e) h1 trivial⟩
end
section
variable {X:Cx} {o i:Expr} {to ti:TD} {pos:Pos}
def qH3:TD:=fun _ st P=>P (.dic st.length) (st++[.dc []])
theorem qN2:DE X (.Dict [] [] pos) qH3:=qNH.imp fun σ H Q h=>by
  k_dat 0"r1"
  exact fun p hp hk=>hq _ _ ht _ _ _ (qJf pre.1 hp hk .nil) qSW
def qI7:RD2:=fun x y st P=>match x with
  | .dic n=>(match st[n]?,qFV y with
    | some (.dc kvs),some k=>(match qFZ kvs k with
      | some d=>P d st
      | none=>False)
    | _,_=>False)
  | _=>False
theorem qOs (hu:X.A.units+1<cLine) (ho:DE X o to) (hi:DE X i ti) (hs:qOy i):DE X (.Subscript o i pos) (qE qI7 to ti):=(qOz hu ho hi hs).imp fun σ H Q h=>by
  k_dat 0"r1"
  k_dat 0"r19"
  k_dat 0"r73"
  cases x with
  | dic n =>
    have h2:(match st2[n]?,qFV y with
      | some (.dc kvs),some k=>(match qFZ kvs k with
        | some d=>P d st2
        | none=>False)
      | _,_=>False):=h2
    split at h2
    · rename_i kvs k e1 e2
      split at h2
      · rename_i d ed
        obtain⟨vs,hv,_,hk⟩:=b2.1.dc e1
        rcases hk.val k with ⟨z,_⟩ | ⟨d',v2,ed',ev,dv⟩
        · rw [ed] at z;cases z
        · rw [ed] at ed'
          cases ed'
          refine⟨φ2 n,v2,(dx.evo b2.2).dic.2,?_,hq d st2 h2 φ2 H2 v2 (b1.trans b2) dv⟩
          rw [qDc e2 dy,← ev]
          exact qFT.k hv
      · exact h2.elim
    · exact h2.elim
  | _=>exact h2.elim
noncomputable def qCF (to ti:TD):TGD:=fun d ρ st P=>to ρ st fun o st1=>ti ρ st1 fun i st2=>match o with
  | .dic n=>(match st2[n]?,qFV i with
    | some (.dc kvs),some k=>kvs.length<sizeLine∧P ρ (st2.set n (.dc (putD kvs k d)))
    | _,_=>False)
  | _=>False
theorem qO7 {value:Expr} {tv:TD} {pos':Pos} (hu:X.A.units+1<cLine) (ho:DE X o to) (hi:DE X i ti) (hv:DE X value tv) (hs:swapsWith value (some (.Subscript o i pos')) pos.line X.env=pure false) :
    DS X (.Assign [.Subscript o i pos'] value pos) (qP tv (qCF to ti)):=(qOw hu ho hi hv hs).imp fun E σ H h=>by
  k_dat 0"r17"
  refine⟨φ,st,ρ,_,pre,ht,fun d st1 h1 φ1 H1 v b1 dv=>?_⟩
  refine⟨φ1,st1,ρ,_,pre.on b1,h1,fun x st2 h2 φ2 H2 w b2 dx=>?_⟩
  refine⟨φ2,st2,ρ,_,(pre.on b1).on b2,h2,fun y st3 h3 φ3 H3 z b3 dy=>?_⟩
  cases x with
  | dic m =>
    have h3:(match st3[m]?,qFV y with
      | some (.dc kvs),some k=>kvs.length<sizeLine∧P.nx ρ (st3.set m (.dc (putD kvs k d)))
      | _,_=>False):=h3
    split at h3
    · rename_i kvs k e1 e2
      obtain⟨vs,hv,_,hk⟩:=b3.1.dc e1
      have dv3:=dv.evo (b2.trans b3).2
      have bb:=qIc b3.1 e1 (hk.put dv3 k)
      refine⟨φ3 m,_,(dx.evo b3.2).dic.2,by rw [qDc e2 dy];exact qKB.k hv (by rw [← hk.length];exact h3.1),?_⟩
      exact n _ _ h3.2 φ3 _ _ (((b1.trans b2).trans b3).trans bb) ((pre.on (((b1.trans b2).trans b3).trans bb)).2)
    · exact h3.elim
  | _=>exact h3.elim
def qF7 (to te tf:TD):TD:=fun ρ st P=>to ρ st fun x st1=>match x with
  | .dic n=>te ρ st1 fun y st2=>tf ρ st2 fun z st3=>(match st3[n]?,qFV y with
    | some (.dc kvs),some k=>P ((qFZ kvs k).getD z) st3
    | _,_=>False)
  | _=>False
theorem qNO {e f:Expr} {te tf:TD} {apos cpos:Pos} (hu:X.A.units+1<cLine) (ho:DE X o to) (he:DE X e te) (hf:DE X f tf) (m:M2 X o "get" apos e f cpos):DE X (.Call (.Attribute o "get" apos) [e,f] [] cpos) (qF7 to te tf):=(qMc hu ho he hf m).imp fun σ H Q h=>by
  k_dat 0"r1"
  k_dat 0"r19"
  cases x with
  | dic n =>
    obtain⟨kvs0,hk0⟩:=dx.isD
    refine⟨φ1 n,dx.dic.2,.inl ⟨kvs0,.inl hk0⟩,φ1,st1,ρ,_,pre.on b1,h1,fun y st2 h2 φ2 H2 w b2 dy=>?_⟩
    refine⟨φ2,st2,ρ,_,(pre.on b1).on b2,h2,fun z st3 h3 φ3 H3 u b3 dz=>?_⟩
    have h3:(match st3[n]?,qFV y with
      | some (.dc kvs),some k=>P ((qFZ kvs k).getD z) st3
      | _,_=>False):=h3
    split at h3
    · rename_i kvs k e1 e2
      obtain⟨vs,hv,_,hk⟩:=b3.1.dc e1
      have ea:φ3 n=φ1 n:=(b2.trans b3).2.ext n dx.dic.1
      have g:qFT H3 (φ1 n) w (qBo vs k):=by rw [qDc e2 dy,← ea];exact qFT.k hv
      refine⟨qBo vs k,g,?_⟩
      rcases hk.val k with ⟨z1,z2⟩ | ⟨d',v2,z1,z2,dv⟩
      · rw [z1] at h3;rw [z2]
        exact hq _ st3 h3 φ3 H3 _ ((b1.trans b2).trans b3) dz
      · rw [z1] at h3;rw [z2]
        exact hq _ st3 h3 φ3 H3 _ ((b1.trans b2).trans b3) dv
    · exact h3.elim
  | _=>exact h1.elim
noncomputable def tvK:List (Key×TD)→TAD
  | []=>fun _ st P=>P [] st
  | (_,t)::r=>fun ρ st P=>t ρ st fun x st1=>tvK r ρ st1 fun xs st2=>P (x::xs) st2
def qKt (kts:List (Key×TD)):TD:=fun ρ st P=>tvK kts ρ (st++[.dc []]) fun ds st1=>st1[st.length]? = some (.dc [])∧P (.dic st.length) (st1.set st.length (.dc ((kts.map (·.1)).zip ds)))
def DPK (X:Cx) (pos:Pos) (keys:List (Option Expr)) (values:List Expr) (kts:List (Key×TD)):Prop:=PPs X pos keys values (kts.map fun q=>(tC (kV q.1),qAd X.K q.2))
theorem qOk:DPK X pos [] [] []:=qO1
theorem qO6 {k:Str} {j:Nat} {p:Pos} {v:Expr} {t:TD} {ks:List (Option Expr)} {vs:List Expr} {kts:List (Key×TD)} (hv:DE X v t) (hr:DPK X pos ks vs kts):DPK X pos (some (.Constant (.str k) j p)::ks) (v::vs) ((.inr k,t)::kts):=qNZ qNB hv hr
theorem qMf {K:W.Frag}:∀ {kts:List (Key×TD)} {σ:L2.St} {H:Hp} {φ:Nat→Addr} {st:Sto} {ρ:Rho} {P:List Dt→Sto→Prop} {Q:List (V×V)→Hp→Prop},Pre K φ st H ρ σ→tvK kts ρ st P →
    (∀ ds st',P ds st'→∀ φ' H' (vs:List V),Bhd K φ st H φ' st' H'→DL K φ' st'.length H' ds vs→ds.length=kts.length→Q (((kts.map (·.1)).zip vs).map fun kv=>(kV kv.1,kv.2)) H')→qHy (kts.map fun q=>(tC (kV q.1),qAd K q.2)) σ H Q
  | [],σ,H,φ,st,ρ,P,Q,pre,ht,hq=>hq [] st ht φ H [] (.refl pre.1) .nil rfl
  | (k,t)::r,σ,H,φ,st,ρ,P,Q,pre,ht,hq=>by
    k_dat 0"r28"
    refine qMf (pre.on b1) h1 fun ds st2 h2 φ2 H2 vs b2 dl hl=>?_
    exact hq (d::ds) st2 h2 φ2 H2 (v::vs) (b1.trans b2) (.cons (dx.evo b2.2) dl) (by rw [List.length_cons,hl,List.length_cons])
theorem qLT:∀ {more acc:List (Key×V)},(∀ kv∈more,qBo acc kv.1=none)→(more.map (·.1)).Nodup→qEA acc more=acc++more:=by
  intro more
  induction more with
  | nil=>intro acc _ _;show acc=_;rw [List.append_nil]
  | cons p r ih =>
    intro acc h nd
    rw [List.map_cons,List.nodup_cons] at nd
    have hp:putK acc p.1 p.2=acc++[p]:=by
      unfold putK
      have hn:¬ (acc.any fun kv=>decide (kv.1=p.1))=true:=by
        intro ha
        obtain⟨kv,hm,he⟩:=List.any_eq_true.mp ha
        have hv:=h p (List.mem_cons_self ..)
        unfold qBo at hv
        rw [Option.map_eq_none_iff,List.find?_eq_none] at hv
        exact hv kv hm he
      rw [if_neg hn]
    show qEA (putK acc p.1 p.2) r=_
    rw [hp,ih (fun kv hk=>?_) nd.2,List.append_assoc];rfl
    have h1:=h kv (List.mem_cons_of_mem _ hk)
    unfold qBo at h1 ⊢
    rw [Option.map_eq_none_iff,List.find?_eq_none] at h1 ⊢
    intro q hq
    rcases List.mem_append.mp hq with z | z
    · exact h1 q z
    · rw [List.mem_singleton.mp z]
      have:p.1≠kv.1:=fun e=>nd.1 (by rw [e];exact List.mem_map.mpr ⟨kv,hk,rfl⟩)
      simpa using this
theorem qOm {keys:List (Option Expr)} {values:List Expr} {kts:List (Key×TD)} (h:DPK X pos keys values kts) (hall:keys.all (·.isSome)=true) (hl:keys.length=values.length) (h0:keys≠[]) (h15:keys.length≤15) (hk:kts.length≤15) (nd:(kts.map (·.1)).Nodup):DE X (.Dict keys values pos) (qKt kts):=by
  refine PE.imp (qPB h hall hl h0 h15) fun σ H Q q=>?_
  obtain⟨φ,st,ρ,P,pre,ht,hq⟩:=q
  intro a hn kf
  have b0:=qJf (kvs:=[]) (vs:=[]) pre.1 hn kf .nil
  have ht:tvK kts ρ (st++[.dc []]) fun ds st1=>st1[st.length]? = some (.dc [])∧P (.dic st.length) (st1.set st.length (.dc ((kts.map (·.1)).zip ds))):=ht
  refine qMf (pre.on b0) ht fun ds st1 h1 φ1 H1 vs b1 dl hlen=>?_
  have ep:φ1 st.length=a:=by
    rw [b1.2.ext st.length (by simp),qCQ]
  obtain⟨vs0,e0,_,k0⟩:=b1.1.dc h1.1
  rw [k0.qJA,ep] at e0
  have hvl:vs.length=kts.length:=by rw [← dl.length];exact hlen
  have kn:((kts.map (·.1)).zip vs).map (·.1)=kts.map (·.1):=List.map_fst_zip (by rw [List.length_map];omega)
  refine⟨e0,(kts.map (·.1)).zip vs,rfl,by rw [List.length_zip,List.length_map];omega,?_⟩
  rw [qLT (fun kv _=>qNp) (by rw [kn];exact nd),List.nil_append]
  have kd:KD X.K φ1 st1.length H1 ((kts.map (·.1)).zip ds) ((kts.map (·.1)).zip vs):=by
    refine⟨?_,?_⟩
    · rw [kn,List.map_fst_zip (by rw [List.length_map];omega)]
    · rw [List.map_snd_zip (by rw [List.length_map];omega),List.map_snd_zip (by rw [List.length_map];omega)];exact dl
  have bb:=qIc b1.1 h1.1 kd
  rw [ep] at bb
  refine hq _ _ h1.2 φ1 _ _ ((b0.trans b1).trans bb) ?_
  have:=D.qQA (K:=X.K) (φ:=φ1) (H:=upd H1 a (.dK ((kts.map (·.1)).zip vs))) (n:=st.length) (N:=(st1.set st.length (.dc ((kts.map (·.1)).zip ds))).length) (by rw [List.length_set];exact qAX h1.1) (by rw [ep];exact⟨_,qh⟩)
  rw [ep] at this
  exact this
end
end L3
namespace L3
open PySem PySem.Spec PyProof.Rows L2
noncomputable def qB4 (f:Str) (d:Dt):List (Str×Dt)→List (Str×Dt)
  | []=>[(f,d)]
  | (g,x)::r=>if g=f then (g,d)::r else (g,x)::qB4 f d r
def OD (K:W.Frag) (φ:Nat→Addr) (N:Nat) (H:Hp) (fs:List (Str×Dt)) (vs:List (Str×V)):Prop:=fs.map (·.1)=vs.map (·.1)∧DL K φ N H (fs.map (·.2)) (vs.map (·.2))
section
variable {K:W.Frag} {φ:Nat→Addr} {N:Nat} {H:Hp}
theorem OD.qCS {k:Str} {d:Dt} {r:List (Str×Dt)} {vs:List (Str×V)} (h:OD K φ N H ((k,d)::r) vs):∃ v r',vs=(k,v)::r'∧D K φ N H d v∧OD K φ N H r r':=by
  obtain⟨h1,h2⟩:=h
  cases vs with
  | nil=>cases h1
  | cons p r' =>
    obtain⟨k',v⟩:=p
    rw [List.map_cons,List.map_cons] at h1
    injection h1 with e1 e2
    have e1:k=k':=e1
    subst e1
    obtain⟨a,b⟩:=DL.qCS (d:=d) (v:=v) h2
    exact⟨v,r',rfl,a,e2,b⟩
theorem OD.cons {k:Str} {d:Dt} {v:V} {r:List (Str×Dt)} {r':List (Str×V)} (a:D K φ N H d v) (h:OD K φ N H r r'):OD K φ N H ((k,d)::r) ((k,v)::r'):=⟨by rw [List.map_cons,List.map_cons,h.1],.cons a h.2⟩
theorem OD.nil:OD K φ N H [] []:=⟨rfl,.nil⟩
theorem OD.qJA {vs:List (Str×V)} (h:OD K φ N H [] vs):vs=[]:=by
  cases vs with
  | nil=>rfl
  | cons p r=>cases h.1
theorem OD.length {fs:List (Str×Dt)} {vs:List (Str×V)} (h:OD K φ N H fs vs):fs.length=vs.length:=by
  have:=congrArg List.length h.1
  rwa [List.length_map,List.length_map] at this
theorem OD.look:∀ {fs:List (Str×Dt)} {vs:List (Str×V)} (f:Str),OD K φ N H fs vs→(fs.lookup f=none∧vs.lookup f=none)∨∃ d v,fs.lookup f=some d∧vs.lookup f=some v∧D K φ N H d v
  | [],vs,f,h=>by rw [h.qJA];exact .inl ⟨rfl,rfl⟩
  | (k,d)::r,vs,f,h=>by
    obtain⟨v,r',rfl,dv,h'⟩:=h.qCS
    cases e:(f==k) with
    | true=>exact .inr ⟨d,v,by rw [List.lookup_cons,e],by rw [List.lookup_cons,e],dv⟩
    | false =>
      rw [List.lookup_cons,e,List.lookup_cons,e]
      exact h'.look f
theorem OD.put {d:Dt} {v:V} (dv:D K φ N H d v) (f:Str):∀ {fs:List (Str×Dt)} {vs:List (Str×V)},OD K φ N H fs vs→OD K φ N H (qB4 f d fs) (qDC f v vs)
  | [],vs,h=>by rw [h.qJA];exact OD.cons dv .nil
  | (k,d')::r,vs,h=>by
    obtain⟨v',r',rfl,dv',h'⟩:=h.qCS
    unfold qB4 qDC
    by_cases e:k=f
    · rw [if_pos e,if_pos e];exact h'.cons dv
    · rw [if_neg e,if_neg e];exact (OD.put dv f h').cons dv'
theorem Rep.ob {st:Sto} (R:Rep K φ st H) {n:Nat} {C:Str} {fs:List (Str×Dt)} (e:st[n]? = some (.ob C fs)):∃ (c dx:Addr) (vs:List (Str×V)),H (φ n)=some (.ins c dx vs)∧K.lookup (φ n)=none∧W.nsIn K mainGlobals C=some (some (.ref c))∧OD K φ st.length H fs vs:=by
  obtain⟨c,dx,vs,h1,h2,h3,h4,h5⟩:=R.all n _ e
  exact⟨c,dx,vs,h1,h2,h3,h4,h5⟩
theorem qMs {st:Sto} {n:Nat} {C:Str} {fs fs':List (Str×Dt)} {c dx:Addr} {vs vs':List (Str×V)} (R:Rep K φ st H) (e:st[n]? = some (.ob C fs)) (h:H (φ n)=some (.ins c dx vs)) (hd:OD K φ st.length H fs' vs'):Bhd K φ st H φ (st.set n (.ob C fs')) (upd H (φ n) (.ins c dx vs')):=by
  obtain⟨c',dx',vs0,h1,h2,h3,h4⟩:=R.ob e
  rw [h] at h1
  cases h1
  exact⟨R.put e rfl rfl h trivial ⟨c,dx,vs',qh,h2,h3,hd.1,hd.2.evo (qDP (o:=.ob C fs') (w:=.ins c dx vs') (qAX e) h trivial)⟩,qDP (w:=.ins c dx vs') (qAX e) h trivial⟩
end
structure qDt (K:W.Frag) (nm:Str) (flds:List Str):Prop where
  c:∀ c,W.nsIn K mainGlobals nm=some (some (.ref c))→Cls K c∧∀ f∈flds,qEI K c f
section
variable {X:Cx} {o e:Expr} {to te:TD} {pos apos:Pos} {nm f:Str} {flds:List Str}
def qBV (nm:Str) (to:TD) (f:Str):TD:=fun ρ st P=>to ρ st fun x st1=>match x with
  | .ins n=>(match st1[n]? with
    | some (.ob c fs)=>c=nm∧(match fs.lookup f with
      | some d=>P d st1
      | none=>False)
    | _=>False)
  | _=>False
theorem qQ6 (hc:qDt X.K nm flds) (hf:f∈flds) (ho:DE X o to) (hb:attributeBase o f X.env (eval o X.env)=eval o X.env):DE X (.Attribute o f pos) (qBV nm to f):=(qST ho hb).imp fun σ H Q h=>by
  k_dat 0"r1"
  k_dat 0"r19"
  cases x with
  | ins n =>
    have h1:(match st1[n]? with
      | some (.ob c fs)=>c=nm∧(match fs.lookup f with
        | some d=>P d st1
        | none=>False)
      | _=>False):=h1
    split at h1
    · rename_i c fs e1
      obtain⟨ec,h3⟩:=h1
      subst ec
      obtain⟨ca,da,vs,hv,_,hn,hk⟩:=b1.1.ob e1
      rcases hk.look f with ⟨z,_⟩ | ⟨d',v2,z1,z2,dv⟩
      · rw [z] at h3;exact h3.elim
      · rw [z1] at h3
        obtain⟨c1,c2⟩:=hc.c ca hn
        exact⟨φ1 n,ca,da,vs,v2,dx.ins.2,hv,c1,c2 f hf,z2,hq d' st1 h3 φ1 H1 v2 b1 dv⟩
    · exact h1.elim
  | _=>exact h1.elim
noncomputable def qLY (nm:Str) (to:TD) (f:Str):TGD:=fun d ρ st P=>to ρ st fun x st1=>match x with
  | .ins n=>(match st1[n]? with
    | some (.ob c fs)=>c=nm∧fs.length<1000∧P ρ (st1.set n (.ob c (qB4 f d fs)))
    | _=>False)
  | _=>False
theorem qSF {value:Expr} {tv:TD} {pos':Pos} (hc:qDt X.K nm flds) (hf:f∈flds) (ho:DE X o to) (hv:DE X value tv) (hs:swapsWith value (some (.Attribute o f pos')) pos.line X.env=pure false) :
    DS X (.Assign [.Attribute o f pos'] value pos) (qP tv (qLY nm to f)):=(qRN ho hv hs).imp fun E σ H h=>by
  k_dat 0"r17"
  refine⟨φ,st,ρ,_,pre,ht,fun d st1 h1 φ1 H1 v b1 dv=>?_⟩
  refine⟨φ1,st1,ρ,_,pre.on b1,h1,fun x st2 h2 φ2 H2 w b2 dx=>?_⟩
  cases x with
  | ins m =>
    have h2:(match st2[m]? with
      | some (.ob c fs)=>c=nm∧fs.length<1000∧P.nx ρ (st2.set m (.ob c (qB4 f d fs)))
      | _=>False):=h2
    split at h2
    · rename_i c fs e1
      obtain⟨rfl,hl,h2⟩:=h2
      obtain⟨ca,da,vs,hv,_,hn,hk⟩:=b2.1.ob e1
      obtain⟨c1,c2⟩:=hc.c ca hn
      have bb:=qMs b2.1 e1 hv (hk.put (dv.evo b2.2) f)
      exact⟨φ2 m,ca,da,vs,dx.ins.2,hv,c1,c2 f hf,by rw [← hk.length];exact hl,n _ _ h2 φ2 _ _ ((b1.trans b2).trans bb) ((pre.on ((b1.trans b2).trans bb)).2)⟩
    · exact h2.elim
  | _=>exact h2.elim
structure qCT (P:Program) (w:World) (K:W.Frag) (mg:Str→Option Value) (base:Heap) (nm m:Str) (k:Nat) (sp:RDL):Prop where
  ex:∃ C f fd ps,W.nsIn K mainGlobals nm=some (some (.ref C))∧Cls K C∧Meth K C m f∧qw P w K mg base CX0 k f fd ps (qS K sp)∧Binds K fd ps []
def qAr (nm m:Str) (sp:RDL) (to:TD) (t:TAD):TD:=fun ρ st P=>to ρ st fun x st1=>match x with
  | .ins n=>(match st1[n]? with
    | some (.ob c fs)=>c=nm∧fs.lookup m=none∧t ρ st1 fun ds st2=>sp (.ins n::ds) st2 P
    | _=>False)
  | _=>False
theorem qLa {C:Addr} {nm m:Str} {sp:RDL} {to:TD} {t:TAD} {σ:L2.St} {H:Hp} {Q:VK} (hn:W.nsIn X.K mainGlobals nm=some (some (.ref C))) (h:qAd X.K (qAr nm m sp to t) σ H Q):qP5 C m (qS X.K sp) [] E0 (qAd X.K to) (qLG X.K t) σ H Q:=by
  k_dat 0"r1"
  k_dat 0"r19"
  cases x with
  | ins n =>
    have h1:(match st1[n]? with
      | some (.ob c fs)=>c=nm∧fs.lookup m=none∧t ρ st1 fun ds st2=>sp (.ins n::ds) st2 P
      | _=>False):=h1
    split at h1
    · rename_i c fs e1
      obtain⟨rfl,hl,h1⟩:=h1
      obtain⟨ca,da,vs,hv,_,hn',hk⟩:=b1.1.ob e1
      rw [hn] at hn'
      cases hn'
      refine⟨φ1 n,da,vs,dx.ins.2,hv,?_,φ1,st1,ρ,_,pre.on b1,h1,fun ds st2 h2 φ2 H2 us b2 dl=>?_⟩
      · rcases hk.look m with ⟨_,z⟩ | ⟨d',v2,z1,_,_⟩
        · exact z
        · rw [hl] at z1;cases z1
      · show qS X.K sp (v::(us++[])) H2 Q E0
        rw [List.append_nil]
        exact⟨φ2,st2,.ins n::ds,P,b2.1,.cons (dx.evo b2.2) dl,h2,fun d st' hp φ' H' u b d'=>hq d st' hp φ' H' u ((b1.trans b2).trans b) d'⟩
    · exact h1.elim
  | _=>exact h1.elim
theorem qPN {k:Nat} {m:Str} {sp:RDL} {es:List Expr} {t:TAD} {pl:Sem Bool} (F:qCT X.prog X.w X.K X.mg X.base nm m k sp) (hr:qAt k X.A) (ho:DE X o to) (ha:DA X (e::es) t)
    (hst:starEach (e::es) X.env=(false,eval e X.env)::starEach es X.env) (hpl:(backTo pos (starEach es X.env)).any (·.1)=false)
    (ht:eval (.Call (.Attribute o m apos) (e::es) [] pos) X.env=(do
      let ov ← eval o X.env
      standAt apos.atName
      let (f,first) ← holding [ov] (getMethod ov m pl)
      callWith pos f first (backTo pos (starEach (e::es) X.env)) (backToKw pos (keywordEach [] X.env)))):DE X (.Call (.Attribute o m apos) (e::es) [] pos) (qAr nm m sp to t):=by
  obtain⟨C,f,fd,ps,h1,h2,h3,h4,h5⟩:=F.ex
  exact (qPG ho h2 h3 h4 hr h5 .nil qOC ha hst hpl ht).imp fun σ H Q h=>qLa h1 h
structure qJm (P:Program) (w:World) (K:W.Frag) (mg:Str→Option Value) (base:Heap) (nm:Str) (k:Nat) (sp:RDL):Prop where
  ex:∃ C f fd ps,W.nsIn K mainGlobals nm=some (some (.ref C))∧mg nm=some (.ref C)∧Mk K C f∧qw P w K mg base CX0 k f fd ps (qS K sp)∧Binds K fd ps []
def qKy (nm:Str) (sp:RDL) (t:TAD):TD:=fun ρ st P=>t ρ st fun ds st1=>sp (.ins st1.length::ds) (st1++[.ob nm []]) fun d st2=>d = .non∧P (.ins st1.length) st2
theorem qME {C:Addr} {sp:RDL} {t:TAD} {σ:L2.St} {H:Hp} {Q:VK} (hn:W.nsIn X.K mainGlobals nm=some (some (.ref C))) (h:qAd X.K (qKy nm sp t) σ H Q):qP6 X.K C (qS X.K sp) [] E0 (qLG X.K t) σ H Q:=by
  k_dat 0"r1"
  refine⟨φ,st,ρ,_,pre,ht,fun ds st1 h1 φ1 H1 us b1 dl=>?_⟩
  intro x dx hx hdx hne hk
  show qS X.K sp (.ref x::(us++[])) _ _ E0
  rw [List.append_nil]
  have b2:=qBL (o:=.own x) b1.1 hdx
  have hx2:upd H1 dx (.own x) x=none:=by rw [qQ (Ne.symm hne)];exact hx
  have b3:Bhd X.K φ1 st1 (upd H1 dx (.own x)) (qAk φ1 st1.length x) (st1++[.ob nm []]) (upd (upd H1 dx (.own x)) x (.ins C dx [])) :=
    ⟨b2.1.add hx2 ⟨C,dx,[],qh,hk,hn,rfl,.nil⟩,qDm hx2⟩
  have b:=(b2.trans b3)
  have dn:D X.K (qAk φ1 st1.length x) (st1++[SO.ob nm []]).length (upd (upd H1 dx (.own x)) x (.ins C dx [])) (.ins st1.length) (.ref x):=by
    have:=D.qSt (K:=X.K) (φ:=qAk φ1 st1.length x) (H:=upd (upd H1 dx (.own x)) x (.ins C dx [])) (n:=st1.length) (N:=(st1++[SO.ob nm []]).length) (by simp) (by rw [qCQ];exact⟨C,dx,[],qh⟩)
    rw [qCQ] at this
    exact this
  refine⟨_,_,.ins st1.length::ds,_,b.1,.cons dn (dl.evo b.2),h1,fun d st' hp φ' H' u bb dd=>?_⟩
  obtain⟨rfl,hp⟩:=hp
  refine⟨dd.non,hq _ st' hp φ' H' _ ((b1.trans b).trans bb) ?_⟩
  have:=dn.evo bb.2
  exact this
end
end L3
namespace L3
open PySem PySem.Spec PyProof.Rows L2
end L3
namespace L3
open PySem PySem.Spec PyProof.Rows L2
noncomputable def qCG (P:Params):List DictEntry→List (Str×Str)→Prop
  | [],[]=>True
  | e::r,kv::q=>(∃ t u,e.key = .str kv.1 t∧e.val = .str kv.2 u∧e.hash=PyData.keyHash P kv.1)∧qCG P r q
  | _,_=>False
theorem qCG.lit {P:Params}:∀ {l:List DictEntry} {kvs:List (Str×Str)},qCG P l kvs→W.KeysLit P l
  | [],[],_=>trivial
  | _::_,_::_,⟨⟨t,_,h1,_,h3⟩,r⟩=>⟨⟨_,t,h1,h3⟩,r.lit⟩
  | [],_::_,h=>h.elim
  | _::_,[],h=>h.elim
theorem qCG.find {P:Params} (y:Str):∀ {l:List DictEntry} {kvs:List (Str×Str)},qCG P l kvs→(kvs.lookup y=none∧(l.find? fun e=>Value.isStrOf y e.key).map (·.val)=none)∨∃ z u,kvs.lookup y=some z∧(l.find? fun e=>Value.isStrOf y e.key).map (·.val)=some (.str z u)
  | [],[],_=>.inl ⟨rfl,rfl⟩
  | e :: r,(k,v)::q,⟨⟨t,u,h1,h2,h3⟩,hr⟩=>by
    have ih:=qCG.find y hr
    have hk:Value.isStrOf y e.key=(k==y):=by rw [h1];rfl
    rw [List.find?_cons,hk,List.lookup_cons]
    have hs:(y==k)=(k==y):=by
      by_cases q:y=k
      · subst q;rfl
      · rw [beq_eq_false_iff_ne.mpr q,beq_eq_false_iff_ne.mpr (Ne.symm q)]
    rw [hs]
    cases k==y with
    | true=>exact .inr ⟨v,u,rfl,by rw [Option.map_some,h2]⟩
    | false=>exact ih
  | [],_::_,h=>h.elim
  | _::_,[],h=>h.elim
structure TopD (w:World) (K:W.Frag) (mg:Str→Option Value) (x:Str) (kvs:List (Str×Str)):Prop where
  ex:∃ a es n,mg x=some (.ref a)∧K.lookup a=some ⟨.type "dict",none,.dict es n,#[]⟩∧(a==sysModules)=false∧qCG w.params es.toList kvs
def qHu (kvs:List (Str×Str)) (ti:TD):TD:=fun ρ st P=>ti ρ st fun y st1=>match y with
  | .str z=>(match kvs.lookup z with
    | some v=>P (.str v) st1
    | none=>False)
  | _=>False
section
variable {X:Cx} {i:Expr} {ti:TD} {pos p:Pos} {x:Str} {kvs:List (Str×Str)}
theorem qMP (T:TopD X.w X.K X.mg x kvs) (hi:DE X i ti) (hg:Gl X x) (hd:(x==("__debug__" : Str))=false) (hs:qOy i):DE X (.Subscript (.Name x p) i pos) (qHu kvs ti):=by
  obtain⟨a,es,n,hm,hl,hy,he⟩:=T.ex
  k_dat 0"r2"
  k_dat 0"r1"
  refine qKu PySem.F.slot_dict_getitem.lookup hs (qEj I hg hm ?_ hd)
  refine thn (hi pins s σ H (fun v H'=>∃ z u,v = .str z∧kvs.lookup z=some u∧Q (.str u) H') I ⟨φ,st,ρ,_,pre,ht,fun y st1 h1 φ1 H1 v b1 dy=>?_⟩) fun iv s2 ⟨y,H2,I2,ry,z,u,ey,hu,q2⟩=>?_
  · cases y with
    | str z =>
      cases dy.str
      dsimp only at h1
      split at h1
      · rename_i v' e1
        exact⟨z,v',rfl,e1,hq _ _ h1 _ _ _ b1 D.mkStr⟩
      · exact h1.elim
    | _=>exact h1.elim
  · subst ey
    obtain⟨t,rfl⟩:=ry
    have hmap:=W.mapOf_K (prog:=X.prog) I2.kIn hl he.lit
    refine⟨hmap.typeIs,?_⟩
    rcases he.find z with ⟨e1,_⟩ | ⟨z',u',e1,e2⟩
    · rw [hu] at e1;cases e1
    · rw [hu] at e1
      cases e1
      refine wpAny_getItem_of (strKind_is X.prog X.w z t) hmap (v:=.str u u') ?_ ⟨.str u,H2,I2.tok _,⟨u',rfl⟩,q2⟩
      obtain⟨l⟩:=es
      unfold findBy
      rw [List.find?_toArray]
      exact e2
end
end L3
namespace HT
open PySem PySem.Spec PyProof.Rows
section
variable {prog:Program} {w:World} {A:Around} {E:Value→Shared→Prop} {s:Shared}
theorem qFg {it t:Addr} {i:Nat} {items:Array Value} {x:Value} {Q:Value→Shared→Prop} (hit:IsTupIter s.heap it t i) (ht:IsTup s.heap t items) (hx:items[i]? = some x)
    (hQ:∀ h',IsTupIter h' it t (i+1)→Heap.SameBut it s.heap h'→Q x { s with heap:=h' }):wpAny (model prog w) A (Builtin.SmallTypes.nextOf (.ref it)) Q E s:=by
  obtain⟨o,ho,hc,hd⟩:=id hit;obtain⟨ol,hol,_,nl,hdl⟩:=ht
  k_dat 0"r97"
  k_dat 0"r98"
  k_dat 0"r99"
  k_dat 0"r100"
  k_dat 0"r101"
  refine wpAny_bind (wpAny_setField ho hd (by simp) (wpAny_pure ⟨x,rfl,wpAny_pure (hQ _ ⟨_,Heap.get?_update_self _ ho (Obj.isFreed_of_fields (Obj.data_mapFields hd _)),(Obj.cls_mapFields ..).trans hc,by rw [Obj.data_mapFields hd];simp [rawInt]⟩ (Heap.SameBut.update ..))⟩))
theorem qDE {it t:Addr} {i:Nat} {items:Array Value} {Q:Value→Shared→Prop} (hh:A.handled=none) (hit:IsTupIter s.heap it t i) (ht:IsTup s.heap t items) (hx:items[i]? = none)
    (hE:∀ h' e,Heap.ExtBut it s.heap h'→(∃ o,h'.get? e=some o∧o.cls = .type "StopIteration")→E (.ref e) { s with heap:=h' }):wpAny (model prog w) A (Builtin.SmallTypes.nextOf (.ref it)) Q E s:=by
  obtain⟨o,ho,hc,hd⟩:=id hit;obtain⟨ol,hol,_,nl,hdl⟩:=ht
  k_dat 0"r97"
  k_dat 0"r98"
  k_dat 0"r99"
  k_dat 0"r100"
  k_dat 0"r101"
  refine wpAny_bind (wpAny_rule (wpAny_bind (wpAny_setField ho hd (by simp) ?_)));show wpAny _ _ (newExc (.type "StopIteration") [] >>= _) _ _ _
  refine wpAny_bind ?_;simp only [newExc,newTuple]
  refine wpAny_bind (wpAny_newObj_type ?_ (by size_fits));refine wpAny_bind (m:=firstArgMember _ _) (wpAny_of_eq (a:=Value.none) (by first | rfl | (simp only [firstArgMember];rfl)) ?_)
  refine wpAny_newObj_type ?_ (by size_fits);simp only [raiseNew];refine wpAny_bind (wpAny_handled ?_)
  first | rw [show A.in1.handled=none from hh] | rw [hh]
  refine wpAny_bind (wpAny_pure (wpAny_throw ?_));exact hE _ _ (((Heap.SameBut.update ..).extBut.push _).push _) ⟨_,Heap.get?_push_size _ rfl,rfl⟩
theorem qBT (hh:A.handled=none) (it t:Addr) (hne:t≠it) (items:Array Value):Draws prog w A it [it,t] items.size (fun i v=>items[i]? = some v) (fun i h=>IsTupIter h it t i∧IsTup h t items) where
  live:=fun _ _ st=>let ⟨o,ho,_⟩:=st.1;⟨o,ho⟩
  frame:=fun _ _ _ st hk=>⟨let ⟨o,ho,r⟩:=st.1;⟨o,hk it (by simp) _ ho,r⟩,let ⟨o,ho,r⟩:=st.2;⟨o,hk t (by simp) _ ho,r⟩⟩
  item:=fun i s Q E hi st hQ=>by
    refine qFg st.1 st.2 (x:=items[i]) (by simp [hi]) fun h' hit' hs'=>hQ _ h' s.toks (by simp [hi]) ⟨hit',?_⟩ hs'
    obtain⟨o,ho,r⟩:=st.2
    exact⟨o,hs'.extBut t o hne ho,r⟩
  done:=fun s Q E st hE=>qDE hh st.1 st.2 (by simp) hE
end
end HT
namespace L3
open PySem PySem.Spec PyProof.Rows L2
theorem qCA {h h':Heap} {a t:Addr} {i:Nat} (x:IsTupIter h a t i) (e:∀ o,h.get? a=some o→h'.get? a=some o):IsTupIter h' a t i:=let ⟨o,ho,r⟩:=x;⟨o,e _ ho,r⟩
end L3
namespace L3
open PySem PySem.Spec PyProof.Rows L2
end L3
namespace L3
open PySem PySem.Spec PyProof.Rows L2
end L3
namespace L3
open PySem PySem.Spec PyProof.Rows L2
noncomputable def qBv (z:Str):List Dt:=z.cps.toList.map fun c=>.str ⟨#[c]⟩
end L3
namespace HT
open PySem PySem.Spec PyProof.Rows
section
variable {prog:Program} {w:World} {A:Around} {E:Value→Shared→Prop} {s:Shared}
theorem qGZ {T newId:String} {self:Value} {rest:List Value} {kw:List (Str×Value)} (h1:typeLookup (.type T) (Str.ofString "__init__")=pure (some (.builtin "object.__init__"))) (h2:Bind.madeBy (.type T)=pure (some newId)) (h3:(some newId != some "object.__new__")=true)
    {Q:Fin→Shared→Prop} (hT:s.TypeIs self T) (hQ:Q (.done (.ret .none)) s):wpAny (model prog w) A (Builtin.«object.__init__» { pos:=self::rest,kw:=kw }) Q E s:=by
  unfold Builtin.«object.__init__»
  simp only []
  split
  · refine wpAny_bind (wpAny_typeOf hT ?_)
    refine wpAny_bind (wpAny_of_eq h1 ?_)
    refine wpAny_bind (wpAny_of_eq h2 ?_)
    rw [if_neg (by simp)]
    rw [if_neg (by rw [h3];simp)]
    exact wpAny_pure hQ
  · exact wpAny_pure hQ
theorem qJc {T newId:String} {Bn:Builtin} {args:List Value} {kw:List (Str×Value)} {S:PySem.Spec} {Q:Value→Shared→Prop} (F:TypeCalled T newId "object.__init__") (hne:(some newId != some "object.__new__")=true)
    (h1:checkTypeCall T { pos:=args,kw:=kw }=pure ()) (h2:checkBuiltinCall newId { pos:=.type T::args,kw:=kw }=pure ()) (h3:∀ obj,argsOk "object.__init__" { pos:=obj::args,kw:=kw })
    (he:entryFor table newId=some Bn) (hm:Meets (Bn { pos:=.type T::args,kw:=kw }) S) (h:S A.in1 (wants (fun obj s₁=>s₁.TypeIs obj T∧Q obj s₁) E) s):wpAny (model prog w) A (call (.type T) args kw) Q E s:=by
  refine wpAny_call (codeAny_of_tree ?_)
  show wpAny _ _ (callAny (.type T) { pos:=args,kw:=kw }) _ _ s
  refine wpAny_pure ⟨Code.quiet_builtin _ (by decide +kernel),?_⟩
  refine codeAny_builtin PySem.F.entry_type_call ?_
  rw [Around.under_plain (weight_type_call_type T args kw) rfl]
  unfold Builtin.«type.__call__»
  simp only []
  rw [if_neg (by rw [F.notType];exact Bool.false_ne_true)]
  rw [if_neg (by rw [F.canCreate];exact Bool.false_ne_true)]
  refine wpAny_bind (wpAny_of_eq h1 ?_)
  obtain⟨c,tl,hmro⟩:=F.mro
  refine wpAny_bind (wpAny_of_eq hmro ?_)
  rw [if_neg (by simp)]
  refine wpAny_bind (wpAny_of_eq F.made ?_)
  k_dat 0"r30"
  refine wpAny_bind (wpAny_holding (wpAny_call (codeAny_mono (codeAny_call_builtin F.plain he (wpAny_of_eq h2 (hm prog w A.in1 _ s h))) fun r s1 hq=>?_)))
  cases r with
  | error e=>exact hq
  | ok f =>
    cases f with
    | ret v =>
      obtain⟨hT,hq⟩:=hq
      show wpAny _ _ _ _ _ s1
      refine wpAny_bind (wpAny_isInstance hT F.sub ?_)
      rw [if_neg (by simp)]
      refine wpAny_bind (wpAny_holding ?_)
      unfold callSpecial?
      refine wpAny_bind (wpAny_specialOf hT F.init.lookup ?_)
      simp only []
      refine wpAny_holding (wpAny_bind (wpAny_of_eq (F.init.bind v) ?_))
      refine wpAny_bind (wpAny_call (codeAny_call_builtin F.init.plain PySem.F.entry_object_init (F.init.check _ _ _ _ _ _ _ _ hT (h3 v) ?_)))
      refine qGZ F.init.lookup F.made hne hT ?_
      refine wpAny_pure ?_
      show wpAny _ _ (if (Value.none != Value.none)=true then _ else _) _ _ _
      rw [if_neg (by simp)]
      exact wpAny_pure hq
    | next=>exact False.elim hq
    | brk=>exact False.elim hq
    | cont=>exact False.elim hq
noncomputable def qJw:Manifest.Signature:=⟨.hand, "enumerate.__new__", "__new__",.cls,[]⟩
theorem qPZ:Manifest.signature? "enumerate.__new__" = some qJw:=rfl
theorem qMv (a:Value) (x:Str) (v:Value):Bind.checkArgs "enumerate.__new__" qJw { pos:=[.type "enumerate",a],kw:=[(x,v)] }=pure ():=by rfl
theorem qNl (a:Value):Bind.checkArgs "enumerate.__new__" qJw { pos:=[.type "enumerate",a],kw:=[] }=pure ():=by rfl
theorem qLW (a:Value) (x:Str) (v:Value):checkBuiltinCall "enumerate.__new__" { pos:=[.type "enumerate",a],kw:=[(x,v)] }=pure ():=by
  have h:=PySem.F.newCall_enumerate_1 a
  unfold checkBuiltinCall at h ⊢
  rw [qPZ] at h ⊢
  simp only [qNl a] at h
  simp only [qMv a x v]
  exact h
end
theorem qIH (l:Addr) (items:Array Value) (n:Nat) (dct:Option Addr) (sl:Array (Option Value)) (t:Tok) :
    Meets (Builtin.«enumerate.__new__» ⟨[.type "enumerate",.ref l],[(Str.ofString "start",.int 1 t)]⟩) (fun _ R s=>s.heap.get? l=some { cls:=.type "tuple",dict:=dct,data:=.seq items n,slots:=sl } ∧
      R (.ok (.ret (.ref (s.heap.push { cls:=.type "tuple_iterator",data:=.fields #[.ref l,.int 0 0] }).objs.size)))
        { s with heap:=(s.heap.push { cls:=.type "tuple_iterator",data:=.fields #[.ref l,.int 0 0] }).push { cls:=.type "enumerate",data:=.fields #[.none,.bool false,.ref s.heap.objs.size,rawInt 1,.none,.none] } }) :=
  .of_wp fun prog w A R s h=>by
    k_dat 0"r43"
    have hsub:=sub_enumerate
    have hT:IsTup (Shared.heap ⟨hp,g,d,tk,os⟩) l items:=⟨_,hl,rfl,n,rfl⟩
    wp_walk using AutoSeq1.wpAny_loadPart' hl
    refine wpAny_stack_any fun st=>wpAny_pure ?_
    split
    · rename_i c _ _ _ _ _
      cases (c==Value.type "enumerate")
      · wp_walk using AutoSeq1.wpAny_loadPart' hl,iter_tuple hT
        exact⟨_,rfl,h⟩
      · wp_walk using AutoSeq1.wpAny_loadPart' hl,iter_tuple hT
        exact⟨_,rfl,h⟩
    · wp_walk using AutoSeq1.wpAny_loadPart' hl,iter_tuple hT
      exact⟨_,rfl,h⟩
section
variable {prog:Program} {w:World} {A:Around} {E:Value→Shared→Prop} {s:Shared}
theorem qIq {l:Addr} {items:Array Value} {t:Tok} {Q:Value→Shared→Prop} (hT:IsTup s.heap l items)
    (h:∀ h',IsEnum h' (s.heap.objs.size+1) s.heap.objs.size 1 .none→IsTupIter h' s.heap.objs.size l 0→h'.objs.size=s.heap.objs.size+2→(∀ b o,s.heap.get? b=some o→h'.get? b=some o)→Q (.ref (s.heap.objs.size+1)) { s with heap:=h' }) :
    wpAny (model prog w) A (call (.type "enumerate") [.ref l] [(Str.ofString "start",.int 1 t)]) Q E s:=by
  obtain⟨⟨c,dct,dt,sl⟩,hl,hc,n,hd⟩:=hT
  replace hc:c = .type "tuple":=hc
  replace hd:dt = .seq items n:=hd
  subst hc hd
  refine qJc F.called_enumerate (by decide) (by rfl) (qLW _ _ _) (fun obj=>by rfl) F.entry_enumerate_new (qIH l items n dct sl t) ⟨hl,?_⟩
  have hz:(s.heap.push { cls:=.type "tuple_iterator",data:=.fields #[.ref l,.int 0 0] }).objs.size=s.heap.objs.size+1:=Heap.size_push ..
  show _∧_
  rw [hz]
  have he:IsEnum ((s.heap.push { cls:=.type "tuple_iterator",data:=.fields #[.ref l,.int 0 0] }).push { cls:=.type "enumerate",data:=.fields #[.none,.bool false,.ref s.heap.objs.size,rawInt 1,.none,.none] }) (s.heap.objs.size+1) s.heap.objs.size 1 .none:=by
    have q:=Heap.get?_push_size (s.heap.push { cls:=.type "tuple_iterator",data:=.fields #[.ref l,.int 0 0] }) (o:={ cls:=.type "enumerate",data:=.fields #[.none,.bool false,.ref s.heap.objs.size,rawInt 1,.none,.none] }) rfl
    rw [hz] at q;exact q
  exact⟨⟨_,he,rfl⟩,h _ he ⟨_,Heap.get?_push_of_some _ (Heap.get?_push_size _ rfl),rfl,rfl⟩ (by rw [Heap.size_push,hz]) fun b o x=>Heap.get?_push_of_some _ (Heap.get?_push_of_some _ x)⟩
end
end HT
namespace L3
open PySem PySem.Spec PyProof.Rows L2
theorem qJD {prog : Program} {w : World} {A :         Around} {it:Addr} {fp:List Addr} {n:Nat} {P:Nat→Value→Prop} {St:Nat→Heap→Prop} (h:Draws prog w A it fp n P St) :
    Draws prog w A it fp (n+1) (fun i v=>∃ j,i=j+1∧P j v) (fun i hp=>∃ j,i=j+1∧St j hp) where
  live:=fun i hp ⟨j,_,st⟩=>h.live j hp st
  frame:=fun i hp hp' ⟨j,e,st⟩ hk=>⟨j,e,h.frame j hp hp' st hk⟩
  item:=fun i s Q E hi ⟨j,e,st⟩ hQ=>h.item j s Q E (by omega) st fun x h' tk hp st' sb=>hQ x h' tk ⟨j,e,hp⟩ ⟨j+1,by omega,st'⟩ sb
  done := fun s Q E ⟨j, e, st⟩ hE => h.done s Q E (by have:n=j:=by omega
                                                      subst this;exact st) hE
theorem qKE {prog:Program} {w:World} {A:Around} {E:Value→Shared→Prop} {s:Shared} {e it t:Addr} {i:Nat} {old:Value} {items:Array Value} {Q:Option Value→Shared→Prop} (hh:A.handled=none) {z:Int} (he:IsEnum s.heap e it z old) (hit:IsTupIter s.heap it t i) (ht:IsTup s.heap t items) (hne:t≠it) (hn:items.size≤i)
    (hQ:∀ h',Heap.ExtBut it s.heap h'→Q none { s with heap:=h' }):wpAny (model prog w) A (pyNext (.ref e)) Q E s:=by
  have hT:s.TypeIs (.ref e) "enumerate":=⟨_,he,rfl⟩
  unfold pyNext
  refine wpAny_bind (wpAny_attempt (wpAny_callSpecial?_slot (name:=Str.ofString "__next__") hT F.slot_enumerate_next (wpAny_call_entry F.slot_enumerate_next hT F.entry_enumerate_next ?_ (F.args_enumerate_next_1 _))))
  show wpAny _ _ (field (.ref e) 2 >>= _) _ _ _
  refine wpAny_bind (wpAny_field he rfl (x:=.ref it) rfl (wpAny_bind (HT.qDE (A:=A.in1) hh hit ht (by simp;omega) fun h' x he' hx'=>?_)))
  obtain⟨o,ho,hc⟩:=hx'
  exact wpAny_bind (wpAny_isInstance (T:= "StopIteration") (b:=true) ⟨o,ho,hc⟩ isSubtype_stop (wpAny_pure (hQ _ he')))
noncomputable def qSc (K:W.Frag) (a:Addr):It :=
  ⟨fun i H=>∃ xs x,SqT K H a xs∧xs[i]? = some x,fun i H x H'=>∃ p v,H p=none∧H'=upd H p (.tup [.int ((i+1:Nat):Int),v])∧x = .ref p∧∀ xs,SqT K H a xs→xs[i]? = some v,fun i H=>∃ xs,SqT K H a xs∧xs.length≤i⟩
theorem qIa {P:Program} {w:World} {K:W.Frag} {elts:List Expr} {x1} {pos:Pos} (a e it:Addr) (hei:e≠it) :
    Turn P w K (.Tuple elts x1 pos) (qSc K a) [e,it] e (fun i h=>(∃ old,IsEnum h e it ((i+1:Nat):Int) old)∧IsTupIter h it a i) where
  mem:=by simp
  obj :=fun i h st b hb=>by
    obtain⟨⟨old,he⟩,o,ho,hc,hd⟩:=st
    rcases List.mem_cons.mp hb with rfl | hb
    · exact⟨_,he,fun v z=>by
        have z':Data.fields _=Data.cell v:=z
        cases z'⟩
    · have:b=it:=by simpa using hb
      subst this
      exact⟨o,ho,fun v z=>by rw [hd] at z;cases z⟩
  keep:=fun i h h' st k=>by
    obtain⟨⟨old,he⟩,hit⟩:=st
    exact⟨⟨old,k e (by simp) _ he⟩,qCA hit fun o x=>k it (by simp) o x⟩
  item := by
    k_dat 0"r16"
    subst hP hw hK
    obtain⟨⟨old,he⟩,hit⟩:=st
    obtain⟨xs,x,hq,hx⟩:=hg
    obtain⟨its,rv,p,hz⟩:=I.tuple hq
    obtain⟨u,hu,ru⟩:=rv.get hx
    obtain⟨e0,e1,e2,e3,e4,e5⟩:=hf e (by simp)
    obtain⟨i0,i1,i2,i3,i4,i5⟩:=hf it (by simp)
    have hit0:=hit
    have hai:a≠it:=fun z=>by
      obtain⟨o1,q1,q2,q3⟩:=hit
      obtain⟨o2,q4,q5,q6⟩:=p
      rw [z,q1] at q4;cases q4;rw [q2] at q5;injection q5 with q7;exact absurd q7 (by decide)
    have hea:e≠a:=fun z=>by
      obtain⟨o2,q4,q5,q6⟩:=p
      rw [← z,he] at q4;cases q4;injection q5 with q7;exact absurd q7 (by decide)
    refine wpAny_pyNext_enum_itemD (i:=i+1) (qJD (HT.qBT (A:=X.A.in1) (I.ok.hd hc) it a hai its.toArray)) he ⟨i,rfl,hit,p⟩ (by have:=(Array.getElem?_eq_some_iff.mp (show its.toArray[i]? = some u by simpa using hu));exact Nat.succ_lt_succ this.1) hei (by simp;exact⟨hei,hea⟩) fun x0 h' tk hx0 ho hst' hT hsz hk=>?_
    have hxu:x0=u:=by
      k_dat 0"r75"
      obtain⟨j0,ej0,hx0⟩:=hx0
      have ej0:i=j0:=by omega
      subst ej0
      have hx0:its.toArray[i]? = some x0:=hx0
      rw [q] at hx0;exact (Option.some.inj hx0).symm
    subst hxu
    obtain⟨j1,ej1,hit',hp'⟩:=hst'
    have ej1:j1=i+1:=by omega
    subst ej1
    refine⟨_,rfl,wpAny_letOwnedTupleGo_enum (s:={ s with heap:=h',toks:=tk+1 }) ho fun h2 he2 hs2=>?_⟩
    have hT2:h2.get? s.heap.objs.size=some { cls:=.type "tuple",data:=.seq #[.int ((i+1:Nat):Int) tk,x0] }:=(hs2.2 _ (Ne.symm (qBn (Heap.lt_size he) (Nat.le_refl _)))).trans hT
    have hk2:∀ b o,b≠e→b≠it→s.heap.get? b=some o→h2.get? b=some o:=fun b o hb hb2 q=>(hs2.2 b hb).trans (hk b o hb hb2 q)
    have hp:H s.heap.objs.size=none:=I.hok.fresh (Nat.le_refl _)
    have nt:∀ b v,H b=some v→b≠e∧b≠it:=fun b v q=>⟨fun z=>(by rw [z,e0] at q;cases q),fun z=>(by rw [z,i0] at q;cases q)⟩
    refine⟨.ref s.heap.objs.size,upd H s.heap.objs.size (.tup [.int ((i+1:Nat):Int),x]),?_,rfl,⟨_,x,hp,rfl,rfl,fun ys hy=>by rw [I.qBu hy hq];exact hx⟩,⟨⟨x0,by simpa using he2⟩,qCA hit' fun o y=>(hs2.2 it hei.symm).trans y⟩,fun b hb=>?_⟩
    · show Inv X pins σ _ { s with heap:=h2,gens:=s.gens,drawn:=s.drawn,toks:=tk+1 }
      refine Inv.step (s:=s) (h':=h2) (g':=s.gens) (d':=s.drawn) (t':=tk+1) (ch:=[e,it]) I (fun b hb=>?_) (fun b o _ _ hc q _=>hk2 b o (fun z=>hc (by simp [z])) (fun z=>hc (by simp [z])) q) (fun b o _ _ hc q _=>⟨o.slots,hk2 b o (fun z=>hc (by simp [z])) (fun z=>hc (by simp [z])) q⟩)
        (fun b o _ q n=>by rw [qQ (qBn (Heap.lt_size q) (Nat.le_refl _))];exact n) (fun b o hc q=>⟨o,hk2 b o (fun z=>hc (by simp [z])) (fun z=>hc (by simp [z])) q⟩)
        (fun b ys q=>by rw [qQ (qX q hp)];exact q) (fun b o v q=>by rw [qQ (qX q hp)];exact q) (fun b ps q=>⟨#[],by rw [qQ (qX q hp),q];simp⟩) (fun m hm=>?_) (fun b v q=>?_) I.bare
      · rcases List.mem_cons.mp hb with rfl | hb
        · exact⟨e3,e1,e4,e5⟩
        · have:b=it:=by simpa using hb
          subst this
          exact⟨i3,i1,i4,i5⟩
      · k_dat 0"r26"
        exact⟨o,es,ep,hk2 _ o (Ne.symm e1) (Ne.symm i1) ho,r⟩
      · by_cases hb:b=s.heap.objs.size
        · subst hb
          rw [qh] at q
          cases q
          refine⟨by show 2≤sizeLine;decide,[.int ((i+1:Nat):Int) tk,x0],.cons ⟨_,rfl⟩ (.cons ru .nil),⟨_,hT2,rfl,0,rfl⟩⟩
        · rw [qQ hb] at q
          refine (I.hok b v q).stay (fun c o hc y=>?_) (fun c y=>by rw [qQ (qX y hp)];exact y) fun c ys y=>by rw [qQ (qX y hp)];exact y
          rcases hc with rfl | hc
          · exact hk2 c o (nt c v q).1 (nt c v q).2 y
          · exact hk2 c o (nt c _ hc).1 (nt c _ hc).2 y
    · have hlt:b<s.heap.objs.size:=by
        rcases List.mem_cons.mp hb with rfl | hb
        · exact Heap.lt_size he
        · have:b=it:=by simpa using hb
          subst this
          obtain⟨o,ho,_⟩:=hit
          exact Heap.lt_size ho
      rw [qQ (qBn hlt (Nat.le_refl _))]
      exact (hf b hb).1
  done:=by
    k_dat 0"r16"
    subst hP hw hK
    obtain⟨⟨old,he⟩,hit⟩:=st
    obtain⟨xs,hq,hx⟩:=hg
    obtain⟨its,rv,p,hz⟩:=I.tuple hq
    obtain⟨i0,i1,i2,i3,i4,i5⟩:=hf it (by simp)
    have hl:=rv.length
    have hai:a≠it:=fun z=>by
      obtain⟨o1,q1,q2,q3⟩:=hit
      obtain⟨o2,q4,q5,q6⟩:=p
      rw [z,q1] at q4;cases q4;rw [q2] at q5;injection q5 with q7;exact absurd q7 (by decide)
    exact qKE (I.ok.hd hc) he hit p hai (by simp;omega) fun h' eb=>⟨rfl,I.turned (t':=s.toks) (fun b o hb e=>eb b o hb e) i0 i1 i3 i4 i5⟩
  self:=fun _ _ _ _ _ st h=>by
    obtain⟨⟨old,he⟩,_⟩:=st
    exact wpAny_pyIter_enum he h
noncomputable def IteL1 (K:W.Frag) (a:Addr):It :=
  ⟨fun i H=>∃ xs x,SqL K H a xs∧xs[i]? = some x,fun i H x H'=>∃ p v,H p=none∧H'=upd H p (.tup [.int ((i+1:Nat):Int),v])∧x = .ref p∧∀ xs,SqL K H a xs→xs[i]? = some v,fun i H=>∃ xs,SqL K H a xs∧xs.length≤i⟩
theorem qGR {M:Model} {A:Around} {E:Value→Shared→Prop} {s:Shared} {pos:Pos} {T:String} {m:Sem Value} {kws:List (Option Str×Sem Value)} {Q:Value→Shared→Prop}
  (hall:kws.all (·.1.isSome)=true) (hno:kws.any (·.1.isNone)=false)
  (h:wpAny M A (spliced [(false,m)]) (fun vs s1=>wpAny M A (evalAll (kws.map (·.2))) (fun ks s2=>wpAny M A (call (.type T) vs ((kws.filterMap (·.1)).zip ks)) Q E s2) E s1) E s) :
  wpAny M A (callWith pos (.type T) [] [(false,m)] kws) Q E s:=by
  unfold callWith
  refine wpAny_bind (wpAny_holding ?_)
  unfold evalArgs
  simp only []
  refine wpAny_bind (wpAny_mono h (fun vs s1 h1=>?_) (fun e s' h=>h))
  k_dat 0"r30"
  refine wpAny_holding ?_
  rw [if_pos hall]
  refine wpAny_bind (wpAny_mono h1 (fun ks s2 h2=>?_) (fun e s' h=>h))
  k_dat 0"r30"
  refine wpAny_pure ?_
  refine wpAny_bind (wpAny_standAt ?_)
  refine wpAny_bind ?_
  simp only [keeperOf]
  refine wpAny_pure ?_
  have e1:([(false,m)].any fun x=>x.fst)=false:=rfl
  simp only [e1,hno,Bool.or_false]
  exact wpAny_bind (wpAny_mono h2 (fun r s3 h3=>wpAny_bind (wpAny_holding (wpAny_point (wpAny_pure h3)))) (fun e s' h=>h))
def qKc (te:TD):TID:=fun ρ st P=>te ρ st fun x st1=>match x with
  | .tup xs=>P (qCW 1 xs) (fun _=>True) st1
  | _=>False
section
variable {X:Cx} {a e2:Expr} {elts:List Expr} {x1:Nat} {tpos pos p kp:Pos} {te:TD}
theorem qNA (hm:X.mg "enumerate" = none) (ha:DE X a te) (hb:DE X e2 (qC (.int 1))) (hg:Gl X "enumerate") (hs:starEach [a] X.env=[(false,eval a X.env)])
    (hall:(backToKw pos (keywordEach [⟨some "start",e2,kp⟩] X.env)).all (·.1.isSome)=true) (hks:(backToKw pos (keywordEach [⟨some "start",e2,kp⟩] X.env)).filterMap (·.1)=[Str.ofString "start"])
    (hpl:(backToKw pos (keywordEach [⟨some "start",e2,kp⟩] X.env)).any (·.1.isNone)=false) (hbk:∃ m,backTo pos [(false,eval a X.env)]=[(false,m)]) :
    DI X (.Tuple elts x1 tpos) (.Call (.Name "enumerate" p) [a] [⟨some "start",e2,kp⟩] pos) (qKc te):=by
  intro pins s σ H R I h
  k_dat 0"r1"
  refine wpAny_Call_Name_kw (qEw I hg hm PyProof.Rows.boot_enumerate ?_ (by decide) (by decide))
  have hA:=qCm ha qEm hs pos pins s σ H _ I ⟨φ,st,ρ,(fun ds st1=>match ds with
    | [x]=>(match x with
      | .tup xs=>P (qCW 1 xs) (fun _=>True) st1
      | _=>False)
    | _=>False),pre,ht,fun ds st1 h1 φ1 H1 vs b1 dl=>(show ∃ φ1 st1 ds,Bhd X.K φ st H φ1 st1 H1∧DL X.K φ1 st1.length H1 ds vs∧(match ds with
    | [x]=>(match x with
      | .tup xs=>P (qCW 1 xs) (fun _=>True) st1
      | _=>False)
    | _=>False) from⟨φ1,st1,ds,b1,dl,h1⟩)⟩
  obtain⟨mv,hbk⟩:=hbk
  rw [hs,hbk] at hA ⊢
  refine qGR hall hpl (thn hA fun us s1 ⟨vs,H1,I1,rv,φ1,st1,ds,b1,dl,h1⟩=>?_)
  refine thn (qPp hb qRh pos pins s1 σ H1 (fun zs H2=>∃ φ2,Bhd X.K φ1 st1 H1 φ2 st1 H2∧zs=[V.int 1]) I1 ⟨φ1,st1,ρ,(fun d st2=>st2=st1∧d = .int 1),pre.on b1,⟨rfl,rfl⟩,fun d st2 h2 φ2 H2 v b2 dv=>(by
    obtain⟨rfl,rfl⟩:=h2
    exact⟨φ2,b2,by rw [dv.int]⟩)⟩) fun ws s2 ⟨zs,H2,I2,rz,φ2,b2,ez⟩=>?_
  subst ez
  obtain⟨w1,rfl,t1,rfl⟩:=vals1 rz
  rw [hks]
  show wpAny _ _ (call (.type "enumerate") us [(Str.ofString "start",Value.int 1 t1)]) _ _ s2
  have b12:=b1.trans b2
  have dl2:=dl.evo b2.2
  k_dat 0"r48"
  · exact h1.elim
  rotate_left
  · exact h1.elim
  · obtain⟨v,rfl,dv⟩:=dl2.one
    obtain⟨u,rfl,ru⟩:=vals1 rv
    cases d with
    | tup xs =>
      have h1:P (qCW 1 xs) (fun _=>True) st1:=h1
      obtain⟨a,ws,ev,hs1,dws⟩:=dv.tup
      subst ev
      cases ru
      obtain⟨its,rvs,pl,hz⟩:=I2.tuple hs1
      refine HT.qIq pl fun h' he hit hsz hk=>?_
      refine wpAny_pyIter_enum (s:={ s2 with heap:=h' }) he ?_
      have I3:Inv X pins σ H2 { s2 with heap:=h' }:=I2.kept (t':=s2.toks) hk
      have hei:s2.heap.objs.size+1≠s2.heap.objs.size:=by omega
      refine⟨s2.heap.objs.size+1,[s2.heap.objs.size+1,s2.heap.objs.size],_,_,H2,rfl,I3,qIa a _ _ hei,⟨⟨_,he⟩,hit⟩,fun b hb=>?_,hq _ _ st1 h1 φ2 H2 _ b12 ?_⟩
      · have hle:s2.heap.objs.size≤b:=by
          rcases List.mem_cons.mp hb with e | hb
          · rw [e];exact Nat.le_succ _
          · have e:b=s2.heap.objs.size:=by simpa using hb
            rw [e];exact Nat.le_refl _
        exact I2.qMn hle (I2.hok.fresh hle)
      · intro i φ' st' H' bh hok hi
        obtain⟨a',zs,e2,hs',dl'⟩:=(dv.evo bh.2).tup
        cases e2
        have hlen:=dl'.length
        rw [qEf] at hi
        refine⟨fun e=>⟨zs,hs',by rw [qEf] at e;omega⟩,fun d ed=>?_⟩
        obtain⟨d',ed',rfl⟩:=qGN ed
        obtain⟨y,ey,dy⟩:=dl'.get ed'
        refine⟨⟨zs,y,hs',ey⟩,fun y' H2 hy=>?_⟩
        obtain⟨q,v,hq1,rfl,rfl,hv⟩:=hy
        have:=hv zs hs'
        rw [ey] at this
        cases this
        refine⟨qBL bh.1 hq1,.qCH (SqT.of qh) (.cons ?_ (.cons (dy.evo (qBE hq1)) .nil))⟩
        rw [Nat.add_comm 1 i]
        exact D.mkInt
    | _=>exact h1.elim
end
end L3
namespace L3
open PySem PySem.Spec PyProof.Rows L2
def qOO (items:List Dt) (ok:Sto→Prop) (tc:TBD) (te:TD) (cρ:Rho) (st:Sto) (Fin:List Dt→Sto→Prop):Prop:=∃ Inv:Nat→List Dt→Sto→Prop,Inv 0 [] st∧(∀ i ys st',i≤items.length→Inv i ys st'→ok st') ∧
  (∀ (i:Nat) d ys st',items[i]? = some d→Inv i ys st'→ys.length<sizeLine∧∃ a b,d = .tup [a,b]∧tc (some a::some b::cρ) st' fun k st1=>if k=true then te (some a::some b::cρ) st1 fun y st2=>Inv (i+1) (ys++[y]) st2 else Inv (i+1) ys st1) ∧
  ∀ ys st',Inv items.length ys st'→Fin ys st'
noncomputable def g2:TGD:=qi 2 (qY (qJ 0) (qY (qJ 1) qAK))
theorem qJh {K:W.Frag} {φ:Nat→Addr} {N:Nat} {H:Hp} {ρ:Rho} {σ:L2.St} {a b:Option Dt} (h:DR K φ N H (a::b::ρ) σ):DR K φ N H (none::none::ρ) σ:=by
  refine⟨h.1,fun i d q=>?_⟩
  rcases i with _ | _ | i
  · cases q
  · cases q
  · exact h.2 (i+2) d q
theorem qL0 {K:W.Frag} {φ1:Nat→Addr} {st1:Sto} {H1:Hp} {cρ:Rho} {σ0:L2.St} {J:It} {items:List Dt} {ok:Sto→Prop} {tc:TBD} {te:TD} {Fin:List Dt→Sto→Prop} {Fin':List V→Hp→Prop}
    (R:Rep K φ1 st1 H1) (dr:DR K φ1 st1.length H1 (none::none::cρ) σ0) (hJ:qGh K φ1 st1 H1 J items ok) (hc:qOO items ok tc te cρ st1 Fin)
    (hF:∀ ys st' φ' H' vs,Fin ys st'→Bhd K φ1 st1 H1 φ' st' H'→DL K φ' st'.length H' ys vs→Fin' vs H') :
    qK5 J (qHb K g2) (liftT K tc) (qAd K te) σ0 H1 Fin':=by
  obtain⟨Inv,h0,hok,step,fin⟩:=hc
  refine⟨fun i m σ vs H=>m=items.length - i∧i≤items.length∧∃ φ' st' ys,Bhd K φ1 st1 H1 φ' st' H∧DL K φ' st'.length H ys vs∧DR K φ' st'.length H (none::none::cρ) σ∧Inv i ys st',
    ⟨items.length,by simp,Nat.zero_le _,φ1,st1,[],.refl R,.nil,dr,h0⟩,?_⟩
  rintro i m σ vs H ⟨rfl,hi,φ',st',ys,bh,dl,drs,hI⟩
  obtain⟨js,jg⟩:=hJ i φ' st' H bh (hok i ys st' hi hI) hi
  by_cases hlt:i<items.length
  · have ed:items[i]? = some items[i]:=by simp [hlt]
    obtain⟨go,yl⟩:=jg _ ed
    obtain⟨hz,a,b,ed2,hstep⟩:=step i _ ys st' ed hI
    refine .inr ⟨go,by rw [← dl.length];exact hz,fun y H2 hy=>?_⟩
    obtain⟨b2,dy⟩:=yl y H2 hy
    have b12:=bh.trans b2
    refine⟨φ',st',none::none::cρ,_,(fun ρ2 st2=>ρ2=some a::some b::cρ∧st2=st'),⟨b2.1,drs.evo b2.2⟩,dy,?_,fun ρ2 st2 hp φ3 H3 σ2 b3 dr3=>?_⟩
    · rw [ed2];exact⟨rfl,rfl,rfl⟩
    obtain⟨rfl,rfl⟩:=hp
    refine⟨φ3,st2,_,_,⟨b3.1,dr3⟩,hstep,fun k st3 h3 φ4 H4 b4=>?_⟩
    cases k with
    | false =>
      rw [if_neg Bool.false_ne_true] at h3 ⊢
      exact⟨items.length - (i+1),by omega,rfl,hlt,φ4,st3,ys,b12.trans (b3.trans b4),dl.evo (b2.2.trans (b3.2.trans b4.2)),(qJh dr3).evo b4.2,h3⟩
    | true =>
      rw [if_pos rfl] at h3 ⊢
      refine⟨φ4,st3,_,_,⟨b4.1,dr3.evo b4.2⟩,h3,fun z st4 h4 φ5 H5 w b5 dz=>?_⟩
      exact⟨items.length - (i+1),by omega,rfl,hlt,φ5,st4,ys++[z],b12.trans (b3.trans (b4.trans b5)),(dl.evo (b2.2.trans (b3.2.trans (b4.2.trans b5.2)))).append (.cons dz .nil),(qJh dr3).evo (b4.2.trans b5.2),h4⟩
  · have e:i=items.length:=by omega
    subst e
    exact .inl ⟨js rfl,hF ys st' φ' H vs (fin ys st' hI) bh dl⟩
def qIO (ti:TID) (tc:TBD) (te:TD) (caps:List (Nat×Str)):TD:=fun ρ st P=>ti ρ st fun items ok st1=>qOO items ok tc te (qFU caps ρ) st1 fun ys st2=>P (.lst st2.length) (st2++[.rw ys])
section
variable {X:Cx} {pos:Pos} {ti:TID} {iter:Expr}
theorem qKi {K:W.Frag} {tc:TBD} {te:TD} {caps:List (Nat×Str)} {σ:L2.St} {H:Hp} {Q:VK} (h:qAd K (qIO ti tc te caps) σ H Q):qLN (qMd K ti) (qHb K g2) (liftT K tc) (qAd K te) 2 caps σ H Q:=by
  k_dat 0"r1"
  k_dat 0"r74"
  refine qL0 b1.1 ?_ hJ h1 fun ys st2 φ2 H2 vs hF b2 dl p hp=>?_
  · have hd:=qM6 (pre.on b1).2 caps
    refine⟨by simp [hd.1,List.replicate],fun i d q=>?_⟩
    rcases i with _ | _ | i
    · cases q
    · cases q
    · exact hd.2 i d q
  · exact hq _ _ hF _ _ _ (b1.trans (b2.trans (qCx b2.1 hp dl))) qGI
variable {elt:Expr} {ifs:List Expr} {sc:Scope} {x y:Str} {px py tp:Pos} {kt:Nat} {tc:TBD} {te:TD}
theorem qGY (caps:List (Nat×Str)) (hc:X.calm=true) (S:qAY X.env.scope X.N caps sc) (hx:sc.names.lookup x=some .local) (hy:sc.names.lookup y=some .local) (hnd:([x,y]++caps.map (·.2)).Nodup) (hi:DI X (.Tuple [.Name x px,.Name y py] kt tp) iter ti)
    (hif:∀ C s H fp,DIf (qAP X [x,y] caps sc C s H fp) ifs tc) (he:∀ C s H fp,DE (qAP X [x,y] caps sc C s H fp) elt te)
    (hs:∀ x,foldedSetIterable iter X.env x=pure x:=by intro _;rfl):DE X (.ListComp elt [⟨.Tuple [.Name x px,.Name y py] kt tp,iter,ifs,0⟩] sc pos) (qIO ti tc te caps) :=
  PE.imp (qLJ (g:=qHb X.K g2) (tc:=liftT X.K tc) (te:=qAd X.K te) [x,y] caps hc S hi (fun C s H fp=>qHZ (X:=qAP X [x,y] caps sc C s H fp) 2 hc (qGw (qIK 0 hnd rfl (.inl (lookup_relabel_local hx)) (.inr (lookup_relabel_local hx))) (qGw (qIK 1 hnd rfl (.inl (lookup_relabel_local hy)) (.inr (lookup_relabel_local hy))) qKs rfl) rfl) rfl) hif he hs) fun σ H Q h=>qKi h
end
end L3
namespace HT
open PySem PySem.Spec PyProof.Rows
section
variable {prog:Program} {w:World} {A:Around} {E:Value→Shared→Prop} {s:Shared}
structure qE6 (z TI TO i1 i2:Addr) (fp1 fp2:List Addr):Prop where
  TIz:TI≠z
  TOz:TO≠z
  i1z:i1≠z
  i2z:i2≠z
  TITO:TI≠TO
  TIi1:TI≠i1
  TIi2:TI≠i2
  TOi1:TO≠i1
  TOi2:TO≠i2
  i12:i1≠i2
  z1:z ∉ fp1
  z2:z ∉ fp2
  o1:TO ∉ fp1
  o2:TO ∉ fp2
  a2:i1 ∉ fp2
  b1:i2 ∉ fp1
theorem qMD {z TI TO i1 i2:Addr} {fp1 fp2:List Addr} {n1 n2 k1 k2:Nat} {P1 P2:Nat→Value→Prop} {St1 St2:Nat→Heap→Prop} {a b:Value} {Q:Fin→Shared→Prop}
    (ap:qE6 z TI TO i1 i2 fp1 fp2) (D1:Draws prog w A i1 fp1 n1 P1 St1) (D2:Draws prog w A i2 fp2 n2 P2 St2) (hz:IsZip s.heap z TI TO .none) (hI:IsPair s.heap TI (.ref i1) (.ref i2)) (hO:IsPair s.heap TO a b) (h1:St1 k1 s.heap) (h2:St2 k2 s.heap) (l1:k1<n1) (l2:k2<n2)
    (hQ:∀ x y h' tk,P1 k1 x→P2 k2 y→IsZip h' z TI TO (rawInt s.heap.objs.size)→IsPair h' TI (.ref i1) (.ref i2)→IsPair h' TO x y→St1 (k1+1) h'→St2 (k2+1) h'→IsPair h' s.heap.objs.size x y→h'.objs.size=s.heap.objs.size+1→(∀ c o,c≠z→c≠TO→c≠i1→c≠i2→s.heap.get? c=some o→h'.get? c=some o)→Q (.done (.ret (.ref s.heap.objs.size))) { s with heap:=h',toks:=tk }) :
    wpAny (model prog w) A (Builtin.«zip.__next__» { pos:=[.ref z] }) Q E s:=by
  unfold Builtin.«zip.__next__»
  show wpAny _ _ (field (.ref z) 2 >>= _) _ _ s
  refine wpAny_bind (wpAny_field hz rfl (x:=.bool false) rfl ?_)
  show wpAny _ _ (field (.ref z) 3 >>= _) _ _ s
  refine wpAny_bind (wpAny_field hz rfl (x:=.ref TI) rfl ?_)
  refine wpAny_bind (wpAny_seqItems hI rfl ?_)
  show wpAny _ _ (Builtin.SmallTypes.ownedTupleIsFree (.ref z) >>= _) _ _ s
  unfold Builtin.SmallTypes.ownedTupleIsFree
  refine wpAny_bind (wpAny_bind (wpAny_field hz rfl (x:=.none) rfl (wpAny_pure ?_)))
  refine wpAny_bind (wpAny_rule ?_)
  refine wpAny_bind (wpAny_field hz rfl (x:=.ref TO) rfl ?_)
  refine wpAny_bind (wpAny_setField hz rfl (by simp) ?_)
  k_dat 0"r102"
  k_dat 0"r103"
  have hsa:(s.heap.update z (Obj.mapFields fun x_1=>x_1.setIfInBounds 0 Value.ellipsis)).objs.size=s.heap.objs.size:=(Heap.SameBut.update ..).1
  generalize s.heap.update z (Obj.mapFields fun x_1=>x_1.setIfInBounds 0 Value.ellipsis)=ha at hza hua hsa
  k_dat 0"r104"
  k_dat 0"r105"
  have hIa:IsPair ha TI (.ref i1) (.ref i2):=(hua TI ap.TIz).trans hI
  have hOa:IsPair ha TO a b:=(hua TO ap.TOz).trans hO
  show wpAny _ _ (forIn [(Value.ref i1,0),(Value.ref i2,1)] (none,()) _ >>= _) _ _ _
  rw [List.forIn_cons]
  refine wpAny_bind (wpAny_bind ?_)
  refine wpAny_bind (wpAny_onRaise ?_)
  show wpAny _ _ (Builtin.SmallTypes.nextOf (.ref i1) >>= fun v=>pure (some v)) _ _ _
  refine wpAny_bind (D1.item k1 _ _ _ l1 h1a fun x hb tk1 hx st1 sb1=>wpAny_pure ?_)
  have hOb:IsPair hb TO a b:=(sb1.2 TO ap.TOi1).trans hOa
  refine wpAny_bind (wpAny_seqItems hOb rfl ?_)
  refine wpAny_bind (wpAny_updateSeq_pair hOb fun hc hOc sbc=>?_)
  refine wpAny_bind (wpAny_letGo ?_)
  refine wpAny_pure ?_
  have hOc:IsPair hc TO x b:=hOc
  have h1c:St1 (k1+1) hc:=D1.frame _ _ _ st1 fun c hcm o q=>(sbc.2 c (fun e=>ap.o1 (e ▸ hcm))).trans q
  k_dat 0"r106"
  show wpAny _ _ (forIn [(Value.ref i2,1)] (none,()) _) _ _ _
  rw [List.forIn_cons]
  refine wpAny_bind ?_
  refine wpAny_bind (wpAny_onRaise ?_)
  show wpAny _ _ (Builtin.SmallTypes.nextOf (.ref i2) >>= fun v=>pure (some v)) _ _ _
  refine wpAny_bind (D2.item k2 _ _ _ l2 h2c fun y hd tk2 hy st2 sb2=>wpAny_pure ?_)
  have hOd:IsPair hd TO x b:=(sb2.2 TO ap.TOi2).trans hOc
  refine wpAny_bind (wpAny_seqItems hOd rfl ?_)
  refine wpAny_bind (wpAny_updateSeq_pair hOd fun he hOe sbe=>?_)
  refine wpAny_bind (wpAny_letGo ?_)
  refine wpAny_pure ?_
  have hOe:IsPair he TO x y:=hOe
  show wpAny _ _ (forIn ([]:List (Value×Nat)) (none,()) _) _ _ _
  rw [List.forIn_nil]
  refine wpAny_pure ?_
  refine wpAny_bind (wpAny_seqItems hOe rfl ?_)
  refine wpAny_bind (wpAny_newTuple ?_ (by show 2≤sizeLine;rw [sizeLine_eq];decide))
  have all:∀ c,c≠z→c≠TO→c≠i1→c≠i2→he.get? c=s.heap.get? c:=fun c q1 q2 q3 q4=>(sbe.2 c q2).trans ((sb2.2 c q4).trans ((sbc.2 c q2).trans ((sb1.2 c q3).trans (hua c q1))))
  have hse:he.objs.size=s.heap.objs.size:=by rw [sbe.1,sb2.1,sbc.1,sb1.1];exact hsa
  have hze:he.get? z=some { cls:=.type "zip",data:=.fields #[.ellipsis,.bool false,.bool false,.ref TI,.ref TO] }:=(sbe.2 z ap.TOz.symm).trans ((sb2.2 z ap.i2z.symm).trans ((sbc.2 z ap.TOz.symm).trans ((sb1.2 z ap.i1z.symm).trans hza)))
  have hIe:IsPair he TI (.ref i1) (.ref i2):=(sbe.2 TI ap.TITO).trans ((sb2.2 TI ap.TIi2).trans ((sbc.2 TI ap.TITO).trans ((sb1.2 TI ap.TIi1).trans hIa)))
  have h1e:St1 (k1+1) he:=D1.frame _ _ _ h1c fun c hcm o q=>(sbe.2 c (fun e=>ap.o1 (e ▸ hcm))).trans ((sb2.2 c (fun e=>ap.b1 (e ▸ hcm))).trans q)
  have h2e:St2 (k2+1) he:=D2.frame _ _ _ st2 fun c hcm o q=>(sbe.2 c (fun e=>ap.o2 (e ▸ hcm))).trans q
  have hnew:=Heap.get?_push_size he (o:={ cls:=.type "tuple",data:=.seq #[x,y] }) rfl
  have hpush:∀ c o,he.get? c=some o→(he.push { cls:=.type "tuple",data:=.seq #[x,y] }).get? c=some o:=fun c o q=>Heap.get?_push_of_some _ q
  have hsf:(he.push { cls:=.type "tuple",data:=.seq #[x,y] }).objs.size=s.heap.objs.size+1:=by rw [Heap.size_push,hse]
  rw [hse] at hnew
  show wpAny _ _ (Builtin.SmallTypes.ownedTupleHandOut (.ref z) (.ref he.objs.size) >>= _) _ _ { s with heap:=he.push { cls:=.type "tuple",data:=.seq #[x,y] },toks:=tk2 }
  rw [hse]
  generalize he.push { cls:=.type "tuple",data:=.seq #[x,y] }=hf at hnew hpush hsf
  have hzf:=hpush _ _ hze
  have zlt:z≠s.heap.objs.size:=Nat.ne_of_lt (Heap.lt_size hz)
  unfold Builtin.SmallTypes.ownedTupleHandOut
  refine wpAny_bind (wpAny_bind (wpAny_setField hzf rfl (by simp) ?_))
  have hzg:=Heap.get?_update_self (h:=hf) (Obj.mapFields fun x_1=>x_1.setIfInBounds 0 (rawInt (s.heap.objs.size:Int))) hzf (Obj.isFreed_of_fields (Obj.data_mapFields rfl _))
  have hug:∀ c,c≠z→(hf.update z (Obj.mapFields fun x_1=>x_1.setIfInBounds 0 (rawInt (s.heap.objs.size:Int)))).get? c=hf.get? c:=fun c hc=>Heap.get?_update_ne _ _ _ _ hc
  have hsg:(hf.update z (Obj.mapFields fun x_1=>x_1.setIfInBounds 0 (rawInt (s.heap.objs.size:Int)))).objs.size=hf.objs.size:=(Heap.SameBut.update ..).1
  generalize hf.update z (Obj.mapFields fun x_1=>x_1.setIfInBounds 0 (rawInt (s.heap.objs.size:Int)))=hg at hzg hug hsg
  refine wpAny_setField hzg rfl (by simp [Obj.mapFields]) ?_
  have hzh:=Heap.get?_update_self (h:=hg) (Obj.mapFields fun x_1=>x_1.setIfInBounds 1 (Value.bool false)) hzg (Obj.isFreed_of_fields (Obj.data_mapFields rfl _))
  have huh:∀ c,c≠z→(hg.update z (Obj.mapFields fun x_1=>x_1.setIfInBounds 1 (Value.bool false))).get? c=hg.get? c:=fun c hc=>Heap.get?_update_ne _ _ _ _ hc
  have hsh:(hg.update z (Obj.mapFields fun x_1=>x_1.setIfInBounds 1 (Value.bool false))).objs.size=hg.objs.size:=(Heap.SameBut.update ..).1
  generalize hg.update z (Obj.mapFields fun x_1=>x_1.setIfInBounds 1 (Value.bool false))=hh at hzh huh hsh
  have fro:∀ c o,c≠z→he.get? c=some o→hh.get? c=some o:=fun c o q1 q=>(huh c q1).trans ((hug c q1).trans (hpush c o q))
  refine wpAny_pure (hQ x y hh tk2 hx hy hzh (fro _ _ ap.TIz hIe) (fro _ _ ap.TOz hOe) (D1.frame _ _ _ h1e fun c hcm o q=>fro c o (fun e=>ap.z1 (e ▸ hcm)) q) (D2.frame _ _ _ h2e fun c hcm o q=>fro c o (fun e=>ap.z2 (e ▸ hcm)) q) ?_ ?_ fun c o q1 q2 q3 q4 q=>fro c o q1 ((all c q1 q2 q3 q4).trans q))
  · exact (huh _ zlt.symm).trans ((hug _ zlt.symm).trans hnew)
  · rw [hsh,hsg,hsf]
theorem qNh {z TI TO i1 i2:Addr} {fp1 fp2:List Addr} {n1 n2 k1 k2:Nat} {P1 P2:Nat→Value→Prop} {St1 St2:Nat→Heap→Prop} {a b:Value} {Q:Fin→Shared→Prop}
    (ap:qE6 z TI TO i1 i2 fp1 fp2) (D1:Draws prog w A i1 fp1 n1 P1 St1) (D2:Draws prog w A i2 fp2 n2 P2 St2) (hz:IsZip s.heap z TI TO .none) (hI:IsPair s.heap TI (.ref i1) (.ref i2)) (hO:IsPair s.heap TO a b) (h1:St1 k1 s.heap) (h2:St2 k2 s.heap) (hl:k1=n1∨k1<n1∧k2=n2)
    (hE:∀ h' tk e,(∃ o,h'.get? e=some o∧o.cls = .type "StopIteration")→(∀ c o,c≠z→c≠TO→c≠i1→c≠i2→s.heap.get? c=some o→h'.get? c=some o)→E (.ref e) { s with heap:=h',toks:=tk }) :
    wpAny (model prog w) A (Builtin.«zip.__next__» { pos:=[.ref z] }) Q E s:=by
  unfold Builtin.«zip.__next__»
  show wpAny _ _ (field (.ref z) 2 >>= _) _ _ s
  refine wpAny_bind (wpAny_field hz rfl (x:=.bool false) rfl ?_)
  show wpAny _ _ (field (.ref z) 3 >>= _) _ _ s
  refine wpAny_bind (wpAny_field hz rfl (x:=.ref TI) rfl ?_)
  refine wpAny_bind (wpAny_seqItems hI rfl ?_)
  show wpAny _ _ (Builtin.SmallTypes.ownedTupleIsFree (.ref z) >>= _) _ _ s
  unfold Builtin.SmallTypes.ownedTupleIsFree
  refine wpAny_bind (wpAny_bind (wpAny_field hz rfl (x:=.none) rfl (wpAny_pure ?_)))
  refine wpAny_bind (wpAny_rule ?_)
  refine wpAny_bind (wpAny_field hz rfl (x:=.ref TO) rfl ?_)
  refine wpAny_bind (wpAny_setField hz rfl (by simp) ?_)
  k_dat 0"r102"
  k_dat 0"r103"
  generalize s.heap.update z (Obj.mapFields fun x_1=>x_1.setIfInBounds 0 Value.ellipsis)=ha at hza hua
  k_dat 0"r104"
  k_dat 0"r105"
  have hOa:IsPair ha TO a b:=(hua TO ap.TOz).trans hO
  show wpAny _ _ (forIn [(Value.ref i1,0),(Value.ref i2,1)] (none,()) _ >>= _) _ _ _
  rw [List.forIn_cons]
  refine wpAny_bind (wpAny_bind ?_)
  refine wpAny_bind (wpAny_onRaise ?_)
  show wpAny _ _ (Builtin.SmallTypes.nextOf (.ref i1) >>= fun v=>pure (some v)) _ _ _
  rcases hl with rfl | ⟨l1,rfl⟩
  · refine wpAny_bind (D1.done _ _ _ h1a fun hb e xb ⟨oe,he,ce⟩=>?_)
    have hzb:=xb z _ ap.i1z.symm hza
    refine wpAny_setField hzb rfl (by simp [Obj.mapFields]) ?_
    have huc:∀ c,c≠z→(hb.update z (Obj.mapFields fun x_1=>x_1.setIfInBounds 0 Value.none)).get? c=hb.get? c:=fun c hc=>Heap.get?_update_ne _ _ _ _ hc
    have hez:e≠z:=fun q=>by
      subst q
      rw [hzb] at he;cases he;injection ce with q;exact absurd q (by decide)
    exact hE _ _ e ⟨oe,(huc e hez).trans he,ce⟩ fun c o q1 q2 q3 q4 q=>(huc c q1).trans (xb c o q3 ((hua c q1).trans q))
  · refine wpAny_bind (D1.item k1 _ _ _ l1 h1a fun x hb tk1 hx st1 sb1=>wpAny_pure ?_)
    have hOb:IsPair hb TO a b:=(sb1.2 TO ap.TOi1).trans hOa
    refine wpAny_bind (wpAny_seqItems hOb rfl ?_)
    refine wpAny_bind (wpAny_updateSeq_pair hOb fun hc hOc sbc=>?_)
    refine wpAny_bind (wpAny_letGo ?_)
    refine wpAny_pure ?_
    k_dat 0"r106"
    show wpAny _ _ (forIn [(Value.ref i2,1)] (none,()) _) _ _ _
    rw [List.forIn_cons]
    refine wpAny_bind ?_
    refine wpAny_bind (wpAny_onRaise ?_)
    show wpAny _ _ (Builtin.SmallTypes.nextOf (.ref i2) >>= fun v=>pure (some v)) _ _ _
    refine wpAny_bind (D2.done _ _ _ h2c fun hd e xd ⟨oe,he,ce⟩=>?_)
    have hzc:=(sbc.2 z ap.TOz.symm).trans ((sb1.2 z ap.i1z.symm).trans hza)
    have hzd:=xd z _ ap.i2z.symm hzc
    refine wpAny_setField hzd rfl (by simp [Obj.mapFields]) ?_
    have hue:∀ c,c≠z→(hd.update z (Obj.mapFields fun x_1=>x_1.setIfInBounds 0 Value.none)).get? c=hd.get? c:=fun c hc=>Heap.get?_update_ne _ _ _ _ hc
    have hez:e≠z:=fun q=>by
      subst q
      rw [hzd] at he;cases he;injection ce with q;exact absurd q (by decide)
    exact hE _ _ e ⟨oe,(hue e hez).trans he,ce⟩ fun c o q1 q2 q3 q4 q=>(hue c q1).trans (xd c o q4 ((sbc.2 c q2).trans ((sb1.2 c q3).trans ((hua c q1).trans q))))
theorem qFI {z TI TO i1 i2:Addr} {fp1 fp2:List Addr} {n1 n2 k1 k2:Nat} {P1 P2:Nat→Value→Prop} {St1 St2:Nat→Heap→Prop} {a b:Value} {Q:Option Value→Shared→Prop}
    (ap:qE6 z TI TO i1 i2 fp1 fp2) (D1:Draws prog w A.in1 i1 fp1 n1 P1 St1) (D2:Draws prog w A.in1 i2 fp2 n2 P2 St2) (hz:IsZip s.heap z TI TO .none) (hI:IsPair s.heap TI (.ref i1) (.ref i2)) (hO:IsPair s.heap TO a b) (h1:St1 k1 s.heap) (h2:St2 k2 s.heap) (l1:k1<n1) (l2:k2<n2)
    (hQ:∀ x y h' tk,P1 k1 x→P2 k2 y→IsZip h' z TI TO (rawInt s.heap.objs.size)→IsPair h' TI (.ref i1) (.ref i2)→IsPair h' TO x y→St1 (k1+1) h'→St2 (k2+1) h'→IsPair h' s.heap.objs.size x y→h'.objs.size=s.heap.objs.size+1→(∀ c o,c≠z→c≠TO→c≠i1→c≠i2→s.heap.get? c=some o→h'.get? c=some o)→Q (some (.ref s.heap.objs.size)) { s with heap:=h',toks:=tk }) :
    wpAny (model prog w) A (pyNext (.ref z)) Q E s:=by
  have hT:s.TypeIs (.ref z) "zip":=⟨_,hz,rfl⟩
  unfold pyNext
  k_dat 0"r107"
  refine qMD ap D1 D2 hz hI hO h1 h2 l1 l2 fun x y h' tk q1 q2 q3 q4 q5 q6 q7 q8 q9 q10=>?_
  exact⟨_,rfl,wpAny_pure (hQ x y h' tk q1 q2 q3 q4 q5 q6 q7 q8 q9 q10)⟩
theorem qC6 {z TI TO i1 i2:Addr} {fp1 fp2:List Addr} {n1 n2 k1 k2:Nat} {P1 P2:Nat→Value→Prop} {St1 St2:Nat→Heap→Prop} {a b:Value} {Q:Option Value→Shared→Prop}
    (ap:qE6 z TI TO i1 i2 fp1 fp2) (D1:Draws prog w A.in1 i1 fp1 n1 P1 St1) (D2:Draws prog w A.in1 i2 fp2 n2 P2 St2) (hz:IsZip s.heap z TI TO .none) (hI:IsPair s.heap TI (.ref i1) (.ref i2)) (hO:IsPair s.heap TO a b) (h1:St1 k1 s.heap) (h2:St2 k2 s.heap) (hl:k1=n1∨k1<n1∧k2=n2)
    (hQ:∀ h' tk,(∀ c o,c≠z→c≠TO→c≠i1→c≠i2→s.heap.get? c=some o→h'.get? c=some o)→Q none { s with heap:=h',toks:=tk }) :
    wpAny (model prog w) A (pyNext (.ref z)) Q E s:=by
  have hT:s.TypeIs (.ref z) "zip":=⟨_,hz,rfl⟩
  unfold pyNext
  k_dat 0"r107"
  refine qNh ap D1 D2 hz hI hO h1 h2 hl fun h' tk e ⟨o,ho,hc⟩ hk=>?_
  exact wpAny_bind (wpAny_isInstance (T:= "StopIteration") (b:=true) ⟨o,ho,hc⟩ isSubtype_stop (wpAny_pure (hQ _ _ hk)))
end
end HT
namespace HT
open PySem PySem.Spec PyProof.Rows
def qE7 (prog:Program) (w:World) (u:Value) (o:Obj) (ok:Heap→Prop):Prop :=
  ∀ (A:Around) (s:Shared) (Q:Value→Shared→Prop) (E:Value→Shared→Prop),ok s.heap→Q (.ref s.heap.objs.size) { s with heap:=s.heap.push o }→wpAny (model prog w) A (pyIter u) Q E s
theorem qMx {prog:Program} {w:World} {u1 u2:Value} {o1 o2:Obj} {ok1 ok2:Heap→Prop} (h1:qE7 prog w u1 o1 ok1) (h2:qE7 prog w u2 o2 ok2) :
    MeetsIn prog w (Builtin.«zip.__new__» ⟨[.type "zip",u1,u2],[]⟩) (fun _ R s=>ok1 s.heap∧ok2 (s.heap.push o1) ∧
      R (.ok (.ret (.ref ((((s.heap.push o1).push o2).push { cls:=.type "tuple",data:=.seq #[.ref s.heap.objs.size,.ref (s.heap.push o1).objs.size] }).push { cls:=.type "tuple",data:=.seq #[.none,.none] }).objs.size)))
        { s with heap:=((((s.heap.push o1).push o2).push { cls:=.type "tuple",data:=.seq #[.ref s.heap.objs.size,.ref (s.heap.push o1).objs.size] }).push { cls:=.type "tuple",data:=.seq #[.none,.none] }).push { cls:=.type "zip",data:=.fields #[.none,.bool false,.bool false,.ref ((s.heap.push o1).push o2).objs.size,.ref (((s.heap.push o1).push o2).push { cls:=.type "tuple",data:=.seq #[.ref s.heap.objs.size,.ref (s.heap.push o1).objs.size] }).objs.size] } }) :=
  .of_wp fun A R s h=>by
    obtain⟨hp,g,d,tk,os⟩:=s;obtain⟨k1,k2,h⟩:=h
    have hsub:=sub_zip
    have r1:∀ {A:Around} {Q:Value→Shared→Prop} {E:Value→Shared→Prop},Q (.ref hp.objs.size) ⟨hp.push o1,g,d,tk,os⟩→wpAny (model prog w) A (pyIter u1) Q E ⟨hp,g,d,tk,os⟩:=fun q=>h1 _ _ _ _ k1 q
    have r2:∀ {A:Around} {Q:Value→Shared→Prop} {E:Value→Shared→Prop},Q (.ref (hp.push o1).objs.size) ⟨(hp.push o1).push o2,g,d,tk,os⟩→wpAny (model prog w) A (pyIter u2) Q E ⟨hp.push o1,g,d,tk,os⟩:=fun q=>h2 _ _ _ _ k2 q
    wp_walk using r1,r2
    exact⟨_,rfl,h⟩
section
variable {prog:Program} {w:World} {A:Around} {E:Value→Shared→Prop} {s:Shared}
theorem qHO {u1 u2:Value} {o1 o2:Obj} {ok1 ok2:Heap→Prop} {Q:Value→Shared→Prop} (h1:qE7 prog w u1 o1 ok1) (h2:qE7 prog w u2 o2 ok2) (f1:o1.isFreed=false) (f2:o2.isFreed=false) (k1:ok1 s.heap) (k2:ok2 (s.heap.push o1))
    (h:∀ h',IsZip h' (s.heap.objs.size+4) (s.heap.objs.size+2) (s.heap.objs.size+3) .none→IsPair h' (s.heap.objs.size+2) (.ref s.heap.objs.size) (.ref (s.heap.objs.size+1))→IsPair h' (s.heap.objs.size+3) .none .none →
      h'.get? s.heap.objs.size=some o1→h'.get? (s.heap.objs.size+1)=some o2→h'.objs.size=s.heap.objs.size+5→(∀ c o,s.heap.get? c=some o→h'.get? c=some o)→Q (.ref (s.heap.objs.size+4)) { s with heap:=h' }) :
    wpAny (model prog w) A (call (.type "zip") [u1,u2]) Q E s:=by
  refine callType_newIn F.called_zip (by decide) (F.typeCall_zip_2 _ _) (F.newCall_zip_2 _ _) (fun obj=>F.args_object_init_3 obj _ _) F.entry_zip_new (qMx h1 h2) ⟨k1,k2,?_⟩
  obtain⟨n,hn⟩:∃ n,s.heap.objs.size=n:=⟨_,rfl⟩
  have g1:=Heap.get?_push_size s.heap f1
  have e1:(s.heap.push o1).objs.size=n+1:=by rw [Heap.size_push,hn]
  have p1:∀ c o,s.heap.get? c=some o→(s.heap.push o1).get? c=some o:=fun c o q=>Heap.get?_push_of_some _ q
  rw [hn] at g1 h ⊢
  rw [e1]
  generalize s.heap.push o1=ha at g1 e1 p1
  have g2:=Heap.get?_push_size ha f2
  have e2:(ha.push o2).objs.size=n+2:=by rw [Heap.size_push,e1]
  have p2:∀ c o,ha.get? c=some o→(ha.push o2).get? c=some o:=fun c o q=>Heap.get?_push_of_some _ q
  rw [e1] at g2
  rw [e2]
  generalize ha.push o2=hb at g2 e2 p2
  have g3:=Heap.get?_push_size hb (o:={ cls:=.type "tuple",data:=.seq #[.ref n,.ref (n+1)] }) rfl
  have e3:(hb.push { cls:=.type "tuple",data:=.seq #[.ref n,.ref (n+1)] }).objs.size=n+3:=by rw [Heap.size_push,e2]
  have p3:∀ c o,hb.get? c=some o→(hb.push { cls:=.type "tuple",data:=.seq #[.ref n,.ref (n+1)] }).get? c=some o:=fun c o q=>Heap.get?_push_of_some _ q
  rw [e2] at g3
  rw [e3]
  generalize hb.push { cls:=.type "tuple",data:=.seq #[.ref n,.ref (n+1)] }=hc at g3 e3 p3
  have g4:=Heap.get?_push_size hc (o:={ cls:=.type "tuple",data:=.seq #[.none,.none] }) rfl
  have e4:(hc.push { cls:=.type "tuple",data:=.seq #[.none,.none] }).objs.size=n+4:=by rw [Heap.size_push,e3]
  have p4:∀ c o,hc.get? c=some o→(hc.push { cls:=.type "tuple",data:=.seq #[.none,.none] }).get? c=some o:=fun c o q=>Heap.get?_push_of_some _ q
  rw [e3] at g4
  rw [e4]
  generalize hc.push { cls:=.type "tuple",data:=.seq #[.none,.none] }=hd at g4 e4 p4
  have g5:=Heap.get?_push_size hd (o:={ cls:=.type "zip",data:=.fields #[.none,.bool false,.bool false,.ref (n+2),.ref (n+3)] }) rfl
  have e5:(hd.push { cls:=.type "zip",data:=.fields #[.none,.bool false,.bool false,.ref (n+2),.ref (n+3)] }).objs.size=n+5:=by rw [Heap.size_push,e4]
  have p5:∀ c o,hd.get? c=some o→(hd.push { cls:=.type "zip",data:=.fields #[.none,.bool false,.bool false,.ref (n+2),.ref (n+3)] }).get? c=some o:=fun c o q=>Heap.get?_push_of_some _ q
  rw [e4] at g5
  generalize hd.push { cls:=.type "zip",data:=.fields #[.none,.bool false,.bool false,.ref (n+2),.ref (n+3)] }=he at g5 e5 p5
  exact⟨⟨_,g5,rfl⟩,h _ g5 (p5 _ _ (p4 _ _ g3)) (p5 _ _ g4) (p5 _ _ (p4 _ _ (p3 _ _ (p2 _ _ g1)))) (p5 _ _ (p4 _ _ (p3 _ _ g2))) e5 fun c o q=>p5 _ _ (p4 _ _ (p3 _ _ (p2 _ _ (p1 _ _ q))))⟩
end
end HT
namespace L3
open PySem PySem.Spec PyProof.Rows L2
structure ZSt (h:Heap) (z TI TO i1 i2:Addr):Prop where
  z:IsZip h z TI TO .none
  I:IsPair h TI (.ref i1) (.ref i2)
  O:∃ a b,IsPair h TO a b
noncomputable def qUQ (K:W.Frag) (a:Addr) (x:Str):It :=
  ⟨fun i H=>(∃ xs v,SqT K H a xs∧xs[i]? = some v)∧i<x.cps.size,fun i H v H'=>∃ p u c,H p=none∧H'=upd H p (.tup [u,.str ⟨#[c]⟩])∧v = .ref p∧x.cps[i]? = some c∧∀ xs,SqT K H a xs→xs[i]? = some u,fun i H=>∃ xs,SqT K H a xs∧(xs.length=i∨i<xs.length∧x.cps.size=i)⟩
noncomputable def qTz (K:W.Frag) (a b:Addr):It :=
  ⟨fun i H=>(∃ xs v,SqT K H a xs∧xs[i]? = some v)∧∃ ys v,SqT K H b ys∧ys[i]? = some v,fun i H v H'=>∃ p u w,H p=none∧H'=upd H p (.tup [u,w])∧v = .ref p∧(∀ ys,SqT K H b ys→ys[i]? = some w)∧∀ xs,SqT K H a xs→xs[i]? = some u,fun i H=>∃ xs ys,SqT K H a xs∧SqT K H b ys∧(xs.length=i∨i<xs.length∧ys.length=i)⟩
theorem qMW {P:Program} {w:World} {K:W.Frag} {elts:List Expr} {x1} {pos:Pos} (a z TI TO i1 i2:Addr) (tx:Str) (t:Tok) (ap:HT.qE6 z TI TO i1 i2 [i1,a] [i2]) (hai:a≠i1)  :
    Turn P w K (.Tuple elts x1 pos) (qUQ K a tx) [z,TI,TO,i1,i2] z (fun i h=>ZSt h z TI TO i1 i2∧IsTupIter h i1 a i∧h.IsStrIter i2 "str_ascii_iterator" tx t i) where
  mem:=by simp
  obj:=fun i h st b hb=>by
    obtain⟨⟨hz,hI,ta,tb,hO⟩,⟨o1,q1,q2,q3⟩,⟨o2,r1,r2,r3⟩⟩:=st
    k_dat 0"r23"
    k_dat 0"r49"
    · exact⟨_,hz,fun v z=>by have z':Data.fields _=Data.cell v:=z;cases z'⟩
    · exact⟨_,hI,fun v z=>by have z':Data.seq _ _=Data.cell v:=z;cases z'⟩
    · exact⟨_,hO,fun v z=>by have z':Data.seq _ _=Data.cell v:=z;cases z'⟩
    · exact⟨o1,q1,fun v z=>by rw [q3] at z;cases z⟩
    · exact⟨o2,r1,fun v z=>by rw [r3] at z;cases z⟩
  keep:=fun i h h' st k=>by
    obtain⟨⟨hz,hI,ta,tb,hO⟩,⟨o1,q1,q⟩,⟨o2,r1,r⟩⟩:=st
    k_dat 0"r108"
  item := by
    k_dat 0"r16"
    subst hP hw hK
    k_dat 0"r50"
    obtain⟨⟨xs,x,hq,hx⟩,hlt2⟩:=hg
    obtain⟨its,rv,p,hsz⟩:=I.tuple hq
    obtain⟨u,hu,ru⟩:=rv.get hx
    k_dat 0"r51"
    obtain⟨n0,n1,n2,n3,n4,n5⟩:=hf TI (by simp)
    k_dat 0"r52"
    k_dat 0"r53"
    k_dat 0"r54"
    refine HT.qFI ap (HT.qBT (A:=X.A.in1) (I.ok.hd hc) i1 a hai its.toArray) (Draws.strAscii (A:=X.A.in1) (I.ok.hd hc) i2 tx t) hz hI hO ⟨h1,p⟩ h2 (by have:=(Array.getElem?_eq_some_iff.mp (show its.toArray[i]? = some u by simpa using hu));exact this.1) hlt2 fun x0 y0 h' tk hx0 hy0 hz' hI' hO' st1' st2' hT hsz' hk=>?_
    have hxu:x0=u:=by
      k_dat 0"r75"
      have hx0:its.toArray[i]? = some x0:=hx0
      rw [q] at hx0;exact (Option.some.inj hx0).symm
    subst hxu
    obtain⟨cy,ty,hcy,rfl⟩:=hy0
    obtain⟨hit',hp'⟩:=st1'
    k_dat 0"r109"
    have tz:s.heap.objs.size≠z:=Ne.symm (qBn (Heap.lt_size hz) (Nat.le_refl _))
    have hT2:IsPair h2' s.heap.objs.size x0 (.str ⟨#[cy]⟩ ty):=(hs2.2 _ tz).trans hT
    k_dat 0"r110"
    have hp0:H s.heap.objs.size=none:=I.hok.fresh (Nat.le_refl _)
    k_dat 0"r55"
    k_dat 0"r56"
    refine⟨.ref s.heap.objs.size,upd H s.heap.objs.size (.tup [x,.str ⟨#[cy]⟩]),?_,rfl,⟨_,x,cy,hp0,rfl,rfl,hcy,fun ys hy=>by rw [I.qBu hy hq];exact hx⟩,⟨⟨hz2,(hs2.2 TI ap.TIz).trans hI',_,_,(hs2.2 TO ap.TOz).trans hO'⟩,qCA hit' fun o y=>(hs2.2 i1 ap.i1z).trans y,(show Heap.IsStrIter _ _ _ _ _ _ from let ⟨o,q,r⟩:=st2';⟨o,(hs2.2 i2 ap.i2z).trans q,r⟩)⟩,fun b hb=>?_⟩
    · show Inv X pins σ _ { s with heap:=h2',gens:=s.gens,drawn:=s.drawn,toks:=tk }
      refine Inv.step (s:=s) (h':=h2') (g':=s.gens) (d':=s.drawn) (t':=tk) (ch:=[z,TO,i1,i2]) I (fun b hb=>?_) (fun b o _ _ hc q _=>let ⟨w1,w2,w3,w4⟩:=nch b hc;hk2 b o w1 w2 w3 w4 q) (fun b o _ _ hc q _=>let ⟨w1,w2,w3,w4⟩:=nch b hc;⟨o.slots,hk2 b o w1 w2 w3 w4 q⟩)
        (fun b o _ q n=>by rw [qQ (qBn (Heap.lt_size q) (Nat.le_refl _))];exact n) (fun b o hc q=>let ⟨w1,w2,w3,w4⟩:=nch b hc;⟨o,hk2 b o w1 w2 w3 w4 q⟩)
        (fun b ys q=>by rw [qQ (qX q hp0)];exact q) (fun b o v q=>by rw [qQ (qX q hp0)];exact q) (fun b ps q=>⟨#[],by rw [qQ (qX q hp0),q];simp⟩) (fun m hm=>?_) (fun b v q=>?_) I.bare
      · k_dat 0"r23"
        rcases hb with rfl | rfl | rfl | rfl
        · exact⟨z3,z1,z4,z5⟩
        · exact⟨o3,o1,o4,o5⟩
        · exact⟨e3,e1,e4,e5⟩
        · exact⟨g3,g1,g4,g5⟩
      · k_dat 0"r26"
        exact⟨o,es,ep,hk2 _ o (Ne.symm z1) (Ne.symm o1) (Ne.symm e1) (Ne.symm g1) ho,r⟩
      · by_cases hb:b=s.heap.objs.size
        · subst hb
          rw [qh] at q
          cases q
          refine⟨by show 2≤sizeLine;decide,[x0,(.str ⟨#[cy]⟩ ty)],.cons ru (.cons ⟨_,rfl⟩ .nil),⟨_,hT2,rfl,0,rfl⟩⟩
        · rw [qQ hb] at q
          k_dat 0"r111"
          rcases hc with rfl | hc
          · exact hk2 c o (nt c v q).1 (nt c v q).2.1 (nt c v q).2.2.1 (nt c v q).2.2.2 y
          · exact hk2 c o (nt c _ hc).1 (nt c _ hc).2.1 (nt c _ hc).2.2.1 (nt c _ hc).2.2.2 y
    · have hlt:b<s.heap.objs.size:=by
        k_dat 0"r23"
        k_dat 0"r49"
        · exact Heap.lt_size hz
        · exact Heap.lt_size hI
        · exact Heap.lt_size hO
        · obtain⟨o,ho,_⟩:=h1;exact Heap.lt_size ho
        · obtain⟨o,ho,_⟩:=h2;exact Heap.lt_size ho
      rw [qQ (qBn hlt (Nat.le_refl _))]
      exact (hf b hb).1
  done:=by
    k_dat 0"r16"
    subst hP hw hK
    k_dat 0"r50"
    obtain⟨xs,hq,hstop⟩:=hg
    obtain⟨its,rv,p,hsz⟩:=I.tuple hq
    have hl:=rv.length
    k_dat 0"r51"
    k_dat 0"r52"
    k_dat 0"r53"
    k_dat 0"r54"
    refine HT.qC6 ap (HT.qBT (A:=X.A.in1) (I.ok.hd hc) i1 a hai its.toArray) (Draws.strAscii (A:=X.A.in1) (I.ok.hd hc) i2 tx t) hz hI hO ⟨h1,p⟩ h2 (hstop.elim (fun q=>.inl (by rw [List.size_toArray];omega)) fun q=>.inr ⟨by rw [List.size_toArray];omega,q.2.symm⟩) fun h' tk hk=>⟨rfl,?_⟩
    k_dat 0"r55"
    k_dat 0"r56"
    refine Inv.step (s:=s) (h':=h') (g':=s.gens) (d':=s.drawn) (t':=tk) (ch:=[z,TO,i1,i2]) I (fun b hb=>?_) (fun b o _ _ hc q _=>let ⟨w1,w2,w3,w4⟩:=nch b hc;hk b o w1 w2 w3 w4 q) (fun b o _ _ hc q _=>let ⟨w1,w2,w3,w4⟩:=nch b hc;⟨o.slots,hk b o w1 w2 w3 w4 q⟩)
      (fun b o _ q n=>n) (fun b o hc q=>let ⟨w1,w2,w3,w4⟩:=nch b hc;⟨o,hk b o w1 w2 w3 w4 q⟩)
      (fun b ys q=>q) (fun b o v q=>q) (fun b ps q=>⟨#[],by rw [q];simp⟩) (fun m hm=>?_) (fun b v q=>?_) I.bare
    · k_dat 0"r23"
      rcases hb with rfl | rfl | rfl | rfl
      · exact⟨z3,z1,z4,z5⟩
      · exact⟨o3,o1,o4,o5⟩
      · exact⟨e3,e1,e4,e5⟩
      · exact⟨g3,g1,g4,g5⟩
    · k_dat 0"r26"
      exact⟨o,es,ep,hk _ o (Ne.symm z1) (Ne.symm o1) (Ne.symm e1) (Ne.symm g1) ho,r⟩
    · refine (I.hok b v q).stay (fun c o hc y=>?_) (fun c y=>y) fun c ys y=>y
      rcases hc with rfl | hc
      · exact hk c o (nt c v q).1 (nt c v q).2.1 (nt c v q).2.2.1 (nt c v q).2.2.2 y
      · exact hk c o (nt c _ hc).1 (nt c _ hc).2.1 (nt c _ hc).2.2.1 (nt c _ hc).2.2.2 y
  self:=fun _ _ _ _ _ st h=>by
    obtain⟨⟨hz,_⟩,_⟩:=st
    exact wpAny_pyIter_zip hz h
theorem qL4 {P:Program} {w:World} {K:W.Frag} {elts:List Expr} {x1} {pos:Pos} (a z TI TO i1 i2:Addr) (b:Addr) (ap:HT.qE6 z TI TO i1 i2 [i1,a] [i2,b]) (hai:a≠i1) (hbi:b≠i2) :
    Turn P w K (.Tuple elts x1 pos) (qTz K a b) [z,TI,TO,i1,i2] z (fun i h=>ZSt h z TI TO i1 i2∧IsTupIter h i1 a i∧IsTupIter h i2 b i) where
  mem:=by simp
  obj:=fun i h st b hb=>by
    obtain⟨⟨hz,hI,ta,tb,hO⟩,⟨o1,q1,q2,q3⟩,⟨o2,r1,r2,r3⟩⟩:=st
    k_dat 0"r23"
    k_dat 0"r49"
    · exact⟨_,hz,fun v z=>by have z':Data.fields _=Data.cell v:=z;cases z'⟩
    · exact⟨_,hI,fun v z=>by have z':Data.seq _ _=Data.cell v:=z;cases z'⟩
    · exact⟨_,hO,fun v z=>by have z':Data.seq _ _=Data.cell v:=z;cases z'⟩
    · exact⟨o1,q1,fun v z=>by rw [q3] at z;cases z⟩
    · exact⟨o2,r1,fun v z=>by rw [r3] at z;cases z⟩
  keep:=fun i h h' st k=>by
    obtain⟨⟨hz,hI,ta,tb,hO⟩,⟨o1,q1,q⟩,⟨o2,r1,r⟩⟩:=st
    k_dat 0"r108"
  item := by
    k_dat 0"r16"
    subst hP hw hK
    k_dat 0"r50"
    obtain⟨⟨xs,x,hq,hx⟩,ys,y,hqy,hy⟩:=hg
    obtain⟨its2,rv2,p2,hsz2⟩:=I.tuple hqy
    obtain⟨u2,hu2,ru2⟩:=rv2.get hy
    obtain⟨its,rv,p,hsz⟩:=I.tuple hq
    obtain⟨u,hu,ru⟩:=rv.get hx
    k_dat 0"r51"
    obtain⟨n0,n1,n2,n3,n4,n5⟩:=hf TI (by simp)
    k_dat 0"r52"
    k_dat 0"r53"
    k_dat 0"r54"
    refine HT.qFI ap (HT.qBT (A:=X.A.in1) (I.ok.hd hc) i1 a hai its.toArray) (HT.qBT (A:=X.A.in1) (I.ok.hd hc) i2 b hbi its2.toArray) hz hI hO ⟨h1,p⟩ ⟨h2,p2⟩ (by have:=(Array.getElem?_eq_some_iff.mp (show its.toArray[i]? = some u by simpa using hu));exact this.1) (by have:=(Array.getElem?_eq_some_iff.mp (show its2.toArray[i]? = some u2 by simpa using hu2));exact this.1) fun x0 y0 h' tk hx0 hy0 hz' hI' hO' st1' st2' hT hsz' hk=>?_
    have hxu:x0=u:=by
      k_dat 0"r75"
      have hx0:its.toArray[i]? = some x0:=hx0
      rw [q] at hx0;exact (Option.some.inj hx0).symm
    subst hxu
    have hyu:y0=u2:=by
      have q:its2.toArray[i]? = some u2:=by simpa using hu2
      have hy0:its2.toArray[i]? = some y0:=hy0
      rw [q] at hy0;exact (Option.some.inj hy0).symm
    subst hyu
    obtain⟨hit',hp'⟩:=st1'
    k_dat 0"r109"
    have tz:s.heap.objs.size≠z:=Ne.symm (qBn (Heap.lt_size hz) (Nat.le_refl _))
    have hT2:IsPair h2' s.heap.objs.size x0 y0:=(hs2.2 _ tz).trans hT
    k_dat 0"r110"
    have hp0:H s.heap.objs.size=none:=I.hok.fresh (Nat.le_refl _)
    k_dat 0"r55"
    k_dat 0"r56"
    refine⟨.ref s.heap.objs.size,upd H s.heap.objs.size (.tup [x,y]),?_,rfl,⟨_,x,y,hp0,rfl,rfl,fun zs hzs=>by rw [I.qBu hzs hqy];exact hy,fun zs hzs=>by rw [I.qBu hzs hq];exact hx⟩,⟨⟨hz2,(hs2.2 TI ap.TIz).trans hI',_,_,(hs2.2 TO ap.TOz).trans hO'⟩,qCA hit' fun o y=>(hs2.2 i1 ap.i1z).trans y,(qCA st2'.1 fun o y=>(hs2.2 i2 ap.i2z).trans y)⟩,fun b hb=>?_⟩
    · show Inv X pins σ _ { s with heap:=h2',gens:=s.gens,drawn:=s.drawn,toks:=tk }
      refine Inv.step (s:=s) (h':=h2') (g':=s.gens) (d':=s.drawn) (t':=tk) (ch:=[z,TO,i1,i2]) I (fun b hb=>?_) (fun b o _ _ hc q _=>let ⟨w1,w2,w3,w4⟩:=nch b hc;hk2 b o w1 w2 w3 w4 q) (fun b o _ _ hc q _=>let ⟨w1,w2,w3,w4⟩:=nch b hc;⟨o.slots,hk2 b o w1 w2 w3 w4 q⟩)
        (fun b o _ q n=>by rw [qQ (qBn (Heap.lt_size q) (Nat.le_refl _))];exact n) (fun b o hc q=>let ⟨w1,w2,w3,w4⟩:=nch b hc;⟨o,hk2 b o w1 w2 w3 w4 q⟩)
        (fun b ys q=>by rw [qQ (qX q hp0)];exact q) (fun b o v q=>by rw [qQ (qX q hp0)];exact q) (fun b ps q=>⟨#[],by rw [qQ (qX q hp0),q];simp⟩) (fun m hm=>?_) (fun b v q=>?_) I.bare
      · k_dat 0"r23"
        rcases hb with rfl | rfl | rfl | rfl
        · exact⟨z3,z1,z4,z5⟩
        · exact⟨o3,o1,o4,o5⟩
        · exact⟨e3,e1,e4,e5⟩
        · exact⟨g3,g1,g4,g5⟩
      · k_dat 0"r26"
        exact⟨o,es,ep,hk2 _ o (Ne.symm z1) (Ne.symm o1) (Ne.symm e1) (Ne.symm g1) ho,r⟩
      · by_cases hb:b=s.heap.objs.size
        · subst hb
          rw [qh] at q
          cases q
          refine⟨by show 2≤sizeLine;decide,[x0,y0],.cons ru (.cons ru2 .nil),⟨_,hT2,rfl,0,rfl⟩⟩
        · rw [qQ hb] at q
          k_dat 0"r111"
          rcases hc with rfl | hc
          · exact hk2 c o (nt c v q).1 (nt c v q).2.1 (nt c v q).2.2.1 (nt c v q).2.2.2 y
          · exact hk2 c o (nt c _ hc).1 (nt c _ hc).2.1 (nt c _ hc).2.2.1 (nt c _ hc).2.2.2 y
    · have hlt:b<s.heap.objs.size:=by
        k_dat 0"r23"
        k_dat 0"r49"
        · exact Heap.lt_size hz
        · exact Heap.lt_size hI
        · exact Heap.lt_size hO
        · obtain⟨o,ho,_⟩:=h1;exact Heap.lt_size ho
        · obtain⟨o,ho,_⟩:=h2;exact Heap.lt_size ho
      rw [qQ (qBn hlt (Nat.le_refl _))]
      exact (hf b hb).1
  done:=by
    k_dat 0"r16"
    subst hP hw hK
    k_dat 0"r50"
    obtain⟨xs,ys,hq,hqy,hstop⟩:=hg
    obtain⟨its2,rv2,p2,hsz2⟩:=I.tuple hqy
    have hl2:=rv2.length
    obtain⟨its,rv,p,hsz⟩:=I.tuple hq
    have hl:=rv.length
    k_dat 0"r51"
    k_dat 0"r52"
    k_dat 0"r53"
    k_dat 0"r54"
    refine HT.qC6 ap (HT.qBT (A:=X.A.in1) (I.ok.hd hc) i1 a hai its.toArray) (HT.qBT (A:=X.A.in1) (I.ok.hd hc) i2 b hbi its2.toArray) hz hI hO ⟨h1,p⟩ ⟨h2,p2⟩ (hstop.elim (fun q=>.inl (by rw [List.size_toArray];omega)) fun q=>.inr ⟨by rw [List.size_toArray];omega,by rw [List.size_toArray];omega⟩) fun h' tk hk=>⟨rfl,?_⟩
    k_dat 0"r55"
    k_dat 0"r56"
    refine Inv.step (s:=s) (h':=h') (g':=s.gens) (d':=s.drawn) (t':=tk) (ch:=[z,TO,i1,i2]) I (fun b hb=>?_) (fun b o _ _ hc q _=>let ⟨w1,w2,w3,w4⟩:=nch b hc;hk b o w1 w2 w3 w4 q) (fun b o _ _ hc q _=>let ⟨w1,w2,w3,w4⟩:=nch b hc;⟨o.slots,hk b o w1 w2 w3 w4 q⟩)
      (fun b o _ q n=>n) (fun b o hc q=>let ⟨w1,w2,w3,w4⟩:=nch b hc;⟨o,hk b o w1 w2 w3 w4 q⟩)
      (fun b ys q=>q) (fun b o v q=>q) (fun b ps q=>⟨#[],by rw [q];simp⟩) (fun m hm=>?_) (fun b v q=>?_) I.bare
    · k_dat 0"r23"
      rcases hb with rfl | rfl | rfl | rfl
      · exact⟨z3,z1,z4,z5⟩
      · exact⟨o3,o1,o4,o5⟩
      · exact⟨e3,e1,e4,e5⟩
      · exact⟨g3,g1,g4,g5⟩
    · k_dat 0"r26"
      exact⟨o,es,ep,hk _ o (Ne.symm z1) (Ne.symm o1) (Ne.symm e1) (Ne.symm g1) ho,r⟩
    · refine (I.hok b v q).stay (fun c o hc y=>?_) (fun c y=>y) fun c ys y=>y
      rcases hc with rfl | hc
      · exact hk c o (nt c v q).1 (nt c v q).2.1 (nt c v q).2.2.1 (nt c v q).2.2.2 y
      · exact hk c o (nt c _ hc).1 (nt c _ hc).2.1 (nt c _ hc).2.2.1 (nt c _ hc).2.2.2 y
  self:=fun _ _ _ _ _ st h=>by
    obtain⟨⟨hz,_⟩,_⟩:=st
    exact wpAny_pyIter_zip hz h
noncomputable def qEu (xs ys:List Dt):List Dt:=(xs.zip ys).map fun p=>.tup [p.1,p.2]
theorem qET {xs ys:List Dt} {i:Nat} {d:Dt} (h:(qEu xs ys)[i]? = some d):∃ x y,xs[i]? = some x∧ys[i]? = some y∧d = .tup [x,y]:=by
  unfold qEu at h
  rw [List.getElem?_map] at h
  cases e:(xs.zip ys)[i]? with
  | none=>rw [e] at h;cases h
  | some p =>
    rw [e] at h
    obtain⟨h1,h2⟩:=List.getElem?_zip_eq_some.mp e
    exact⟨p.1,p.2,h1,h2,(Option.some.inj h).symm⟩
theorem qDS {xs ys:List Dt}:(qEu xs ys).length=min xs.length ys.length:=by
  unfold qEu;simp
def qPb (ta tb:TD):TID:=fun ρ st P=>ta ρ st fun x st1=>tb ρ st1 fun y st2=>match x,y with
  | .tup xs,.str z=>(z.cps.all fun c=>decide (c<128))=true∧P (qEu xs (qBv z)) (fun _=>True) st2
  | .tup xs,.tup ys=>P (qEu xs ys) (fun _=>True) st2
  | _,_=>False
theorem qGX {prog:Program} {w:World} {t:Addr} {items:Array Value}:HT.qE7 prog w (.ref t) { cls:=.type "tuple_iterator",data:=.fields #[.ref t,.int 0 0] } (fun h=>IsTup h t items):=fun A s Q E h q=>iter_tuple h q
theorem qMw {prog:Program} {w:World} {z:Str} {t:Tok} (ha:(z.cps.all fun c=>decide (c<128))=true):HT.qE7 prog w (.str z t) { cls:=.type "str_ascii_iterator",data:=.fields #[.str z t,.int 0 0] } (fun _=>True):=fun A s Q E _ q=>wpAny_pyIter_ascii ha q
section
variable {X:Cx} {a b:Expr} {elts:List Expr} {x1:Nat} {tpos pos p:Pos} {ta tb:TD}
theorem qQ7 (hm:X.mg "zip" = none) (ha:DE X a ta) (hb:DE X b tb) (hg:Gl X "zip") (hs:starEach [a,b] X.env=(false,eval a X.env)::starEach [b] X.env) (hs2:starEach [b] X.env=(false,eval b X.env)::starEach [] X.env) (hpl:(backTo pos (starEach [b] X.env)).any (·.1)=false):DI X (.Tuple elts x1 tpos) (.Call (.Name "zip" p) [a,b] [] pos) (qPb ta tb):=by
  intro pins s σ H R I h
  k_dat 0"r1"
  refine Call_ (qEw I hg hm PyProof.Rows.boot_zip (PyProof.Rows.callWith_type1 (thn (qCm ha (qCm hb qEm hs2) hs pos pins s σ H _ I ⟨φ,st,ρ,(fun ds st1=>match ds with
    | [x,y]=>(match x,y with
      | .tup xs,.str z=>(z.cps.all fun c=>decide (c<128))=true∧P (qEu xs (qBv z)) (fun _=>True) st1
      | .tup xs,.tup ys=>P (qEu xs ys) (fun _=>True) st1
      | _,_=>False)
    | _=>False),pre,ht,fun ds st1 h1 φ1 H1 vs b1 dl=>(show ∃ φ1 st1 ds,Bhd X.K φ st H φ1 st1 H1∧DL X.K φ1 st1.length H1 ds vs∧(match ds with
    | [x,y]=>(match x,y with
      | .tup xs,.str z=>(z.cps.all fun c=>decide (c<128))=true∧P (qEu xs (qBv z)) (fun _=>True) st1
      | .tup xs,.tup ys=>P (qEu xs ys) (fun _=>True) st1
      | _,_=>False)
    | _=>False) from⟨φ1,st1,ds,b1,dl,h1⟩)⟩) fun us s1 ⟨vs,H1,I1,rv,φ1,st1,ds,b1,dl,h1⟩=>?_) hs hpl))
  rcases ds with _ | ⟨d,_ | ⟨e,_ | ⟨d3,r⟩⟩⟩
  · exact h1.elim
  · exact h1.elim
  rotate_left
  · exact h1.elim
  obtain⟨v1,vr,rfl,dv1,dlr⟩:=dl
  obtain⟨v2,rfl,dv2⟩:=DL.one dlr
  cases rv with
  | @cons _ u1 _ us1 ru1 rr =>
  cases rr with
  | @cons _ u2 _ us2 ru2 rr2 =>
  cases rr2
  cases d with
  | tup xs =>
    obtain⟨a1,ws,ev,hs1,dws⟩:=dv1.tup
    subst ev
    cases ru1
    obtain⟨its,rvs,pl,hz⟩:=I1.tuple hs1
    have alt:a1<s1.heap.objs.size:=by obtain⟨_,e,_⟩:=pl;exact Heap.lt_size e
    have hlw:=dws.length
    have hfp:∀ c∈[s1.heap.objs.size+4,s1.heap.objs.size+2,s1.heap.objs.size+3,s1.heap.objs.size,s1.heap.objs.size+1],qGu X pins H1 c:=fun c hc=>by
      have hle:s1.heap.objs.size≤c:=by
        simp only [List.mem_cons,List.not_mem_nil,or_false] at hc
        omega
      exact I1.qMn hle (I1.hok.fresh hle)
    cases e with
    | str z =>
      obtain⟨hasc,h1⟩:=h1
      have ev:=dv2.str
      subst ev
      obtain⟨t,rfl⟩:=ru2
      refine HT.qHO qGX (qMw hasc) rfl rfl pl trivial fun h' hz' hI' hO' g1 g2 hsz hk=>?_
      refine wpAny_pyIter_zip (s:={ s1 with heap:=h' }) hz' ?_
      have I2:Inv X pins σ H1 { s1 with heap:=h' }:=I1.kept (t':=s1.toks) hk
      refine⟨s1.heap.objs.size+4,[s1.heap.objs.size+4,s1.heap.objs.size+2,s1.heap.objs.size+3,s1.heap.objs.size,s1.heap.objs.size+1],_,_,H1,rfl,I2,qMW a1 (s1.heap.objs.size+4) (s1.heap.objs.size+2) (s1.heap.objs.size+3) s1.heap.objs.size (s1.heap.objs.size+1) z t ?_ (Nat.ne_of_lt alt),⟨⟨hz',hI',_,_,hO'⟩,⟨_,g1,rfl,rfl⟩,⟨_,g2,rfl,rfl⟩⟩,hfp,hq _ _ st1 h1 φ1 H1 _ b1 ?_⟩
      · have alt':(a1:Nat)<s1.heap.objs.size:=alt
        generalize s1.heap.objs.size=n at *
        k_dat 0"r112"
      · intro i φ' st' H' bh hok hi
        obtain⟨a',zs,e2,hs',dl'⟩:=(dv1.evo bh.2).tup
        cases e2
        have hlen:=dl'.length
        have hsl:(qBv z).length=z.cps.size:=by simp [qBv]
        rw [qDS,hsl] at hi
        refine⟨fun e=>⟨zs,hs',by rw [qDS,hsl] at e;omega⟩,fun d ed=>?_⟩
        obtain⟨x,y,ex,ey,rfl⟩:=qET ed
        obtain⟨vx,evx,dx⟩:=dl'.get ex
        have hlt:i<(qBv z).length:=(List.getElem?_eq_some_iff.mp ey).1
        rw [hsl] at hlt
        have ey2:y = .str ⟨#[z.cps[i]]⟩:=by
          have q:(qBv z)[i]? = some (.str ⟨#[z.cps[i]]⟩):=by simp [qBv,hlt]
          rw [q] at ey;exact (Option.some.inj ey).symm
        subst ey2
        refine⟨⟨⟨zs,vx,hs',evx⟩,hlt⟩,fun y' H2 hy=>?_⟩
        obtain⟨q,v,c,hq1,rfl,rfl,hc,hv⟩:=hy
        have hvx:=hv zs hs'
        rw [evx] at hvx
        cases hvx
        have:z.cps[i]? = some z.cps[i]:=by simp [hlt]
        rw [this] at hc
        cases hc
        exact⟨qBL bh.1 hq1,.qCH (SqT.of qh) (.cons (dx.evo (qBE hq1)) (.cons D.mkStr .nil))⟩
    | tup ys =>
      have h1:P (qEu xs ys) (fun _=>True) st1:=h1
      obtain⟨a2,ws2,ev,hs2',dws2⟩:=dv2.tup
      subst ev
      cases ru2
      obtain⟨its2,rvs2,pl2,hz2⟩:=I1.tuple hs2'
      have alt2:a2<s1.heap.objs.size:=by obtain⟨_,e,_⟩:=pl2;exact Heap.lt_size e
      refine HT.qHO qGX qGX rfl rfl pl (show IsTup _ a2 its2.toArray from let ⟨o,q,r⟩:=pl2;⟨o,Heap.get?_push_of_some _ q,r⟩) fun h' hz' hI' hO' g1 g2 hsz hk=>?_
      refine wpAny_pyIter_zip (s:={ s1 with heap:=h' }) hz' ?_
      have I2:Inv X pins σ H1 { s1 with heap:=h' }:=I1.kept (t':=s1.toks) hk
      refine⟨s1.heap.objs.size+4,[s1.heap.objs.size+4,s1.heap.objs.size+2,s1.heap.objs.size+3,s1.heap.objs.size,s1.heap.objs.size+1],_,_,H1,rfl,I2,qL4 a1 (s1.heap.objs.size+4) (s1.heap.objs.size+2) (s1.heap.objs.size+3) s1.heap.objs.size (s1.heap.objs.size+1) a2 ?_ (Nat.ne_of_lt alt) (Nat.ne_of_lt (Nat.lt_succ_of_lt alt2)),⟨⟨hz',hI',_,_,hO'⟩,⟨_,g1,rfl,rfl⟩,⟨_,g2,rfl,rfl⟩⟩,hfp,hq _ _ st1 h1 φ1 H1 _ b1 ?_⟩
      · have alt':(a1:Nat)<s1.heap.objs.size:=alt
        generalize s1.heap.objs.size=n at *
        k_dat 0"r112"
      · intro i φ' st' H' bh hok hi
        obtain⟨a',zs,e2,hs',dl'⟩:=(dv1.evo bh.2).tup
        cases e2
        obtain⟨b',zs2,e3,hsb,dlb⟩:=(dv2.evo bh.2).tup
        cases e3
        have hlen:=dl'.length
        have hlenb:=dlb.length
        rw [qDS] at hi
        refine⟨fun e=>⟨zs,zs2,hs',hsb,by rw [qDS] at e;omega⟩,fun d ed=>?_⟩
        obtain⟨x,y,ex,ey,rfl⟩:=qET ed
        obtain⟨vx,evx,dx⟩:=dl'.get ex
        obtain⟨vy,evy,dy⟩:=dlb.get ey
        refine⟨⟨⟨zs,vx,hs',evx⟩,⟨zs2,vy,hsb,evy⟩⟩,fun y' H2 hy=>?_⟩
        obtain⟨q,v,w2,hq1,rfl,rfl,hc,hv⟩:=hy
        have hvx:=hv zs hs'
        rw [evx] at hvx
        cases hvx
        have hvy:=hc zs2 hsb
        rw [evy] at hvy
        cases hvy
        exact⟨qBL bh.1 hq1,.qCH (SqT.of qh) (.cons (dx.evo (qBE hq1)) (.cons (dy.evo (qBE hq1)) .nil))⟩
    | _=>exact h1.elim
  | _=>cases e<;>exact h1.elim
end
end L3
namespace L3
open PySem PySem.Spec PyProof.Rows L2
def qPs:RD2:=fun x y st P=>match x,y with
  | .int i,.int j=>qTQ i j∧P (.int (i * 2 ^ j.toNat)) st
  | _,_=>False
section
variable {X:Cx} {a b:Expr} {ta tb:TD} {pos:Pos}
theorem qRL:OpD X (binaryOp .LShift) qPs:=by
  k_dat 0"r14"
  k_dat 0"r11"
  cases x with
  | int i =>
    cases y with
    | int j=>exact qQt pins s σ H v w u1 u2 Q I r1 r2 ⟨i,j,dx.int,dy.int,hr.1,Go.here hq R hr.2 D.mkInt⟩
    | _=>exact hr.elim
  | _=>cases y<;>exact hr.elim
theorem qRI (ha:DE X a ta) (hb:DE X b tb):DE X (.BinOp a .LShift b pos) (qE qPs ta tb):=qFM qRL ha hb
end
end L3
namespace L3
open PySem PySem.Spec PyProof.Rows L2
noncomputable def qCL (P:Params):List DictEntry→List (Str×Int)→Prop
  | [],[]=>True
  | e::r,kv::q=>(∃ t u,e.key = .str kv.1 t∧e.val = .int kv.2 u∧e.hash=PyData.keyHash P kv.1)∧qCL P r q
  | _,_=>False
theorem qCL.lit {P:Params}:∀ {l:List DictEntry} {kvs:List (Str×Int)},qCL P l kvs→W.KeysLit P l
  | [],[],_=>trivial
  | _::_,_::_,⟨⟨t,_,h1,_,h3⟩,r⟩=>⟨⟨_,t,h1,h3⟩,r.lit⟩
  | [],_::_,h=>h.elim
  | _::_,[],h=>h.elim
theorem qCL.find {P:Params} (y:Str):∀ {l:List DictEntry} {kvs:List (Str×Int)},qCL P l kvs→(kvs.lookup y=none∧(l.find? fun e=>Value.isStrOf y e.key).map (·.val)=none)∨∃ z u,kvs.lookup y=some z∧(l.find? fun e=>Value.isStrOf y e.key).map (·.val)=some (.int z u)
  | [],[],_=>.inl ⟨rfl,rfl⟩
  | e :: r,(k,v)::q,⟨⟨t,u,h1,h2,h3⟩,hr⟩=>by
    have ih:=qCL.find y hr
    have hk:Value.isStrOf y e.key=(k==y):=by rw [h1];rfl
    rw [List.find?_cons,hk,List.lookup_cons]
    have hs:(y==k)=(k==y):=by
      by_cases q:y=k
      · subst q;rfl
      · rw [beq_eq_false_iff_ne.mpr q,beq_eq_false_iff_ne.mpr (Ne.symm q)]
    rw [hs]
    cases k==y with
    | true=>exact .inr ⟨v,u,rfl,by rw [Option.map_some,h2]⟩
    | false=>exact ih
  | [],_::_,h=>h.elim
  | _::_,[],h=>h.elim
structure qOh (w:World) (K:W.Frag) (mg:Str→Option Value) (x:Str) (kvs:List (Str×Int)):Prop where
  ex:∃ a es n,mg x=some (.ref a)∧K.lookup a=some ⟨.type "dict",none,.dict es n,#[]⟩∧(a==sysModules)=false∧qCL w.params es.toList kvs
def qEr (kvs:List (Str×Int)) (ti:TD):TD:=fun ρ st P=>ti ρ st fun y st1=>match y with
  | .str z=>P (.bl (kvs.lookup z).isSome) st1
  | _=>False
section
variable {X:Cx} {i:Expr} {ti:TD} {pos p:Pos} {x:Str} {kvs:List (Str×Int)}
noncomputable def qOH (kvs:List (Str×Int)) (ti:TE):TE:=fun σ H Q=>ti σ H fun y H1=>∃ z,y = .str z∧Q (.bl (kvs.lookup z).isSome) H1
theorem qLl {ty:TE} (T:qOh X.w X.K X.mg x kvs) (hi:PE X i ty) (hg:Gl X x) (hd:(x==("__debug__" : Str))=false):PC X .In i (.Name x p) (qOH kvs ty):=by
  obtain⟨a,es,n,hm,hl,hy,he⟩:=T.ex
  k_dat 0"r2"
  refine thn (hi pins s σ H _ I h) fun iv s1 ⟨y,H1,I1,ry,z,ey,q1⟩=>?_
  refine qEj I1 hg hm ?_ hd
  subst ey
  obtain⟨t,rfl⟩:=ry
  have hmap:=W.mapOf_K (prog:=X.prog) I1.kIn hl he.lit
  refine wpAny_in_of (strKind_is X.prog X.w z t) hy hmap ?_
  have e:(findBy Value.isStrOf es z).isSome=(kvs.lookup z).isSome:=by
    obtain⟨l⟩:=es
    unfold findBy
    rw [List.find?_toArray]
    rcases he.find z with ⟨e1,e2⟩ | ⟨z',u',e1,e2⟩<;>rw [e1,e2]<;>rfl
  rw [e]
  exact⟨.bl _,H1,I1.tok _,rfl,q1⟩
theorem qIr {K:W.Frag} {σ:L2.St} {H:Hp} {Q:VK} (h:qAd K (qEr kvs ti) σ H Q):qOH kvs (qAd K ti) σ H Q:=by
  k_dat 0"r1"
  refine⟨φ,st,ρ,_,pre,ht,fun y st1 h1 φ1 H1 v b1 dy=>?_⟩
  cases y with
  | str z =>
    cases dy.str
    exact⟨z,rfl,hq _ _ h1 _ _ _ b1 D.qD7⟩
  | _=>exact h1.elim
theorem qJ6 (T:qOh X.w X.K X.mg x kvs) (hi:DE X i ti) (hg:Gl X x) (hd:(x==("__debug__" : Str))=false) (hm:behindInMarks .In (.Name x p)=false):DT X (.Compare i [.In] [.Name x p] pos) (qH (qEr kvs ti)):=(qRM (qLl T hi hg hd) hm).imp fun _ _ _ h=>qIr (qDi h)
end
section
variable {X:Cx} {nm:Str} {pos:Pos} {e:Expr} {es:List Expr} {t:TAD}
theorem qPS {k:Nat} {sp:RDL} {p:Pos} (F:qJm X.prog X.w X.K X.mg X.base nm k sp) (hr:qAt (k+1) X.A) (ha:DA X (e::es) t) (hg:Gl X nm) (hdb:(nm==("__debug__" : Str))=false) (he:starEach (e::es) X.env=(false,eval e X.env)::starEach es X.env) (hpl:(backTo pos (starEach es X.env)).any (·.1)=false):DE X (.Call (.Name nm p) (e::es) [] pos) (qKy nm sp t):=by
  obtain⟨C,f,fd,ps,h1,h2,h3,h4,h5⟩:=F.ex
  exact (qPL h3 h4 hr hg h2 h5 .nil qOC ha hdb he hpl).imp fun σ H Q h=>qME h1 h
end
end L3
namespace L3
open PySem PySem.Spec PyProof.Rows L2
section
variable {X:Cx} {pos:Pos}
def qKz (i j:Nat) (ta:TAD):TSD:=fun E ρ st=>ta ρ st fun ds st1=>∃ a b,ds=[a,b]∧E.nx ((ρ.set i (some a)).set j (some b)) st1
theorem qPk (i j:Nat) {x y:Str} {a b:Expr} {ta:TAD} {px py pt:Pos} {kt k2 pt2} (hc:X.calm=true) (hN:X.N.Nodup) (hi:X.N[i]? = some x) (hj:X.N[j]? = some y) (hij:i≠j)
    (hx:X.env.scope.names.lookup x=some .local) (hy:X.env.scope.names.lookup y=some .local) (ha:DA X [a,b] ta)
    (hw:swappedStores [.Tuple [.Name x px,.Name y py] kt pt] (.Tuple [a,b] k2 pt2) X.env=pure (some [x,y]))
    (hs:swapsWithSole [.Tuple [.Name x px,.Name y py] kt pt] (.Tuple [a,b] k2 pt2) pos.line X.env=pure false) :
    DS X (.Assign [.Tuple [.Name x px,.Name y py] kt pt] (.Tuple [a,b] k2 pt2) pos) (qKz i j ta):=(qRo hc hN hi hj hij hx hy ha hw hs).imp fun E σ H h=>by
  obtain⟨φ,st,ρ,P,pre,ht,n,b',c',r⟩:=h
  refine⟨φ,st,ρ,_,pre,ht,fun ds st1 h1 φ1 H1 vs b1 dl=>?_⟩
  obtain⟨d1,d2,rfl,h1⟩:=h1
  obtain⟨v1,v2,rfl,e1,e2⟩:=dl.two
  exact⟨v1,v2,rfl,n _ st1 h1 φ1 H1 _ b1 (((pre.on b1).2.set e1 i).set e2 j)⟩
end
end L3
namespace K01
open PySem L2 L3
noncomputable def qEz:List Str:=["halt", "put", "add", "sub", "mul", "bad", "div", "get", "set", "jump", "when", "go", "tell", "hear", "right", "back"]
noncomputable def qKR:List Dt:=qEz.map .str
noncomputable def wordOf (i:Int):Str:=qEz.getD i.toNat ""
noncomputable def outD (n:Int):Dt:=.tup [.str (wordOf (n / 4096%16)),.int (n / 512%8),.int (n / 64%8),.int (n%64)]
def qDM:RDL:=fun ds st P=>∃ n:Int,ds=[.int n]∧P (outD n) st
end K01
set_option maxHeartbeats 1000000
namespace K02
open PySem L2 L3
noncomputable abbrev cs (z:Str):List Nat:=z.cps.toList
noncomputable abbrev one (c:Nat):Str:=⟨#[c]⟩
end K02
namespace K85
open PySem L2 L3 K02
noncomputable def qDu:List (Str×Str):=[("num", "dn"),("yes", "d"),("no", "d"),("box", "dn"),("mark", "dn"),("add", "dxx"),("sub", "dxx"),("mul", "dxx"),("over", "dxx"),("under", "dxx"),("wide", "dxx"),("rest", "dxx"),("nought", "dx"),("high", "dx"),("keep", "sx"),("load", "ds"),("get", "dxxe"),("set", "xxxee"),("div", "dxxe"),("tell", "x"),("hear", "d"),("right", "xxe"),("out", "e"),("when", "xee"),("back", "ee")]
structure Rw where
  w:Str
  xs:List Int
noncomputable def qk (r:Rw):Dt:=.tup (.str r.w::r.xs.map .int)
noncomputable def qAD (w:Str):Str:=(qDu.lookup w).getD ""
structure OkR (r:Rw):Prop where
  know:qDu.lookup r.w=some (qAD r.w)
  len:r.xs.length=(qAD r.w).length
noncomputable def partsOf (f:Str) (xs:List Int) (sign:Str):List Int:=((xs.zip (cs f)).filter fun p=>one p.2==sign).map (·.1)
theorem qMa:qDu.all (fun p=>(p.2.cps.all fun c=>decide (c<128))&&decide (p.2.length≤5))=true:=by decide +kernel
theorem lookup_mem {α β:Type} [BEq α] [LawfulBEq α]:∀ {l:List (α×β)} {a:α} {b:β},l.lookup a=some b→(a,b)∈l
  | [],_,_,h=>by cases h
  | (x,y)::l,a,b,h=>by
    rw [List.lookup_cons] at h
    cases e:(a==x) with
    | true =>
      rw [e] at h
      have:a=x:=eq_of_beq e
      subst this
      cases h;exact List.mem_cons_self
    | false =>
      rw [e] at h
      exact List.mem_cons_of_mem _ (lookup_mem h)
theorem qK9 {w f:Str} (h:qDu.lookup w=some f):(f.cps.all fun c=>decide (c<128))=true∧f.length≤5:=by
  have:=List.all_eq_true.mp qMa _ (lookup_mem h)
  simp only [Bool.and_eq_true,decide_eq_true_eq] at this
  exact this
theorem qA9 {w f:Str} {xs:List Int} (h:qDu.lookup w=some f) (hl:xs.length=f.length):OkR ⟨w,xs⟩:=by
  have e:qAD w=f:=by unfold qAD;rw [h];rfl
  exact⟨by show qDu.lookup w=some (qAD w);rw [e];exact h,by show xs.length=(qAD w).length;rw [e];exact hl⟩
def qAs:RDL:=fun ds st P=>∃ (r:Rw) (sign:Str),ds=[qk r,.str sign]∧OkR r∧∀ st',ql st st'→P (.tup ((partsOf (qAD r.w) r.xs sign).map .int)) st'
def qAv:RDL:=fun ds st P=>∃ (sc k:Nat) (ns:List Int),ds=[.lst sc,.int (k:Int)]∧st[sc]? = some (.ro (ns.map .int))∧∀ x:Int,P (.int x) st
def PIn (ps bs:List Int):Prop:=ps.length=bs.length∧∀ (i:Nat) p b,ps[i]? = some p→bs[i]? = some b→0≤p∧p<b
def qFt:RDL:=fun ds st P=>∃ i:Int,ds=[.int i]∧P (.bl true) st
end K85
namespace KH
open PySem L2 L3
end KH
namespace K19
open PySem L2 L3 KH
end K19
namespace KH
open PySem PySem.Spec PyProof.Rows L2 L3
theorem qDB {b:Bool} {A B:Prop} (h:b=true) (a:A):if b=true then A else B:=by rw [if_pos h];exact a
theorem qAf {b:Bool} {A B:Prop} (h:b=false) (a:B):if b=true then A else B:=by rw [if_neg (by rw [h];exact Bool.false_ne_true)];exact a
end KH
namespace K01
open PySem PySem.Spec PyProof.Rows L2 L3
abbrev qCZ:TSD:=(tseq (qM (qN (qA (qE qI (qC (Dt.tup qKR)) (qE qo (qE qAn (qB 0) (qC (Dt.int 4096))) (qC (Dt.int 16)))) (qA (qE qo (qE qAn (qB 0) (qC (Dt.int 512))) (qC (Dt.int 8))) (qA (qE qo (qE qAn (qB 0) (qC (Dt.int 64))) (qC (Dt.int 8))) (qA (qE qo (qB 0) (qC (Dt.int 64))) qD)))))) qG)
theorem qPi {i:Int} (h0:0≤i) (h1:i<16):atI qKR i=some (.str (wordOf i)):=by
  obtain⟨n,rfl⟩:∃ n:Nat,i=n:=⟨i.toNat,by omega⟩
  have hn:n<16:=by omega
  have key:∀ n:Nat,n<16→qEz[n]? = some (qEz.getD n ""):=by decide +kernel
  refine qAV ?_
  show (qEz.map Dt.str)[n]? = _
  rw [List.getElem?_map,key n hn]
  rfl
theorem qHm {ds:List Dt} {st:Sto} {Pd:VD} (h:qDM ds st Pd):qCZ (Ed Pd) (qU ["number"] ds) st:=by
  obtain⟨n,rfl,h⟩:=h
  simp only [tseq,qP,qM,qE,qB,qC,qJ,qF,qA,qD,qN,qg,qAi,qF2,qB7,qA2,qA5,qDT,qH,qV,qBe,qG,qA3,qCb,qBI,qBJ,qBQ,qv,qp,qAe,qBC,qj,qa,qAI,qI,qo,qBA,L3.qu,qAn,qW,qBf,qAN,qU,qB5,qi,qY,qAK,qTL,List.map_cons,List.map_nil,List.length_cons,List.length_nil,List.cons_append,List.nil_append,List.replicate,List.set,List.getElem?_cons_zero,List.getElem?_cons_succ,Option.map_some,SO.items]
  refine⟨cdiv (by decide) (by decide),by decide,?_⟩
  rw [qPi (by omega) (by omega)]
  exact⟨cdiv (by decide) (by decide),by decide,cdiv (by decide) (by decide),by decide,by decide,by show 4≤sizeLine;decide,h⟩
end K01
namespace KS
end KS
namespace KS
open PySem L2 L3 KH
end KS
namespace K15
open PySem L2 L3 KH KS
end K15
namespace KS
open PySem PySem.Spec PyProof.Rows L2 L3 KH
theorem qNf {st:Sto} {m:Nat} {xs:List Dt} {v:Int} {d:Dt} {P:VD} (e:st[m]? = some (.rw xs)) (a:atI xs v=some d) (h:P d st):qI (.lst m) (.int v) st P:=by
  simp only [qI,qa,e,Option.map_some,SO.items,a]
  exact h
theorem qN6 {st:Sto} {m:Nat} {xs:List Dt} {v:Int} {d:Dt} {P:VD} (e:qa st (.lst m)=some xs) (a:atI xs v=some d) (h:P d st):qI (.lst m) (.int v) st P:=by
  simp only [qI,e,a]
  exact h
theorem qQL {xs:List Dt} {v:Int} (h0:0≤v) (h1:v<xs.length):∃ d,atI xs v=some d∧d∈xs∧xs[v.toNat]? = some d:=by
  have hl:v.toNat<xs.length:=by omega
  refine⟨xs[v.toNat],?_,List.getElem_mem hl,List.getElem?_eq_getElem hl⟩
  unfold atI ixN
  rw [if_pos h0,if_pos h1]
  exact List.getElem?_eq_getElem hl
theorem qAE {st:Sto} {xs:List Dt} {v:Int} {d:Dt} {P:VD} (a:atI xs v=some d) (h:P d st):qI (.tup xs) (.int v) st P:=by
  simp only [qI,qa,a]
  exact h
theorem all_ints (xs:List Int) (n:Nat):(xs.map Dt.int).all (okD n)=true:=by
  rw [List.all_map]
  exact List.all_eq_true.mpr fun x _=>by cases n<;>rfl
theorem qKq {st:Sto} {x y:SO}:(st++[x]).set st.length y=st++[y]:=by simp
end KS
namespace KW
inductive Op2 | add | sub | mul | over | under | wide | rest
inductive Vl where
  | n (i:Int) | b (k:Bool) | non
noncomputable def two (w:Op2) (x y:Int):Vl:=match w with
  | .add=>.n ((x+y)%65536)
  | .sub=>.n ((x - y)%65536)
  | .mul=>.n (x * y%65536)
  | .over=>.b (decide (65536≤x+y))
  | .under=>.b (decide (x<y))
  | .wide=>.b (decide (65536≤x * y))
  | .rest=>.b (decide (y≠0)&&decide (x%y≠0))
end KW
namespace K20
open PySem L2 L3 KH KW
noncomputable def nm:Op2→Str
  | .add => "add" | .sub => "sub" | .mul => "mul" | .over => "over" | .under => "under" | .wide => "wide" | .rest => "rest"
noncomputable def vD:Vl→Dt
  | .n i=>.int i
  | .b k=>.bl k
  | .non=>.non
def Has (st:Sto) (n:Nat) (xs:List Dt):Prop:=∃ o,st[n]? = some o∧o.items=xs
theorem Has.ext {st st':Sto} {n:Nat} {xs:List Dt} (h:Has st n xs) (e:ql st st'):Has st' n xs:=by
  obtain⟨o,a,b⟩:=h;exact⟨o,e _ _ a,b⟩
def qBq:RDL:=fun ds st P=>∃ (w:Op2) (x y:Int),ds=[.str (nm w),.int x,.int y]∧(w = .add∨w = .sub∨w = .mul)∧0≤x∧x<65536∧P (.int (match w with | .add=>x+y | .sub=>x - y | _=>x * y)) st
def qFE:RDL:=fun ds st P=>∃ (w:Str) (n:Nat),ds=[.str w,.lst n] ∧
  ((w = "yes" ∧ P (.bl true) st)∨(w = "no" ∧ P (.bl false) st)∨(∃ x:Int,Has st n [.int x]∧((w = "nought" ∧ P (.bl (decide (x=0))) st)∨(w = "high" ∧ P (.bl (decide (32768≤x))) st))) ∨
   ∃ (o:Op2) (x y:Int),w=nm o∧Has st n [.int x,.int y]∧0≤x∧x<65536∧0≤y∧y<65536∧P (vD (two o x y)) st)
end K20
namespace K20
open PySem PySem.Spec PyProof.Rows L2 L3 KH KS KW
abbrev qC7:TSD:=(tseq (qV (qH (qE (qW false) (qB 0) (qC (Dt.str "add")))) (tseq (qM (qE L3.qu (qB 1) (qB 2))) qG) qG) (tseq (qV (qH (qE (qW false) (qB 0) (qC (Dt.str "sub")))) (tseq (qM (qE L3.qCY (qB 1) (qB 2))) qG) qG) (tseq (qM (qE qBA (qB 1) (qB 2))) qG)))
abbrev qGj:TSD:=(tseq (qP (qE qI (qB 1) (qC (Dt.int 0))) (qJ 2)) (tseq (qV (qH (qE (qW false) (qB 0) (qC (Dt.str "nought")))) (tseq (qM (qE (qW false) (qB 2) (qC (Dt.int 0)))) qG) qG) (tseq (qV (qH (qE (qW false) (qB 0) (qC (Dt.str "high")))) (tseq (qM (qE (qAN fun i j=>decide (j≤i)) (qB 2) (qC (Dt.int 32768)))) qG) qG) (tseq (qP (qE qI (qB 1) (qC (Dt.int 1))) (qJ 3)) (tseq (qV (qH (qE (qW false) (qB 0) (qC (Dt.str "over")))) (tseq (qM (qE (qAN fun i j=>decide (j≤i)) (qE L3.qu (qB 2) (qB 3)) (qC (Dt.int 65536)))) qG) qG) (tseq (qV (qH (qE (qW false) (qB 0) (qC (Dt.str "under")))) (tseq (qM (qE (qAN fun i j=>decide (i<j)) (qB 2) (qB 3))) qG) qG) (tseq (qV (qH (qE (qW false) (qB 0) (qC (Dt.str "wide")))) (tseq (qM (qE (qAN fun i j=>decide (j≤i)) (qE qBA (qB 2) (qB 3)) (qC (Dt.int 65536)))) qG) qG) (tseq (qV (qH (qE (qW false) (qB 0) (qC (Dt.str "rest")))) (tseq (qM (qAi (qE (qW true) (qB 3) (qC (Dt.int 0))) (qE (qW true) (qE qo (qB 2) (qB 3)) (qC (Dt.int 0))))) qG) qG) (tseq (qM (qE qo (qF qBq (qA (qB 0) (qA (qB 2) (qA (qB 3) qD)))) (qC (Dt.int 65536)))) qG)))))))))
abbrev qHi:TSD:=(tseq (qV (qH (qE (qBH false) (qB 0) (qN (qA (qC (Dt.str "yes")) (qA (qC (Dt.str "no")) qD))))) (tseq (qM (qE (qW false) (qB 0) (qC (Dt.str "yes")))) qG) qG) qGj)
theorem qIB {st:Sto} {n:Nat} {xs:List Dt} (h:Has st n xs):qa st (.lst n)=some xs:=by
  obtain⟨o,a,b⟩:=h
  show (st[n]?).map SO.items=_
  rw [a,← b];rfl
theorem qEs {ds:List Dt} {st:Sto} {Pd:VD} (h:qBq ds st Pd):qC7 (Ed Pd) (qU ["word", "x", "y"] ds) st:=by
  obtain⟨w,x,y,rfl,hw,x0,x1,hP⟩:=h
  rcases hw with rfl | rfl | rfl
  · refine⟨rfl,rfl,qDB (by decide +kernel) hP⟩
  · k_dat 0"r3"
    exact⟨rfl,rfl,qDB (by decide +kernel) hP⟩
  · k_dat 0"r3"
    k_dat 0"r3"
    exact⟨qEH x0 (by omega),hP⟩
theorem qRj {E:qA4} {st:Sto} {w:Str} {n:Nat} {a3:Option Dt} {x:Int} {r:List Dt} (hx:Has st n (.int x::r)) (h:(w = "nought" ∧ E.rt (.bl (decide (x=0))) st)∨(w = "high" ∧ E.rt (.bl (decide (32768≤x))) st)) :
    qGj E [some (.str w),some (.lst n),none,a3] st:=by
  k_dat 0"r113"
  refine qN6 (qIB hx) (d:=.int x) (by simp [atI,ixN]) ?_
  rcases h with ⟨rfl,h⟩ | ⟨rfl,h⟩
  · refine⟨rfl,rfl,qDB (by decide +kernel) ?_⟩
    k_dat 0"r18"
    have e:(eqD 8 (Dt.int x) (Dt.int 0) != false)=decide (x=0):=by
      rw [qAc]
      rfl
    show E.rt (.bl (eqD 8 (Dt.int x) (Dt.int 0) != false)) st
    rw [e];exact h
  · k_dat 0"r3"
    refine⟨rfl,rfl,qDB (by decide +kernel) ?_⟩
    exact h
theorem qQ4 {E:qA4} {st:Sto} {o:Op2} {n:Nat} {a3:Option Dt} {x y:Int} (hx:Has st n [.int x,.int y]) (x0:0≤x) (x1:x<65536) (y0:0≤y) (y1:y<65536) (h:E.rt (vD (two o x y)) st) :
    qGj E [some (.str (nm o)),some (.lst n),none,a3] st:=by
  k_dat 0"r113"
  refine qN6 (qIB hx) (d:=.int x) rfl ?_
  have n1:(eqD 8 (Dt.str (nm o)) (Dt.str "nought") != false)=false:=by cases o<;>decide +kernel
  have n2:(eqD 8 (Dt.str (nm o)) (Dt.str "high") != false)=false:=by cases o<;>decide +kernel
  refine⟨rfl,rfl,qAf n1 ?_⟩
  refine⟨rfl,rfl,qAf n2 ?_⟩
  refine qN6 (qIB hx) (d:=.int y) rfl ?_
  cases o with
  | add =>
    k_dat 0"r3"
    k_dat 0"r3"
    k_dat 0"r3"
    k_dat 0"r3"
    exact⟨.add,x,y,rfl,.inl rfl,x0,x1,by decide,h⟩
  | sub =>
    k_dat 0"r3"
    k_dat 0"r3"
    k_dat 0"r3"
    k_dat 0"r3"
    exact⟨.sub,x,y,rfl,.inr (.inl rfl),x0,x1,by decide,h⟩
  | mul =>
    k_dat 0"r3"
    k_dat 0"r3"
    k_dat 0"r3"
    k_dat 0"r3"
    exact⟨.mul,x,y,rfl,.inr (.inr rfl),x0,x1,by decide,h⟩
  | over=>exact⟨rfl,rfl,qDB (by decide +kernel) h⟩
  | under =>
    k_dat 0"r3"
    exact⟨rfl,rfl,qDB (by decide +kernel) h⟩
  | wide =>
    k_dat 0"r3"
    k_dat 0"r3"
    exact⟨rfl,rfl,qDB (by decide +kernel) ⟨qEH x0 (by omega),h⟩⟩
  | rest =>
    k_dat 0"r3"
    k_dat 0"r3"
    k_dat 0"r3"
    refine⟨rfl,rfl,qDB (by decide +kernel) ?_⟩
    k_dat 0"r18"
    by_cases hy:y=0
    · subst hy
      exact h
    · have e:(eqD 8 (Dt.int y) (Dt.int 0) != true)=true:=by
        show ((y==0) != true)=true
        rw [beq_eq_false_iff_ne.mpr hy];rfl
      rw [e]
      refine⟨by omega,rfl,rfl,?_⟩
      have e2:(eqD 8 (Dt.int (x%y)) (Dt.int 0) != true)=(decide (y≠0)&&decide (x%y≠0)):=by
        rw [decide_eq_true hy,Bool.true_and]
        show ((x%y==0) != true)=_
        by_cases hr:x%y=0
        · rw [hr];rfl
        · rw [beq_eq_false_iff_ne.mpr hr,decide_eq_true hr];rfl
      rw [e2]
      exact h
theorem qKe {ds:List Dt} {st:Sto} {Pd:VD} (h:qFE ds st Pd):qHi (Ed Pd) (qU ["word", "named", "x", "y"] ds) st:=by
  obtain⟨w,n,rfl,h⟩:=h
  refine⟨by show 2≤sizeLine;decide,rfl,by decide,?_⟩
  rcases h with ⟨rfl,h⟩ | ⟨rfl,h⟩ | ⟨x,hx,h⟩ | ⟨o,x,y,rfl,hx,x0,x1,y0,y1,h⟩
  · exact qDB (by decide +kernel) ⟨rfl,rfl,h⟩
  · exact qDB (by decide +kernel) ⟨rfl,rfl,h⟩
  · refine qAf (by rcases h with ⟨rfl,_⟩ | ⟨rfl,_⟩<;>decide +kernel) ?_
    exact qRj (E:=Ed Pd) hx h
  · refine qAf (by cases o<;>decide +kernel) ?_
    exact qQ4 (E:=Ed Pd) hx x0 x1 y0 y1 h
end K20
namespace K20
open PySem PySem.Spec PyProof.Rows L2 L3 KH KS KW
end K20
namespace KW
end KW
namespace K19
open PySem PySem.Spec PyProof.Rows L2 L3 KH
end K19
namespace K20
open PySem PySem.Spec PyProof.Rows L2 L3 KH KS KW
end K20
namespace K20
open PySem PySem.Spec PyProof.Rows L2 L3 KH KS KW
end K20
namespace K06
open PySem L2 L3
noncomputable abbrev M3:=Bool×Bool×Bool
structure GS where
  p:Int
  bs:List Int
  m:M3
  sv:Option (Int×M3)
  rs:List Int
  cs:List Int
noncomputable def msD (m:M3):Dt:=.tup [.bl m.1,.bl m.2.1,.bl m.2.2]
noncomputable def svD:Option (Int×M3)→Dt
  | none=>.non
  | some (q,m)=>.tup [.int q,msD m]
noncomputable def GS.d (g:GS):Dt:=.tup [.int g.p,.tup (g.bs.map .int),msD g.m,svD g.sv,.tup (g.rs.map .int),.tup (g.cs.map .int)]
structure GS.Ok (g:GS):Prop where
  p0:0≤g.p
  b8:g.bs.length=8
  bb:∀ v∈g.bs,0≤v∧v<65536
  c8:g.cs.length=8 * g.rs.length
  cm:g.cs.length≤128
  cb:∀ v∈g.cs,0≤v∧v<65536
  rb:∀ v∈g.rs,0≤v∧v<8
noncomputable def bx (g:GS) (i:Int):Int:=g.bs.getD i.toNat 0
noncomputable def may (r:Int) (g:GS) (a:Int):Bool:=(decide (0≤a)&&decide (a<g.cs.length))&&decide (g.rs.getD (a / 8).toNat 0 / r%2=1)
noncomputable def next (g:GS):GS:={ g with p:=(g.p+1)%65536 }
noncomputable def qCC (g:GS) (a v:Int):GS:={ next g with bs:=g.bs.set a.toNat v }
noncomputable def qEN (g:GS) (a v:Int) (k:Bool):GS:={ qCC g a v with m:=(decide (v=0),decide (32768≤v),k) }
noncomputable def qDW (w x y:Int):Int:=if w=2 then x+y else if w=3 then x - y else x * y
noncomputable abbrev Res:=Str×GS×List Int
noncomputable def qAx (r:Res):Dt:=.tup [.str r.1,r.2.1.d,.tup (r.2.2.map .int)]
noncomputable def onG (g:GS):Res:=("on",g,[])
noncomputable def qBM (h:Str) (g:GS):Res:=(h,g,[])
noncomputable def qDx (a:Int) (m:M3):Bool:=if a=0 then m.1 else if a=1 then !m.1 else if a=2 then m.2.1 else if a=3 then !m.2.1 else if a=4 then m.2.2 else if a=5 then !m.2.2 else decide (a=6)
noncomputable def leap (g:GS) (c:Int):GS:={ g with p:=(g.p+1+c - 32)%65536 }
noncomputable def qNi (g:GS) (w a x y:Int):Res:=onG (qEN g a (qDW w x y%65536) (!(decide (0≤qDW w x y)&&decide (qDW w x y<65536))))
noncomputable def qCP (g:GS) (a x y:Int):Res:=if y=0 then qBM "nought" g else onG (qEN g a (x / y) (decide (x%y≠0)))
noncomputable def qCz (g:GS) (a q:Int):Res:=if may 1 g q=true then onG (qCC g a (g.cs.getD q.toNat 0)) else qBM "closed" g
noncomputable def setG (g:GS) (v q:Int):Res:=if may 2 g q=true then onG { next g with cs:=g.cs.set q.toNat v } else qBM "closed" g
noncomputable def qAw (g:GS) (q r:Int):Res:=if 0≤q∧q<g.rs.length then onG { next g with rs:=g.rs.set q.toNat r } else qBM "closed" g
noncomputable def qCd (g:GS):Res:=match g.sv with
  | none=>qBM "bad" g
  | some (q,m)=>onG { g with p:=q,m:=m,sv:=none }
noncomputable def doW (g:GS) (w a b c h:Int):Res :=
  if w=1 then onG (qCC g a c)
  else if w=2∨w=3∨w=4 then qNi g w a (bx g b) (bx g (c%8))
  else if w=6 then qCP g a (bx g b) (bx g (c%8))
  else if w=7 then qCz g a (bx g b+c)
  else if w=8 then setG g (bx g a) (bx g b+c)
  else if w=9 then onG (leap g c)
  else if w=10 then (if qDx a g.m=true then onG (leap g c) else onG (next g))
  else if w=11 then onG { g with p:=bx g a%65536 }
  else if w=12 then ("on",next g,[bx g a])
  else if w=13 then onG (qCC g a h)
  else if w=14 then qAw g (bx g a) (c%8)
  else if w=15 then qCd g
  else if w=0 then qBM "halt" g else qBM "bad" g
noncomputable def doR (g:GS) (h:Int):Res:=if may 4 g g.p=true then doW g (g.cs.getD g.p.toNat 0 / 4096%16) (g.cs.getD g.p.toNat 0 / 512%8) (g.cs.getD g.p.toNat 0 / 64%8) (g.cs.getD g.p.toNat 0%64) h else qBM "closed" g
def qx:RDL:=fun ds st P=>∃ (xs:List Dt) (k:Int) (d:Dt),ds=[.tup xs,.int k,d]∧0≤k∧k<xs.length∧xs.length≤200∧P (.tup (xs.set k.toNat d)) st
def qFJ:RDL:=fun ds st P=>∃ (r:Int) (g:GS) (a:Int),ds=[.int r,g.d,.int a]∧g.Ok∧(r=1∨r=2∨r=4)∧P (.bl (may r g a)) st
def qBp:RDL:=fun ds st P=>∃ (g:GS) (q:Int),ds=[g.d,.int q]∧P ({ g with p:=q%65536 }:GS).d st
def qA0:RDL:=fun ds st P=>∃ g:GS,ds=[g.d]∧P (next g).d st
def qAT:RDL:=fun ds st P=>∃ (g:GS) (a v:Int),ds=[g.d,.int a,.int v]∧g.bs.length=8∧0≤a∧a<8∧P (qCC g a v).d st
def qBZ:RDL:=fun ds st P=>∃ (g:GS) (a v:Int) (k:Bool),ds=[g.d,.int a,.int v,.bl k]∧g.bs.length=8∧0≤a∧a<8∧P (qEN g a v k).d st
def qAu:RDL:=fun ds st P=>∃ (h:Str) (d:Dt),ds=[.str h,d]∧P (.tup [.str h,d,.tup []]) st
def qBR:RDL:=fun ds st P=>∃ d:Dt,ds=[d]∧P (.tup [.str "on",d,.tup []]) st
noncomputable def qAM (w:Int):Str:=K01.wordOf w
def qBq:RDL:=fun ds st P=>∃ (w x y:Int),ds=[.str (qAM w),.int x,.int y]∧(w=2∨w=3∨w=4)∧0≤x∧x<65536∧P (.int (qDW w x y)) st
def qER:RDL:=fun ds st P=>∃ (g:GS) (w a x y:Int),ds=[g.d,.str (qAM w),.int a,.int x,.int y]∧(w=2∨w=3∨w=4)∧g.bs.length=8∧0≤a∧a<8∧0≤x∧x<65536∧P (qAx (qNi g w a x y)) st
def qGL:RDL:=fun ds st P=>∃ (g:GS) (a x y:Int),ds=[g.d,.int a,.int x,.int y]∧g.bs.length=8∧0≤a∧a<8∧0≤y∧y<65536∧P (qAx (qCP g a x y)) st
def qGm:RDL:=fun ds st P=>∃ (g:GS) (a q:Int),ds=[g.d,.int a,.int q]∧g.Ok∧0≤a∧a<8∧P (qAx (qCz g a q)) st
def qCI:RDL:=fun ds st P=>∃ (g:GS) (v q:Int),ds=[g.d,.int v,.int q]∧g.Ok∧P (qAx (setG g v q)) st
def qDD:RDL:=fun ds st P=>∃ (a:Int) (m:M3),ds=[.int a,msD m]∧0≤a∧a<8∧P (.bl (qDx a m)) st
def qCK:RDL:=fun ds st P=>∃ p c:Int,ds=[.int p,.int c]∧P (.int ((p+1+c - 32)%65536)) st
def qD3:RDL:=fun ds st P=>∃ (g:GS) (c:Int),ds=[g.d,.int c]∧P (qAx (onG (leap g c))) st
def qB6:RDL:=fun ds st P=>∃ (g:GS) (q r:Int),ds=[g.d,.int q,.int r]∧g.Ok∧P (qAx (qAw g q r)) st
def qGB:RDL:=fun ds st P=>∃ g:GS,ds=[g.d]∧P (qAx (qCd g)) st
def qES:RDL:=fun ds st P=>∃ (g:GS) (w a b c h:Int),ds=[g.d,.tup [.str (qAM w),.int a,.int b,.int c],.int h]∧g.Ok∧0≤w∧w<16∧0≤a∧a<8∧0≤b∧b<8∧0≤c∧c<64∧P (qAx (doW g w a b c h)) st
def qFv:RDL:=fun ds st P=>∃ (g:GS) (h:Int),ds=[g.d,.int h]∧g.Ok∧P (qAx (doR g h)) st
end K06
namespace KD
open PySem L2 L3 KH KS KW K20 K06
inductive IW | get | set | div | tell | hear | right
noncomputable def iw:IW→Str
  | .get => "get" | .set => "set" | .div => "div" | .tell => "tell" | .hear => "hear" | .right => "right"
noncomputable def arity:IW→Nat
  | .get=>2 | .set=>3 | .div=>2 | .tell=>1 | .hear=>0 | .right=>2
noncomputable def qCU:IW→Bool
  | .get=>true | .div=>true | .hear=>true | _=>false
noncomputable def qPU:List Dt:=[.str "get",.str "div",.str "hear"]
noncomputable def qUF:List Str:=["get", "div", "hear"]
noncomputable def qAF (g:GS) (w:IW) (ps:List Int) (h:Int):Res:=match w with
  | .get=>qCz g 0 (ps.getD 0 0+ps.getD 1 0)
  | .set=>setG g (ps.getD 2 0) (ps.getD 0 0+ps.getD 1 0)
  | .div=>qCP g 0 (ps.getD 0 0) (ps.getD 1 0)
  | .right=>qAw g (ps.getD 0 0) (ps.getD 1 0)
  | .hear=>onG (qCC g 0 h)
  | .tell=>("on",g,[ps.getD 0 0])
def qDU:RDL:=fun ds st P=>∃ (g:GS) (w:IW) (p:Nat) (ps:List Int) (h:Int),ds=[g.d,.str (iw w),.lst p,.int h]∧st[p]? = some (.rw (ps.map .int))∧ps.length=arity w∧(∀ v∈ps,0≤v∧v<65536)∧g.Ok∧P (qAx (qAF g w ps h)) st
noncomputable def qEY (w:IW) (ps wt:List Int):Bool:=(match w with | .set=>true | _=>false)&&(wt.map Dt.int).any (fun z=>eqD 0 z (.int ((ps.getD 0 0+ps.getD 1 0) / 8)))
def qB0:RDL:=fun ds st P=>∃ (w:IW) (p:Nat) (ps wt:List Int),ds=[.str (iw w),.lst p,.tup (wt.map .int)]∧st[p]? = some (.rw (ps.map .int))∧ps.length=arity w∧wt.length≤100∧P (.bl (qEY w ps wt)) st
end KD
namespace KM
open PySem L2 L3 K02 K85 K06
structure Hd where
  hk:List (Key×Dt)
  sk:List (Key×Dt)
  bx:List Int
  ms:M3
noncomputable def inH (H:Hd) (x:Int):Dt:=(qFZ H.hk (.inl x)).getD (.int 0)
noncomputable def onS (H:Hd) (s:Int):Dt:=(qFZ H.sk (.inl s)).getD (.int 0)
noncomputable def qBG (H:Hd) (d:Int) (v:Dt):Hd:={ H with hk:=putD H.hk (.inl d) v }
noncomputable def qNt (H:Hd) (s:Int) (v:Dt):Hd:={ H with sk:=putD H.sk (.inl s) v }
noncomputable def mL (m:M3):List Dt:=[.bl m.1,.bl m.2.1,.bl m.2.2]
noncomputable def qDv (h s:Nat) (b:List Int) (m:M3):List (Str×Dt):=[("hands",.dic h),("shelf",.dic s),("boxes",.tup (b.map .int)),("marks",msD m)]
structure qAB (st:Sto) (n h s:Nat) (H:Hd):Prop where
  ob:st[n]? = some (.ob "Hold" (qDv h s H.bx H.ms))
  hd:st[h]? = some (.dc H.hk)
  sh:st[s]? = some (.dc H.sk)
  ne:h≠s
def qJu (h s:Nat) (st st':Sto):Prop:=∀ (j:Nat) o,j≠h→j≠s→st[j]? = some o→st'[j]? = some o
inductive Puts (H:Hd):Rw→Hd→Prop
  | keep (s x:Int):Puts H ⟨"keep",[s,x]⟩ (qNt H s (inH H x))
  | load (d s:Int):Puts H ⟨"load",[d,s]⟩ (qBG H d (onS H s))
  | num (d v:Int):Puts H ⟨"num",[d,v]⟩ (qBG H d (.int v))
  | box (d:Int) (k:Nat) (v:Int):H.bx[k]? = some v→Puts H ⟨"box",[d,(k:Int)]⟩ (qBG H d (.int v))
  | mark (d:Int) (k:Nat) (v:Dt):(mL H.ms)[k]? = some v→Puts H ⟨"mark",[d,(k:Int)]⟩ (qBG H d v)
  | yes (d:Int):Puts H ⟨"yes",[d]⟩ (qBG H d (.bl true))
  | no (d:Int):Puts H ⟨"no",[d]⟩ (qBG H d (.bl false))
  | nought (d x a:Int):inH H x = .int a→Puts H ⟨"nought",[d,x]⟩ (qBG H d (.bl (decide (a=0))))
  | high (d x a:Int):inH H x = .int a→Puts H ⟨"high",[d,x]⟩ (qBG H d (.bl (decide (32768≤a))))
  | two (o:KW.Op2) (d x y a b:Int):inH H x = .int a→inH H y = .int b→0≤a→a<65536→0≤b→b<65536→Puts H ⟨K20.nm o,[d,x,y]⟩ (qBG H d (K20.vD (KW.two o a b)))
def qFp:RDL:=fun ds st P=>∃ (n:Nat) (b:List Int) (m:M3),ds=[.ins n,.tup (b.map .int),msD m]∧st[n]? = some (.ob "Hold" [])∧∀ st' h s,qAB st' n h s ⟨[],[],b,m⟩→st.length≤h→st.length≤s→(∀ (j:Nat) o,j≠n→st[j]? = some o→st'[j]? = some o)→P .non st'
def qAU:RDL:=fun ds st P=>∃ (n h s:Nat) (H:Hd) (x:Int),ds=[.ins n,.int x]∧qAB st n h s H∧P (inH H x) st
def qBW:RDL:=fun ds st P=>∃ (n h s:Nat) (H:Hd) (x:Int),ds=[.ins n,.int x]∧qAB st n h s H∧P (onS H x) st
inductive qLs (H:Hd) (old:List Dt):Dt→Dt→Prop
  | hand (x:Int):qLs H old (.tup [.str "hand",.int x]) (inH H x)
  | shelf (x:Int):qLs H old (.tup [.str "shelf",.int x]) (onS H x)
  | old (k:Nat) (d:Dt):old[k]? = some d→qLs H old (.tup [.str "old",.int (k:Int)]) d
def qBS:RDL:=fun ds st P=>∃ (n h s:Nat) (H:Hd) (src:Dt) (old:List Dt) (v:Dt),ds=[.ins n,src,.tup old]∧qAB st n h s H∧qLs H old src v∧P v st
def qIf:RDL:=fun ds st P=>∃ (n h s:Nat) (H H':Hd) (r:Rw),ds=[.ins n,qk r]∧qAB st n h s H∧H.hk.length<1000∧H.sk.length<1000∧OkR r∧Puts H r H'∧∀ st',qAB st' n h s H'→qJu h s st st'→P .non st'
inductive Last (H:Hd) (sv:Option (Int×M3)):Rw→Int→Prop
  | out (e:Int):Last H sv ⟨"out",[e]⟩ e
  | back (e f:Int):Last H sv ⟨"back",[e,f]⟩ (if sv.isNone then e else f)
  | whn (x e f:Int) (t:Bool):inH H x = .bl t→Last H sv ⟨"when",[x,e,f]⟩ (if t then e else f)
def qDK:RDL:=fun ds st P=>∃ (r:Rw) (p:Nat) (sv:Option (Int×M3)) (H:Hd) (e:Int),ds=[qk r,.lst p,svD sv]∧st[p]? = some (.rw ((partsOf (qAD r.w) r.xs "x").map (inH H)))∧Last H sv r e∧P (.int e) st
structure Ex where
  how:Str
  at_:Dt
  bs:List Dt
  ms:List Dt
  n:Int
noncomputable def exD (e:Ex):Dt:=.tup [.str e.how,e.at_,.tup e.bs,.tup e.ms,.int e.n]
def qFf (H:Hd) (old ss vs:List Dt):Prop:=vs.length=ss.length∧∀ (i:Nat) s v,ss[i]? = some s→vs[i]? = some v→qLs H old s v
inductive At (H:Hd):Dt→Int→Prop
  | int (p:Int):At H (.int p) p
  | hand (w:Str) (x p:Int):inH H x = .int p→At H (.tup [.str w,.int x]) p
inductive qEQ (H:Hd) (g:GS) (e:Ex):Bool→GS→Prop
  | back (q:Int) (m:M3) (vs:List Int):g.sv=some (q,m)→qFf H (H.bx.map .int) e.bs (vs.map .int)→qEQ H g e true ⟨q,vs,m,none,g.rs,g.cs⟩
  | go (p:Int) (vs:List Int) (m:M3):At H e.at_ p→qFf H (H.bx.map .int) e.bs (vs.map .int)→qFf H (mL H.ms) e.ms (mL m)→qEQ H g e false ⟨p%65536,vs,m,g.sv,g.rs,g.cs⟩
def qC1:RDL:=fun ds st P=>∃ (e:Ex) (g g':GS) (n h s:Nat) (H:Hd) (k:Bool),ds=[exD e,g.d,.ins n,.bl k]∧qAB st n h s H∧e.bs.length≤100∧e.ms.length≤100∧qEQ H g e k g'∧∀ st',ql st st'→P g'.d st'
inductive ItR (H:Hd):Rw→KD.IW→List Int→Int→Prop
  | get (d x y e a b:Int):inH H x = .int a→inH H y = .int b→ItR H ⟨"get",[d,x,y,e]⟩ .get [a,b] d
  | set (x y z e f a b c:Int):inH H x = .int a→inH H y = .int b→inH H z = .int c→ItR H ⟨"set",[x,y,z,e,f]⟩ .set [a,b,c] 0
  | div (d x y e a b:Int):inH H x = .int a→inH H y = .int b→ItR H ⟨"div",[d,x,y,e]⟩ .div [a,b] d
  | tell (x a:Int):inH H x = .int a→ItR H ⟨"tell",[x]⟩ .tell [a] 0
  | hear (d:Int):ItR H ⟨"hear",[d]⟩ .hear [] d
  | right (x y e a b:Int):inH H x = .int a→inH H y = .int b→ItR H ⟨"right",[x,y,e]⟩ .right [a,b] 0
structure Ms where
  g:GS
  H:Hd
  told:List Int
  heard:Nat
noncomputable def qPJ:KD.IW→Bool
  | .hear=>true | _=>false
noncomputable def qFR (m:Ms) (w:KD.IW) (n:Nat):Nat:=if qPJ w&&decide (m.heard<n) then m.heard+1 else m.heard
noncomputable def after (m:Ms) (w:KD.IW) (ps given:List Int) (d:Int):Ms :=
  let r:=KD.qAF m.g w ps (given.getD m.heard 0)
  ⟨r.2.1,if KD.qCU w then qBG m.H d (.int (r.2.1.bs.getD 0 0)) else m.H,m.told++r.2.2,qFR m w given.length⟩
noncomputable def qEK (m:Ms) (w:KD.IW) (ps given:List Int):Ms :=
  let r:=KD.qAF m.g w ps (given.getD m.heard 0)
  ⟨r.2.1,m.H,m.told++r.2.2,m.heard⟩
inductive Step (given wt:List Int) (m:Ms):Rw→Option Int→Ms→Prop
  | put (r:Rw) (H':Hd):Puts m.H r H'→Step given wt m r none { m with H:=H' }
  | last (r:Rw) (e:Int):Last m.H m.g.sv r e→Step given wt m r (some e) m
  | fault (r:Rw) (w:KD.IW) (ps:List Int) (d e:Int):ItR m.H r w ps d→(∀ v∈ps,0≤v∧v<65536)→(KD.qAF m.g w ps (given.getD m.heard 0)).1 ≠ "on" → (partsOf (qAD r.w) r.xs "e")[0]? = some e→Step given wt m r (some e) (qEK m w ps given)
  | shut (r:Rw) (w:KD.IW) (ps:List Int) (d e:Int):ItR m.H r w ps d→(∀ v∈ps,0≤v∧v<65536)→(KD.qAF m.g w ps (given.getD m.heard 0)).1 = "on" → KD.qEY w ps wt=true→(partsOf (qAD r.w) r.xs "e")[1]? = some e→Step given wt m r (some e) (qEK m w ps given)
  | item (r:Rw) (w:KD.IW) (ps:List Int) (d:Int):ItR m.H r w ps d→(∀ v∈ps,0≤v∧v<65536)→(KD.qAF m.g w ps (given.getD m.heard 0)).1 = "on" → KD.qEY w ps wt=false→Step given wt m r none (after m w ps given d)
inductive Go (given wt:List Int):Nat→Ms→List Rw→Ms→Nat→Rw→Nat→Prop
  | here (c:Nat) (m m':Ms) (r:Rw) (rs:List Rw) (e:Nat):m.g.Ok→Step given wt m r (some (e:Int)) m'→Go given wt c m (r::rs) m' e r (c+1)
  | next (c:Nat) (m m1 m':Ms) (r r':Rw) (rs:List Rw) (e c':Nat):m.g.Ok→Step given wt m r none m1→Go given wt (c+1) m1 rs m' e r' c'→Go given wt c m (r::rs) m' e r' c'
noncomputable def qCl (r:Rw) (m:Ms):Bool:=decide (r.w = "back")&&m.g.sv.isSome
noncomputable def qLH (ex:Ex) (g:GS) (told:List Int) (heard c:Nat):Dt:=.tup [.str ex.how,g.d,.tup (told.map .int),.int ex.n,.int (heard:Int),.int (c:Int)]
noncomputable def start (g:GS):Ms:=⟨g,⟨[],[],g.bs,g.m⟩,[],0⟩
def qEh:RDL:=fun ds st P=>∃ (a b:Dt) (rs:List Rw) (es:List Ex) (g:GS) (gn:Nat) (given wt:List Int),ds=[.tup [a,b,.tup (rs.map qk),.tup (es.map exD)],g.d,.lst gn,.tup (wt.map .int)]∧K20.Has st gn (given.map .int)∧(∀ r∈rs,OkR r)∧rs.length≤400∧given.length<1000∧wt.length≤100 ∧
  ∃ m' e r c ex g',Go given wt 0 (start g) rs m' e r c∧es[e]? = some ex∧ex.bs.length≤100∧ex.ms.length≤100∧qEQ m'.H m'.g ex (qCl r m') g'∧∀ st',ql st st'→P (qLH ex g' m'.told m'.heard c) st'
noncomputable def qI3:List Dt:=[.str "out",.str "when",.str "back"]
noncomputable def qGs:List (Str×Int):=[("get",2),("set",3),("div",2),("tell",1),("hear",0),("right",2)]
end KM
namespace K02
open PySem L2 L3
end K02
namespace K02
open PySem PySem.Spec PyProof.Rows L2 L3
section
variable {E:qA4} {ρ:Rho} {st st':Sto} {A C:TSD}
theorem qAQ (h:A { E with nx:=C E } ρ st):tseq A C E ρ st:=h
theorem ifS {c:TBD} {b:Bool} (h1:∀ P:Bool→Sto→Prop,P b st'→c ρ st P) (qt:b=true→A E ρ st') (qf:b=false→C E ρ st'):qV c A C E ρ st:=by
  unfold qV
  refine h1 _ ?_
  cases b
  · exact qAz (qf rfl)
  · exact qA7 (qt rfl)
theorem qBm {N:TSD} {c:TBD} {b:Bool} (h1:∀ P:Bool→Sto→Prop,P b st'→c ρ st P) (qt:b=true→A { E with nx:=N E } ρ st') (qf:b=false→N E ρ st'):tseq (qV c A qG) N E ρ st:=qAQ (ifS h1 qt qf)
theorem skp {N:TSD} {c:TBD} (h1:∀ P:Bool→Sto→Prop,P false st'→c ρ st P) (q:N E ρ st'):tseq (qV c A qG) N E ρ st:=qBm h1 nofun fun _=>q
theorem hit {N:TSD} {c:TBD} (h1:∀ P:Bool→Sto→Prop,P true st'→c ρ st P) (q:A { E with nx:=N E } ρ st'):tseq (qV c A qG) N E ρ st:=qBm h1 (fun _=>q) fun q=>by cases q
theorem skq {N:TSD} {c:TBD} (h1:∀ P:Bool→Sto→Prop,P false st'→c ρ st P) (q:C { E with nx:=N E } ρ st'):tseq (qV c A C) N E ρ st:=qAQ (ifS h1 nofun fun _=>q)
theorem htq {N:TSD} {c:TBD} (h1:∀ P:Bool→Sto→Prop,P true st'→c ρ st P) (q:A { E with nx:=N E } ρ st'):tseq (qV c A C) N E ρ st:=qAQ (ifS h1 (fun _=>q) fun q=>by cases q)
theorem orB {c1 c2:TBD} {b1 b2:Bool} (h1:∀ P:Bool→Sto→Prop,P b1 st→c1 ρ st P) (h2:b1=false→∀ P:Bool→Sto→Prop,P b2 st→c2 ρ st P):∀ P:Bool→Sto→Prop,P (b1 || b2) st→qDT c1 c2 ρ st P:=by
  intro P hp
  unfold qDT
  refine h1 _ ?_
  cases b1
  · exact qAz (h2 rfl _ (by simpa using hp))
  · exact qA7 (by simpa using hp)
theorem qPl {c1 c2:TBD} {b1 b2:Bool} (h1:∀ P:Bool→Sto→Prop,P b1 st→c1 ρ st P) (h2:b1=true→∀ P:Bool→Sto→Prop,P b2 st→c2 ρ st P):∀ P:Bool→Sto→Prop,P (b1&&b2) st→qA5 c1 c2 ρ st P:=by
  intro P hp
  unfold qA5
  refine h1 _ ?_
  cases b1
  · exact qAz (by simpa using hp)
  · exact qA7 (h2 rfl _ (by simpa using hp))
theorem eqS {x:TD} {a b:Str} (hx:∀ P:VD,P (.str a) st→x ρ st P):∀ P:Bool→Sto→Prop,P (a==b) st→qH (qE (qW false) x (qC (.str b))) ρ st P:=by
  intro P hp
  simp only [qH,qE,qC]
  refine hx _ ⟨rfl,rfl,?_⟩
  show P ((a==b) != false) st
  simpa using hp
theorem neS {x:TD} {a b:Str} (hx:∀ P:VD,P (.str a) st→x ρ st P):∀ P:Bool→Sto→Prop,P (a != b) st→qH (qE (qW true) x (qC (.str b))) ρ st P:=by
  intro P hp
  simp only [qH,qE,qC]
  refine hx _ ⟨rfl,rfl,?_⟩
  show P ((a==b) != true) st
  have:((a==b) != true)=(a != b):=by unfold bne;cases (a==b)<;>rfl
  rw [this];exact hp
theorem eqI {x:TD} {a b:Int} (hx:∀ P:VD,P (.int a) st→x ρ st P):∀ P:Bool→Sto→Prop,P (decide (a=b)) st→qH (qE (qW false) x (qC (.int b))) ρ st P:=by
  intro P hp
  simp only [qH,qE,qC]
  refine hx _ ⟨rfl,rfl,?_⟩
  show P ((a==b) != false) st
  have:((a==b) != false)=decide (a=b):=by by_cases e:a=b<;>simp [e]
  rw [this];exact hp
end
end K02
namespace K02
open PySem PySem.Spec PyProof.Rows L2 L3
section
variable {E:qA4} {ρ:Rho} {st st':Sto} {A C:TSD}
theorem ixL {i j n:Nat} {d:Dt} {o:SO} (hv:ρ[i]? = some (some (.lst n))) (hn:st[n]? = some o) (hd:o.items[j]? = some d):∀ P:VD,P d st→qE qI (qB i) (qC (.int (j:Int))) ρ st P:=by
  intro P hp
  simp only [qE,qB,qC,hv]
  show (match qa st (.lst n) with
      | some xs=>(match atI xs (j:Int) with
        | some d=>P d st
        | none=>False)
      | none=>False)
  have e:qa st (.lst n)=some o.items:=by
    show (st[n]?).map SO.items=_
    rw [hn];rfl
  rw [e]
  show (match atI o.items (j:Int) with
        | some d=>P d st
        | none=>False)
  rw [qAV hd]
  exact hp
theorem qOu {i n:Nat} {o:SO} (hv:ρ[i]? = some (some (.lst n))) (hn:st[n]? = some o):∀ P:VD,P (.int (o.items.length:Int)) st→qF qBC (qA (qB i) qD) ρ st P:=by
  intro P hp
  simp only [qF,qA,qD,qB,hv]
  show (match qa st (.lst n) with
    | some xs=>P (.int xs.length) st
    | none=>False)
  have e:qa st (.lst n)=some o.items:=by
    show (st[n]?).map SO.items=_
    rw [hn];rfl
  rw [e]
  exact hp
theorem qz {N:TSD} {te:TD} {i:Nat} (h:te ρ st fun d s1=>N E (ρ.set i (some d)) s1):tseq (qP te (qJ i)) N E ρ st:=h
end
end K02
namespace K85
open PySem PySem.Spec PyProof.Rows L2 L3 K02
abbrev qC3:TSD:=(tseq (qM (qF qj (qA (qIO (qPb (qAG (qB 0) (qp (qC (Dt.int 1))) qv) (qHu qDu (qE qI (qB 0) (qC (Dt.int 0))))) (qH (qE (qW false) (qB 1) (qB 2))) (qB 0) [(1, "sign")]) qD))) qG)
abbrev qBx:TSD:=(tseq (qV (qH (qE (qAN fun i j=>decide (i<j)) (qB 1) (qF qBC (qA (qB 0) qD)))) (tseq (qM (qE qI (qB 0) (qB 1))) qG) qG) (tseq (qM (qC (Dt.int 0))) qG))
abbrev qBU:TSD:=(tseq (qM (qAi (qF qAI (qA (qB 0) (qA (qC (Dt.ty "int")) qD))) (qB7 (qF qAI (qA (qB 0) (qA (qC (Dt.ty "bool")) qD)))))) qG)
theorem qPw {d:Dt} {xs:List Dt}:L3.cutD (d::xs) (some 1) none=xs:=by
  unfold L3.cutD
  have e:HT.sIx (d::xs).length 0 (some 1)=1:=by
    have:=HT.qEU (d::xs).length 0 1
    simp at this ⊢
    simpa using this
  rw [e,HT.qGH]
  simp
theorem qJS {xs:List Int} {ys:List Nat} {i:Nat} {x:Int} {y:Nat} (h1:xs[i]? = some x) (h2:ys[i]? = some y):(xs.zip ys).take (i+1)=(xs.zip ys).take i++[(x,y)]:=by
  rw [List.take_add_one]
  have:(xs.zip ys)[i]? = some (x,y):=List.getElem?_zip_eq_some.mpr ⟨h1,h2⟩
  rw [this];rfl
theorem qJJ {ds:List Dt} {st:Sto} {Pd:VD} (h:qAs ds st Pd):qC3 (Ed Pd) (qU ["row", "sign"] ds) st:=by
  obtain⟨r,sign,rfl,ok,hP⟩:=h
  show qC3 (Ed Pd) [some (qk r),some (.str sign)] st
  obtain⟨hasc,hfl⟩:=qK9 ok.know
  simp only [qC3,tseq,qM,qF,qA,qD,qIO,qPb,qAG,qB,qp,qv,qC,qHu,qE,List.getElem?_cons_zero,List.getElem?_cons_succ,qk]
  have hat:atI (Dt.str r.w::r.xs.map .int) 0=some (.str r.w):=qAV (j:=0) rfl
  show (match atI (Dt.str r.w::r.xs.map .int) 0 with
    | some d=>_
    | none=>False)
  rw [hat]
  simp only [ok.know,qPw]
  refine⟨hasc,?_⟩
  have hzl:(qEu (r.xs.map Dt.int) (qBv (qAD r.w))).length=(r.xs.zip (cs (qAD r.w))).length:=by
    rw [qDS];simp [qBv,List.length_zip]
  refine⟨fun i ys s'=>ys=((((r.xs.zip (cs (qAD r.w))).take i).filter fun p=>one p.2==sign).map (·.1)).map Dt.int∧s'=st,⟨rfl,rfl⟩,fun _ _ _ _ _=>trivial,?_,?_⟩
  · rintro i d ys s' hd ⟨rfl,rfl⟩
    obtain⟨x,y,ex,ey,rfl⟩:=qET hd
    obtain⟨n,hn,rfl⟩:∃ n,r.xs[i]? = some n∧x = .int n:=by
      rw [List.getElem?_map] at ex
      cases e:r.xs[i]? with
      | none=>rw [e] at ex;cases ex
      | some n=>rw [e] at ex;exact⟨n,rfl,(Option.some.inj ex).symm⟩
    obtain⟨c,hc,rfl⟩:∃ c,(cs (qAD r.w))[i]? = some c∧y = .str (one c):=by
      unfold qBv at ey
      rw [List.getElem?_map] at ey
      cases e:(qAD r.w).cps.toList[i]? with
      | none=>rw [e] at ey;cases ey
      | some c=>rw [e] at ey;exact⟨c,rfl,(Option.some.inj ey).symm⟩
    have hil:=(List.getElem?_eq_some_iff.mp hn).1
    have hxl:=ok.len
    refine⟨?_,_,_,rfl,?_⟩
    · rw [List.length_map,List.length_map]
      refine Nat.lt_of_le_of_lt (List.length_filter_le _ _) ?_
      rw [List.length_take,sizeLine_eq];omega
    · show okD 8 _=true∧okD 8 _=true∧(if ((one c==sign) != false)=true then _ else _)
      k_dat 0"r18"
      cases e:(one c==sign) with
      | true =>
        refine qA7 ⟨?_,rfl⟩
        rw [qJS hn hc,List.filter_append,List.map_append,List.map_append]
        simp [e]
      | false =>
        refine qAz ⟨?_,rfl⟩
        rw [qJS hn hc,List.filter_append,List.map_append,List.map_append]
        simp [e]
  · rintro ys s' ⟨rfl,rfl⟩
    rw [hzl,List.take_length]
    show (match ((s'++[SO.rw ((partsOf (qAD r.w) r.xs sign).map Dt.int)])[s'.length]?).map SO.items with
      | some xs=>Pd (.tup xs) _
      | none=>False)
    rw [qL]
    exact hP _ (.app _ _)
theorem qFd {ds:List Dt} {st:Sto} {Pd:VD} (h:qAv ds st Pd):qBx (Ed Pd) (qU ["script", "k"] ds) st:=by
  obtain⟨sc,k,ns,rfl,hs,hP⟩:=h
  show qBx (Ed Pd) [some (.lst sc),some (.int (k:Int))] st
  refine qBm (b:=decide ((k:Int)<(ns.length:Int))) (st':=st) ?_ ?_ ?_
  · intro P hp
    simp only [qH,qE,qB,List.getElem?_cons_zero,List.getElem?_cons_succ]
    refine qOu (ρ:=[some (.lst sc),some (.int (k:Int))]) (i:=0) (n:=sc) rfl hs _ ?_
    show P (decide ((k:Int)<(((ns.map Dt.int)).length:Int))) st
    rw [List.length_map];exact hp
  · intro q
    have q:k<ns.length:=by have:=of_decide_eq_true q;omega
    k_dat 0"r0"
    simp only [qM,qE,qB,List.getElem?_cons_zero,List.getElem?_cons_succ]
    have hsq:qa st (.lst sc)=some (ns.map .int):=by
      show (st[sc]?).map SO.items=_
      rw [hs];rfl
    show (match qa st (.lst sc) with
      | some xs=>(match atI xs (k:Int) with
        | some d=>Pd d st
        | none=>False)
      | none=>False)
    rw [hsq]
    show (match atI (ns.map Dt.int) (k:Int) with
        | some d=>Pd d st
        | none=>False)
    rw [qAV (v:=.int ns[k]) (by simp [q])]
    exact hP _
  · intro q
    exact hP 0
theorem qEX {ds:List Dt} {st:Sto} {Pd:VD} (h:qFt ds st Pd):qBU (Ed Pd) (qU ["thing"] ds) st:=by
  obtain⟨i,rfl,hP⟩:=h
  show qBU (Ed Pd) [some (.int i)] st
  k_dat 0"r0"
  simp only [qM,qAi,qB7,qF,qA,qD,qB,qC,List.getElem?_cons_zero]
  refine⟨.inr (.inl rfl),?_⟩
  refine⟨.inl rfl,?_⟩
  exact hP
end K85
namespace K22
open PySem L2 L3 KH KS
namespace LS
end LS
end K22
namespace K22
open PySem L2 L3 KH KS
end K22
namespace K22
open PySem PySem.Spec PyProof.Rows L2 L3 KH KS
end K22
namespace K22
open PySem PySem.Spec PyProof.Rows L2 L3 KH KS
section
variable {E:qA4} {st:Sto} {n:Nat} {s:LS} {Q:VD} {ρ:Rho}
theorem qQP {a b:Str} {st:Sto} {P:VD} (h:(a==b)=true) (q:P (.bl true) st):qW false (.str a) (.str b) st P:=⟨rfl,rfl,by
  show P (.bl ((a==b) != false)) st
  rw [h];exact q⟩
theorem qR0 {a b:Str} {st:Sto} {P:VD} (h:(a==b)=false) (q:P (.bl false) st):qW false (.str a) (.str b) st P:=⟨rfl,rfl,by
  show P (.bl ((a==b) != false)) st
  rw [h];exact q⟩
theorem qEi {x:TD} {A C:TSD} {a b:Str} (hx:∀ P:VD,P (.str a) st→x ρ st P) (h:(a==b)=true) (q:A E ρ st):qV (qH (qE (qW false) x (qC (.str b)))) A C E ρ st:=by
  simp only [qV,qH,qE,qC]
  refine hx _ (qQP h ?_)
  exact q
theorem qAO {x:TD} {A C:TSD} {a b:Str} (hx:∀ P:VD,P (.str a) st→x ρ st P) (h:(a==b)=false) (q:C E ρ st):qV (qH (qE (qW false) x (qC (.str b)))) A C E ρ st:=by
  simp only [qV,qH,qE,qC]
  refine hx _ (qR0 h ?_)
  simp only [Bool.false_eq_true,if_false]
  exact q
theorem seq1 {A C:TSD} (h:A { E with nx:=C E } ρ st):tseq A C E ρ st:=h
end
end K22
namespace KM
open PySem PySem.Spec PyProof.Rows L2 L3 KS K02 K85 K06
abbrev qBD:TSD:=(tseq (qP qH3 (qLY "Hold" (qB 0) "hands")) (tseq (qP qH3 (qLY "Hold" (qB 0) "shelf")) (tseq (qP (qB 1) (qLY "Hold" (qB 0) "boxes")) (tseq (qP (qB 2) (qLY "Hold" (qB 0) "marks")) qG))))
abbrev qBK:TSD:=(tseq (qM (qF7 (qBV "Hold" (qB 0) "hands") (qB 1) (qC (Dt.int 0)))) qG)
abbrev qBF:TSD:=(tseq (qM (qF7 (qBV "Hold" (qB 0) "shelf") (qB 1) (qC (Dt.int 0)))) qG)
abbrev qCy:TSD:=(tseq (qP (qE qI (qB 1) (qC (Dt.int 0))) (qJ 2)) (tseq (qV (qH (qE (qW false) (qB 2) (qC (Dt.str "keep")))) (tseq (qP (qAr "Hold" "in_hand" qAU (qB 0) (qA (qE qI (qB 1) (qC (Dt.int 2))) qD)) (qCF (qBV "Hold" (qB 0) "shelf") (qE qI (qB 1) (qC (Dt.int 1))))) qG) (tseq (qV (qH (qE (qW false) (qB 2) (qC (Dt.str "load")))) (tseq (qP (qAr "Hold" "on_shelf" qBW (qB 0) (qA (qE qI (qB 1) (qC (Dt.int 2))) qD)) (qCF (qBV "Hold" (qB 0) "hands") (qE qI (qB 1) (qC (Dt.int 1))))) qG) (tseq (qV (qH (qE (qW false) (qB 2) (qC (Dt.str "num")))) (tseq (qP (qE qI (qB 1) (qC (Dt.int 2))) (qCF (qBV "Hold" (qB 0) "hands") (qE qI (qB 1) (qC (Dt.int 1))))) qG) (tseq (qV (qH (qE (qW false) (qB 2) (qC (Dt.str "box")))) (tseq (qP (qE qI (qBV "Hold" (qB 0) "boxes") (qE qI (qB 1) (qC (Dt.int 2)))) (qCF (qBV "Hold" (qB 0) "hands") (qE qI (qB 1) (qC (Dt.int 1))))) qG) (tseq (qV (qH (qE (qW false) (qB 2) (qC (Dt.str "mark")))) (tseq (qP (qE qI (qBV "Hold" (qB 0) "marks") (qE qI (qB 1) (qC (Dt.int 2)))) (qCF (qBV "Hold" (qB 0) "hands") (qE qI (qB 1) (qC (Dt.int 1))))) qG) (tseq (qP (qF K20.qFE (qA (qB 2) (qA (qAh (qBI (qF K85.qAs (qA (qB 1) (qA (qC (Dt.str "x")) qD)))) (fun x st P=>P true st) (qAr "Hold" "in_hand" qAU (qB 1) (qA (qB 0) qD)) [(0, "self")]) qD))) (qCF (qBV "Hold" (qB 0) "hands") (qE qI (qB 1) (qC (Dt.int 1))))) qG)) qG)) qG)) qG)) qG)) qG))
abbrev qBb:TSD:=(tseq (qP (qE qI (qB 1) (qC (Dt.int 0))) (qJ 3)) (tseq (qV (qH (qE (qW false) (qB 3) (qC (Dt.str "hand")))) (tseq (qM (qAr "Hold" "in_hand" qAU (qB 0) (qA (qE qI (qB 1) (qC (Dt.int 1))) qD))) qG) qG) (tseq (qV (qH (qE (qW false) (qB 3) (qC (Dt.str "shelf")))) (tseq (qM (qAr "Hold" "on_shelf" qBW (qB 0) (qA (qE qI (qB 1) (qC (Dt.int 1))) qD))) qG) qG) (tseq (qM (qE qI (qB 2) (qE qI (qB 1) (qC (Dt.int 1))))) qG))))
section
variable {E:qA4} {st:Sto} {Q:VD} {ρ:Rho} {n h s:Nat} {H:Hd}
theorem qKM {r:Rw} (ok:OkR r) {sg:Str}:(partsOf (qAD r.w) r.xs sg).length≤5:=by
  unfold partsOf
  rw [List.length_map]
  refine Nat.le_trans (List.length_filter_le _ _) ?_
  rw [List.length_zip]
  have h1:=(qK9 ok.know).2
  have h2:r.xs.length=(qAD r.w).length:=ok.2
  omega
theorem qJL {w:Str} {d x:Int} (h:cs (qAD w)=[100,120]):partsOf (qAD w) [d,x] "x" = [x]:=by
  unfold partsOf;rw [h]
  have e1:(one 100==("x" : Str))=false:=by decide +kernel
  k_dat 0"r57"
  k_dat 0"r76"
theorem qLZ {w:Str} {d x y:Int} (h:cs (qAD w)=[100,120,120]):partsOf (qAD w) [d,x,y] "x" = [x,y]:=by
  unfold partsOf;rw [h]
  have e1:(one 100==("x" : Str))=false:=by decide +kernel
  k_dat 0"r57"
  k_dat 0"r76"
theorem qFy {a b:Sto} (hx:ql a b):a.length≤b.length:=by
  by_cases h:a.length=0
  · omega
  · have hl:a.length - 1<a.length:=by omega
    have:=(List.getElem?_eq_some_iff.mp (hx _ _ (List.getElem?_eq_getElem hl))).1
    omega
theorem qNs {b:List Int} {m:M3}:(qDv h s b m).lookup (Str.ofString "hands")=some (Dt.dic h):=rfl
theorem qOY {b:List Int} {m:M3}:(qDv h s b m).lookup (Str.ofString "shelf")=some (Dt.dic s):=rfl
theorem qQf {b:List Int} {m:M3}:(qDv h s b m).lookup (Str.ofString "boxes")=some (Dt.tup (b.map .int)):=rfl
theorem qRQ {b:List Int} {m:M3}:(qDv h s b m).lookup (Str.ofString "marks")=some (msD m):=rfl
theorem qSv {b:List Int} {m:M3}:(qDv h s b m).lookup (Str.ofString "in_hand")=none:=rfl
theorem qTg {b:List Int} {m:M3}:(qDv h s b m).lookup (Str.ofString "on_shelf")=none:=rfl
theorem qSS {b:List Int} {m:M3}:(qDv h s b m).lookup (Str.ofString "put")=none:=rfl
theorem qRi {b:List Int} {m:M3}:(qDv h s b m).lookup (Str.ofString "source")=none:=rfl
theorem qAB.ext {st':Sto} (a:qAB st n h s H) (e:ql st st'):qAB st' n h s H:=⟨e _ _ a.ob,e _ _ a.hd,e _ _ a.sh,a.ne⟩
theorem qAB.nh (a:qAB st n h s H):n≠h:=fun e=>by have:=a.ob;rw [e,a.hd] at this;cases this
theorem qAB.ns (a:qAB st n h s H):n≠s:=fun e=>by have:=a.ob;rw [e,a.sh] at this;cases this
theorem qAR {st:Sto} {i:Nat} {o x:SO} (h:st[i]? = some o):(st.set i x)[i]? = some x:=by
  have:=(List.getElem?_eq_some_iff.mp h).1
  rw [List.getElem?_set_self this]
theorem qAB.qBG (a:qAB st n h s H) (d:Int) (v:Dt):qAB (st.set h (.dc (putD H.hk (.inl d) v))) n h s (qBG H d v):=⟨qe a.ob a.nh.symm,qAR a.hd,qe a.sh a.ne,a.ne⟩
theorem qAB.qNt (a:qAB st n h s H) (d:Int) (v:Dt):qAB (st.set s (.dc (putD H.sk (.inl d) v))) n h s (qNt H d v):=⟨qe a.ob a.ns.symm,qe a.hd a.ne.symm,qAR a.sh,a.ne⟩
theorem qPh {i:Nat} {x:Int} {ta:TAD} (a:qAB st n h s H) (hρ:ρ[i]? = some (some (.ins n))) (ht:∀ P:List Dt→Sto→Prop,P [.int x] st→ta ρ st P) (q:Q (inH H x) st):qAr "Hold" "in_hand" qAU (qB i) ta ρ st Q:=by
  simp only [qAr,qB,hρ,a.ob,qSv,true_and]
  exact ht _ ⟨n,h,s,H,x,rfl,a,q⟩
theorem qTD {i:Nat} {x:Int} {ta:TAD} (a:qAB st n h s H) (hρ:ρ[i]? = some (some (.ins n))) (ht:∀ P:List Dt→Sto→Prop,P [.int x] st→ta ρ st P) (q:Q (onS H x) st):qAr "Hold" "on_shelf" qBW (qB i) ta ρ st Q:=by
  simp only [qAr,qB,hρ,a.ob,qTg,true_and]
  exact ht _ ⟨n,h,s,H,x,rfl,a,q⟩
theorem qE5 {ds:List Dt} {st:Sto} {Pd:VD} (h:qFp ds st Pd):qBD (Ed Pd) (qU ["self", "boxes", "marks"] ds) st:=by
  obtain⟨n,b,m,rfl,ho,hP⟩:=h
  have hn:=(List.getElem?_eq_some_iff.mp ho).1
  show qBD (Ed Pd) [some (.ins n),some (.tup (b.map .int)),some (msD m)] st
  have o1:(st++[SO.dc []])[n]? = some (.ob "Hold" []):=qO ho
  simp only [qBD,tseq,qP,qH3,qLY,qB,List.getElem?_cons_zero,List.getElem?_cons_succ,o1,true_and]
  k_dat 0"r21"
  have o2:((st++[SO.dc []]).set n (.ob "Hold" (qB4 "hands" (.dic st.length) [])))[n]? = some (.ob "Hold" (qB4 "hands" (.dic st.length) [])):=qAR o1
  have d2:((st++[SO.dc []]).set n (.ob "Hold" (qB4 "hands" (.dic st.length) [])))[st.length]? = some (.dc []):=qe qL (by omega)
  have k2:∀ (j:Nat) o,j≠n→st[j]? = some o→((st++[SO.dc []]).set n (.ob "Hold" (qB4 "hands" (.dic st.length) [])))[j]? = some o:=fun j o hj hs=>qe (qO hs) (Ne.symm hj)
  have l2:st.length+1=((st++[SO.dc []]).set n (.ob "Hold" (qB4 "hands" (.dic st.length) []))).length:=by simp
  generalize ((st++[SO.dc []]).set n (.ob "Hold" (qB4 "hands" (.dic st.length) [])))=s2 at o2 d2 k2 l2
  have o3:(s2++[SO.dc []])[n]? = some (.ob "Hold" (qB4 "hands" (.dic st.length) [])):=qO o2
  rw [o3]
  refine⟨rfl,by show 1<1000;decide,?_⟩
  have e4:qB4 "shelf" (.dic s2.length) (qB4 "hands" (.dic st.length) [])=([("hands",.dic st.length),("shelf",.dic s2.length)]:List (Str×Dt)):=rfl
  have o4:((s2++[SO.dc []]).set n (.ob "Hold" (qB4 "shelf" (.dic s2.length) (qB4 "hands" (.dic st.length) []))))[n]? = some (.ob "Hold" [("hands",.dic st.length),("shelf",.dic s2.length)]):=by rw [qAR o3,e4]
  have d4:((s2++[SO.dc []]).set n (.ob "Hold" (qB4 "shelf" (.dic s2.length) (qB4 "hands" (.dic st.length) []))))[s2.length]? = some (.dc []):=qe qL (by omega)
  have k4:∀ (j:Nat) o,j≠n→s2[j]? = some o→((s2++[SO.dc []]).set n (.ob "Hold" (qB4 "shelf" (.dic s2.length) (qB4 "hands" (.dic st.length) []))))[j]? = some o:=fun j o hj hs=>qe (qO hs) (Ne.symm hj)
  generalize ((s2++[SO.dc []]).set n (.ob "Hold" (qB4 "shelf" (.dic s2.length) (qB4 "hands" (.dic st.length) []))))=s4 at o4 d4 k4
  rw [o4]
  refine⟨rfl,by show 2<1000;decide,?_⟩
  have o5:=qAR (x:=.ob "Hold" (qB4 "boxes" (.tup (b.map .int)) [("hands",.dic st.length),("shelf",.dic s2.length)])) o4
  rw [show Str.ofString "boxes" = ("boxes" : Str) from rfl]
  rw [o5]
  refine⟨rfl,by show 3<1000;decide,?_⟩
  refine hP _ st.length s2.length ⟨?_,?_,?_,by omega⟩ (Nat.le_refl _) (by omega) fun j o hj hs=>?_
  · exact qAR o5
  · exact qe (qe (k4 _ _ (by omega) d2) (by omega)) (by omega)
  · exact qe (qe d4 (by omega)) (by omega)
  · exact qe (qe (k4 _ _ hj (k2 _ _ hj hs)) (Ne.symm hj)) (Ne.symm hj)
theorem qFY {ds:List Dt} {st:Sto} {Pd:VD} (h:qAU ds st Pd):qBK (Ed Pd) (qU ["self", "x"] ds) st:=by
  obtain⟨n,h,s,H,x,rfl,a,hP⟩:=h
  show qBK (Ed Pd) [some (.ins n),some (.int x)] st
  simp only [qBK,tseq,qM,qF7,qBV,qB,qC,List.getElem?_cons_zero,List.getElem?_cons_succ,a.ob,qNs,true_and,a.hd,qFV]
  exact hP
theorem qFD {ds:List Dt} {st:Sto} {Pd:VD} (h:qBW ds st Pd):qBF (Ed Pd) (qU ["self", "s"] ds) st:=by
  obtain⟨n,h,s,H,x,rfl,a,hP⟩:=h
  show qBF (Ed Pd) [some (.ins n),some (.int x)] st
  simp only [qBF,tseq,qM,qF7,qBV,qB,qC,List.getElem?_cons_zero,List.getElem?_cons_succ,a.ob,qOY,true_and,a.sh,qFV]
  exact hP
theorem qEt {i j:Nat} {r:Rw} {nm:Str} (a:qAB st n h s H) (ok:OkR r) (hi:ρ[i]? = some (some (.ins n))) (hj:ρ[j]? = some (some (qk r)))
    (q:∀ st' p,ql st st'→st.length≤p→st'[p]? = some (.rw ((partsOf (qAD r.w) r.xs "x").map (inH H)))→Q (.lst p) st') :
    qAh (qBI (qF K85.qAs (qA (qB j) (qA (qC (Dt.str "x")) qD)))) (fun x st P=>P true st) (qAr "Hold" "in_hand" qAU (qB 1) (qA (qB 0) qD)) [(i,nm)] ρ st Q:=by
  simp only [qAh,qBI,qF,qA,qD,qB,qC,hj]
  refine⟨r,_,rfl,ok,fun s1 e1=>?_⟩
  simp only [qa,qFU,List.map_cons,List.map_nil,hi,Option.join_some]
  have a1:=a.ext e1
  have hle:∀ k:Nat,((partsOf (qAD r.w) r.xs "x").map (inH H)).length≤5:=fun _=>by
    rw [List.length_map];exact qKM ok
  refine⟨fun k zs s'=>zs=((partsOf (qAD r.w) r.xs "x").map (inH H)).take k∧s'=s1,⟨rfl,rfl⟩,fun _ _ _ _ _=>trivial,?_,?_⟩
  · rintro k d zs s' hd ⟨rfl,rfl⟩
    have hk:=(List.getElem?_eq_some_iff.mp hd).1
    rw [List.length_map] at hk
    rw [List.getElem?_map,List.getElem?_eq_getElem hk] at hd
    have hd:d = .int ((partsOf (qAD r.w) r.xs "x")[k]):=(Option.some.inj hd).symm
    subst hd
    have hyl:(((partsOf (qAD r.w) r.xs "x").map (inH H)).take k).length≤((partsOf (qAD r.w) r.xs "x").map (inH H)).length:=List.length_take_le' k _
    have:=hle 0
    refine⟨small (by omega),qA7 ?_⟩
    refine qPh (i:=1) (x:=(partsOf (qAD r.w) r.xs "x")[k]) a1 rfl (fun P hp=>hp) ⟨?_,rfl⟩
    have hk2:k<((partsOf (qAD r.w) r.xs "x").map (inH H)).length:=by rw [List.length_map];exact hk
    rw [List.take_succ,List.getElem?_eq_getElem hk2]
    simp
  · rintro ys s' ⟨rfl,rfl⟩
    refine q _ _ (fun u o ho=>qO (e1 u o ho)) (qFy e1) ?_
    rw [qL,List.length_map,show (partsOf (qAD r.w) r.xs (Str.ofString "x")).length=((partsOf (qAD r.w) r.xs "x").map (inH H)).length by simp,List.take_length]
theorem qNY {sp:RDL} {t1 t2:TD} (h:t1 ρ st fun d1 s1=>t2 ρ s1 fun d2 s2=>sp [d1,d2] s2 Q):qF sp (qA t1 (qA t2 qD)) ρ st Q:=h
theorem qRd {te:TD} {g:TGD} (h:te ρ st fun d s1=>g d ρ s1 E.nx):qP te g E ρ st:=h
theorem rX {i j:Nat} {x:Int} {r:Rw} (hi:ρ[i]? = some (some (qk r))) (hj:r.xs[j]? = some x):∀ P:VD,P (.int x) st→qE qI (qB i) (qC (.int ((j+1:Nat):Int))) ρ st P:=by
  intro P hp
  simp only [qE,qB,qC,hi,qk]
  exact qAE (qAV (j:=j+1) (by rw [List.getElem?_cons_succ,List.getElem?_map,hj];rfl)) hp
theorem rS {i j:Nat} {x:Dt} {xs:List Dt} (hi:ρ[i]? = some (some (.tup xs))) (hj:xs[j]? = some x):∀ P:VD,P x st→qE qI (qB i) (qC (.int (j:Int))) ρ st P:=by
  intro P hp
  simp only [qE,qB,qC,hi]
  exact qAE (qAV (j:=j) hj) hp
theorem tA1 {t:TD} {d:Dt} (h:∀ P:VD,P d st→t ρ st P):∀ P:List Dt→Sto→Prop,P [d] st→qA t qD ρ st P:=fun P hp=>h _ hp
theorem fsq {x:TD} {A N:TSD} {a b:Str} (hx:∀ P:VD,P (.str a) st→x ρ st P) (h:(a==b)=false) (q:N E ρ st):tseq (qV (qH (qE (qW false) x (qC (.str b)))) A qG) N E ρ st:=K22.seq1 (K22.qAO hx h q)
theorem qDj {i:Nat} {x:Int} {v:Dt} {ti:TD} {R:Rho→Sto→Prop} (a:qAB st n h s H) (hl:H.hk.length<1000) (hi:ρ[i]? = some (some (.ins n))) (ht:∀ P:VD,P (.int x) st→ti ρ st P) (q:∀ st',qAB st' n h s (qBG H x v)→qJu h s st st'→R ρ st'):qCF (qBV "Hold" (qB i) "hands") ti v ρ st R:=by
  simp only [qCF,qBV,qB,hi,a.ob,qNs,true_and]
  refine ht _ ?_
  simp only [a.hd,qFV]
  exact⟨small hl,q _ (a.qBG x v) fun j o h1 h2 hj=>qe hj (Ne.symm h1)⟩
theorem qN0 {i:Nat} {x:Int} {v:Dt} {ti:TD} {R:Rho→Sto→Prop} (a:qAB st n h s H) (hl:H.sk.length<1000) (hi:ρ[i]? = some (some (.ins n))) (ht:∀ P:VD,P (.int x) st→ti ρ st P) (q:∀ st',qAB st' n h s (qNt H x v)→qJu h s st st'→R ρ st'):qCF (qBV "Hold" (qB i) "shelf") ti v ρ st R:=by
  simp only [qCF,qBV,qB,hi,a.ob,qOY,true_and]
  refine ht _ ?_
  simp only [a.sh,qFV]
  exact⟨small hl,q _ (a.qNt x v) fun j o h1 h2 hj=>qe hj (Ne.symm h2)⟩
theorem qJu.of {st' st2:Sto} (e:ql st st') (x:qJu h s st' st2):qJu h s st st2:=fun j o h1 h2 hj=>x j o h1 h2 (e _ _ hj)
theorem qEW {r:Rw} {d:Int} {v:Dt} (a:qAB st n h s H) (h1:H.hk.length<1000) (ok:OkR r) (hd:r.xs[0]? = some d)
    (hm:∀ (P:VD) st' p,st'[p]? = some (.rw ((partsOf (qAD r.w) r.xs "x").map (inH H)))→P v st'→K20.qFE [.str r.w,.lst p] st' P)
    (hP:∀ st',qAB st' n h s (qBG H d v)→qJu h s st st'→E.nx [some (.ins n),some (qk r),some (.str r.w)] st') :
    qP (qF K20.qFE (qA (qB 2) (qA (qAh (qBI (qF K85.qAs (qA (qB 1) (qA (qC (Dt.str "x")) qD)))) (fun x st P=>P true st) (qAr "Hold" "in_hand" qAU (qB 1) (qA (qB 0) qD)) [(0, "self")]) qD))) (qCF (qBV "Hold" (qB 0) "hands") (qE qI (qB 1) (qC (Dt.int 1)))) E [some (.ins n),some (qk r),some (.str r.w)] st:=by
  k_dat 0"r114"
  refine qRd (qNY (v2 _ ?_))
  refine qEt (i:=0) (j:=1) a ok rfl rfl fun s1 p e1 hp g1=>?_
  refine hm _ s1 p g1 ?_
  refine qDj (i:=0) (x:=d) (a.ext e1) h1 rfl (fun P hp=>?_) fun s2 a2 x2=>hP s2 a2 (x2.of e1)
  refine qAE (xs:=.str r.w::r.xs.map .int) ?_ hp
  exact qAV (j:=1) (by rw [List.getElem?_cons_succ,List.getElem?_map,hd];rfl)
theorem qIt {ds:List Dt} {st:Sto} {Pd:VD} (h:qIf ds st Pd):qCy (Ed Pd) (qU ["self", "row", "word"] ds) st:=by
  obtain⟨n,h,s,H,H',r,rfl,a,h1,h2,ok,pu,hP⟩:=h
  show qCy (Ed Pd) [some (.ins n),some (qk r),none] st
  k_dat 0"r114"
  unfold qCy
  refine qz (i:=2) ?_
  refine qAE (xs:=.str r.w::r.xs.map .int) (v:=0) (d:=.str r.w) (qAV (j:=0) rfl) ?_
  refine K22.seq1 ?_
  show qV _ _ _ _ [some (.ins n),some (qk r),some (.str r.w)] st
  cases pu with
  | keep s' x =>
    refine K22.qEi (a:= "keep") v2 (by decide +kernel) (K22.seq1 ?_)
    refine qPh (i:=0) (x:=x) a rfl (tA1 (rX (i:=1) (j:=1) rfl rfl)) ?_
    exact qN0 (i:=0) (x:=s') a h2 rfl (rX (i:=1) (j:=0) rfl rfl) fun s2 a2 x2=>hP s2 a2 x2
  | load d s' =>
    refine K22.qAO (a:= "load") v2 (by decide +kernel) (K22.seq1 ?_)
    refine K22.qEi (a:= "load") v2 (by decide +kernel) (K22.seq1 ?_)
    refine qTD (i:=0) (x:=s') a rfl (tA1 (rX (i:=1) (j:=1) rfl rfl)) ?_
    k_dat 0"r58"
  | num d v =>
    refine K22.qAO (a:= "num") v2 (by decide +kernel) (K22.seq1 ?_)
    refine K22.qAO (a:= "num") v2 (by decide +kernel) (K22.seq1 ?_)
    refine K22.qEi (a:= "num") v2 (by decide +kernel) (K22.seq1 ?_)
    refine qRd (rX (i:=1) (j:=1) (x:=v) rfl rfl _ ?_)
    k_dat 0"r58"
  | box d k v hk =>
    k_dat 0"r77"
    k_dat 0"r77"
    k_dat 0"r77"
    refine K22.qEi (a:= "box") v2 (by decide +kernel) (K22.seq1 ?_)
    simp only [qP,qE,qBV,qB,qC,List.getElem?_cons_zero,List.getElem?_cons_succ,a.ob,qQf,true_and]
    refine qAE (xs:=[.str "box",.int d,.int (k:Int)]) (v:=2) (d:=.int (k:Int)) rfl ?_
    refine qAE (d:=.int v) (qAV (by rw [List.getElem?_map,hk];rfl)) ?_
    k_dat 0"r58"
  | mark d k v hk =>
    k_dat 0"r59"
    k_dat 0"r59"
    k_dat 0"r59"
    k_dat 0"r59"
    refine K22.qEi (a:= "mark") v2 (by decide +kernel) (K22.seq1 ?_)
    simp only [qP,qE,qBV,qB,qC,List.getElem?_cons_zero,List.getElem?_cons_succ,a.ob,qRQ,true_and]
    refine qAE (xs:=[.str "mark",.int d,.int (k:Int)]) (v:=2) (d:=.int (k:Int)) rfl ?_
    refine qAE (xs:=mL H.ms) (d:=v) (qAV hk) ?_
    k_dat 0"r58"
  | yes d =>
    k_dat 0"r31"
    k_dat 0"r31"
    k_dat 0"r31"
    k_dat 0"r31"
    k_dat 0"r31"
    exact qEW a h1 ok rfl (fun P s' p _ q=>⟨_,p,rfl,.inl ⟨rfl,q⟩⟩) hP
  | no d =>
    k_dat 0"r32"
    k_dat 0"r32"
    k_dat 0"r32"
    k_dat 0"r32"
    k_dat 0"r32"
    exact qEW a h1 ok rfl (fun P s' p _ q=>⟨_,p,rfl,.inr (.inl ⟨rfl,q⟩)⟩) hP
  | nought d x z hz =>
    k_dat 0"r33"
    k_dat 0"r33"
    k_dat 0"r33"
    k_dat 0"r33"
    k_dat 0"r33"
    have e:(partsOf (qAD "nought") [d,x] "x").map (inH H)=[.int z]:=by rw [show partsOf (qAD "nought") [d,x] "x" = [x] from qJL (by decide +kernel),List.map_cons,List.map_nil,hz]
    exact qEW a h1 ok rfl (fun P s' p g q=>⟨_,p,rfl,.inr (.inr (.inl ⟨z,⟨_,g,e⟩,.inl ⟨rfl,q⟩⟩))⟩) hP
  | high d x z hz =>
    k_dat 0"r34"
    k_dat 0"r34"
    k_dat 0"r34"
    k_dat 0"r34"
    k_dat 0"r34"
    have e:(partsOf (qAD "high") [d,x] "x").map (inH H)=[.int z]:=by rw [show partsOf (qAD "high") [d,x] "x" = [x] from qJL (by decide +kernel),List.map_cons,List.map_nil,hz]
    exact qEW a h1 ok rfl (fun P s' p g q=>⟨_,p,rfl,.inr (.inr (.inl ⟨z,⟨_,g,e⟩,.inr ⟨rfl,q⟩⟩))⟩) hP
  | two o d x y z z' hz hz' z0 z1 z2 z3 =>
    have nk:∀ w:Str,w∈(["keep", "load", "num", "box", "mark"]:List Str)→(K20.nm o==w)=false:=by cases o<;>decide +kernel
    k_dat 0"r35"
    k_dat 0"r35"
    k_dat 0"r35"
    k_dat 0"r35"
    k_dat 0"r35"
    have e:(partsOf (qAD (K20.nm o)) [d,x,y] "x").map (inH H)=[.int z,.int z']:=by rw [show partsOf (qAD (K20.nm o)) [d,x,y] "x" = [x,y] from qLZ (by cases o<;>decide +kernel),List.map_cons,List.map_cons,List.map_nil,hz,hz']
    exact qEW a h1 ok rfl (fun P s' p g q=>⟨_,p,rfl,.inr (.inr (.inr ⟨o,z,z',rfl,⟨_,g,e⟩,z0,z1,z2,z3,q⟩))⟩) hP
theorem qF3 {ds:List Dt} {st:Sto} {Pd:VD} (h:qBS ds st Pd):qBb (Ed Pd) (qU ["self", "source", "old", "where"] ds) st:=by
  obtain⟨n,h,s,H,src,old,v,rfl,a,sr,hP⟩:=h
  show qBb (Ed Pd) [some (.ins n),some src,some (.tup old),none] st
  unfold qBb
  refine qz (i:=3) ?_
  cases sr with
  | hand x =>
    refine rS (i:=1) (j:=0) (xs:=[.str "hand",.int x]) rfl rfl _ ?_
    refine K22.seq1 (K22.qEi (a:= "hand") (fun P hp=>hp) (by decide +kernel) (K22.seq1 ?_))
    exact qPh (i:=0) (x:=x) a rfl (tA1 (rS (i:=1) (j:=1) (xs:=[.str "hand",.int x]) rfl rfl)) hP
  | shelf x =>
    refine rS (i:=1) (j:=0) (xs:=[.str "shelf",.int x]) rfl rfl _ ?_
    refine fsq (a:= "shelf") (fun P hp=>hp) (by decide +kernel) ?_
    refine K22.seq1 (K22.qEi (a:= "shelf") (fun P hp=>hp) (by decide +kernel) (K22.seq1 ?_))
    exact qTD (i:=0) (x:=x) a rfl (tA1 (rS (i:=1) (j:=1) (xs:=[.str "shelf",.int x]) rfl rfl)) hP
  | old k d hk =>
    refine rS (i:=1) (j:=0) (xs:=[.str "old",.int (k:Int)]) rfl rfl _ ?_
    iterate 2 refine fsq (a:= "old") (fun P hp=>hp) (by decide +kernel) ?_
    refine K22.seq1 ?_
    simp only [qM,qE,qB,qC,List.getElem?_cons_zero,List.getElem?_cons_succ,List.set_cons_zero,List.set_cons_succ]
    refine qAE (xs:=[.str "old",.int (k:Int)]) (v:=1) (d:=.int (k:Int)) rfl ?_
    exact qAE (qAV hk) hP
end
end KM
namespace KM
open PySem PySem.Spec PyProof.Rows L2 L3 KS K02 K85 K06
abbrev qBs:TSD:=(tseq (qV (qH (qE (qW false) (qE qI (qB 0) (qC (Dt.int 0))) (qC (Dt.str "out")))) (tseq (qM (qE qI (qB 0) (qC (Dt.int 1)))) qG) qG) (tseq (qV (qH (qE (qW false) (qE qI (qB 0) (qC (Dt.int 0))) (qC (Dt.str "back")))) (tseq (qM (qBe (qH (qE (qBf false) (qB 2) (qC Dt.non))) (qE qI (qB 0) (qC (Dt.int 1))) (qE qI (qB 0) (qC (Dt.int 2))))) qG) qG) (tseq (qM (qBe (qH (qE qI (qB 1) (qC (Dt.int 0)))) (qE qI (qB 0) (qC (Dt.int 2))) (qE qI (qB 0) (qC (Dt.int 3))))) qG)))
abbrev qCD:TSD:=(tseq (qP (qF qj (qA (qAh (qBI (qE qI (qB 0) (qC (Dt.int 2)))) (fun x st P=>P true st) (qAr "Hold" "source" qBS (qB 1) (qA (qB 0) (qA (qBV "Hold" (qB 1) "boxes") qD))) [(2, "hold")]) qD)) (qJ 4)) (tseq (qV (qH (qB 3)) (tseq (qM (qN (qA (qE qI (qE qI (qB 1) (qC (Dt.int 3))) (qC (Dt.int 0))) (qA (qB 4) (qA (qE qI (qE qI (qB 1) (qC (Dt.int 3))) (qC (Dt.int 1))) (qA (qC Dt.non) (qA (qE qI (qB 1) (qC (Dt.int 4))) (qA (qE qI (qB 1) (qC (Dt.int 5))) qD)))))))) qG) qG) (tseq (qP (qBe (qH (qF qAI (qA (qE qI (qB 0) (qC (Dt.int 1))) (qA (qC (Dt.ty "tuple")) qD)))) (qAr "Hold" "in_hand" qAU (qB 2) (qA (qE qI (qE qI (qB 0) (qC (Dt.int 1))) (qC (Dt.int 1))) qD)) (qE qI (qB 0) (qC (Dt.int 1)))) (qJ 5)) (tseq (qP (qF qj (qA (qAh (qBI (qE qI (qB 0) (qC (Dt.int 3)))) (fun x st P=>P true st) (qAr "Hold" "source" qBS (qB 1) (qA (qB 0) (qA (qBV "Hold" (qB 1) "marks") qD))) [(2, "hold")]) qD)) (qJ 6)) (tseq (qM (qN (qA (qE qo (qB 5) (qC (Dt.int 65536))) (qA (qB 4) (qA (qB 6) (qA (qE qI (qB 1) (qC (Dt.int 3))) (qA (qE qI (qB 1) (qC (Dt.int 4))) (qA (qE qI (qB 1) (qC (Dt.int 5))) qD)))))))) qG)))))
section
variable {E:qA4} {st:Sto} {Q:VD} {ρ:Rho} {n h s:Nat} {H:Hd}
theorem qJo {x e f:Int}:partsOf (qAD "when") [x,e,f] "x" = [x]:=by
  have h:cs (qAD "when")=[120,101,101]:=by decide +kernel
  unfold partsOf;rw [h]
  have e1:(one 101==("x" : Str))=false:=by decide +kernel
  k_dat 0"r57"
  k_dat 0"r76"
theorem qGd {c:TBD} {t u:TD} {b:Bool} {P:VD} (hc:∀ P:Bool→Sto→Prop,P b st→c ρ st P) (h:if b=true then t ρ st P else u ρ st P):qBe c t u ρ st P:=by
  unfold qBe;exact hc _ h
theorem qG5 {ds:List Dt} {st:Sto} {Pd:VD} (h:qDK ds st Pd):qBs (Ed Pd) (qU ["row", "parts", "saved"] ds) st:=by
  obtain⟨r,p,sv,H,e,rfl,hp,la,hP⟩:=h
  show qBs (Ed Pd) [some (qk r),some (.lst p),some (svD sv)] st
  have w0:∀ P:VD,P (.str r.w) st→qE qI (qB 0) (qC (.int 0)) [some (qk r),some (.lst p),some (svD sv)] st P:=rS (i:=0) (j:=0) (xs:=.str r.w::r.xs.map .int) rfl rfl
  unfold qBs
  cases la with
  | out e =>
    refine K22.seq1 (K22.qEi (a:= "out") w0 (by decide +kernel) (K22.seq1 ?_))
    exact rX (i:=0) (j:=0) rfl rfl _ hP
  | back e f =>
    refine fsq (a:= "back") w0 (by decide +kernel) ?_
    refine K22.seq1 (K22.qEi (a:= "back") w0 (by decide +kernel) (K22.seq1 ?_))
    cases sv with
    | none =>
      refine qGd (b:=true) (fun P hp=>hp) ?_
      exact qA7 (rX (i:=0) (j:=0) rfl rfl _ hP)
    | some z =>
      refine qGd (b:=false) (fun P hp=>hp) ?_
      exact qAz (rX (i:=0) (j:=1) rfl rfl _ hP)
  | whn x e f t ht =>
    iterate 2 refine fsq (a:= "when") w0 (by decide +kernel) ?_
    refine K22.seq1 ?_
    have hp:st[p]? = some (.rw [.bl t]):=by
      have:(partsOf (qAD "when") [x,e,f] "x").map (inH H)=[.bl t]:=by rw [qJo,List.map_cons,List.map_nil,ht]
      rw [← this];exact hp
    refine qGd (b:=t) (fun P h=>?_) ?_
    · show qH _ _ _ _
      unfold qH
      exact ixL (i:=1) (j:=0) (d:=.bl t) rfl hp rfl _ h
    · cases t with
      | true=>exact qA7 (rX (i:=0) (j:=1) rfl rfl _ hP)
      | false=>exact qAz (rX (i:=0) (j:=2) rfl rfl _ hP)
theorem qHo {i j k:Nat} {nm f:Str} {ss vs xs old:List Dt} (a:qAB st n h s H) (hi:ρ[i]? = some (some (.ins n))) (hj:ρ[j]? = some (some (.tup xs))) (hk:xs[k]? = some (.tup ss)) (hf:(qDv h s H.bx H.ms).lookup f=some (.tup old)) (al:qFf H old ss vs) (hl:ss.length≤100)
    (q:∀ st',ql st st'→Q (.tup vs) st') :
    qF qj (qA (qAh (qBI (qE qI (qB j) (qC (Dt.int (k:Int))))) (fun x st P=>P true st) (qAr "Hold" "source" qBS (qB 1) (qA (qB 0) (qA (qBV "Hold" (qB 1) f) qD))) [(i,nm)]) qD) ρ st Q:=by
  unfold qF
  simp only [qA,qD,qAh,qBI]
  refine rS (i:=j) (j:=k) hj hk _ ?_
  simp only [qa,qFU,List.map_cons,List.map_nil,hi,Option.join_some]
  refine⟨fun m zs s'=>zs=vs.take m∧s'=st,⟨rfl,rfl⟩,fun _ _ _ _ _=>trivial,?_,?_⟩
  · rintro m d zs s' hd ⟨rfl,rfl⟩
    have hm:=(List.getElem?_eq_some_iff.mp hd).1
    have hyl:(vs.take m).length≤vs.length:=List.length_take_le' m _
    have hvl:=al.1
    refine⟨small (by omega),qA7 ?_⟩
    have hm2:m<vs.length:=by omega
    simp only [qAr,qB,qA,qD,qBV,List.getElem?_cons_zero,List.getElem?_cons_succ,a.ob,qRi,hf,true_and]
    refine⟨n,h,s,H,d,old,vs[m],rfl,a,al.2 m _ _ hd (List.getElem?_eq_getElem hm2),?_,rfl⟩
    rw [List.take_succ,List.getElem?_eq_getElem hm2]
    simp
  · rintro ys s' ⟨rfl,rfl⟩
    have e:(s'++[SO.rw (vs.take ss.length)])[s'.length]? = some (.rw vs):=by rw [qL,← al.1,List.take_length]
    simp only [qj,qa,e,Option.map_some,SO.items]
    exact q _ (.app _ _)
theorem qHv {ds:List Dt} {st:Sto} {Pd:VD} (h:qC1 ds st Pd):qCD (Ed Pd) (qU ["way", "state", "hold", "is_back", "boxes", "place", "marks"] ds) st:=by
  obtain⟨e,g,g',n,h,s,H,k,rfl,a,l1,l2,ou,hP⟩:=h
  show qCD (Ed Pd) [some (exD e),some g.d,some (.ins n),some (.bl k),none,none,none] st
  have six:(6:Nat)≤sizeLine:=by decide
  unfold qCD
  refine qz (i:=4) ?_
  cases ou with
  | back q m vs hs al =>
    k_dat 0"r115"
    refine K22.seq1 (ifS (b:=true) (fun P hp=>hp) (fun _=>?_) fun z=>by cases z)
    k_dat 0"r116"
    have sv:svD g.sv = .tup [.int q,msD m]:=by rw [hs];rfl
    k_dat 0"r117"
    refine qAE (xs:=[.int q,msD m]) (v:=0) (d:=.int q) rfl ?_
    k_dat 0"r117"
    refine qAE (xs:=[.int q,msD m]) (v:=1) (d:=msD m) rfl ?_
    k_dat 0"r118"
    k_dat 0"r119"
    exact⟨six,hP _ x1⟩
  | go p vs m ha al am =>
    k_dat 0"r115"
    have a1:=a.ext x1
    refine qBm (b:=false) (fun P hp=>hp) (fun z=>by cases z) fun _=>?_
    refine qz (i:=5) ?_
    have rest:(tseq (qP (qF qj (qA (qAh (qBI (qE qI (qB 0) (qC (Dt.int 3)))) (fun x st P=>P true st) (qAr "Hold" "source" qBS (qB 1) (qA (qB 0) (qA (qBV "Hold" (qB 1) "marks") qD))) [(2, "hold")]) qD)) (qJ 6)) (tseq (qM (qN (qA (qE qo (qB 5) (qC (Dt.int 65536))) (qA (qB 4) (qA (qB 6) (qA (qE qI (qB 1) (qC (Dt.int 3))) (qA (qE qI (qB 1) (qC (Dt.int 4))) (qA (qE qI (qB 1) (qC (Dt.int 5))) qD)))))))) qG)) (Ed Pd) [some (exD e),some g.d,some (.ins n),some (.bl false),some (.tup (vs.map .int)),some (.int p),none] s1:=by
      refine qz (i:=6) ?_
      refine qHo (i:=2) (j:=0) (k:=3) (xs:=[.str e.how,e.at_,.tup e.bs,.tup e.ms,.int e.n]) a1 rfl rfl rfl rfl am l2 fun s2 x2=>?_
      k_dat 0"r116"
      k_dat 0"r21"
      refine qAE (xs:=[.int g.p,.tup (g.bs.map .int),msD g.m,svD g.sv,.tup (g.rs.map .int),.tup (g.cs.map .int)]) (v:=3) (d:=svD g.sv) rfl ?_
      k_dat 0"r118"
      k_dat 0"r119"
      exact⟨six,hP _ fun u o ho=>x2 _ _ (x1 _ _ ho)⟩
    obtain⟨how,at_,bs,ms,nn⟩:=e
    cases ha with
    | int =>
      refine qGd (b:=false) (fun P hp=>?_) (qAz ?_)
      · show qH _ _ _ _
        unfold qH
        simp only [qF,qA,qD,qC]
        refine rS (i:=0) (j:=1) (xs:=[.str how,.int p,.tup bs,.tup ms,.int nn]) rfl rfl _ ?_
        exact⟨by decide +kernel,hp⟩
      · exact rS (i:=0) (j:=1) (xs:=[.str how,.int p,.tup bs,.tup ms,.int nn]) rfl rfl _ rest
    | hand w x _ hx =>
      refine qGd (b:=true) (fun P hp=>?_) (qA7 ?_)
      · show qH _ _ _ _
        unfold qH
        simp only [qF,qA,qD,qC]
        k_dat 0"r120"
        exact⟨by decide +kernel,hp⟩
      · refine qPh (i:=2) (x:=x) a1 rfl (tA1 fun P hp=>?_) (by rw [hx];exact rest)
        show qE qI _ _ _ _ _
        unfold qE
        k_dat 0"r120"
        exact qAE (xs:=[.str w,.int x]) (v:=1) rfl hp
end
end KM
namespace KM
open PySem PySem.Spec PyProof.Rows L2 L3 KS K02 K85 K06
abbrev dhC:TSD:=(tseq (qV (qH (qE (qBf true) (qB 11) (qC Dt.non))) (tseq (qP (qE qI (qE qI (qB 0) (qC (Dt.int 3))) (qB 11)) (qJ 13)) (tseq (qP (qAi (qE (qW false) (qB 9) (qC (Dt.str "back"))) (qE (qBf true) (qE qI (qB 1) (qC (Dt.int 3))) (qC Dt.non))) (qJ 14)) (tseq (qM (qN (qA (qE qI (qB 13) (qC (Dt.int 0))) (qA (qF qC1 (qA (qB 13) (qA (qB 1) (qA (qB 4) (qA (qB 14) qD))))) (qA (qF qj (qA (qB 5) qD)) (qA (qE qI (qB 13) (qC (Dt.int 4))) (qA (qB 6) (qA (qB 7) qD)))))))) qG))) qG) qG)
abbrev qDo:TSD:=(tseq (qP (qKy "Hold" qFp (qA (qE qI (qB 1) (qC (Dt.int 1))) (qA (qE qI (qB 1) (qC (Dt.int 2))) qD))) (qJ 4)) (tseq (qP (qg qD) (qJ 5)) (tseq (qP (qC (Dt.int 0)) (qJ 6)) (tseq (qCb (qKc (qE qI (qB 0) (qC (Dt.int 2)))) (qi 2 (qY (qJ 7) (qY (qJ 8) qAK))) (tseq (qP (qE qI (qB 8) (qC (Dt.int 0))) (qJ 9)) (tseq (qP (qAh (qBI (qF K85.qAs (qA (qB 8) (qA (qC (Dt.str "x")) qD)))) (fun x st P=>P true st) (qAr "Hold" "in_hand" qAU (qB 1) (qA (qB 0) qD)) [(4, "hold")]) (qJ 10)) (tseq (qP (qC Dt.non) (qJ 11)) (tseq (qV (qH (qE (qBH false) (qB 9) (qC (Dt.tup qI3)))) (tseq (qP (qF qDK (qA (qB 8) (qA (qB 10) (qA (qE qI (qB 1) (qC (Dt.int 3))) qD)))) (qJ 11)) qG) (tseq (qV (qH (qEr qGs (qB 9))) (tseq (qP (qF KD.qDU (qA (qB 1) (qA (qB 9) (qA (qB 10) (qA (qBe (qH (qE (qAN fun i j=>decide (i<j)) (qB 6) (qF qBC (qA (qB 2) qD)))) (qE qI (qB 2) (qB 6)) (qC (Dt.int 0))) qD))))) (qJ 12)) (tseq (qP (qE qI (qB 12) (qC (Dt.int 1))) (qJ 1)) (tseq (qA3 (qF0 (qB 5) (qE qI (qB 12) (qC (Dt.int 2))))) (tseq (qV (qH (qE (qW true) (qE qI (qB 12) (qC (Dt.int 0))) (qC (Dt.str "on")))) (tseq (qP (qE qI (qF K85.qAs (qA (qB 8) (qA (qC (Dt.str "e")) qD))) (qC (Dt.int 0))) (qJ 11)) qG) (tseq (qV (qH (qF KD.qB0 (qA (qB 9) (qA (qB 10) (qA (qB 3) qD))))) (tseq (qP (qE qI (qF K85.qAs (qA (qB 8) (qA (qC (Dt.str "e")) qD))) (qC (Dt.int 1))) (qJ 11)) qG) (tseq (qV (qH (qE (qBH false) (qB 9) (qC (Dt.tup KD.qPU)))) (tseq (qP (qE qI (qE qI (qB 1) (qC (Dt.int 1))) (qC (Dt.int 0))) (qCF (qBV "Hold" (qB 4) "hands") (qE qI (qB 8) (qC (Dt.int 1))))) (tseq (qN7 6 (qBe (qA5 (qH (qE (qW false) (qB 9) (qC (Dt.str "hear")))) (qH (qE (qAN fun i j=>decide (i<j)) (qB 6) (qF qBC (qA (qB 2) qD))))) (qC (Dt.int 1)) (qC (Dt.int 0)))) qG)) qG) qG)) qG)) qG)))) (tseq (qA3 (qAr "Hold" "put" qIf (qB 4) (qA (qB 8) qD))) qG)) qG)) dhC))))) (tseq (qM (qC Dt.non)) qG)))))
def dhB:TSD:=(tseq (qV (qH (qE (qBH false) (qB 9) (qC (Dt.tup qI3)))) (tseq (qP (qF qDK (qA (qB 8) (qA (qB 10) (qA (qE qI (qB 1) (qC (Dt.int 3))) qD)))) (qJ 11)) qG) (tseq (qV (qH (qEr qGs (qB 9))) (tseq (qP (qF KD.qDU (qA (qB 1) (qA (qB 9) (qA (qB 10) (qA (qBe (qH (qE (qAN fun i j=>decide (i<j)) (qB 6) (qF qBC (qA (qB 2) qD)))) (qE qI (qB 2) (qB 6)) (qC (Dt.int 0))) qD))))) (qJ 12)) (tseq (qP (qE qI (qB 12) (qC (Dt.int 1))) (qJ 1)) (tseq (qA3 (qF0 (qB 5) (qE qI (qB 12) (qC (Dt.int 2))))) (tseq (qV (qH (qE (qW true) (qE qI (qB 12) (qC (Dt.int 0))) (qC (Dt.str "on")))) (tseq (qP (qE qI (qF K85.qAs (qA (qB 8) (qA (qC (Dt.str "e")) qD))) (qC (Dt.int 0))) (qJ 11)) qG) (tseq (qV (qH (qF KD.qB0 (qA (qB 9) (qA (qB 10) (qA (qB 3) qD))))) (tseq (qP (qE qI (qF K85.qAs (qA (qB 8) (qA (qC (Dt.str "e")) qD))) (qC (Dt.int 1))) (qJ 11)) qG) (tseq (qV (qH (qE (qBH false) (qB 9) (qC (Dt.tup KD.qPU)))) (tseq (qP (qE qI (qE qI (qB 1) (qC (Dt.int 1))) (qC (Dt.int 0))) (qCF (qBV "Hold" (qB 4) "hands") (qE qI (qB 8) (qC (Dt.int 1))))) (tseq (qN7 6 (qBe (qA5 (qH (qE (qW false) (qB 9) (qC (Dt.str "hear")))) (qH (qE (qAN fun i j=>decide (i<j)) (qB 6) (qF qBC (qA (qB 2) qD))))) (qC (Dt.int 1)) (qC (Dt.int 0)))) qG)) qG) qG)) qG)) qG)))) (tseq (qA3 (qAr "Hold" "put" qIf (qB 4) (qA (qB 8) qD))) qG)) qG)) dhC)
def dhA:TSD:=(tseq (qP (qE qI (qB 8) (qC (Dt.int 0))) (qJ 9)) (tseq (qP (qAh (qBI (qF K85.qAs (qA (qB 8) (qA (qC (Dt.str "x")) qD)))) (fun x st P=>P true st) (qAr "Hold" "in_hand" qAU (qB 1) (qA (qB 0) qD)) [(4, "hold")]) (qJ 10)) (tseq (qP (qC Dt.non) (qJ 11)) dhB)))
theorem qGC {kvs:List (Key×Dt)} {k:Key} {v:Dt}:(putD kvs k v).length≤kvs.length+1:=by
  unfold putD
  split
  · rw [List.length_map];omega
  · simp
section
variable {E:qA4} {st s':Sto} {Q:VD} {n h s tn gn:Nat} {a b:Dt} {rs:List Rw} {es:List Ex} {given wt:List Int} {m:Ms}
noncomputable abbrev hoD (a b:Dt) (rs:List Rw) (es:List Ex):Dt:=.tup [a,b,.tup (rs.map qk),.tup (es.map exD)]
noncomputable abbrev RH (a b:Dt) (rs:List Rw) (es:List Ex) (g:GS) (gn:Nat) (wt:List Int) (n tn hd:Nat) (x7 x8 x9 x10 x11 x12 x13 x14:Option Dt):Rho:=[some (hoD a b rs es),some g.d,some (.lst gn),some (.tup (wt.map .int)),some (.ins n),some (.lst tn),some (.int (hd:Nat)),x7,x8,x9,x10,x11,x12,x13,x14]
structure SH (st s':Sto) (n h s tn gn:Nat) (given:List Int) (m:Ms) (i:Nat):Prop where
  ha:qAB s' n h s m.H
  ht:s'[tn]? = some (.rw (m.told.map .int))
  hg:K20.Has st gn (given.map .int)
  ex:ql st s'
  lh:st.length≤h
  ls:st.length≤s
  lt:st.length≤tn
  l1:m.H.hk.length≤i
  l2:m.H.sk.length≤i
  l3:m.told.length≤i
  i4:i≤400
theorem SH.grow {i:Nat} {s2:Sto} (x:SH st s' n h s tn gn given m i) (e:ql s' s2):SH st s2 n h s tn gn given m i:={ x with ha:=x.ha.ext e,ht:=e _ _ x.ht,ex:=fun j o hj=>e _ _ (x.ex _ _ hj) }
theorem stN {g:GS} {hd:Nat} {x7 x8 x9 x10 x12 x13 x14:Option Dt} (q:E.nx (RH a b rs es g gn wt n tn hd x7 x8 x9 x10 (some .non) x12 x13 x14) st):dhC E (RH a b rs es g gn wt n tn hd x7 x8 x9 x10 (some .non) x12 x13 x14) st:=by
  unfold dhC
  exact qBm (b:=false) (fun P hp=>hp) (fun z=>by cases z) fun _=>q
theorem stS {x10 x12 x13 x14:Option Dt} {c e:Nat} {r:Rw} {ex:Ex} {g':GS} {i:Nat} (sh:SH st s' n h s tn gn given m i) (he:es[e]? = some ex) (l1:ex.bs.length≤100) (l2:ex.ms.length≤100) (ou:qEQ m.H m.g ex (qCl r m) g')
    (hE:∀ s2,ql st s2→E.rt (qLH ex g' m.told m.heard c) s2) :
    dhC E (RH a b rs es m.g gn wt n tn m.heard (some (.int (c:Int))) (some (qk r)) (some (.str r.w)) x10 (some (.int (e:Int))) x12 x13 x14) s':=by
  have six:(6:Nat)≤sizeLine:=by decide
  unfold dhC
  refine qBm (b:=true) (fun P hp=>hp) (fun _=>?_) (fun z=>by cases z)
  refine qz (i:=13) ?_
  unfold qE
  refine rS (i:=0) (j:=3) (xs:=[a,b,.tup (rs.map qk),.tup (es.map exD)]) rfl rfl _ ?_
  show qI (.tup (es.map exD)) (.int (e:Int)) s' _
  refine qAE (qAV (j:=e) (by rw [List.getElem?_map,he];rfl)) ?_
  refine qz (i:=14) ?_
  have bk:∀ P:VD,P (.bl (qCl r m)) s'→qAi (qE (qW false) (qB 9) (qC (Dt.str "back"))) (qE (qBf true) (qE qI (qB 1) (qC (Dt.int 3))) (qC Dt.non)) (RH a b rs es m.g gn wt n tn m.heard (some (.int (c:Int))) (some (qk r)) (some (.str r.w)) x10 (some (.int (e:Int))) x12 (some (exD ex)) x14) s' P:=by
    intro P hp
    simp only [qAi,qE,qB,qC,List.getElem?_cons_zero,List.getElem?_cons_succ]
    by_cases hw:r.w = "back"
    · have:(r.w==("back" : Str))=true:=by rw [hw];decide +kernel
      refine K22.qQP this ?_
      refine KH.qDB rfl ?_
      k_dat 0"r121"
      unfold qCl at hp
      rw [decide_eq_true hw] at hp
      cases hs:m.g.sv with
      | none=>rw [hs] at hp;exact hp
      | some z=>rw [hs] at hp;exact hp
    · have:(r.w==("back" : Str))=false:=beq_eq_false_iff_ne.mpr hw
      refine K22.qR0 this ?_
      refine KH.qAf rfl ?_
      unfold qCl at hp
      rw [decide_eq_false hw] at hp
      exact hp
  refine bk _ ?_
  show tseq (qM _) _ _ (RH a b rs es m.g gn wt n tn m.heard (some (.int (c:Int))) (some (qk r)) (some (.str r.w)) x10 (some (.int (e:Int))) x12 (some (exD ex)) (some (.bl (qCl r m)))) s'
  refine K22.seq1 ?_
  simp only [qM,qN,qE,qC,qA,qD,qF,qB,List.getElem?_cons_zero,List.getElem?_cons_succ]
  refine qAE (xs:=[.str ex.how,ex.at_,.tup ex.bs,.tup ex.ms,.int ex.n]) (v:=0) rfl ?_
  refine⟨ex,m.g,g',n,h,s,m.H,qCl r m,rfl,sh.ha,l1,l2,ou,fun s2 x2=>?_⟩
  have e2:s2[tn]? = some (.rw (m.told.map .int)):=x2 _ _ sh.ht
  simp only [qj,qa,e2,Option.map_some,SO.items]
  refine qAE (xs:=[.str ex.how,ex.at_,.tup ex.bs,.tup ex.ms,.int ex.n]) (v:=4) rfl ?_
  exact⟨six,hE _ fun u o ho=>x2 _ _ (sh.ex _ _ ho)⟩
end
end KM
namespace KM
open PySem PySem.Spec PyProof.Rows L2 L3 KS K02 K85 K06
section
variable {E:qA4} {st s':Sto} {Q:VD} {n h s tn gn:Nat} {a b:Dt} {rs:List Rw} {es:List Ex} {given wt:List Int} {m:Ms}
noncomputable def qAo (w:Str):Bool:=qI3.any (fun z=>eqD 0 z (.str w)) != false
noncomputable def qBP (w:Str):Bool:=(qGs.lookup w).isSome
theorem qKH {ρ:Rho} {A C:TSD} {w:Str} {t:Bool} (h9:ρ[9]? = some (some (.str w))) (ht:qAo w=t) (q1:t=true→A E ρ s') (q2:t=false→C E ρ s'):qV (qH (qE (qBH false) (qB 9) (qC (Dt.tup qI3)))) A C E ρ s':=by
  refine ifS (b:=t) (fun P hp=>?_) q1 q2
  simp only [qH,qE,qB,qC,h9]
  exact⟨rfl,by decide +kernel,by show P (qAo w) s';rw [ht];exact hp⟩
theorem qNE {ρ:Rho} {A C:TSD} {w:Str} {t:Bool} (h9:ρ[9]? = some (some (.str w))) (ht:qBP w=t) (q1:t=true→A E ρ s') (q2:t=false→C E ρ s'):qV (qH (qEr qGs (qB 9))) A C E ρ s':=by
  refine ifS (b:=t) (fun P hp=>?_) q1 q2
  simp only [qH,qEr,qB,h9]
  show P (qBP w) s'
  rw [ht];exact hp
theorem qR5 {H H':Hd} {r:Rw} (p:Puts H r H'):qAo r.w=false∧qBP r.w=false:=by
  cases p with
  | keep=>exact⟨(by decide +kernel:qAo "keep" = false),(by decide +kernel:qBP "keep" = false)⟩
  | load=>exact⟨(by decide +kernel:qAo "load" = false),(by decide +kernel:qBP "load" = false)⟩
  | num=>exact⟨(by decide +kernel:qAo "num" = false),(by decide +kernel:qBP "num" = false)⟩
  | box=>exact⟨(by decide +kernel:qAo "box" = false),(by decide +kernel:qBP "box" = false)⟩
  | mark=>exact⟨(by decide +kernel:qAo "mark" = false),(by decide +kernel:qBP "mark" = false)⟩
  | yes=>exact⟨(by decide +kernel:qAo "yes" = false),(by decide +kernel:qBP "yes" = false)⟩
  | no=>exact⟨(by decide +kernel:qAo "no" = false),(by decide +kernel:qBP "no" = false)⟩
  | nought=>exact⟨(by decide +kernel:qAo "nought" = false),(by decide +kernel:qBP "nought" = false)⟩
  | high=>exact⟨(by decide +kernel:qAo "high" = false),(by decide +kernel:qBP "high" = false)⟩
  | two o=>exact⟨(by cases o<;>decide +kernel:qAo (K20.nm o)=false),(by cases o<;>decide +kernel:qBP (K20.nm o)=false)⟩
theorem qMj {H H':Hd} {r:Rw} (p:Puts H r H') {i:Nat} (h1:H.hk.length≤i) (h2:H.sk.length≤i):H'.hk.length≤i+1∧H'.sk.length≤i+1:=by
  have hk:∀ {k v},(putD H.hk k v).length≤i+1:=fun {k v}=>Nat.le_trans qGC (by omega)
  have sk:∀ {k v},(putD H.sk k v).length≤i+1:=fun {k v}=>Nat.le_trans qGC (by omega)
  cases p with
  | keep=>exact⟨Nat.le_succ_of_le h1,sk⟩
  | _=>exact⟨hk,Nat.le_succ_of_le h2⟩
variable {x7 x12 x13 x14:Option Dt} {p:Nat} {r:Rw} {i:Nat}
theorem stP {H':Hd} (sh:SH st s' n h s tn gn given m i) (hi:i<400) (ok:OkR r) (pu:Puts m.H r H')
    (hE:∀ s2,SH st s2 n h s tn gn given { m with H:=H' } (i+1)→dhC E (RH a b rs es m.g gn wt n tn m.heard x7 (some (qk r)) (some (.str r.w)) (some (.lst p)) (some .non) x12 x13 x14) s2) :
    dhB E (RH a b rs es m.g gn wt n tn m.heard x7 (some (qk r)) (some (.str r.w)) (some (.lst p)) (some .non) x12 x13 x14) s':=by
  have l1:=sh.l1
  have l2:=sh.l2
  have l3:=sh.l3
  have pw:=qR5 pu
  unfold dhB
  refine K22.seq1 (qKH rfl pw.1 (fun z=>by cases z) fun _=>K22.seq1 (qNE rfl pw.2 (fun z=>by cases z) fun _=>K22.seq1 ?_))
  simp only [qA3,qAr,qB,qA,qD,List.getElem?_cons_zero,List.getElem?_cons_succ,sh.ha.ob,qSS,true_and]
  refine⟨n,h,s,m.H,H',r,rfl,sh.ha,by omega,by omega,ok,pu,fun s2 a2 x2=>?_⟩
  have le:=qMj pu l1 l2
  have n1:tn≠h:=fun e=>by have:=sh.ht;rw [e,sh.ha.hd] at this;cases this
  have n2:tn≠s:=fun e=>by have:=sh.ht;rw [e,sh.ha.sh] at this;cases this
  refine hE s2 ⟨a2,x2 _ _ n1 n2 sh.ht,sh.hg,fun j o hj=>?_,sh.lh,sh.ls,sh.lt,le.1,le.2,by show m.told.length≤i+1;omega,by omega⟩
  k_dat 0"r60"
  have:=sh.lh
  have:=sh.ls
  exact x2 _ _ (by omega) (by omega) (sh.ex _ _ hj)
theorem qSM {H:Hd} {sv:Option (Int×M3)} {r:Rw} {e:Int} (l:Last H sv r e):qAo r.w=true:=by
  cases l with
  | out=>exact (by decide +kernel:qAo "out" = true)
  | back=>exact (by decide +kernel:qAo "back" = true)
  | whn=>exact (by decide +kernel:qAo "when" = true)
theorem stL {e:Int} (sh:SH st s' n h s tn gn given m i) (hp:s'[p]? = some (.rw ((partsOf (qAD r.w) r.xs "x").map (inH m.H)))) (la:Last m.H m.g.sv r e)
    (hE:dhC E (RH a b rs es m.g gn wt n tn m.heard x7 (some (qk r)) (some (.str r.w)) (some (.lst p)) (some (.int e)) x12 x13 x14) s') :
    dhB E (RH a b rs es m.g gn wt n tn m.heard x7 (some (qk r)) (some (.str r.w)) (some (.lst p)) (some .non) x12 x13 x14) s':=by
  unfold dhB
  refine K22.seq1 (qKH rfl (qSM la) (fun _=>?_) (fun z=>by cases z))
  refine qz (i:=11) ?_
  simp only [qF,qB,qA,qD,qE,qC,List.getElem?_cons_zero,List.getElem?_cons_succ]
  k_dat 0"r121"
  exact⟨r,p,m.g.sv,m.H,e,rfl,hp,la,hE⟩
theorem qTi {H:Hd} {w:KD.IW} {ps:List Int} {d:Int} (t:ItR H r w ps d):r.w=KD.iw w:=by cases t<;>rfl
theorem qUM (w:KD.IW):qAo (KD.iw w)=false∧qBP (KD.iw w)=true:=by cases w<;>decide +kernel
theorem qPR {H:Hd} {w:KD.IW} {ps:List Int} {d:Int} (t:ItR H r w ps d):ps.length=KD.arity w∧(KD.qCU w=true→r.xs[0]? = some d):=by cases t<;>exact⟨rfl,fun z=>by first | rfl | cases z⟩
theorem qMI {H:Hd} {w:KD.IW} {ps:List Int} {d:Int} (t:ItR H r w ps d):(partsOf (qAD r.w) r.xs "x").map (inH H)=ps.map .int:=by
  have e0:(one 100==("x" : Str))=false:=by decide +kernel
  have e1:(one 101==("x" : Str))=false:=by decide +kernel
  k_dat 0"r57"
  cases t with
  | get d x y e a b ha hb =>
    have h:cs (qAD "get")=[100,120,120,101]:=by decide +kernel
    show (partsOf (qAD "get") [d,x,y,e] "x").map (inH H)=_
    unfold partsOf;rw [h]
    k_dat 0"r78"
  | set x y z e f a b c ha hb hc =>
    have h:cs (qAD "set")=[120,120,120,101,101]:=by decide +kernel
    show (partsOf (qAD "set") [x,y,z,e,f] "x").map (inH H)=_
    unfold partsOf;rw [h]
    simp only [List.zip_cons_cons,List.zip_nil_left,List.filter_cons,e0,e1,e2,List.filter_nil,Bool.false_eq_true,if_false,if_true,List.map_cons,List.map_nil,ha,hb,hc]
  | div d x y e a b ha hb =>
    have h:cs (qAD "div")=[100,120,120,101]:=by decide +kernel
    show (partsOf (qAD "div") [d,x,y,e] "x").map (inH H)=_
    unfold partsOf;rw [h]
    k_dat 0"r78"
  | tell x a ha =>
    have h:cs (qAD "tell")=[120]:=by decide +kernel
    show (partsOf (qAD "tell") [x] "x").map (inH H)=_
    unfold partsOf;rw [h]
    simp only [List.zip_cons_cons,List.zip_nil_left,List.filter_cons,e0,e1,e2,List.filter_nil,Bool.false_eq_true,if_false,if_true,List.map_cons,List.map_nil,ha]
  | hear d =>
    have h:cs (qAD "hear")=[100]:=by decide +kernel
    show (partsOf (qAD "hear") [d] "x").map (inH H)=_
    unfold partsOf;rw [h]
    simp only [List.zip_cons_cons,List.zip_nil_left,List.filter_cons,e0,e1,e2,List.filter_nil,Bool.false_eq_true,if_false,if_true,List.map_cons,List.map_nil]
  | right x y e a b ha hb =>
    have h:cs (qAD "right")=[120,120,101]:=by decide +kernel
    show (partsOf (qAD "right") [x,y,e] "x").map (inH H)=_
    unfold partsOf;rw [h]
    k_dat 0"r78"
theorem qKg (g:GS) (w:KD.IW) (ps:List Int) (x:Int):(KD.qAF g w ps x).2.2.length≤1∧(KD.qAF g w ps x).2.1.bs.length=g.bs.length:=by
  cases w<;>simp only [KD.qAF,qCz,setG,qCP,qAw,onG,qBM,qEN,qCC,next]<;>(try split)<;>simp
theorem brg (w:KD.IW):(KD.qPU.any (fun z=>eqD 0 z (.str (KD.iw w))) != false)=KD.qCU w:=by cases w<;>decide +kernel
theorem qSe {ρ:Rho} {gn hd:Nat} {given:List Int} (hg:K20.Has s' gn (given.map .int)) (h2:ρ[2]? = some (some (.lst gn))) (h6:ρ[6]? = some (some (.int (hd:Nat)))):∀ P:VD,P (.int (given.getD hd 0)) s'→qBe (qH (qE (qAN fun i j=>decide (i<j)) (qB 6) (qF qBC (qA (qB 2) qD)))) (qE qI (qB 2) (qB 6)) (qC (Dt.int 0)) ρ s' P:=by
  intro P hp
  obtain⟨o,ho,hi⟩:=hg
  have e:qa s' (.lst gn)=some (given.map .int):=by
    show (s'[gn]?).map SO.items=_
    rw [ho,Option.map_some,hi]
  refine qGd (b:=decide (hd<given.length)) (fun P hp=>?_) ?_
  · simp only [qH,qE,qB,h6]
    refine qOu h2 ho _ ?_
    rw [hi,List.length_map]
    show P (decide ((hd:Int)<(given.length:Int))) s'
    rw [show decide ((hd:Int)<(given.length:Int))=decide (hd<given.length) from by by_cases q:hd<given.length<;>simp [q]<;>omega]
    exact hp
  · by_cases q:hd<given.length
    · rw [decide_eq_true q]
      refine qA7 ?_
      simp only [qE,qB,h2,h6]
      show (match qa s' (.lst gn) with
        | some xs=>(match atI xs (hd:Int) with
          | some d=>P d s'
          | none=>False)
        | none=>False)
      rw [e]
      have:(given.map Dt.int)[hd]? = some (.int (given.getD hd 0)):=by rw [List.getElem?_map,List.getD_eq_getElem?_getD,List.getElem?_eq_getElem q];rfl
      show (match atI (given.map Dt.int) (hd:Int) with
        | some d=>P d s'
        | none=>False)
      rw [qAV this]
      exact hp
    · rw [decide_eq_false q]
      refine qAz ?_
      have:given.getD hd 0=0:=by rw [List.getD_eq_getElem?_getD,List.getElem?_eq_none (by omega)];rfl
      rw [this] at hp
      exact hp
end
end KM
namespace KM
open PySem PySem.Spec PyProof.Rows L2 L3 KS K02 K85 K06
section
variable {E:qA4} {st s':Sto} {Q:VD} {n h s tn gn:Nat} {a b:Dt} {rs:List Rw} {es:List Ex} {given wt:List Int} {m:Ms}
variable {x7 x12 x13 x14:Option Dt} {p:Nat} {r:Rw} {i:Nat}
theorem tv {ρ:Rho} {P:VD} {i:Nat} {d:Dt} (h:ρ[i]? = some (some d)) (q:P d st):qB i ρ st P:=by
  unfold qB;rw [h];exact q
theorem qRD {ρ:Rho} {sp:RDL} {t1 t2 t3 t4:TD} (h:t1 ρ st fun d1 s1=>t2 ρ s1 fun d2 s2=>t3 ρ s2 fun d3 s3=>t4 ρ s3 fun d4 s4=>sp [d1,d2,d3,d4] s4 Q):qF sp (qA t1 (qA t2 (qA t3 (qA t4 qD)))) ρ st Q:=h
theorem qSZ {ρ:Rho} {sp:RDL} {t1 t2 t3:TD} (h:t1 ρ st fun d1 s1=>t2 ρ s1 fun d2 s2=>t3 ρ s2 fun d3 s3=>sp [d1,d2,d3] s3 Q):qF sp (qA t1 (qA t2 (qA t3 qD))) ρ st Q:=h
theorem exT {ρ:Rho} {j:Nat} {e:Int} (ok:OkR r) (h8:ρ[8]? = some (some (qk r))) (he:(partsOf (qAD r.w) r.xs "e")[j]? = some e) (q:∀ s2,ql st s2→Q (.int e) s2):qE qI (qF K85.qAs (qA (qB 8) (qA (qC (Dt.str "e")) qD))) (qC (Dt.int (j:Int))) ρ st Q:=by
  unfold qE
  refine qNY (tv h8 ?_)
  refine⟨r,_,rfl,ok,fun s2 x2=>?_⟩
  exact qAE (qAV (j:=j) (by rw [List.getElem?_map,he];rfl)) (q s2 x2)
variable {w:KD.IW} {ps:List Int} {d:Int}
noncomputable abbrev R' (m:Ms) (w:KD.IW) (ps given:List Int):Res:=KD.qAF m.g w ps (given.getD m.heard 0)
theorem stI (sh:SH st s' n h s tn gn given m i) (hi:i<400) (ok:OkR r) (okg:m.g.Ok) (it:ItR m.H r w ps d) (hb:∀ v∈ps,0≤v∧v<65536) (hp:s'[p]? = some (.rw ((partsOf (qAD r.w) r.xs "x").map (inH m.H)))) (pl:st.length≤p) (hpt:p≠tn) (hwt:wt.length≤100)
    (h1:(R' m w ps given).1 ≠ "on" → ∃ e,(partsOf (qAD r.w) r.xs "e")[0]? = some e∧∀ s2,SH st s2 n h s tn gn given (qEK m w ps given) (i+1)→dhC E (RH a b rs es (R' m w ps given).2.1 gn wt n tn m.heard x7 (some (qk r)) (some (.str r.w)) (some (.lst p)) (some (.int e)) (some (qAx (R' m w ps given))) x13 x14) s2)
    (h2:(R' m w ps given).1 = "on" → KD.qEY w ps wt=true→∃ e,(partsOf (qAD r.w) r.xs "e")[1]? = some e∧∀ s2,SH st s2 n h s tn gn given (qEK m w ps given) (i+1)→dhC E (RH a b rs es (R' m w ps given).2.1 gn wt n tn m.heard x7 (some (qk r)) (some (.str r.w)) (some (.lst p)) (some (.int e)) (some (qAx (R' m w ps given))) x13 x14) s2)
    (h3:(R' m w ps given).1 = "on" → KD.qEY w ps wt=false→∀ s2,SH st s2 n h s tn gn given (after m w ps given d) (i+1)→dhC E (RH a b rs es (R' m w ps given).2.1 gn wt n tn (qFR m w given.length) x7 (some (qk r)) (some (.str r.w)) (some (.lst p)) (some .non) (some (qAx (R' m w ps given))) x13 x14) s2) :
    dhB E (RH a b rs es m.g gn wt n tn m.heard x7 (some (qk r)) (some (.str r.w)) (some (.lst p)) (some .non) x12 x13 x14) s':=by
  have l1:=sh.l1
  have l2:=sh.l2
  have l3:=sh.l3
  have hw:=qTi it
  have iw:=qUM w
  rw [← hw] at iw
  have hil:=qPR it
  have hpp:s'[p]? = some (.rw (ps.map .int)):=by rw [hp,qMI it]
  have sm:=qKg m.g w ps (given.getD m.heard 0)
  have hgs:K20.Has s' gn (given.map .int):=sh.hg.ext sh.ex
  unfold dhB
  refine K22.seq1 (qKH rfl iw.1 (fun z=>by cases z) fun _=>K22.seq1 (qNE rfl iw.2 (fun _=>?_) fun z=>by cases z))
  refine qz (i:=12) (qRD (tv rfl (tv rfl (tv rfl (qSe hgs rfl rfl _ ?_)))))
  refine⟨m.g,w,p,ps,given.getD m.heard 0,by rw [hw],hpp,hil.1,hb,okg,?_⟩
  refine qz (i:=1) (rS (i:=12) (j:=1) (xs:=[.str (R' m w ps given).1,(R' m w ps given).2.1.d,.tup ((R' m w ps given).2.2.map .int)]) rfl rfl _ ?_)
  refine K22.seq1 ?_
  unfold qA3 qF0
  refine tv (d:=.lst tn) rfl ?_
  refine rS (i:=12) (j:=2) (xs:=[.str (R' m w ps given).1,(R' m w ps given).2.1.d,.tup ((R' m w ps given).2.2.map .int)]) rfl rfl _ ?_
  show (match s'[tn]? with
      | some (.rw xs)=>xs.length+((R' m w ps given).2.2.map Dt.int).length≤sizeLine∧_
      | _=>False)
  rw [sh.ht]
  refine⟨by
    rw [List.length_map,List.length_map]
    have:=sm.1
    have:(1000:Nat)<sizeLine:=by decide
    show m.told.length+(KD.qAF m.g w ps (given.getD m.heard 0)).2.2.length≤sizeLine
    omega,?_⟩
  have n1:tn≠h:=fun e=>by have:=sh.ht;rw [e,sh.ha.hd] at this;cases this
  have n2:tn≠s:=fun e=>by have:=sh.ht;rw [e,sh.ha.sh] at this;cases this
  have n3:tn≠n:=fun e=>by have:=sh.ht;rw [e,sh.ha.ob] at this;cases this
  have sh2:SH st (s'.set tn (.rw (m.told.map .int++(R' m w ps given).2.2.map .int))) n h s tn gn given (qEK m w ps given) (i+1):=by
    refine⟨⟨qe sh.ha.ob n3,qe sh.ha.hd n1,qe sh.ha.sh n2,sh.ha.ne⟩,?_,sh.hg,fun j o hj=>?_,sh.lh,sh.ls,sh.lt,Nat.le_succ_of_le l1,Nat.le_succ_of_le l2,?_,by omega⟩
    · rw [qAR sh.ht]
      show _=some (SO.rw ((m.told++(R' m w ps given).2.2).map Dt.int))
      rw [List.map_append]
    · k_dat 0"r60"
      have:=sh.lt
      exact qe (sh.ex _ _ hj) (by omega)
    · show (m.told++(R' m w ps given).2.2).length≤i+1
      rw [List.length_append]
      have:=sm.1
      show m.told.length+(KD.qAF m.g w ps (given.getD m.heard 0)).2.2.length≤i+1
      omega
  have hpp2:(s'.set tn (.rw (m.told.map .int++(R' m w ps given).2.2.map .int)))[p]? = some (.rw (ps.map .int)):=qe hpp (Ne.symm hpt)
  generalize s'.set tn (.rw (m.told.map .int++(R' m w ps given).2.2.map .int))=s2 at sh2 hpp2
  have w12:∀ P:VD,P (.str (R' m w ps given).1) s2→qE qI (qB 12) (qC (Dt.int 0)) (RH a b rs es (R' m w ps given).2.1 gn wt n tn m.heard x7 (some (qk r)) (some (.str r.w)) (some (.lst p)) (some .non) (some (qAx (R' m w ps given))) x13 x14) s2 P:=rS (i:=12) (j:=0) (xs:=[.str (R' m w ps given).1,(R' m w ps given).2.1.d,.tup ((R' m w ps given).2.2.map .int)]) rfl rfl
  show tseq _ _ _ (RH a b rs es (R' m w ps given).2.1 gn wt n tn m.heard x7 (some (qk r)) (some (.str r.w)) (some (.lst p)) (some .non) (some (qAx (R' m w ps given))) x13 x14) s2
  refine K22.seq1 (ifS (st':=s2) (neS w12) (fun q=>?_) fun q=>?_)
  · obtain⟨e,he,hE⟩:=h1 (by simpa using q)
    refine qz (i:=11) (exT (j:=0) ok rfl he fun s3 x3=>?_)
    exact hE _ (sh2.grow x3)
  · have q:(R' m w ps given).1 = "on":=by simpa using q
    refine K22.seq1 (ifS (st':=s2) (b:=KD.qEY w ps wt) (fun P hq=>?_) (fun qs=>?_) fun qs=>?_)
    · unfold qH
      refine qSZ (tv rfl (tv rfl (tv rfl ?_)))
      exact⟨w,p,ps,wt,by rw [hw],hpp2,hil.1,hwt,hq⟩
    · obtain⟨e,he,hE⟩:=h2 q qs
      refine qz (i:=11) (exT (j:=1) ok rfl he fun s3 x3=>?_)
      exact hE _ (sh2.grow x3)
    · have hE:=h3 q qs
      refine K22.seq1 (ifS (st':=s2) (b:=KD.qCU w) (fun P hq=>?_) (fun qb=>?_) fun qb=>?_)
      · simp only [qH,qE,qB,qC,List.getElem?_cons_zero,List.getElem?_cons_succ]
        refine⟨rfl,by decide +kernel,?_⟩
        rw [hw,brg]
        exact hq
      · refine K22.seq1 ?_
        refine qRd ?_
        simp only [qE,qB,qC,List.getElem?_cons_zero,List.getElem?_cons_succ]
        refine qAE (xs:=[.int (R' m w ps given).2.1.p,.tup ((R' m w ps given).2.1.bs.map .int),msD (R' m w ps given).2.1.m,svD (R' m w ps given).2.1.sv,.tup ((R' m w ps given).2.1.rs.map .int),.tup ((R' m w ps given).2.1.cs.map .int)]) (v:=1) (d:=.tup ((R' m w ps given).2.1.bs.map .int)) rfl ?_
        have b8:0<(R' m w ps given).2.1.bs.length:=by
          show 0<(KD.qAF m.g w ps (given.getD m.heard 0)).2.1.bs.length
          rw [sm.2,okg.b8];decide
        refine qAE (v:=0) (d:=.int ((R' m w ps given).2.1.bs.getD 0 0)) (qAV (j:=0) (by rw [List.getElem?_map,List.getD_eq_getElem?_getD,List.getElem?_eq_getElem b8];rfl)) ?_
        refine qDj (i:=4) (x:=d) sh2.ha (by show m.H.hk.length<1000;omega) rfl (rX (i:=8) (j:=0) rfl (hil.2 qb)) fun s3 a3 x3=>?_
        have m1:tn≠h:=n1
        have sh3:SH st s3 n h s tn gn given (after m w ps given d) (i+1):=by
          refine⟨?_,x3 _ _ n1 n2 sh2.ht,sh2.hg,fun j o hj=>?_,sh.lh,sh.ls,sh.lt,?_,?_,sh2.l3,sh2.i4⟩
          · show qAB s3 n h s (if KD.qCU w then _ else _)
            rw [if_pos qb];exact a3
          · k_dat 0"r60"
            have:=sh.lh
            have:=sh.ls
            exact x3 _ _ (by omega) (by omega) (sh2.ex _ _ hj)
          · show (if KD.qCU w then qBG m.H d _ else m.H).hk.length≤i+1
            rw [if_pos qb]
            exact Nat.le_trans qGC (by omega)
          · show (if KD.qCU w then qBG m.H d _ else m.H).sk.length≤i+1
            rw [if_pos qb]
            exact Nat.le_succ_of_le l2
        have hg3:K20.Has s3 gn (given.map .int):=sh3.hg.ext sh3.ex
        obtain⟨o,ho,hio⟩:=hg3
        have hc:∀ P:Bool→Sto→Prop,P (qPJ w&&decide (m.heard<given.length)) s3→qA5 (qH (qE (qW false) (qB 9) (qC (Dt.str "hear")))) (qH (qE (qAN fun i j=>decide (i<j)) (qB 6) (qF qBC (qA (qB 2) qD)))) (RH a b rs es (R' m w ps given).2.1 gn wt n tn m.heard x7 (some (qk r)) (some (.str r.w)) (some (.lst p)) (some .non) (some (qAx (R' m w ps given))) x13 x14) s3 P:=by
          intro P hP
          refine qPl (b1:=qPJ w) (b2:=decide (m.heard<given.length)) (fun P hp=>?_) (fun _ P hp=>?_) P hP
          · refine eqS (a:=r.w) (fun P hp=>hp) P ?_
            rw [hw]
            cases w<;>exact hp
          · simp only [qH,qE,qB,List.getElem?_cons_zero,List.getElem?_cons_succ]
            refine qOu (i:=2) rfl ho _ ?_
            rw [hio,List.length_map]
            show P (decide (((m.heard:Nat):Int)<(given.length:Int))) s3
            rw [show decide (((m.heard:Nat):Int)<(given.length:Int))=decide (m.heard<given.length) from by by_cases q:m.heard<given.length<;>simp [q]<;>omega]
            exact hp
        refine K22.seq1 ?_
        unfold qN7
        show qBe _ _ _ (RH a b rs es (R' m w ps given).2.1 gn wt n tn m.heard x7 (some (qk r)) (some (.str r.w)) (some (.lst p)) (some .non) (some (qAx (R' m w ps given))) x13 x14) s3 _
        refine qGd hc ?_
        have hE3:=hE s3 sh3
        unfold qFR at hE3
        cases hcb:(qPJ w&&decide (m.heard<given.length)) with
        | true =>
          rw [hcb] at hE3
          exact qA7 hE3
        | false =>
          rw [hcb] at hE3
          exact qAz hE3
      · have e1:qFR m w given.length=m.heard:=by
          unfold qFR
          cases w<;>first | rfl | cases qb
        have e2:after m w ps given d=qEK m w ps given:=by
          show Ms.mk _ _ _ _=Ms.mk _ _ _ _
          rw [e1]
          simp only [qb,Bool.false_eq_true,if_false]
        rw [e1,e2] at hE
        exact hE s2 sh2
end
end KM
namespace KM
open PySem PySem.Spec PyProof.Rows L2 L3 KS K02 K85 K06
section
variable {E:qA4} {st s':Sto} {Q:VD} {n h s tn gn:Nat} {a b:Dt} {rs:List Rw} {es:List Ex} {given wt:List Int} {m m1:Ms}
variable {x7 x8 x9 x10 x11 x12 x13 x14:Option Dt} {r:Rw} {i:Nat}
theorem qT2 (sh:SH st s' n h s tn gn given m i) (hi:i<400) (ok:OkR r) (okg:m.g.Ok) (hwt:wt.length≤100) (sp:Step given wt m r none m1)
    (hE:∀ s2 x9 x10 x11 x12 x13 x14,SH st s2 n h s tn gn given m1 (i+1)→E.nx (RH a b rs es m1.g gn wt n tn m1.heard x7 (some (qk r)) x9 x10 x11 x12 x13 x14) s2) :
    dhA E (RH a b rs es m.g gn wt n tn m.heard x7 (some (qk r)) x9 x10 x11 x12 x13 x14) s':=by
  unfold dhA
  refine qz (i:=9) (rS (i:=8) (j:=0) (xs:=.str r.w::r.xs.map .int) rfl rfl _ ?_)
  refine qz (i:=10) (qEt (i:=4) (j:=8) sh.ha ok rfl rfl fun s2 p x2 hpl hp=>?_)
  refine qz (i:=11) ?_
  show dhB E (RH a b rs es m.g gn wt n tn m.heard x7 (some (qk r)) (some (.str r.w)) (some (.lst p)) (some .non) x12 x13 x14) s2
  have htl:=(List.getElem?_eq_some_iff.mp sh.ht).1
  have:=qFy sh.ex
  have sh2:=sh.grow x2
  cases sp with
  | put H' pu=>exact stP sh2 hi ok pu fun s3 sh3=>stN (hE _ _ _ _ _ _ _ sh3)
  | item w ps d it hb h1 h2 =>
    refine stI sh2 hi ok okg it hb hp (by omega) (by omega) hwt (fun q=>absurd h1 q) (fun _ q=>absurd q (by rw [h2];decide)) fun _ _ s3 sh3=>stN (hE _ _ _ _ _ _ _ sh3)
theorem qUI {c:Nat} {e:Nat} {ex:Ex} {g':GS} (sh:SH st s' n h s tn gn given m i) (hi:i<400) (ok:OkR r) (okg:m.g.Ok) (hwt:wt.length≤100) (sp:Step given wt m r (some (e:Int)) m1)
    (he:es[e]? = some ex) (l1:ex.bs.length≤100) (l2:ex.ms.length≤100) (ou:qEQ m1.H m1.g ex (qCl r m1) g')
    (hE:∀ s2,ql st s2→E.rt (qLH ex g' m1.told m1.heard c) s2) :
    dhA E (RH a b rs es m.g gn wt n tn m.heard (some (.int (c:Int))) (some (qk r)) x9 x10 x11 x12 x13 x14) s':=by
  unfold dhA
  refine qz (i:=9) (rS (i:=8) (j:=0) (xs:=.str r.w::r.xs.map .int) rfl rfl _ ?_)
  refine qz (i:=10) (qEt (i:=4) (j:=8) sh.ha ok rfl rfl fun s2 p x2 hpl hp=>?_)
  refine qz (i:=11) ?_
  show dhB E (RH a b rs es m.g gn wt n tn m.heard (some (.int (c:Int))) (some (qk r)) (some (.str r.w)) (some (.lst p)) (some .non) x12 x13 x14) s2
  have htl:=(List.getElem?_eq_some_iff.mp sh.ht).1
  have:=qFy sh.ex
  have sh2:=sh.grow x2
  generalize hei:(e:Int)=ei at sp
  generalize hoi:some ei=oi at sp
  cases sp with
  | put=>cases hoi
  | item=>cases hoi
  | last e' la =>
    cases hoi
    subst hei
    exact stL sh2 hp la (stS sh2 he l1 l2 ou hE)
  | fault w ps d e' it hb h1 h2 =>
    cases hoi
    subst hei
    exact stI sh2 hi ok okg it hb hp (by omega) (by omega) hwt (fun _=>⟨_,h2,fun s3 sh3=>stS sh3 he l1 l2 ou hE⟩) (fun q=>absurd q h1) (fun q=>absurd q h1)
  | shut w ps d e' it hb h1 h2 h3 =>
    cases hoi
    subst hei
    exact stI sh2 hi ok okg it hb hp (by omega) (by omega) hwt (fun q=>absurd h1 q) (fun _ _=>⟨_,h3,fun s3 sh3=>stS sh3 he l1 l2 ou hE⟩) (fun _ q=>absurd q (by rw [h2];decide))
theorem qKT {ds:List Dt} {st:Sto} {Pd:VD} (h:qEh ds st Pd):qDo (Ed Pd) (qU ["host", "state", "given", "watched", "hold", "told", "heard", "count", "row", "word", "parts", "number", "outcome", "way", "is_back"] ds) st:=by
  obtain⟨a,b,rs,es,g,gn,given,wt,rfl,hg,okr,rl,gl,wl,m',e,r,c,ex,g',go,he,l1,l2,ou,hP⟩:=h
  show qDo (Ed Pd) [some (hoD a b rs es),some g.d,some (.lst gn),some (.tup (wt.map .int)),none,none,none,none,none,none,none,none,none,none,none] st
  unfold qDo
  refine qz (i:=4) ?_
  simp only [qKy,qA,qD,qE,qB,qC,List.getElem?_cons_zero,List.getElem?_cons_succ]
  refine qAE (xs:=[.int g.p,.tup (g.bs.map .int),msD g.m,svD g.sv,.tup (g.rs.map .int),.tup (g.cs.map .int)]) (v:=1) (d:=.tup (g.bs.map .int)) rfl ?_
  refine qAE (xs:=[.int g.p,.tup (g.bs.map .int),msD g.m,svD g.sv,.tup (g.rs.map .int),.tup (g.cs.map .int)]) (v:=2) (d:=msD g.m) rfl ?_
  refine⟨st.length,g.bs,g.m,rfl,qL,fun s1 h s a1 hh hs k1=>⟨rfl,?_⟩⟩
  have hh:st.length≤h:=by rw [List.length_append] at hh;omega
  have hs:st.length≤s:=by rw [List.length_append] at hs;omega
  have x1:ql st s1:=fun j o hj=>by
    k_dat 0"r60"
    exact k1 j o (by omega) (qO hj)
  refine qz (i:=5) ?_
  unfold qg
  k_dat 0"r21"
  refine qz (i:=6) ?_
  have sh0:SH st (s1++[SO.rw []]) st.length h s s1.length gn given (start g) 0:=⟨a1.ext (.app _ _),qL,hg,fun j o hj=>qO (x1 _ _ hj),hh,hs,qFy x1,Nat.le_refl _,Nat.le_refl _,Nat.le_refl _,by decide⟩
  show tseq (qCb _ _ dhA) _ _ (RH a b rs es g gn wt st.length s1.length 0 none none none none none none none none) (s1++[SO.rw []])
  refine K22.seq1 ?_
  unfold qCb qKc
  refine rS (i:=0) (j:=2) (xs:=[a,b,.tup (rs.map qk),.tup (es.map exD)]) rfl rfl _ ?_
  show qOG (qCW 1 (rs.map qk)) (fun _=>True) _ _ _ _ _
  refine⟨fun i ρ s2=>∃ m x7 x8 x9 x10 x11 x12 x13 x14,ρ=RH a b rs es m.g gn wt st.length s1.length m.heard x7 x8 x9 x10 x11 x12 x13 x14∧SH st s2 st.length h s s1.length gn given m i∧Go given wt i m (rs.drop i) m' e r c,
    ⟨start g,_,_,_,_,_,_,_,_,rfl,sh0,go⟩,fun _ _ _ _ _=>trivial,?_,?_⟩
  · rintro i d ρ s2 hd ⟨m,x7,x8,x9,x10,x11,x12,x13,x14,rfl,sh,gi⟩
    obtain⟨rd,hr,rfl⟩:=qGN hd
    obtain⟨r1,hr1,rfl⟩:∃ r1,rs[i]? = some r1∧rd=qk r1:=by
      rw [List.getElem?_map] at hr
      cases q:rs[i]? with
      | none=>rw [q] at hr;cases hr
      | some r1=>rw [q] at hr;exact⟨r1,rfl,(Option.some.inj hr).symm⟩
    have hil:=(List.getElem?_eq_some_iff.mp hr1).1
    have hd2:rs.drop i=r1::rs.drop (i+1):=by
      rw [List.drop_eq_getElem_cons hil]
      congr 1
      rw [List.getElem?_eq_getElem hil] at hr1
      exact Option.some.inj hr1
    have ok1:OkR r1:=okr r1 (List.mem_of_getElem? hr1)
    refine⟨rfl,?_⟩
    show dhA _ (RH a b rs es m.g gn wt st.length s1.length m.heard (some (.int ((1+i:Nat):Int))) (some (qk r1)) x9 x10 x11 x12 x13 x14) s2
    rw [hd2] at gi
    generalize hrest:rs.drop (i+1)=rest at gi
    cases gi with
    | here _ _ _ _ _ _ okg sp =>
      rw [show 1+i=i+1 by omega]
      exact qUI sh (by omega) ok1 okg wl sp he l1 l2 ou hP
    | next _ _ m1 _ _ _ _ _ _ okg sp g1 =>
      refine qT2 sh (by omega) ok1 okg wl sp fun s3 x9 x10 x11 x12 x13 x14 sh3=>?_
      exact⟨m1,_,_,_,_,_,_,_,_,rfl,sh3,by rw [hrest];exact g1⟩
  · rintro ρ s2 ⟨m,x7,x8,x9,x10,x11,x12,x13,x14,rfl,sh,gi⟩
    rw [qEf,List.length_map,List.drop_length] at gi
    cases gi
end
end KM
namespace K06
open PySem PySem.Spec PyProof.Rows L2 L3
abbrev qF9:TSD:=(tseq (qM (qE L3.qu (qE L3.qu (qBQ (qB 0) qv (qp (qB 1))) (qN (qA (qB 2) qD))) (qBQ (qB 0) (qp (qE L3.qu (qB 1) (qC (Dt.int 1)))) qv))) qG)
abbrev qJN:TSD:=(tseq (qV (qA2 (qH (qAq (fun i j=>decide (i≤j)) (fun i j=>decide (i<j)) (qC (Dt.int 0)) (qB 2) (qF qBC (qA (qE qI (qB 1) (qC (Dt.int 5))) qD))))) (tseq (qM (qC (Dt.bl false))) qG) qG) (tseq (qM (qE (qW false) (qE qCX (qE qI (qE qI (qB 1) (qC (Dt.int 4))) (qE qAn (qB 2) (qC (Dt.int 8)))) (qB 0)) (qB 0))) qG))
abbrev qKw:TSD:=(tseq (qM (qF qx (qA (qB 0) (qA (qC (Dt.int 0)) (qA (qE qo (qB 1) (qC (Dt.int 65536))) qD))))) qG)
abbrev qId:TSD:=(tseq (qM (qF qBp (qA (qB 0) (qA (qE L3.qu (qE qI (qB 0) (qC (Dt.int 0))) (qC (Dt.int 1))) qD)))) qG)
abbrev qGO:TSD:=(tseq (qM (qF qx (qA (qF qA0 (qA (qB 0) qD)) (qA (qC (Dt.int 1)) (qA (qF qx (qA (qE qI (qB 0) (qC (Dt.int 1))) (qA (qB 1) (qA (qB 2) qD)))) qD))))) qG)
abbrev qDf:TSD:=(tseq (qM (qF qx (qA (qF qAT (qA (qB 0) (qA (qB 1) (qA (qB 2) qD)))) (qA (qC (Dt.int 2)) (qA (qN (qA (qE (qW false) (qB 2) (qC (Dt.int 0))) (qA (qE (qAN fun i j=>decide (j≤i)) (qB 2) (qC (Dt.int 32768))) (qA (qB 3) qD)))) qD))))) qG)
abbrev qNP:TSD:=(tseq (qM (qN (qA (qB 0) (qA (qB 1) (qA (qN qD) qD))))) qG)
abbrev qSx:TSD:=(tseq (qM (qN (qA (qC (Dt.str "on")) (qA (qB 0) (qA (qN qD) qD))))) qG)
abbrev qJg:TSD:=(tseq (qV (qH (qE (qW false) (qB 3) (qC (Dt.int 0)))) (tseq (qM (qF qAu (qA (qC (Dt.str "nought")) (qA (qB 0) qD)))) qG) qG) (tseq (qM (qF qBR (qA (qF qBZ (qA (qB 0) (qA (qB 1) (qA (qE qAn (qB 2) (qB 3)) (qA (qE (qW true) (qE qo (qB 2) (qB 3)) (qC (Dt.int 0))) qD))))) qD))) qG))
abbrev qI9:TSD:=(tseq (qV (qA2 (qH (qF qFJ (qA (qC (Dt.int 1)) (qA (qB 0) (qA (qB 2) qD)))))) (tseq (qM (qF qAu (qA (qC (Dt.str "closed")) (qA (qB 0) qD)))) qG) qG) (tseq (qM (qF qBR (qA (qF qAT (qA (qB 0) (qA (qB 1) (qA (qE qI (qE qI (qB 0) (qC (Dt.int 5))) (qB 2)) qD)))) qD))) qG))
abbrev qIy:TSD:=(tseq (qV (qA2 (qH (qF qFJ (qA (qC (Dt.int 2)) (qA (qB 0) (qA (qB 2) qD)))))) (tseq (qM (qF qAu (qA (qC (Dt.str "closed")) (qA (qB 0) qD)))) qG) qG) (tseq (qM (qF qBR (qA (qF qx (qA (qF qA0 (qA (qB 0) qD)) (qA (qC (Dt.int 5)) (qA (qF qx (qA (qE qI (qB 0) (qC (Dt.int 5))) (qA (qB 2) (qA (qB 1) qD)))) qD)))) qD))) qG))
abbrev qHS:TSD:=(tseq (qV (qH (qE (qAN fun i j=>decide (j≤i)) (qB 0) (qC (Dt.int 6)))) (tseq (qM (qE (qW false) (qB 0) (qC (Dt.int 6)))) qG) qG) (tseq (qM (qE (qW false) (qE qI (qB 1) (qE qAn (qB 0) (qC (Dt.int 2)))) (qE (qW false) (qE qo (qB 0) (qC (Dt.int 2))) (qC (Dt.int 0))))) qG))
abbrev qEb:TSD:=(tseq (qM (qE qo (qE L3.qCY (qE L3.qu (qE L3.qu (qB 0) (qC (Dt.int 1))) (qB 1)) (qC (Dt.int 32))) (qC (Dt.int 65536)))) qG)
abbrev qHc:TSD:=(tseq (qM (qF qBR (qA (qF qBp (qA (qB 0) (qA (qF qCK (qA (qE qI (qB 0) (qC (Dt.int 0))) (qA (qB 1) qD))) qD))) qD))) qG)
abbrev qGi:TSD:=(tseq (qV (qA2 (qH (qAq (fun i j=>decide (i≤j)) (fun i j=>decide (i<j)) (qC (Dt.int 0)) (qB 1) (qF qBC (qA (qE qI (qB 0) (qC (Dt.int 4))) qD))))) (tseq (qM (qF qAu (qA (qC (Dt.str "closed")) (qA (qB 0) qD)))) qG) qG) (tseq (qM (qF qBR (qA (qF qx (qA (qF qA0 (qA (qB 0) qD)) (qA (qC (Dt.int 4)) (qA (qF qx (qA (qE qI (qB 0) (qC (Dt.int 4))) (qA (qB 1) (qA (qB 2) qD)))) qD)))) qD))) qG))
abbrev qHY:TSD:=(tseq (qP (qE qI (qB 0) (qC (Dt.int 3))) (qJ 1)) (tseq (qV (qH (qE (qBf false) (qB 1) (qC Dt.non))) (tseq (qM (qF qAu (qA (qC (Dt.str "bad")) (qA (qB 0) qD)))) qG) qG) (tseq (qM (qF qBR (qA (qN (qA (qE qI (qB 1) (qC (Dt.int 0))) (qA (qE qI (qB 0) (qC (Dt.int 1))) (qA (qE qI (qB 1) (qC (Dt.int 1))) (qA (qC Dt.non) (qA (qE qI (qB 0) (qC (Dt.int 4))) (qA (qE qI (qB 0) (qC (Dt.int 5))) qD))))))) qD))) qG)))
abbrev qHH:TSD:=(tseq (qP (qE qI (qB 1) (qC (Dt.int 0))) (qJ 3)) (tseq (qP (qE qI (qB 1) (qC (Dt.int 1))) (qJ 4)) (tseq (qP (qE qI (qB 1) (qC (Dt.int 2))) (qJ 5)) (tseq (qP (qE qI (qB 1) (qC (Dt.int 3))) (qJ 6)) (tseq (qP (qE qI (qB 0) (qC (Dt.int 1))) (qJ 7)) (tseq (qV (qH (qE (qW false) (qB 3) (qC (Dt.str "put")))) (tseq (qM (qF qBR (qA (qF qAT (qA (qB 0) (qA (qB 4) (qA (qB 6) qD)))) qD))) qG) qG) (tseq (qV (qH (qE (qBH false) (qB 3) (qN (qA (qC (Dt.str "add")) (qA (qC (Dt.str "sub")) (qA (qC (Dt.str "mul")) qD)))))) (tseq (qM (qF qER (qA (qB 0) (qA (qB 3) (qA (qB 4) (qA (qE qI (qB 7) (qB 5)) (qA (qE qI (qB 7) (qE qo (qB 6) (qC (Dt.int 8)))) qD))))))) qG) qG) (tseq (qV (qH (qE (qW false) (qB 3) (qC (Dt.str "div")))) (tseq (qM (qF qGL (qA (qB 0) (qA (qB 4) (qA (qE qI (qB 7) (qB 5)) (qA (qE qI (qB 7) (qE qo (qB 6) (qC (Dt.int 8)))) qD)))))) qG) qG) (tseq (qV (qH (qE (qW false) (qB 3) (qC (Dt.str "get")))) (tseq (qM (qF qGm (qA (qB 0) (qA (qB 4) (qA (qE L3.qu (qE qI (qB 7) (qB 5)) (qB 6)) qD))))) qG) qG) (tseq (qV (qH (qE (qW false) (qB 3) (qC (Dt.str "set")))) (tseq (qM (qF qCI (qA (qB 0) (qA (qE qI (qB 7) (qB 4)) (qA (qE L3.qu (qE qI (qB 7) (qB 5)) (qB 6)) qD))))) qG) qG) (tseq (qV (qH (qE (qW false) (qB 3) (qC (Dt.str "jump")))) (tseq (qM (qF qD3 (qA (qB 0) (qA (qB 6) qD)))) qG) qG) (tseq (qV (qH (qE (qW false) (qB 3) (qC (Dt.str "when")))) (tseq (qM (qBe (qH (qF qDD (qA (qB 4) (qA (qE qI (qB 0) (qC (Dt.int 2))) qD)))) (qF qD3 (qA (qB 0) (qA (qB 6) qD))) (qF qBR (qA (qF qA0 (qA (qB 0) qD)) qD)))) qG) qG) (tseq (qV (qH (qE (qW false) (qB 3) (qC (Dt.str "go")))) (tseq (qM (qF qBR (qA (qF qBp (qA (qB 0) (qA (qE qI (qB 7) (qB 4)) qD))) qD))) qG) qG) (tseq (qV (qH (qE (qW false) (qB 3) (qC (Dt.str "tell")))) (tseq (qM (qN (qA (qC (Dt.str "on")) (qA (qF qA0 (qA (qB 0) qD)) (qA (qN (qA (qE qI (qB 7) (qB 4)) qD)) qD))))) qG) qG) (tseq (qV (qH (qE (qW false) (qB 3) (qC (Dt.str "hear")))) (tseq (qM (qF qBR (qA (qF qAT (qA (qB 0) (qA (qB 4) (qA (qB 2) qD)))) qD))) qG) qG) (tseq (qV (qH (qE (qW false) (qB 3) (qC (Dt.str "right")))) (tseq (qM (qF qB6 (qA (qB 0) (qA (qE qI (qB 7) (qB 4)) (qA (qE qo (qB 6) (qC (Dt.int 8))) qD))))) qG) qG) (tseq (qV (qH (qE (qW false) (qB 3) (qC (Dt.str "back")))) (tseq (qM (qF qGB (qA (qB 0) qD))) qG) qG) (tseq (qM (qF qAu (qA (qB 3) (qA (qB 0) qD)))) qG))))))))))))))))))
abbrev qI6:TSD:=(tseq (qP (qE qI (qB 0) (qC (Dt.int 0))) (qJ 2)) (tseq (qV (qA2 (qH (qF qFJ (qA (qC (Dt.int 4)) (qA (qB 0) (qA (qB 2) qD)))))) (tseq (qM (qF qAu (qA (qC (Dt.str "closed")) (qA (qB 0) qD)))) qG) qG) (tseq (qM (qF qES (qA (qB 0) (qA (qF K01.qDM (qA (qE qI (qE qI (qB 0) (qC (Dt.int 5))) (qB 2)) qD)) (qA (qB 1) qD))))) qG)))
section
variable {a b c d e f:Dt}
theorem at3:atI [a,b,c,d,e,f] 3=some d:=rfl
theorem at4:atI [a,b,c,d,e,f] 4=some e:=rfl
theorem at5:atI [a,b,c,d,e,f] 5=some f:=rfl
end
theorem qDB {b:Bool} {A B:Prop} (hb:b=true) (h:A):if b=true then A else B:=by subst hb;exact qA7 h
theorem qJF {b:Bool} {A B:Prop} (hb:b=false) (h:B):if b=true then A else B:=by subst hb;exact qAz h
theorem qFx {xs:List Int} {n:Nat} (h:n<xs.length):atI (xs.map Dt.int) (n:Int)=some (.int xs[n]):=qAV (by simp [h])
theorem qc {g:GS} (ok:g.Ok) {i:Int} (h0:0≤i) (h1:i<8):atI (g.bs.map Dt.int) i=some (.int (bx g i)):=by
  have hi:i.toNat<g.bs.length:=by rw [ok.b8];omega
  have:=qFx hi
  rw [show ((i.toNat:Nat):Int)=i by omega] at this
  unfold bx
  rw [this]
  simp [List.getD,hi]
theorem qd {g:GS} (ok:g.Ok) {i:Int} (h0:0≤i) (h1:i<8):0≤bx g i∧bx g i<65536:=by
  have hi:i.toNat<g.bs.length:=by rw [ok.b8];omega
  unfold bx
  have e:g.bs.getD i.toNat 0=g.bs[i.toNat]:=by simp [List.getD,hi]
  rw [e]
  exact ok.bb _ (List.getElem_mem hi)
theorem qJj {r:Int} {g:GS} {a:Int} (h:may r g a=true):0≤a∧a<g.cs.length:=by
  unfold may at h
  rw [Bool.and_eq_true,Bool.and_eq_true] at h
  exact⟨of_decide_eq_true h.1.1,of_decide_eq_true h.1.2⟩
theorem qO4 {v r:Int} (h0:0≤v) (h1:v<8) (hr:r=1∨r=2∨r=4):eqD 8 (.int (Builtin.bitAnd v r)) (.int r)=decide (v / r%2=1):=by
  show (Builtin.bitAnd v r==r)=_
  rcases (show v=0∨v=1∨v=2∨v=3∨v=4∨v=5∨v=6∨v=7 by omega) with rfl | rfl | rfl | rfl | rfl | rfl | rfl | rfl<;>rcases hr with rfl | rfl | rfl<;>decide +kernel
theorem qJG {ds:List Dt} {st:Sto} {Pd:VD} (h:qx ds st Pd):qF9 (Ed Pd) (qU ["parts", "k", "part"] ds) st:=by
  obtain⟨xs,k,d,rfl,h0,h1,h2,h⟩:=h
  k_dat 0"r122"
  have e1:HT.sIx xs.length 0 none=0:=rfl
  have e2:HT.sIx xs.length xs.length (some k)=k.toNat:=by unfold HT.sIx;dsimp only;rw [if_neg (by omega)];omega
  have e3:HT.sIx xs.length 0 (some (k+1))=k.toNat+1:=by unfold HT.sIx;dsimp only;rw [if_neg (by omega)];omega
  have e4:HT.sIx xs.length xs.length none=xs.length:=rfl
  have c1:L3.cutD xs none (some k)=xs.take k.toNat:=by unfold L3.cutD;rw [e1,e2];simp
  have c2:L3.cutD xs (some (k+1)) none=xs.drop (k.toNat+1):=by
    unfold L3.cutD;rw [e3,e4];exact List.take_of_length_le (by rw [List.length_drop];omega)
  rw [c1,c2,e2,e3]
  have l1:(xs.take k.toNat).length=k.toNat:=by rw [List.length_take];omega
  have l2:(xs.drop (k.toNat+1)).length=xs.length - (k.toNat+1):=by rw [List.length_drop]
  have es:xs.take k.toNat++[d]++xs.drop (k.toNat+1)=xs.set k.toNat d:=by
    rw [List.set_eq_take_append_cons_drop,if_pos (by omega),List.append_assoc];rfl
  refine⟨fun z=>?_,by show 1≤sizeLine;decide,?_,fun z=>?_,?_,?_⟩
  · have:=z.2;omega
  · rw [l1];exact Nat.le_of_lt (small (by omega))
  · exact absurd z.1 (Nat.succ_ne_zero _)
  · rw [List.length_append,l1,l2]
    exact Nat.le_of_lt (small (by simp;omega))
  · rw [es];exact h
theorem qLU {ds:List Dt} {st:Sto} {Pd:VD} (h:qFJ ds st Pd):qJN (Ed Pd) (qU ["right", "state", "address"] ds) st:=by
  obtain⟨r,g,a,rfl,ok,hr,h⟩:=h
  k_dat 0"r61"
  simp only [at5,at4]
  unfold may at h
  rw [List.length_map]
  by_cases h0:0≤a
  · rw [decide_eq_true h0,Bool.true_and] at h
    refine qDB (decide_eq_true h0) ?_
    by_cases h1:a<(g.cs.length:Int)
    · rw [decide_eq_true h1,Bool.true_and] at h
      refine qJF (by rw [decide_eq_true h1];rfl) ⟨cdiv (by decide) (by decide),?_⟩
      have hi:(a / 8).toNat<g.rs.length:=by have:=ok.c8;omega
      rw [show (a / 8:Int)=(((a / 8).toNat:Nat):Int) by omega,qFx hi]
      k_dat 0"r18"
      have hv:=ok.rb _ (List.getElem_mem hi)
      have e:g.rs.getD (a / 8).toNat 0=g.rs[(a / 8).toNat]:=by simp [List.getD,hi]
      rw [e] at h
      rw [qAc,show eqD 8 (.int (Builtin.bitAnd g.rs[(a / 8).toNat] r)) (.int r)=decide (g.rs[(a / 8).toNat] / r%2=1) from qO4 hv.1 hv.2 hr]
      exact h
    · rw [decide_eq_false h1,Bool.false_and] at h
      exact qDB (by rw [decide_eq_false h1];rfl) h
  · rw [decide_eq_false h0,Bool.false_and,Bool.false_and] at h
    exact qJF (decide_eq_false h0) (qA7 h)
theorem qOL {ds:List Dt} {st:Sto} {Pd:VD} (h:qBp ds st Pd):qKw (Ed Pd) (qU ["state", "place"] ds) st:=by
  obtain⟨g,q,rfl,h⟩:=h
  exact⟨by decide,_,0,.int (q%65536),rfl,by decide,by show (0:Int)<6;decide,by show 6≤200;decide,h⟩
theorem qLV {ds:List Dt} {st:Sto} {Pd:VD} (h:qA0 ds st Pd):qId (Ed Pd) (qU ["state"] ds) st:=by
  obtain⟨g,rfl,h⟩:=h
  exact⟨g,g.p+1,rfl,h⟩
theorem qJX {ds:List Dt} {st:Sto} {Pd:VD} (h:qAT ds st Pd):qGO (Ed Pd) (qU ["state", "a", "number"] ds) st:=by
  obtain⟨g,a,v,rfl,h8,h0,h1,h⟩:=h
  refine⟨g,rfl,?_⟩
  refine⟨g.bs.map .int,a,.int v,rfl,h0,by rw [List.length_map,h8];exact h1,by rw [List.length_map,h8];decide,?_⟩
  refine⟨_,1,_,rfl,by decide,by show (1:Int)<6;decide,by show 6≤200;decide,?_⟩
  rw [← List.map_set]
  exact h
theorem qFW {ds:List Dt} {st:Sto} {Pd:VD} (h:qBZ ds st Pd):qDf (Ed Pd) (qU ["state", "a", "number", "carry"] ds) st:=by
  obtain⟨g,a,v,k,rfl,h8,h0,h1,h⟩:=h
  refine⟨g,a,v,rfl,h8,h0,h1,?_⟩
  refine⟨rfl,rfl,by show 3≤sizeLine;decide,?_⟩
  have e:(eqD 8 (.int v) (.int 0) != false)=decide (v=0):=by rw [qAc];rfl
  show qx [(qCC g a v).d,.int 2,.tup [.bl (eqD 8 (.int v) (.int 0) != false),.bl (decide (32768≤v)),.bl k]] st Pd
  rw [e]
  refine⟨_,2,_,rfl,by decide,by show (2:Int)<6;decide,by show 6≤200;decide,?_⟩
  exact h
theorem qPu {ds:List Dt} {st:Sto} {Pd:VD} (h:qAu ds st Pd):qNP (Ed Pd) (qU ["how", "state"] ds) st:=by
  obtain⟨w,d,rfl,h⟩:=h
  exact⟨by show 0≤sizeLine;exact Nat.zero_le _,by show 3≤sizeLine;decide,h⟩
theorem qS1 {ds:List Dt} {st:Sto} {Pd:VD} (h:qBR ds st Pd):qSx (Ed Pd) (qU ["state"] ds) st:=by
  obtain⟨d,rfl,h⟩:=h
  exact⟨by show 0≤sizeLine;exact Nat.zero_le _,by show 3≤sizeLine;decide,h⟩
theorem qMQ {ds:List Dt} {st:Sto} {Pd:VD} (h:qGL ds st Pd):qJg (Ed Pd) (qU ["state", "a", "x", "y"] ds) st:=by
  obtain⟨g,a,x,y,rfl,h8,h0,h1,hy0,hy1,h⟩:=h
  unfold qCP at h
  k_dat 0"r18"
  by_cases c:y=0
  · subst c
    rw [if_pos rfl] at h
    exact qA7 ⟨_,_,rfl,h⟩
  · rw [if_neg c] at h
    have e:(eqD 8 (.int y) (.int 0) != false)=false:=by
      rw [qAc];exact beq_eq_false_iff_ne.mpr c
    rw [e]
    refine qAz ⟨⟨by omega,by omega⟩,by omega,rfl,rfl,?_⟩
    have e2:(eqD 8 (.int (x%y)) (.int 0) != true)=decide (x%y≠0):=by
      rw [qDn]
      show (!((x%y)==0))=_
      by_cases q:x%y=0
      · simp [q]
      · simp [q]
    rw [e2]
    exact⟨g,a,_,_,rfl,h8,h0,h1,_,rfl,h⟩
theorem qLQ {ds:List Dt} {st:Sto} {Pd:VD} (h:qGm ds st Pd):qI9 (Ed Pd) (qU ["state", "a", "address"] ds) st:=by
  obtain⟨g,a,q,rfl,ok,h0,h1,h⟩:=h
  unfold qCz at h
  refine⟨1,g,q,rfl,ok,.inl rfl,?_⟩
  cases hm:may 1 g q with
  | false =>
    rw [hm,if_neg Bool.false_ne_true] at h
    exact qA7 ⟨_,_,rfl,h⟩
  | true =>
    rw [hm,if_pos rfl] at h
    refine qAz ?_
    obtain⟨q0,q1⟩:=qJj hm
    k_dat 0"r61"
    simp only [at5]
    have hi:q.toNat<g.cs.length:=by omega
    rw [show q=((q.toNat:Nat):Int) by omega,qFx hi]
    refine⟨g,a,_,rfl,ok.b8,h0,h1,_,rfl,?_⟩
    have e:g.cs.getD q.toNat 0=g.cs[q.toNat]:=by simp [List.getD,hi]
    rw [e] at h
    exact h
theorem qLg {ds:List Dt} {st:Sto} {Pd:VD} (h:qCI ds st Pd):qIy (Ed Pd) (qU ["state", "number", "address"] ds) st:=by
  obtain⟨g,v,q,rfl,ok,h⟩:=h
  unfold setG at h
  refine⟨2,g,q,rfl,ok,.inr (.inl rfl),?_⟩
  cases hm:may 2 g q with
  | false =>
    rw [hm,if_neg Bool.false_ne_true] at h
    exact qA7 ⟨_,_,rfl,h⟩
  | true =>
    rw [hm,if_pos rfl] at h
    refine qAz ?_
    obtain⟨q0,q1⟩:=qJj hm
    have:=ok.cm
    refine⟨g,rfl,?_⟩
    refine⟨g.cs.map .int,q,.int v,rfl,q0,by rw [List.length_map];exact q1,by rw [List.length_map];omega,?_⟩
    refine⟨_,5,_,rfl,by decide,by show (5:Int)<6;decide,by show 6≤200;decide,?_⟩
    rw [← List.map_set]
    exact⟨_,rfl,h⟩
theorem qJ7 {ds:List Dt} {st:Sto} {Pd:VD} (h:qDD ds st Pd):qHS (Ed Pd) (qU ["a", "marks"] ds) st:=by
  obtain⟨a,m,rfl,h0,h1,h⟩:=h
  obtain⟨m0,m1,m2⟩:=m
  rcases (show a=0∨a=1∨a=2∨a=3∨a=4∨a=5∨a=6∨a=7 by omega) with rfl | rfl | rfl | rfl | rfl | rfl | rfl | rfl
  iterate 6
    · k_dat 0"r123"
      rw [if_neg (by decide)]
      refine⟨cdiv (by decide) (by decide),by decide,rfl,rfl,rfl,rfl,?_⟩
      cases m0<;>cases m1<;>cases m2<;>exact h
  iterate 2
    · k_dat 0"r123"
      rw [if_pos (by decide)]
      exact⟨rfl,rfl,h⟩
theorem qG3 {ds:List Dt} {st:Sto} {Pd:VD} (h:qCK ds st Pd):qEb (Ed Pd) (qU ["place", "c"] ds) st:=by
  obtain⟨p,c,rfl,h⟩:=h
  exact⟨by decide,h⟩
theorem qJq {ds:List Dt} {st:Sto} {Pd:VD} (h:qD3 ds st Pd):qHc (Ed Pd) (qU ["state", "c"] ds) st:=by
  obtain⟨g,c,rfl,h⟩:=h
  refine⟨g.p,c,rfl,g,(g.p+1+c - 32)%65536,rfl,_,rfl,?_⟩
  rw [show (g.p+1+c - 32)%65536%65536=(g.p+1+c - 32)%65536 by omega]
  exact h
theorem qJW {ds:List Dt} {st:Sto} {Pd:VD} (h:qB6 ds st Pd):qGi (Ed Pd) (qU ["state", "page", "rights"] ds) st:=by
  obtain⟨g,q,r,rfl,ok,h⟩:=h
  unfold qAw at h
  k_dat 0"r61"
  simp only [at4]
  rw [List.length_map]
  by_cases h0:0≤q
  · refine qDB (decide_eq_true h0) ?_
    by_cases h1:q<(g.rs.length:Int)
    · rw [if_pos ⟨h0,h1⟩] at h
      have:=ok.c8;have:=ok.cm
      refine qJF (by rw [decide_eq_true h1];rfl) ⟨g,rfl,?_⟩
      refine⟨g.rs.map .int,q,.int r,rfl,h0,by rw [List.length_map];exact h1,by rw [List.length_map];omega,?_⟩
      refine⟨_,4,_,rfl,by decide,by show (4:Int)<6;decide,by show 6≤200;decide,?_⟩
      rw [← List.map_set]
      exact⟨_,rfl,h⟩
    · rw [if_neg (fun z=>h1 z.2)] at h
      exact qDB (by rw [decide_eq_false h1];rfl) ⟨_,_,rfl,h⟩
  · rw [if_neg (fun z=>h0 z.1)] at h
    exact qJF (decide_eq_false h0) (qA7 ⟨_,_,rfl,h⟩)
theorem qKK {ds:List Dt} {st:Sto} {Pd:VD} (h:qGB ds st Pd):qHY (Ed Pd) (qU ["state", "saved"] ds) st:=by
  obtain⟨g,rfl,h⟩:=h
  obtain⟨p,bs,m,sv,rs,cs⟩:=g
  cases sv with
  | none =>
    k_dat 0"r124"
    rw [if_pos (by decide)]
    exact⟨_,_,rfl,h⟩
  | some z =>
    obtain⟨q,mm⟩:=z
    k_dat 0"r124"
    rw [if_neg (by decide)]
    exact⟨by show 6≤sizeLine;decide,_,rfl,h⟩
theorem qL2 {ds:List Dt} {st:Sto} {Pd:VD} (h:qFv ds st Pd):qI6 (Ed Pd) (qU ["state", "heard", "place"] ds) st:=by
  obtain⟨g,x,rfl,ok,h⟩:=h
  unfold doR at h
  refine⟨4,g,g.p,rfl,ok,.inr (.inr rfl),?_⟩
  cases hm:may 4 g g.p with
  | false =>
    rw [hm,if_neg Bool.false_ne_true] at h
    exact qA7 ⟨_,_,rfl,h⟩
  | true =>
    rw [hm,if_pos rfl] at h
    refine qAz ?_
    obtain⟨q0,q1⟩:=qJj hm
    k_dat 0"r61"
    simp only [at5]
    have hi:g.p.toNat<g.cs.length:=by omega
    have e:g.cs.getD g.p.toNat 0=g.cs[g.p.toNat]:=by simp [List.getD,hi]
    rw [e] at h
    have ea:atI (g.cs.map Dt.int) g.p=some (.int g.cs[g.p.toNat]):=by
      have:=qFx hi
      rw [show ((g.p.toNat:Nat):Int)=g.p by omega] at this
      exact this
    rw [ea]
    refine⟨_,rfl,?_⟩
    exact⟨g,_,_,_,_,x,rfl,ok,by omega,by omega,by omega,by omega,by omega,by omega,by omega,by omega,h⟩
end K06
namespace K06
open PySem PySem.Spec PyProof.Rows L2 L3
theorem qy {s t:Str} {A R:TSD} {E:qA4} {ρ:Rho} {st:Sto} (h3:ρ[3]? = some (some (.str s))) (hne:(s==t)=false) (h:R E ρ st):tseq (qV (qH (qE (qW false) (qB 3) (qC (.str t)))) A qG) R E ρ st:=by
  simp only [tseq,qV,qH,qE,qB,h3,qC,qW]
  k_dat 0"r18"
  have e:eqD 8 (.str s) (.str t)=(s==t):=rfl
  rw [e,hne]
  exact qAz h
theorem step_eq {s t:Str} {A R:TSD} {E:qA4} {ρ:Rho} {st:Sto} (h3:ρ[3]? = some (some (.str s))) (hne:(s==t)=true) (h:A {E with nx:=R E} ρ st):tseq (qV (qH (qE (qW false) (qB 3) (qC (.str t)))) A qG) R E ρ st:=by
  simp only [tseq,qV,qH,qE,qB,h3,qC,qW]
  k_dat 0"r18"
  have e:eqD 8 (.str s) (.str t)=(s==t):=rfl
  rw [e,hne]
  exact qA7 h
theorem qAj {s t u v:Str} {A R:TSD} {E:qA4} {ρ:Rho} {st:Sto} {k:Bool} (h3:ρ[3]? = some (some (.str s))) (hne:(t==s || (u==s || (v==s || false)))=k) (h:if k=true then A {E with nx:=R E} ρ st else R E ρ st) :
    tseq (qV (qH (qE (qBH false) (qB 3) (qN (qA (qC (.str t)) (qA (qC (.str u)) (qA (qC (.str v)) qD)))))) A qG) R E ρ st:=by
  simp only [tseq,qV,qH,qE,qB,h3,qC,qN,qA,qD,qBH,qa]
  refine⟨by show 3≤sizeLine;decide,rfl,rfl,?_⟩
  have e:([Dt.str t,.str u,.str v].any (fun z=>eqD 0 z (.str s)) != false)=k:=by rw [qAc,← hne];rfl
  rw [e]
  exact h
noncomputable def RW8 (g:GS) (s:Str) (a b c x:Int):Rho:=[some g.d,some (.tup [.str s,.int a,.int b,.int c]),some (.int x),some (.str s),some (.int a),some (.int b),some (.int c),some (.tup (g.bs.map .int))]
abbrev qAZ:TSD:=(tseq (qV (qH (qE (qW false) (qB 3) (qC (Dt.str "put")))) (tseq (qM (qF qBR (qA (qF qAT (qA (qB 0) (qA (qB 4) (qA (qB 6) qD)))) qD))) qG) qG) (tseq (qV (qH (qE (qBH false) (qB 3) (qN (qA (qC (Dt.str "add")) (qA (qC (Dt.str "sub")) (qA (qC (Dt.str "mul")) qD)))))) (tseq (qM (qF qER (qA (qB 0) (qA (qB 3) (qA (qB 4) (qA (qE qI (qB 7) (qB 5)) (qA (qE qI (qB 7) (qE qo (qB 6) (qC (Dt.int 8)))) qD))))))) qG) qG) (tseq (qV (qH (qE (qW false) (qB 3) (qC (Dt.str "div")))) (tseq (qM (qF qGL (qA (qB 0) (qA (qB 4) (qA (qE qI (qB 7) (qB 5)) (qA (qE qI (qB 7) (qE qo (qB 6) (qC (Dt.int 8)))) qD)))))) qG) qG) (tseq (qV (qH (qE (qW false) (qB 3) (qC (Dt.str "get")))) (tseq (qM (qF qGm (qA (qB 0) (qA (qB 4) (qA (qE L3.qu (qE qI (qB 7) (qB 5)) (qB 6)) qD))))) qG) qG) (tseq (qV (qH (qE (qW false) (qB 3) (qC (Dt.str "set")))) (tseq (qM (qF qCI (qA (qB 0) (qA (qE qI (qB 7) (qB 4)) (qA (qE L3.qu (qE qI (qB 7) (qB 5)) (qB 6)) qD))))) qG) qG) (tseq (qV (qH (qE (qW false) (qB 3) (qC (Dt.str "jump")))) (tseq (qM (qF qD3 (qA (qB 0) (qA (qB 6) qD)))) qG) qG) (tseq (qV (qH (qE (qW false) (qB 3) (qC (Dt.str "when")))) (tseq (qM (qBe (qH (qF qDD (qA (qB 4) (qA (qE qI (qB 0) (qC (Dt.int 2))) qD)))) (qF qD3 (qA (qB 0) (qA (qB 6) qD))) (qF qBR (qA (qF qA0 (qA (qB 0) qD)) qD)))) qG) qG) (tseq (qV (qH (qE (qW false) (qB 3) (qC (Dt.str "go")))) (tseq (qM (qF qBR (qA (qF qBp (qA (qB 0) (qA (qE qI (qB 7) (qB 4)) qD))) qD))) qG) qG) (tseq (qV (qH (qE (qW false) (qB 3) (qC (Dt.str "tell")))) (tseq (qM (qN (qA (qC (Dt.str "on")) (qA (qF qA0 (qA (qB 0) qD)) (qA (qN (qA (qE qI (qB 7) (qB 4)) qD)) qD))))) qG) qG) (tseq (qV (qH (qE (qW false) (qB 3) (qC (Dt.str "hear")))) (tseq (qM (qF qBR (qA (qF qAT (qA (qB 0) (qA (qB 4) (qA (qB 2) qD)))) qD))) qG) qG) (tseq (qV (qH (qE (qW false) (qB 3) (qC (Dt.str "right")))) (tseq (qM (qF qB6 (qA (qB 0) (qA (qE qI (qB 7) (qB 4)) (qA (qE qo (qB 6) (qC (Dt.int 8))) qD))))) qG) qG) (tseq (qV (qH (qE (qW false) (qB 3) (qC (Dt.str "back")))) (tseq (qM (qF qGB (qA (qB 0) qD))) qG) qG) (tseq (qM (qF qAu (qA (qB 3) (qA (qB 0) qD)))) qG)))))))))))))
theorem qNc {g:GS} {a b c x:Int} {st:Sto} {Pd:VD} (ok:g.Ok) (a0:0≤a) (a1:a<8) (b0:0≤b) (b1:b<8) (c0:0≤c) (h:Pd (qAx (doW g 0 a b c x)) st):qAZ (Ed Pd) (RW8 g (Str.ofString "halt") a b c x) st:=by
  k_dat 0"r4"
  k_dat 0"r5"
  k_dat 0"r6"
  k_dat 0"r7"
  k_dat 0"r8"
  k_dat 0"r9"
  k_dat 0"r10"
  refine qAj (s:=Str.ofString "halt") (t:=Str.ofString "add") (u:=Str.ofString "sub") (v:=Str.ofString "mul") (k:=false) (by rfl) (by decide) (qAz ?_)
  iterate 10 refine qy rfl (by decide) ?_
  exact⟨_,_,rfl,h⟩
theorem qNF {g:GS} {a b c x:Int} {st:Sto} {Pd:VD} (ok:g.Ok) (a0:0≤a) (a1:a<8) (b0:0≤b) (b1:b<8) (c0:0≤c) (h:Pd (qAx (doW g 1 a b c x)) st):qAZ (Ed Pd) (RW8 g (Str.ofString "put") a b c x) st:=by
  k_dat 0"r4"
  k_dat 0"r5"
  k_dat 0"r6"
  k_dat 0"r7"
  k_dat 0"r8"
  k_dat 0"r9"
  k_dat 0"r20"
  exact⟨g,a,c,rfl,ok.b8,a0,a1,_,rfl,h⟩
theorem qMh {g:GS} {a b c x:Int} {st:Sto} {Pd:VD} (ok:g.Ok) (a0:0≤a) (a1:a<8) (b0:0≤b) (b1:b<8) (c0:0≤c) (h:Pd (qAx (doW g 2 a b c x)) st):qAZ (Ed Pd) (RW8 g (Str.ofString "add") a b c x) st:=by
  k_dat 0"r4"
  k_dat 0"r5"
  k_dat 0"r6"
  k_dat 0"r7"
  k_dat 0"r8"
  k_dat 0"r9"
  k_dat 0"r10"
  refine qAj (s:=Str.ofString "add") (t:=Str.ofString "add") (u:=Str.ofString "sub") (v:=Str.ofString "mul") (k:=true) (by rfl) (by decide) (qA7 ?_)
  k_dat 0"r62"
  exact⟨by decide,g,2,a,_,_,rfl,.inl rfl,ok.b8,a0,a1,vb.1,vb.2,h⟩
theorem qM5 {g:GS} {a b c x:Int} {st:Sto} {Pd:VD} (ok:g.Ok) (a0:0≤a) (a1:a<8) (b0:0≤b) (b1:b<8) (c0:0≤c) (h:Pd (qAx (doW g 3 a b c x)) st):qAZ (Ed Pd) (RW8 g (Str.ofString "sub") a b c x) st:=by
  k_dat 0"r4"
  k_dat 0"r5"
  k_dat 0"r6"
  k_dat 0"r7"
  k_dat 0"r8"
  k_dat 0"r9"
  k_dat 0"r10"
  refine qAj (s:=Str.ofString "sub") (t:=Str.ofString "add") (u:=Str.ofString "sub") (v:=Str.ofString "mul") (k:=true) (by rfl) (by decide) (qA7 ?_)
  k_dat 0"r62"
  exact⟨by decide,g,3,a,_,_,rfl,.inr (.inl rfl),ok.b8,a0,a1,vb.1,vb.2,h⟩
theorem qMY {g:GS} {a b c x:Int} {st:Sto} {Pd:VD} (ok:g.Ok) (a0:0≤a) (a1:a<8) (b0:0≤b) (b1:b<8) (c0:0≤c) (h:Pd (qAx (doW g 4 a b c x)) st):qAZ (Ed Pd) (RW8 g (Str.ofString "mul") a b c x) st:=by
  k_dat 0"r4"
  k_dat 0"r5"
  k_dat 0"r6"
  k_dat 0"r7"
  k_dat 0"r8"
  k_dat 0"r9"
  k_dat 0"r10"
  refine qAj (s:=Str.ofString "mul") (t:=Str.ofString "add") (u:=Str.ofString "sub") (v:=Str.ofString "mul") (k:=true) (by rfl) (by decide) (qA7 ?_)
  k_dat 0"r62"
  exact⟨by decide,g,4,a,_,_,rfl,.inr (.inr rfl),ok.b8,a0,a1,vb.1,vb.2,h⟩
theorem qNR {g:GS} {a b c x:Int} {st:Sto} {Pd:VD} (ok:g.Ok) (a0:0≤a) (a1:a<8) (b0:0≤b) (b1:b<8) (c0:0≤c) (h:Pd (qAx (doW g 5 a b c x)) st):qAZ (Ed Pd) (RW8 g (Str.ofString "bad") a b c x) st:=by
  k_dat 0"r4"
  k_dat 0"r5"
  k_dat 0"r6"
  k_dat 0"r7"
  k_dat 0"r8"
  k_dat 0"r9"
  k_dat 0"r10"
  refine qAj (s:=Str.ofString "bad") (t:=Str.ofString "add") (u:=Str.ofString "sub") (v:=Str.ofString "mul") (k:=false) (by rfl) (by decide) (qAz ?_)
  iterate 10 refine qy rfl (by decide) ?_
  exact⟨_,_,rfl,h⟩
theorem qN9 {g:GS} {a b c x:Int} {st:Sto} {Pd:VD} (ok:g.Ok) (a0:0≤a) (a1:a<8) (b0:0≤b) (b1:b<8) (c0:0≤c) (h:Pd (qAx (doW g 6 a b c x)) st):qAZ (Ed Pd) (RW8 g (Str.ofString "div") a b c x) st:=by
  k_dat 0"r4"
  k_dat 0"r5"
  k_dat 0"r6"
  k_dat 0"r7"
  k_dat 0"r8"
  k_dat 0"r9"
  k_dat 0"r10"
  refine qAj (s:=Str.ofString "div") (t:=Str.ofString "add") (u:=Str.ofString "sub") (v:=Str.ofString "mul") (k:=false) (by rfl) (by decide) (qAz ?_)
  k_dat 0"r20"
  k_dat 0"r62"
  exact⟨by decide,g,a,_,_,rfl,ok.b8,a0,a1,vc.1,vc.2,h⟩
theorem qNM {g:GS} {a b c x:Int} {st:Sto} {Pd:VD} (ok:g.Ok) (a0:0≤a) (a1:a<8) (b0:0≤b) (b1:b<8) (c0:0≤c) (h:Pd (qAx (doW g 7 a b c x)) st):qAZ (Ed Pd) (RW8 g (Str.ofString "get") a b c x) st:=by
  k_dat 0"r4"
  k_dat 0"r5"
  k_dat 0"r6"
  k_dat 0"r7"
  k_dat 0"r8"
  k_dat 0"r9"
  k_dat 0"r10"
  refine qAj (s:=Str.ofString "get") (t:=Str.ofString "add") (u:=Str.ofString "sub") (v:=Str.ofString "mul") (k:=false) (by rfl) (by decide) (qAz ?_)
  k_dat 0"r10"
  k_dat 0"r20"
  simp only [tseq,qM,qF,qA,qD,qE,qB,qC,qI,qa,L3.qu,RW8,List.getElem?_cons_zero,List.getElem?_cons_succ,bb,bc]
  exact⟨g,a,_,rfl,ok,a0,a1,h⟩
theorem qNC {g:GS} {a b c x:Int} {st:Sto} {Pd:VD} (ok:g.Ok) (a0:0≤a) (a1:a<8) (b0:0≤b) (b1:b<8) (c0:0≤c) (h:Pd (qAx (doW g 8 a b c x)) st):qAZ (Ed Pd) (RW8 g (Str.ofString "set") a b c x) st:=by
  k_dat 0"r4"
  k_dat 0"r5"
  k_dat 0"r6"
  k_dat 0"r7"
  k_dat 0"r8"
  k_dat 0"r9"
  k_dat 0"r10"
  refine qAj (s:=Str.ofString "set") (t:=Str.ofString "add") (u:=Str.ofString "sub") (v:=Str.ofString "mul") (k:=false) (by rfl) (by decide) (qAz ?_)
  iterate 2 refine qy rfl (by decide) ?_
  k_dat 0"r20"
  simp only [tseq,qM,qF,qA,qD,qE,qB,qC,qI,qa,L3.qu,RW8,List.getElem?_cons_zero,List.getElem?_cons_succ,ba,bb,bc]
  exact⟨g,_,_,rfl,ok,h⟩
theorem qOK {g:GS} {a b c x:Int} {st:Sto} {Pd:VD} (ok:g.Ok) (a0:0≤a) (a1:a<8) (b0:0≤b) (b1:b<8) (c0:0≤c) (h:Pd (qAx (doW g 9 a b c x)) st):qAZ (Ed Pd) (RW8 g (Str.ofString "jump") a b c x) st:=by
  k_dat 0"r4"
  k_dat 0"r5"
  k_dat 0"r6"
  k_dat 0"r7"
  k_dat 0"r8"
  k_dat 0"r9"
  k_dat 0"r10"
  refine qAj (s:=Str.ofString "jump") (t:=Str.ofString "add") (u:=Str.ofString "sub") (v:=Str.ofString "mul") (k:=false) (by rfl) (by decide) (qAz ?_)
  iterate 3 refine qy rfl (by decide) ?_
  k_dat 0"r20"
  exact⟨g,c,rfl,h⟩
theorem qMO {g:GS} {a b c x:Int} {st:Sto} {Pd:VD} (ok:g.Ok) (a0:0≤a) (a1:a<8) (b0:0≤b) (b1:b<8) (c0:0≤c) (h:Pd (qAx (doW g 10 a b c x)) st):qAZ (Ed Pd) (RW8 g (Str.ofString "when") a b c x) st:=by
  k_dat 0"r4"
  k_dat 0"r5"
  k_dat 0"r6"
  k_dat 0"r7"
  k_dat 0"r8"
  k_dat 0"r9"
  k_dat 0"r10"
  refine qAj (s:=Str.ofString "when") (t:=Str.ofString "add") (u:=Str.ofString "sub") (v:=Str.ofString "mul") (k:=false) (by rfl) (by decide) (qAz ?_)
  iterate 4 refine qy rfl (by decide) ?_
  k_dat 0"r20"
  refine⟨a,g.m,rfl,a0,a1,?_⟩
  have h:Pd (qAx (if qDx a g.m=true then onG (leap g c) else onG (next g))) st:=h
  cases hw:qDx a g.m with
  | true =>
    rw [hw,if_pos rfl] at h
    exact qA7 ⟨g,c,rfl,h⟩
  | false =>
    rw [hw,if_neg Bool.false_ne_true] at h
    exact qAz ⟨g,rfl,_,rfl,h⟩
theorem qMJ {g:GS} {a b c x:Int} {st:Sto} {Pd:VD} (ok:g.Ok) (a0:0≤a) (a1:a<8) (b0:0≤b) (b1:b<8) (c0:0≤c) (h:Pd (qAx (doW g 11 a b c x)) st):qAZ (Ed Pd) (RW8 g (Str.ofString "go") a b c x) st:=by
  k_dat 0"r4"
  k_dat 0"r5"
  k_dat 0"r6"
  k_dat 0"r7"
  k_dat 0"r8"
  k_dat 0"r9"
  k_dat 0"r10"
  refine qAj (s:=Str.ofString "go") (t:=Str.ofString "add") (u:=Str.ofString "sub") (v:=Str.ofString "mul") (k:=false) (by rfl) (by decide) (qAz ?_)
  iterate 5 refine qy rfl (by decide) ?_
  k_dat 0"r20"
  simp only [tseq,qM,qF,qA,qD,qE,qB,qC,qI,qa,RW8,List.getElem?_cons_zero,List.getElem?_cons_succ,ba]
  exact⟨g,_,rfl,_,rfl,h⟩
theorem qLO {g:GS} {a b c x:Int} {st:Sto} {Pd:VD} (ok:g.Ok) (a0:0≤a) (a1:a<8) (b0:0≤b) (b1:b<8) (c0:0≤c) (h:Pd (qAx (doW g 12 a b c x)) st):qAZ (Ed Pd) (RW8 g (Str.ofString "tell") a b c x) st:=by
  k_dat 0"r4"
  k_dat 0"r5"
  k_dat 0"r6"
  k_dat 0"r7"
  k_dat 0"r8"
  k_dat 0"r9"
  k_dat 0"r10"
  refine qAj (s:=Str.ofString "tell") (t:=Str.ofString "add") (u:=Str.ofString "sub") (v:=Str.ofString "mul") (k:=false) (by rfl) (by decide) (qAz ?_)
  iterate 6 refine qy rfl (by decide) ?_
  k_dat 0"r20"
  refine⟨g,rfl,?_⟩
  simp only [qM,qF,qA,qN,qD,qE,qB,qC,qI,qa,RW8,List.getElem?_cons_zero,List.getElem?_cons_succ,ba]
  exact⟨by show 1≤sizeLine;decide,by show 3≤sizeLine;decide,h⟩
theorem qLy {g:GS} {a b c x:Int} {st:Sto} {Pd:VD} (ok:g.Ok) (a0:0≤a) (a1:a<8) (b0:0≤b) (b1:b<8) (c0:0≤c) (h:Pd (qAx (doW g 13 a b c x)) st):qAZ (Ed Pd) (RW8 g (Str.ofString "hear") a b c x) st:=by
  k_dat 0"r4"
  k_dat 0"r5"
  k_dat 0"r6"
  k_dat 0"r7"
  k_dat 0"r8"
  k_dat 0"r9"
  k_dat 0"r10"
  refine qAj (s:=Str.ofString "hear") (t:=Str.ofString "add") (u:=Str.ofString "sub") (v:=Str.ofString "mul") (k:=false) (by rfl) (by decide) (qAz ?_)
  iterate 7 refine qy rfl (by decide) ?_
  k_dat 0"r20"
  exact⟨g,a,x,rfl,ok.b8,a0,a1,_,rfl,h⟩
theorem qLo {g:GS} {a b c x:Int} {st:Sto} {Pd:VD} (ok:g.Ok) (a0:0≤a) (a1:a<8) (b0:0≤b) (b1:b<8) (c0:0≤c) (h:Pd (qAx (doW g 14 a b c x)) st):qAZ (Ed Pd) (RW8 g (Str.ofString "right") a b c x) st:=by
  k_dat 0"r4"
  k_dat 0"r5"
  k_dat 0"r6"
  k_dat 0"r7"
  k_dat 0"r8"
  k_dat 0"r9"
  k_dat 0"r10"
  refine qAj (s:=Str.ofString "right") (t:=Str.ofString "add") (u:=Str.ofString "sub") (v:=Str.ofString "mul") (k:=false) (by rfl) (by decide) (qAz ?_)
  iterate 8 refine qy rfl (by decide) ?_
  k_dat 0"r20"
  simp only [tseq,qM,qF,qA,qD,qE,qB,qC,qI,qa,qo,RW8,List.getElem?_cons_zero,List.getElem?_cons_succ,ba]
  exact⟨by decide,g,_,_,rfl,ok,h⟩
theorem qML {g:GS} {a b c x:Int} {st:Sto} {Pd:VD} (ok:g.Ok) (a0:0≤a) (a1:a<8) (b0:0≤b) (b1:b<8) (c0:0≤c) (h:Pd (qAx (doW g 15 a b c x)) st):qAZ (Ed Pd) (RW8 g (Str.ofString "back") a b c x) st:=by
  k_dat 0"r4"
  k_dat 0"r5"
  k_dat 0"r6"
  k_dat 0"r7"
  k_dat 0"r8"
  k_dat 0"r9"
  k_dat 0"r10"
  refine qAj (s:=Str.ofString "back") (t:=Str.ofString "add") (u:=Str.ofString "sub") (v:=Str.ofString "mul") (k:=false) (by rfl) (by decide) (qAz ?_)
  iterate 9 refine qy rfl (by decide) ?_
  k_dat 0"r20"
  exact⟨g,rfl,h⟩
theorem qJ2 {ds:List Dt} {st:Sto} {Pd:VD} (h:qES ds st Pd):qHH (Ed Pd) (qU ["state", "row", "heard", "word", "a", "b", "c", "boxes"] ds) st:=by
  obtain⟨g,w,a,b,c,x,rfl,ok,w0,w1,a0,a1,b0,b1,c0,c1,h⟩:=h
  have cs:=(show w=0∨w=1∨w=2∨w=3∨w=4∨w=5∨w=6∨w=7∨w=8∨w=9∨w=10∨w=11∨w=12∨w=13∨w=14∨w=15 by omega)
  show qAZ (Ed Pd) (RW8 g (qAM w) a b c x) st
  rcases cs with rfl | rfl | rfl | rfl | rfl | rfl | rfl | rfl | rfl | rfl | rfl | rfl | rfl | rfl | rfl | rfl
  · exact qNc ok a0 a1 b0 b1 c0 h
  · exact qNF ok a0 a1 b0 b1 c0 h
  · exact qMh ok a0 a1 b0 b1 c0 h
  · exact qM5 ok a0 a1 b0 b1 c0 h
  · exact qMY ok a0 a1 b0 b1 c0 h
  · exact qNR ok a0 a1 b0 b1 c0 h
  · exact qN9 ok a0 a1 b0 b1 c0 h
  · exact qNM ok a0 a1 b0 b1 c0 h
  · exact qNC ok a0 a1 b0 b1 c0 h
  · exact qOK ok a0 a1 b0 b1 c0 h
  · exact qMO ok a0 a1 b0 b1 c0 h
  · exact qMJ ok a0 a1 b0 b1 c0 h
  · exact qLO ok a0 a1 b0 b1 c0 h
  · exact qLy ok a0 a1 b0 b1 c0 h
  · exact qLo ok a0 a1 b0 b1 c0 h
  · exact qML ok a0 a1 b0 b1 c0 h
end K06
namespace K22
open PySem PySem.Spec PyProof.Rows L2 L3 KH KS
end K22
namespace K22
open PySem PySem.Spec PyProof.Rows L2 L3 KH KS
end K22
namespace K22
open PySem PySem.Spec PyProof.Rows L2 L3 KH KS
end K22
namespace KD
open PySem PySem.Spec PyProof.Rows L2 L3 KH KS KW K20 K06
abbrev qDk:TSD:=(tseq (qV (qH (qE (qW false) (qB 1) (qC (Dt.str "get")))) (tseq (qM (qF K06.qGm (qA (qB 0) (qA (qC (Dt.int 0)) (qA (qE L3.qu (qE qI (qB 2) (qC (Dt.int 0))) (qE qI (qB 2) (qC (Dt.int 1)))) qD))))) qG) qG) (tseq (qV (qH (qE (qW false) (qB 1) (qC (Dt.str "set")))) (tseq (qM (qF K06.qCI (qA (qB 0) (qA (qE qI (qB 2) (qC (Dt.int 2))) (qA (qE L3.qu (qE qI (qB 2) (qC (Dt.int 0))) (qE qI (qB 2) (qC (Dt.int 1)))) qD))))) qG) qG) (tseq (qV (qH (qE (qW false) (qB 1) (qC (Dt.str "div")))) (tseq (qM (qF K06.qGL (qA (qB 0) (qA (qC (Dt.int 0)) (qA (qE qI (qB 2) (qC (Dt.int 0))) (qA (qE qI (qB 2) (qC (Dt.int 1))) qD)))))) qG) qG) (tseq (qV (qH (qE (qW false) (qB 1) (qC (Dt.str "right")))) (tseq (qM (qF K06.qB6 (qA (qB 0) (qA (qE qI (qB 2) (qC (Dt.int 0))) (qA (qE qI (qB 2) (qC (Dt.int 1))) qD))))) qG) qG) (tseq (qV (qH (qE (qW false) (qB 1) (qC (Dt.str "hear")))) (tseq (qM (qF K06.qBR (qA (qF K06.qAT (qA (qB 0) (qA (qC (Dt.int 0)) (qA (qB 3) qD)))) qD))) qG) qG) (tseq (qM (qN (qA (qC (Dt.str "on")) (qA (qB 0) (qA (qN (qA (qE qI (qB 2) (qC (Dt.int 0))) qD)) qD))))) qG))))))
abbrev qBa:TSD:=(tseq (qM (qAi (qE (qW false) (qB 0) (qC (Dt.str "set"))) (qE (qBH false) (qE qAn (qE L3.qu (qE qI (qB 1) (qC (Dt.int 0))) (qE qI (qB 1) (qC (Dt.int 1)))) (qC (Dt.int 8))) (qB 2)))) qG)
section
variable {E:qA4} {st:Sto} {Q:VD} {ρ:Rho}
theorem part {p:Nat} {ps:List Int} (hp:st[p]? = some (.rw (ps.map .int))) {i:Nat} (hi:i<ps.length) (q:Q (.int (ps.getD i 0)) st):qI (.lst p) (.int (i:Nat)) st Q:=by
  obtain⟨d,ha,_,hg⟩:=qQL (xs:=ps.map Dt.int) (v:=(i:Int)) (by omega) (by rw [List.length_map];omega)
  refine qNf hp ha ?_
  rw [Int.toNat_natCast,List.getElem?_map,List.getElem?_eq_getElem hi] at hg
  have e:d = .int (ps.getD i 0):=by
    rw [← Option.some.inj hg,List.getD_eq_getElem?_getD,List.getElem?_eq_getElem hi];rfl
  rw [e];exact q
theorem qKJ {ds:List Dt} {st:Sto} {Pd:VD} (h:qDU ds st Pd):qDk (Ed Pd) (qU ["state", "word", "parts", "heard"] ds) st:=by
  obtain⟨g,w,p,ps,h,rfl,hp,hl,hb,ok,hP⟩:=h
  have one:(1:Nat)≤sizeLine:=by decide
  have three:(3:Nat)≤sizeLine:=by decide
  have v1:∀ P:VD,P (.str (iw w)) st→qB 1 [some g.d,some (.str (iw w)),some (.lst p),some (.int h)] st P:=fun P hp=>hp
  show qDk (Ed Pd) [some g.d,some (.str (iw w)),some (.lst p),some (.int h)] st
  unfold qDk
  refine K22.seq1 ?_
  cases w with
  | get =>
    have hl:ps.length=2:=hl
    refine K22.qEi v1 (by decide +kernel) ?_
    k_dat 0"r63"
    k_dat 0"r29"
    k_dat 0"r36"
    exact⟨g,0,_,rfl,ok,by decide,by decide,hP⟩
  | set =>
    have hl:ps.length=3:=hl
    k_dat 0"r37"
    k_dat 0"r64"
    k_dat 0"r63"
    refine part (i:=2) hp (by omega) ?_
    k_dat 0"r29"
    k_dat 0"r36"
    exact⟨g,_,_,rfl,ok,hP⟩
  | div =>
    have hl:ps.length=2:=hl
    k_dat 0"r37"
    k_dat 0"r22"
    k_dat 0"r64"
    k_dat 0"r63"
    k_dat 0"r29"
    k_dat 0"r36"
    have hy:=hb (ps.getD 1 0) (by rw [List.getD_eq_getElem?_getD,List.getElem?_eq_getElem (by omega)];exact List.getElem_mem _)
    exact⟨g,0,_,_,rfl,ok.b8,by decide,by decide,hy.1,hy.2,hP⟩
  | right =>
    have hl:ps.length=2:=hl
    k_dat 0"r37"
    k_dat 0"r22"
    k_dat 0"r22"
    k_dat 0"r64"
    k_dat 0"r63"
    k_dat 0"r29"
    k_dat 0"r36"
    exact⟨g,_,_,rfl,ok,hP⟩
  | hear =>
    k_dat 0"r37"
    k_dat 0"r22"
    k_dat 0"r22"
    k_dat 0"r22"
    k_dat 0"r64"
    exact⟨g,0,h,rfl,ok.b8,by decide,by decide,_,rfl,hP⟩
  | tell =>
    have hl:ps.length=1:=hl
    k_dat 0"r37"
    k_dat 0"r22"
    k_dat 0"r22"
    k_dat 0"r22"
    k_dat 0"r22"
    simp only [qG,tseq,qM,qN,qA,qD,qE,qB,qC,List.getElem?_cons_zero,List.getElem?_cons_succ]
    k_dat 0"r29"
    exact⟨one,three,hP⟩
theorem qGQ {ds:List Dt} {st:Sto} {Pd:VD} (h:qB0 ds st Pd):qBa (Ed Pd) (qU ["word", "parts", "watched"] ds) st:=by
  obtain⟨w,p,ps,wt,rfl,hp,hl,hw,hP⟩:=h
  show qBa (Ed Pd) [some (.str (iw w)),some (.lst p),some (.tup (wt.map .int))] st
  simp only [qBa,tseq,qM,qAi,qE,qB,qC,List.getElem?_cons_zero,List.getElem?_cons_succ]
  by_cases hs:w = .set
  · subst hs
    have hl:ps.length=3:=hl
    refine K22.qQP (by decide +kernel) ?_
    refine KH.qDB rfl ?_
    k_dat 0"r29"
    k_dat 0"r36"
    refine⟨⟨by decide,by decide⟩,rfl,all_ints wt 0,?_⟩
    rw [Bool.bne_false]
    exact hP
  · refine K22.qR0 (by cases w<;>first | decide +kernel | exact absurd rfl hs) ?_
    have e:qEY w ps wt=false:=by cases w<;>first | rfl | exact absurd rfl hs
    rw [e] at hP
    exact hP
end
end KD
namespace KM
open PySem
noncomputable def qSy:List Str:=["out", "when", "back"]
end KM
namespace L3
open PySem PySem.Spec PyProof.Rows L2
structure qm (K:W.Frag) (n:Str) (st:Stmt):Prop where
  ex:∃ f fd,W.nsIn K mainGlobals n=some (some (.ref f))∧Fun K n n st f fd
structure qC4 (K:W.Frag) (C:Addr) (n q:Str) (st:Stmt):Prop where
  ex:∃ f fd,W.findIn K (.ref C) n=some (some (.ref f))∧W.isFn K (.ref f)=true∧Fun K n q st f fd
section
variable {K:W.Frag} {n q:Str} {st:Stmt} {f C:Addr} {oc:Value} {od an:Option Addr} {osl:Array (Option Value)} {kV doc pm cdv ct:Value}
theorem qm.of (a:W.nsIn K mainGlobals n=some (some (.ref f))) (l:K.lookup f=some ⟨oc,od,.func (W.fnOf n n (qAy st) (qAl st) (qK st) .none kV doc pm an cdv ct),osl⟩) (c:W.codeIn K cdv n=true) (k:W.keepIn K (.ref f)=true):qm K n st:=⟨f,_,a,qN4 l c k⟩
theorem qC4.of (a:W.findIn K (.ref C) n=some (some (.ref f))) (i:W.isFn K (.ref f)=true) (l:K.lookup f=some ⟨oc,od,.func (W.fnOf n q (qAy st) (qAl st) (qK st) .none kV doc pm an cdv ct),osl⟩) (c:W.codeIn K cdv q=true) (k:W.keepIn K (.ref f)=true):qC4 K C n q st:=⟨f,_,a,i,qN4 l c k⟩
end
def Bnd (n q:Str) (st:Stmt) (ps:List Str):Prop:=∀ (kV doc pm:Value) (an:Option Addr) (cdv ct:Value) (us:List Value),us.length=ps.length→bindArgs (W.fnOf n q (qAy st) (qAl st) (qK st) .none kV doc pm an cdv ct) ⟨us,[]⟩=pure (ps.zip us)
section
variable {P:Program} {w:World} {K:W.Frag} {mg:Str→Option Value} {base h:Heap} {n q nm:Str} {st:Stmt} {k:Nat} {sp:RDL} {ps flds:List Str} {C:Addr}
theorem qm.ok (X:K.In h) (G:h.Ns mainGlobals mg) (a:qm K n st) (ok:∀ {f fd},Fun K n n st f fd→qw P w K mg base CX0 k f fd ps (qS K sp)) (hb:Bnd n n st ps):qR P w K mg base n k sp:=by
  obtain⟨f,fd,h1,F⟩:=a.ex
  exact⟨f,fd,ps,ok F,W.mg_of X G h1,F.kp,F.binds hb⟩
theorem qm.zero (X:K.In h) (G:h.Ns mainGlobals mg) (a:qm K n st) (z:∀ {vs H Q E},qS K sp vs H Q E→False) (hb:Bnd n n st ps):qR P w K mg base n k sp:=by
  obtain⟨f,fd,h1,F⟩:=a.ex
  exact⟨f,fd,ps,⟨fun vs H Q E h=>(z h).elim,fun A outer s H args us vs Q E hr he hb hv h=>(z h).elim⟩,W.mg_of X G h1,F.kp,F.binds hb⟩
theorem qC4.ok (aC:W.nsIn K mainGlobals nm=some (some (.ref C))) (CC:Cls K C) (a:qC4 K C n q st) (ok:∀ {f fd},Fun K n q st f fd→qw P w K mg base CX0 k f fd ps (qS K sp)) (hb:Bnd n q st ps):qCT P w K mg base nm n k sp:=by
  obtain⟨f,fd,h1,h2,F⟩:=a.ex
  exact⟨C,f,fd,ps,aC,CC,⟨h1,h2,F.kp⟩,ok F,F.binds hb⟩
theorem qC4.make (X:K.In h) (G:h.Ns mainGlobals mg) (aC:W.nsIn K mainGlobals nm=some (some (.ref C))) (mk:W.makesIn K C=true) (kc:W.keepIn K (.ref C)=true) (a:qC4 K C "__init__" q st) (ok:∀ {f fd},Fun K "__init__" q st f fd→qw P w K mg base CX0 k f fd ps (qS K sp)) (hb:Bnd "__init__" q st ps):qJm P w K mg base nm k sp:=by
  obtain⟨f,fd,h1,h2,F⟩:=a.ex
  exact⟨C,f,fd,ps,aC,W.mg_of X G aC,⟨mk,h1,h2,kc⟩,ok F,F.binds hb⟩
end
section
variable {n q:Str} {st:Stmt} {ps:List Str}
theorem b1 (hp:ps.length=1) (h:∀ kV doc pm an cdv ct a,bindArgs (W.fnOf n q (qAy st) (qAl st) (qK st) .none kV doc pm an cdv ct) ⟨[a],[]⟩=pure (ps.zip [a])):Bnd n q st ps:=fun _ _ _ _ _ _ us hl=>by
  rw [hp] at hl
  match us,hl with
  | [a],_=>exact h _ _ _ _ _ _ _
theorem b2 (hp:ps.length=2) (h:∀ kV doc pm an cdv ct a b,bindArgs (W.fnOf n q (qAy st) (qAl st) (qK st) .none kV doc pm an cdv ct) ⟨[a,b],[]⟩=pure (ps.zip [a,b])):Bnd n q st ps:=fun _ _ _ _ _ _ us hl=>by
  rw [hp] at hl
  match us,hl with
  | [a,b],_=>exact h _ _ _ _ _ _ _ _
theorem b3 (hp:ps.length=3) (h:∀ kV doc pm an cdv ct a b c,bindArgs (W.fnOf n q (qAy st) (qAl st) (qK st) .none kV doc pm an cdv ct) ⟨[a,b,c],[]⟩=pure (ps.zip [a,b,c])):Bnd n q st ps:=fun _ _ _ _ _ _ us hl=>by
  rw [hp] at hl
  match us,hl with
  | [a,b,c],_=>exact h _ _ _ _ _ _ _ _ _
theorem b4 (hp:ps.length=4) (h:∀ kV doc pm an cdv ct a b c d,bindArgs (W.fnOf n q (qAy st) (qAl st) (qK st) .none kV doc pm an cdv ct) ⟨[a,b,c,d],[]⟩=pure (ps.zip [a,b,c,d])):Bnd n q st ps:=fun _ _ _ _ _ _ us hl=>by
  rw [hp] at hl
  match us,hl with
  | [a,b,c,d],_=>exact h _ _ _ _ _ _ _ _ _ _
theorem b5 (hp:ps.length=5) (h:∀ kV doc pm an cdv ct a b c d e,bindArgs (W.fnOf n q (qAy st) (qAl st) (qK st) .none kV doc pm an cdv ct) ⟨[a,b,c,d,e],[]⟩=pure (ps.zip [a,b,c,d,e])):Bnd n q st ps:=fun _ _ _ _ _ _ us hl=>by
  rw [hp] at hl
  match us,hl with
  | [a,b,c,d,e],_=>exact h _ _ _ _ _ _ _ _ _ _ _
end
end L3
namespace KL
open PySem L2 L3 K02 K85 K06
def qLF:RDL:=fun ds st P=>∃ c k:Int,ds=[.int c,.int k]∧∀ x:Int,0≤x→P (.int x) st
def qBB:RDL:=fun ds st P=>∃ (c way:Int) (b:Nat) (bs:List Int),ds=[.int c,.int way,.lst b]∧st[b]? = some (.rw (bs.map .int))∧(∀ x∈bs,0<x∧x<1000000)∧bs.length≤300∧∀ (ps:List Int) st' n,ql st st'→st.length≤n→st'[n]? = some (.rw (ps.map .int))→PIn ps bs→P (.lst n) st'
def qEV:RDL:=fun ds st P=>∃ p:Int,ds=[.int p]∧∀ (v:Int) st',ql st st'→0≤v→v<65536→P (.int v) st'
def qFs:RDL:=fun ds st P=>∃ (sc:Nat) (way:Int) (ns:List Int),ds=[.lst sc,.int way]∧st[sc]? = some (.ro (ns.map .int))∧∀ (g:GS) st',ql st st'→g.Ok→g.p<65536→P g.d st'
def qDq:RDL:=fun ds st P=>∃ (c:Int) (n:Nat),ds=[.int c,.int (n:Int)]∧n≤16∧∀ (wt:List Int) st',ql st st'→wt.length≤n→P (.tup (wt.map .int)) st'
noncomputable def okS:Nat→Dt→Bool
  | 0,_=>false
  | n+1,.tup xs=>xs.all (okS n)
  | _+1,.int _=>true
  | _+1,.bl _=>true
  | _+1,.str _=>true
  | _+1,.non=>true
  | _,_=>false
def qCn (N:Nat):RDL:=fun ds st P=>∃ d:Dt,ds=[d,d]∧okS N d=true∧∀ st',ql st st'→P (.bl true) st'
end KL
namespace K63
open PySem L2 L3 K02 K85 K06 KM
noncomputable def qC9 (w a b c:Int):Dt:=.tup [.str (qAM w),.int a,.int b,.int c]
noncomputable def qD1 (k:Nat):Dt:=.tup [.str "old",.int (k:Int)]
noncomputable def qI4 (k:Int):Dt:=.tup [.str "hand",.int k]
noncomputable def qGn:List Dt:=[qD1 0,qD1 1,qD1 2,qD1 3,qD1 4,qD1 5,qD1 6,qD1 7]
noncomputable def qAg:List Dt:=[qD1 0,qD1 1,qD1 2]
noncomputable def qKA:List Dt:=[qI4 4,qI4 5,qI4 6]
noncomputable def qN5:Option (Nat×Int)→Dt
  | none=>.non
  | some (a,h)=>.tup [.int (a:Int),.int h]
noncomputable def bsE:Option (Nat×Int)→List Dt
  | none=>qGn
  | some (a,h)=>qGn.set a (qI4 h)
noncomputable def exE (how:Str) (at_:Dt) (b:Option (Nat×Int)) (ms:List Dt) (n:Int):Ex:=⟨how,at_,bsE b,ms,n⟩
noncomputable def onE (p:Int) (b:Option (Nat×Int)) (ms:List Dt):Ex:=exE "on" (.int ((p+1)%65536)) b ms 1
noncomputable def noE (how:Str) (p:Int):Ex:=exE how (.int p) none qAg 0
noncomputable def qA1:Rw:=⟨"out",[0]⟩
noncomputable def opC (w:Int):KW.Op2:=if w=2 then .over else if w=3 then .under else if w=4 then .wide else .rest
noncomputable def qHJ (w b c:Int):List Rw:=[⟨"box",[0,b]⟩,⟨"box",[1,c%8]⟩,if w=6 then ⟨"div",[2,0,1,1]⟩ else ⟨qAM w,[2,0,1]⟩,⟨"nought",[4,2]⟩,⟨"high",[5,2]⟩,⟨K20.nm (opC w),[6,0,1]⟩,qA1]
noncomputable def qLC (p:Int) (a:Nat):List Ex:=[onE p (some (a,2)) qKA,noE "nought" p]
noncomputable def qEJ (w a b c:Int):List Rw :=
  if w=7 then [⟨"box",[0,b]⟩,⟨"num",[1,c]⟩,⟨"get",[2,0,1,1]⟩,qA1]
  else if w=8 then [⟨"box",[0,b]⟩,⟨"num",[1,c]⟩,⟨"box",[2,a]⟩,⟨"set",[0,1,2,1,2]⟩,qA1]
  else if w=12 then [⟨"box",[0,a]⟩,⟨"tell",[0]⟩,qA1]
  else if w=13 then [⟨"hear",[2]⟩,qA1]
  else [⟨"box",[0,a]⟩,⟨"num",[1,c%8]⟩,⟨"right",[0,1,1]⟩,qA1]
noncomputable def qD6 (w:Int) (p:Int) (a:Nat):List Ex :=
  if w=7 then [onE p (some (a,2)) qAg,noE "closed" p]
  else if w=8 then [onE p none qAg,noE "closed" p,exE "shut" (.int ((p+1)%65536)) none qAg 1]
  else if w=12 then [onE p none qAg]
  else if w=13 then [onE p (some (a,2)) qAg]
  else [onE p none qAg,noE "closed" p]
noncomputable def qG4 (p c:Int):Ex:=exE "on" (.int ((p+c - 31)%65536)) none qAg 1
noncomputable def qDH (w a:Int):List Rw :=
  if w=9∨w=10∧a=6 then [qA1]
  else if w=10∧a=7 then [qA1]
  else if w=10 then [⟨"mark",[4,a / 2]⟩,⟨"when",[4,a%2,1 - a%2]⟩]
  else if w=11 then [⟨"box",[0,a]⟩,qA1]
  else if w=15 then [⟨"back",[1,0]⟩]
  else [qA1]
noncomputable def qFK (w a p c:Int):List Ex :=
  if w=9∨w=10∧a=6 then [qG4 p c]
  else if w=10∧a=7 then [onE p none qAg]
  else if w=10 then [qG4 p c,onE p none qAg]
  else if w=11 then [exE "on" (qI4 0) none qAg 1]
  else if w=15 then [onE p none qAg,noE "bad" p]
  else [noE (qAM w) p]
def qC5 (w:Int):Prop:=w=2∨w=3∨w=4∨w=6
def qDs (w:Int):Prop:=w=7∨w=8∨w=12∨w=13∨w=14
instance (w:Int):Decidable (qC5 w):=by unfold qC5;infer_instance
instance (w:Int):Decidable (qDs w):=by unfold qDs;infer_instance
noncomputable def blR (w a b c:Int):List Rw:=if w=1 then [⟨"num",[2,c]⟩,qA1] else if qC5 w then qHJ w b c else if qDs w then qEJ w a b c else qDH w a
noncomputable def blE (w:Int) (a:Nat) (c p:Int):List Ex:=if w=1 then [onE p (some (a,2)) qAg] else if qC5 w then qLC p a else if qDs w then qD6 w p a else qFK w a p c
def qCI:RDL:=fun ds st P=>∃ n:Int,ds=[.int n]∧0≤n∧n<65536∧∀ st',ql st st'→P (qC9 (n / 4096) (n / 512%8) (n / 64%8) (n%64)) st'
def qAS:RDL:=fun ds st P=>∃ (how:Str) (at_:Dt) (b:Option (Nat×Int)) (m:Nat) (ms:List Dt) (n:Int),ds=[.str how,at_,qN5 b,.lst m,.int n]∧st[m]? = some (.rw ms)∧(∀ a h,b=some (a,h)→a<8)∧∀ st',ql st st'→P (exD (exE how at_ b ms n)) st'
def Pair (st:Sto) (rs:List Rw) (es:List Ex) (P:VD):Prop:=∀ i j st',ql st st'→st'[i]? = some (.rw (rs.map qk))→st'[j]? = some (.rw (es.map exD))→P (.tup [.lst i,.lst j]) st'
def qGV:RDL:=fun ds st P=>∃ (w:Int) (a:Nat) (b c p:Int) (o n:Nat),ds=[qC9 w (a:Int) b c,.int p,.lst o,.lst n]∧st[o]? = some (.rw qAg)∧st[n]? = some (.rw qKA)∧qC5 w∧a<8∧Pair st (qHJ w b c) (qLC p a) P
def qEa:RDL:=fun ds st P=>∃ (w:Int) (a:Nat) (b c p:Int) (o:Nat),ds=[qC9 w (a:Int) b c,.int p,.lst o]∧st[o]? = some (.rw qAg)∧qDs w∧a<8∧Pair st (qEJ w a b c) (qD6 w p a) P
def qNI (w:Int):Prop:=w=9∨w=10∨w=11∨w=15∨w=0∨w=5
def qGg:RDL:=fun ds st P=>∃ (w:Int) (a:Nat) (b c p:Int) (o:Nat),ds=[qC9 w (a:Int) b c,.int p,.lst o]∧st[o]? = some (.rw qAg)∧qNI w∧a<8∧Pair st (qDH w a) (qFK w a p c) P
noncomputable def aN (n:Int):Nat:=(n / 512%8).toNat
def qF1:RDL:=fun ds st P=>∃ n p:Int,ds=[.int n,.int p]∧0≤n∧n<65536∧∀ st',ql st st'→P (.tup [.int p,.int 7,.tup ((blR (n / 4096) (aN n) (n / 64%8) (n%64)).map qk),.tup ((blE (n / 4096) (aN n) (n%64) p).map exD)]) st'
noncomputable def qD0 (g:GS) (n:Int) (p:Nat):GS:={ g with p:=(p:Int),cs:=g.cs.set p n,rs:=g.rs.set (p / 8) (g.rs.getD (p / 8) 0%4+4) }
def qHt:RDL:=fun ds st P=>∃ (g:GS) (n:Int) (p:Nat),ds=[g.d,.int n,.int (p:Int)]∧g.Ok∧p<g.cs.length∧∀ st',ql st st'→P (qD0 g n p).d st'
def qFu:RDL:=fun ds st P=>∃ (g:GS) (n:Int) (gn:Nat) (h:Int) (gs wt:List Int),ds=[g.d,.int n,.lst gn,.tup (wt.map .int)]∧g.Ok∧g.p<128∧0≤n∧n<65536∧may 4 g g.p=true∧g.cs.getD g.p.toNat 0=n∧st[gn]? = some (.rw ((h::gs).map .int))∧gs.length≤2∧wt.length≤16∧0≤h∧h<65536∧∀ st',ql st st'→P (.bl true) st'
end K63
namespace KT
open PySem L2 L3 K02 K85 K06 KM
def qEc (v:Int):Prop:=0≤v∧v<65536
end KT
namespace KU
open PySem L2 L3 K02 K85 K06 KM KT
end KU
namespace K85
open PySem PySem.Spec PyProof.Rows L2 L3 K02
end K85
namespace K02
open PySem L2 L3
end K02
namespace K02
open PySem PySem.Spec PyProof.Rows L2 L3
end K02
namespace K02
open PySem PySem.Spec PyProof.Rows L2 L3
section
variable {st:Sto}
theorem ixV {n j:Nat} {d:Dt} {xs:List Dt} {P:VD} (hn:st[n]? = some (.rw xs)) (hd:xs[j]? = some d) (hp:P d st):qI (.lst n) (.int (j:Int)) st P:=by
  show (match qa st (.lst n) with
      | some xs=>(match atI xs (j:Int) with
        | some d=>P d st
        | none=>False)
      | none=>False)
  have e:qa st (.lst n)=some xs:=by
    show (st[n]?).map SO.items=_
    rw [hn];rfl
  rw [e]
  show (match atI xs (j:Int) with
        | some d=>P d st
        | none=>False)
  rw [qAV hd]
  exact hp
end
end K02
namespace K85
open PySem PySem.Spec PyProof.Rows L2 L3 K02
theorem qMX {ps bs:List Int} {i:Nat} {p b:Int} (h:PIn ps (bs.take i)) (hb:bs[i]? = some b) (h0:0≤p) (h1:p<b):PIn (ps++[p]) (bs.take (i+1)):=by
  have hil:=(List.getElem?_eq_some_iff.mp hb).1
  have hl:=h.1
  rw [List.length_take] at hl
  rw [List.take_add_one,hb]
  refine⟨by simp [h.1],fun j q c hq hc=>?_⟩
  by_cases hj:j<ps.length
  · rw [List.getElem?_append_left hj] at hq
    rw [List.getElem?_append_left (by rw [List.length_take];omega)] at hc
    exact h.2 j q c hq hc
  · have hj2:=(List.getElem?_eq_some_iff.mp hq).1
    simp at hj2
    have ej:j=ps.length:=by omega
    subst ej
    have e1:q=p:=by simpa using hq.symm
    have e2:c=b:=by
      rw [List.getElem?_append_right (by rw [List.length_take];omega)] at hc
      have:ps.length - (bs.take i).length=0:=by rw [List.length_take];omega
      rw [this] at hc
      simpa using hc.symm
    rw [e1,e2];exact⟨h0,h1⟩
theorem forR {te:TD} {g:TGD} {tb:TSD} {n:Nat} {E:qA4} {ρ:Rho} {st:Sto} (h:∀ P:VD,P (.int (n:Int)) st→te ρ st P) (hn:n<1000000) (q:qOG (qDa 0 n) (fun _=>True) g tb E ρ st):qCb (qBJ te) g tb E ρ st:=by
  show te ρ st _
  refine h _ ⟨by omega,by omega,?_⟩
  rw [Int.toNat_natCast];exact q
end K85
namespace K85
open PySem PySem.Spec PyProof.Rows L2 L3 K02
theorem qHU {xs:List Int} {k:Nat}:L3.cutD (xs.map Dt.int) none (some (k:Int))=(xs.take k).map Dt.int:=by
  unfold L3.cutD
  rw [HT.qEU,HT.qGH]
  simp only [List.drop_zero,List.length_map,Nat.sub_zero]
  rw [← List.map_take]
  congr 1
  rcases Nat.le_total k xs.length with h | h
  · rw [Nat.min_eq_left h]
  · rw [Nat.min_eq_right h,List.take_of_length_le h,List.take_length]
end K85
namespace K85
open PySem PySem.Spec PyProof.Rows L2 L3 K02
end K85
namespace K85
open PySem PySem.Spec PyProof.Rows L2 L3 K02
end K85
namespace K85
open PySem PySem.Spec PyProof.Rows L2 L3 K02
end K85
namespace KL
open PySem PySem.Spec PyProof.Rows L2 L3 KS K02 K85 K06
abbrev qEC:TSD:=(tseq (qP (qE qo (qE L3.qu (qB 0) (qE qBA (qC (Dt.int 15485863)) (qE L3.qu (qB 1) (qC (Dt.int 1))))) (qC (Dt.int 2147483647))) (qJ 2)) (tseq (qP (qE qo (qE qBA (qB 2) (qB 2)) (qC (Dt.int 2147483629))) (qJ 2)) (tseq (qM (qE qAn (qE qo (qE qBA (qB 2) (qE L3.qu (qE L3.qu (qB 2) (qE qBA (qC (Dt.int 7919)) (qB 1))) (qC (Dt.int 11)))) (qC (Dt.int 2147483587))) (qC (Dt.int 8)))) qG)))
abbrev qC2:TSD:=(tseq (qP (qg qD) (qJ 3)) (tseq (qCb (qBJ (qF qBC (qA (qB 2) qD))) (qJ 4) (tseq (qV (qH (qE (qW false) (qB 1) (qC (Dt.int 0)))) (tseq (qA3 (qAe (qB 3) (qE qo (qB 0) (qE qI (qB 2) (qB 4))))) (tseq (qP (qE qAn (qB 0) (qE qI (qB 2) (qB 4))) (qJ 0)) qG)) (tseq (qA3 (qAe (qB 3) (qE qo (qF KL.qLF (qA (qB 0) (qA (qB 4) qD))) (qE qI (qB 2) (qB 4))))) qG)) qG)) (tseq (qM (qB 3)) qG)))
abbrev qCR:TSD:=(tseq (qM (qE qo (qE qI (qg (qA (qE qo (qB 0) (qC (Dt.int 16))) (qA (qE qo (qE qAn (qB 0) (qC (Dt.int 4))) (qC (Dt.int 140))) (qA (qE qAn (qB 0) (qC (Dt.int 4))) (qA (qE L3.qCY (qC (Dt.int 65535)) (qE qo (qE qAn (qB 0) (qC (Dt.int 4))) (qC (Dt.int 3)))) qD))))) (qE qo (qB 0) (qC (Dt.int 4)))) (qC (Dt.int 65536)))) qG)
abbrev qBy:TSD:=(tseq (qM (qF qj (qA (qAh (qBJ (qB 1)) (qH (qE (qW false) (qE qo (qE qAn (qB 1) (qE qPs (qC (Dt.int 1)) (qB 0))) (qC (Dt.int 2))) (qC (Dt.int 1)))) (qB 0) [(0, "cell")]) qD))) qG)
section
variable (N:Nat)
abbrev qCJ:TSD:=(tseq (qV (qH (qF qAI (qA (qB 1) (qA (qC (Dt.ty "tuple")) qD)))) (tseq (qV (qDT (qA2 (qH (qF qAI (qA (qB 0) (qA (qC (Dt.ty "tuple")) qD))))) (qH (qE (qW true) (qF qBC (qA (qB 0) qD)) (qF qBC (qA (qB 1) qD))))) (tseq (qM (qC (Dt.bl false))) qG) qG) (tseq (qCb (qPb (qB 0) (qB 1)) (qi 2 (qY (qJ 2) (qY (qJ 3) qAK))) (tseq (qV (qA2 (qH (qF (KL.qCn N) (qA (qB 2) (qA (qB 3) qD))))) (tseq (qM (qC (Dt.bl false))) qG) qG) qG)) (tseq (qM (qC (Dt.bl true))) qG))) qG) (tseq (qV (qH (qE (qBf false) (qB 1) (qC Dt.non))) (tseq (qM (qE (qBf false) (qB 0) (qC Dt.non))) qG) qG) (tseq (qV (qH (qF qAI (qA (qB 1) (qA (qC (Dt.ty "bool")) qD)))) (tseq (qM (qAi (qF qAI (qA (qB 0) (qA (qC (Dt.ty "bool")) qD))) (qE (qW false) (qB 0) (qB 1)))) qG) qG) (tseq (qV (qH (qF qAI (qA (qB 1) (qA (qC (Dt.ty "str")) qD)))) (tseq (qM (qAi (qF qAI (qA (qB 0) (qA (qC (Dt.ty "str")) qD))) (qE (qW false) (qB 0) (qB 1)))) qG) qG) (tseq (qM (qAi (qF K85.qFt (qA (qB 0) qD)) (qE (qW false) (qB 0) (qB 1)))) qG)))))
end
theorem qT4 {b:Bool} {A B:Prop} (ha:A) (hb:B):if b=true then A else B:=by cases b<;>simp [ha,hb]
theorem qDQ {st:Sto} {n j:Nat} {d:Dt} {xs:List Dt} {P:VD} (hn:st[n]? = some (.rw xs)) (hd:xs[j]? = some d) (hp:P d st):qI (.lst n) (.int (j:Int)) st P:=qNf hn (qAV hd) hp
theorem ixA {s:Sto} {p:Nat} {ps:List Int} {v:Int} {P:VD} (hp:s[p]? = some (.rw (ps.map .int))) (h0:0≤v) (h1:v<(ps.length:Int)) (h:∀ x:Int,P (.int x) s):qI (.lst p) (.int v) s P:=by
  obtain⟨k,rfl⟩:∃ k:Nat,v=(k:Int):=⟨v.toNat,by omega⟩
  have hk:k<ps.length:=by omega
  exact qDQ (d:=.int ps[k]) hp (by rw [List.getElem?_map,List.getElem?_eq_getElem hk];rfl) (h _)
theorem qK3 {ps:List Int} {n:Nat} {b:Int} (h:PIn ps (List.replicate n b)):∀ v∈ps,0≤v∧v<b:=by
  intro v hv
  obtain⟨i,hi,rfl⟩:=List.mem_iff_getElem.mp hv
  have hl:=h.1
  rw [List.length_replicate] at hl
  exact h.2 i _ b (List.getElem?_eq_getElem hi) (by rw [List.getElem?_replicate,if_pos (by omega)])
theorem qIz {ds:List Dt} {st:Sto} {Pd:VD} (h:qLF ds st Pd):qEC (Ed Pd) (qU ["cell", "k", "number"] ds) st:=by
  obtain⟨c,k,rfl,hP⟩:=h
  show qEC (Ed Pd) [some (.int c),some (.int (k:Int)),none] st
  refine qz ?_
  simp only [qE,qB,qC,L3.qu,qBA,qo,List.getElem?_cons_zero,List.getElem?_cons_succ]
  refine⟨qEH (by decide) (by decide),by decide,?_⟩
  refine qz ?_
  refine⟨qEH (Int.emod_nonneg _ (by decide)) (Int.lt_trans (Int.emod_lt_of_pos _ (by decide)) (by decide)),by decide,?_⟩
  k_dat 0"r0"
  refine⟨qEH (by decide) (by decide),?_⟩
  refine⟨qEH (Int.emod_nonneg _ (by decide)) (Int.lt_trans (Int.emod_lt_of_pos _ (by decide)) (by decide)),by decide,cdiv (by decide) (by decide),?_⟩
  exact hP _ (Int.ediv_nonneg (Int.emod_nonneg _ (by decide)) (by decide))
noncomputable abbrev RP (c way:Int) (b f:Nat) (k:Option Dt):Rho:=[some (.int c),some (.int way),some (.lst b),some (.lst f),k]
theorem qG1 {ds:List Dt} {st:Sto} {Pd:VD} (h:qBB ds st Pd):qC2 (Ed Pd) (qU ["cell", "way", "bounds", "found", "k"] ds) st:=by
  obtain⟨c,way,b,bs,rfl,hb,hbs,hbl,hP⟩:=h
  show qC2 (Ed Pd) [some (.int c),some (.int way),some (.lst b),none,none] st
  refine qz ⟨Nat.zero_le _,?_⟩
  show tseq _ _ (Ed Pd) (RP c way b st.length none) (st++[SO.rw []])
  have hf0:(st++[SO.rw []])[st.length]? = some (.rw []):=qL
  have hb0:(st++[SO.rw []])[b]? = some (.rw (bs.map .int)):=qO hb
  have hbn:b<st.length:=qAX hb
  have x0:ql st (st++[SO.rw []]):=.app _ _
  generalize st++[SO.rw []]=s0 at hf0 hb0 x0
  k_dat 0"r0"
  refine forR (n:=bs.length) ?_ (by omega) ?_
  · intro P hp
    refine qOu (ρ:=RP c way b st.length none) (i:=2) (n:=b) rfl hb0 _ ?_
    show P (.int ((bs.map Dt.int).length:Int)) _
    rw [List.length_map];exact hp
  refine⟨fun i ρ s=>(∃ c' k,ρ=RP c' way b st.length k)∧ql st s∧s[b]? = some (.rw (bs.map .int))∧∃ ps:List Int,s[st.length]? = some (.rw (ps.map .int))∧PIn ps (bs.take i),⟨⟨_,_,rfl⟩,x0,hb0,[],hf0,rfl,fun j p b hp hb=>by cases hp⟩,fun _ _ _ _ _=>trivial,?_,?_⟩
  · rintro i d ρ s hd ⟨⟨c',k,rfl⟩,hx,hbs',ps,hps,hpin⟩
    obtain⟨hi,rfl⟩:=qDp hd
    rw [Int.zero_add]
    obtain⟨bb,hbb⟩:∃ bb,bs[i]? = some bb:=⟨bs[i],by simp [hi]⟩
    obtain⟨b0,b1⟩:=hbs bb (List.mem_of_getElem? hbb)
    have hil:(bs.map Dt.int)[i]? = some (.int bb):=by rw [List.getElem?_map,hbb];rfl
    have hpl:ps.length=i:=by rw [hpin.1,List.length_take];omega
    have upd:∀ (p c2:Int) (k2:Option Dt) (s1:Sto),ql s s1→0≤p→p<bb→(∃ c' k,RP c2 way b st.length k2=RP c' way b st.length k)∧ql st (s1.set st.length (.rw (ps.map .int++[.int p])))∧(s1.set st.length (.rw (ps.map .int++[.int p])))[b]? = some (.rw (bs.map .int))∧∃ ps':List Int,(s1.set st.length (.rw (ps.map .int++[.int p])))[st.length]? = some (.rw (ps'.map .int))∧PIn ps' (bs.take (i+1)):=by
      intro p c2 k2 s1 x1 p0 p1
      refine⟨⟨_,_,rfl⟩,fun j o ho=>?_,qe (x1 _ _ hbs') (by omega),ps++[p],?_,qMX hpin hbb p0 p1⟩
      · have hj:j<st.length:=qAX ho
        exact qe (x1 _ _ (hx _ _ ho)) (by omega)
      · rw [qAR (x1 _ _ hps),List.map_append];rfl
    have hlz:(ps.map Dt.int).length<sizeLine:=by rw [List.length_map,sizeLine_eq];omega
    show tseq _ _ _ (RP c' way b st.length (some (.int (i:Int)))) s
    refine qAQ (ifS (b:=decide (way=0)) (st':=s) (eqI fun P hp=>hp) ?_ ?_)
    · intro q
      k_dat 0"r0"
      simp only [qA3,qAe,qE,qB,List.getElem?_cons_zero,List.getElem?_cons_succ]
      refine ixV hbs' hil ?_
      refine⟨b0,?_⟩
      simp only [hps]
      refine⟨hlz,?_⟩
      have hn0:=Int.emod_nonneg c' (show bb≠0 by omega)
      have hn1:=Int.emod_lt_of_pos c' b0
      have hu:=upd (c'%bb) (c' / bb) (some (.int (i:Int))) s (.refl _) hn0 hn1
      refine qz ?_
      simp only [qE,qB,List.getElem?_cons_zero,List.getElem?_cons_succ]
      refine ixV hu.2.2.1 hil ?_
      exact⟨cdiv b0 (by omega),hu⟩
    · intro q
      k_dat 0"r0"
      simp only [qA3,qAe,qE,qB,qF,qA,qD,List.getElem?_cons_zero,List.getElem?_cons_succ]
      refine⟨c',(i:Int),rfl,fun x x0'=>?_⟩
      refine ixV hbs' hil ?_
      refine⟨b0,?_⟩
      simp only [hps]
      exact⟨hlz,upd (x%bb) c' (some (.int (i:Int))) s (.refl _) (Int.emod_nonneg x (show bb≠0 by omega)) (Int.emod_lt_of_pos x b0)⟩
  · rintro ρ s ⟨⟨c',k,rfl⟩,hx,hbs',ps,hps,hpin⟩
    rw [qCV,List.take_length] at hpin
    exact hP ps s _ hx (Nat.le_refl _) hps hpin
theorem qGq {ds:List Dt} {st:Sto} {Pd:VD} (h:qEV ds st Pd):qCR (Ed Pd) (qU ["part"] ds) st:=by
  obtain⟨p,rfl,hP⟩:=h
  show qCR (Ed Pd) [some (.int p)] st
  k_dat 0"r0"
  simp only [qM,qE,qg,qA,qD,qB,qC,List.getElem?_cons_zero,qo,qAn,L3.qCY]
  refine⟨by decide,cdiv (by decide) (by decide),by decide,cdiv (by decide) (by decide),cdiv (by decide) (by decide),by decide,by show 4≤sizeLine;decide,by decide,?_⟩
  refine ixA (ps:=[p%16,p / 4%140,p / 4,65535 - p / 4%3]) qL (Int.emod_nonneg _ (by decide)) (by show p%4<4;exact Int.emod_lt_of_pos _ (by decide)) fun v=>?_
  exact⟨by decide,hP _ _ (.app _ _) (Int.emod_nonneg _ (by decide)) (Int.emod_lt_of_pos _ (by decide))⟩
theorem qFl {ds:List Dt} {st:Sto} {Pd:VD} (h:qDq ds st Pd):qBy (Ed Pd) (qU ["cell", "pages"] ds) st:=by
  obtain⟨c,n,rfl,hn,hP⟩:=h
  show qBy (Ed Pd) [some (.int c),some (.int (n:Int))] st
  k_dat 0"r0"
  simp only [qM,qF,qA,qD,qAh,qBJ,qB,qFU,List.map_cons,List.map_nil,List.getElem?_cons_zero,List.getElem?_cons_succ,Option.join_some]
  refine⟨by omega,by omega,?_⟩
  rw [Int.toNat_natCast]
  refine⟨fun i ys s=>s=st∧∃ wt:List Int,ys=wt.map .int∧wt.length≤i,⟨rfl,[],rfl,Nat.le_refl _⟩,fun _ _ _ _ _=>trivial,?_,?_⟩
  · rintro i d ys s hd ⟨rfl,wt,rfl,hl⟩
    obtain⟨hi,rfl⟩:=qDp hd
    rw [Int.zero_add]
    refine⟨by rw [List.length_map,sizeLine_eq];omega,?_⟩
    simp only [qH,qE,qB,qC,List.getElem?_cons_zero,List.getElem?_cons_succ,qPs,qAn,qo]
    have p0:(0:Int)<1 * 2 ^ (i:Int).toNat:=by
      rw [Int.one_mul];exact Int.pow_pos (by decide)
    have p1:(1:Int) * 2 ^ (i:Int).toNat<1073741824:=by
      rw [Int.one_mul,Int.toNat_natCast]
      have:∀ k:Nat,k<16→(2:Int) ^ k<1073741824:=by decide
      exact this i (by omega)
    refine⟨⟨by omega,by omega,by decide⟩,cdiv p0 p1,by decide,rfl,rfl,?_⟩
    refine qT4 ?_ ?_
    · exact⟨rfl,wt++[(i:Int)],by rw [List.map_append];rfl,by simp;omega⟩
    · exact⟨rfl,wt,rfl,by omega⟩
  · rintro ys s ⟨rfl,wt,rfl,hl⟩
    rw [qCV] at hl
    simp only [qj,qa,qL,Option.map_some,SO.items]
    exact hP wt _ (.app _ _) hl
theorem qIN (N:Nat) {ds:List Dt} {st:Sto} {Pd:VD} (h:qCn (N+1) ds st Pd):qCJ N (Ed Pd) (qU ["found", "due", "one", "other"] ds) st:=by
  obtain⟨d,rfl,hd,hP⟩:=h
  show qCJ N (Ed Pd) [some d,some d,none,none] st
  unfold qCJ
  cases d with
  | tup xs =>
    simp only [okS,List.all_eq_true] at hd
    refine qBm (b:=true) (st':=st) ?_ (fun _=>?_) nofun
    · intro P hp
      exact⟨.inr (.inr (.inr (.inl rfl))),hp⟩
    refine skp (orB (b1:=false) (b2:=false) ?_ fun _=>?_) ?_
    · intro P hp
      exact⟨.inr (.inr (.inr (.inl rfl))),hp⟩
    · intro P hp
      k_dat 0"r18"
      show P (((xs.length:Int)==(xs.length:Int)) != true) st
      simpa using hp
    k_dat 0"r0"
    show qOG (qEu xs xs) (fun _=>True) _ _ _ _ st
    refine⟨fun i ρ s=>(∃ a b,ρ=[some (.tup xs),some (.tup xs),a,b])∧ql st s,⟨⟨_,_,rfl⟩,.refl _⟩,fun _ _ _ _ _=>trivial,?_,?_⟩
    · rintro i d ρ s hz ⟨⟨a,b,rfl⟩,hx⟩
      obtain⟨x,y,ex,ey,rfl⟩:=qET hz
      rw [ex] at ey
      cases ey
      refine⟨rfl,?_⟩
      simp only [qY,qJ,qAK]
      show tseq _ _ _ [some (.tup xs),some (.tup xs),some x,some x] s
      simp only [tseq,qV,qA2,qH,qF,qA,qD,qB,List.getElem?_cons_zero,List.getElem?_cons_succ]
      refine⟨x,rfl,hd x (List.mem_of_getElem? ex),fun s2 x2=>qAz ?_⟩
      exact⟨⟨_,_,rfl⟩,hx.trans x2⟩
    · rintro ρ s ⟨⟨a,b,rfl⟩,hx⟩
      exact hP s hx
  | int n =>
    k_dat 0"r65"
    refine skp (fun P hp=>hp) ?_
    refine skp (fun P hp=>⟨.inl rfl,hp⟩) ?_
    refine skp (fun P hp=>⟨.inr (.inr (.inl rfl)),hp⟩) ?_
    k_dat 0"r0"
    simp only [qM,qAi,qF,qA,qD,qB,qE,List.getElem?_cons_zero,List.getElem?_cons_succ]
    refine⟨n,rfl,?_⟩
    refine qA7 ?_
    k_dat 0"r18"
    have e:eqD 8 (.int n) (.int n)=true:=by show (n==n)=true;simp
    rw [e]
    exact hP st (.refl _)
  | bl n =>
    k_dat 0"r65"
    refine skp (fun P hp=>hp) ?_
    refine hit (fun P hp=>⟨.inl rfl,hp⟩) ?_
    k_dat 0"r0"
    simp only [qM,qAi,qF,qA,qD,qB,qE,qC,List.getElem?_cons_zero,List.getElem?_cons_succ]
    refine⟨.inl rfl,?_⟩
    refine qA7 ?_
    k_dat 0"r18"
    have e:eqD 8 (.bl n) (.bl n)=true:=by cases n<;>rfl
    rw [e]
    exact hP st (.refl _)
  | str n =>
    k_dat 0"r65"
    refine skp (fun P hp=>hp) ?_
    refine skp (fun P hp=>⟨.inl rfl,hp⟩) ?_
    refine hit (fun P hp=>⟨.inr (.inr (.inl rfl)),hp⟩) ?_
    k_dat 0"r0"
    simp only [qM,qAi,qF,qA,qD,qB,qE,qC,List.getElem?_cons_zero,List.getElem?_cons_succ]
    refine⟨.inr (.inr (.inl rfl)),?_⟩
    refine qA7 ?_
    k_dat 0"r18"
    have e:eqD 8 (.str n) (.str n)=true:=by show (n==n)=true;simp
    rw [e]
    exact hP st (.refl _)
  | non =>
    k_dat 0"r65"
    refine hit (fun P hp=>hp) ?_
    k_dat 0"r0"
    exact hP st (.refl _)
  | _=>simp [okS] at hd
end KL
namespace KT
open PySem PySem.Spec PyProof.Rows L2 L3 K02 K85 KM
end KT
namespace K85
open PySem PySem.Spec PyProof.Rows L2 L3 K02
theorem z10:∀ m:Nat,m≤20→m≤sizeLine:=fun m hm=>by rw [sizeLine_eq];omega
end K85
namespace KL
open PySem PySem.Spec PyProof.Rows L2 L3 KS K02 K85 K06
abbrev lsH:TSD:=(tseq (qM (qN (qA (qE qo (qE qI (qB 2) (qC (Dt.int 2))) (qE qI (qg (qA (qC (Dt.int 65536)) (qA (qC (Dt.int 200)) qD))) (qE qo (qE qAn (qE qI (qB 2) (qC (Dt.int 4))) (qC (Dt.int 2))) (qC (Dt.int 2))))) (qA (qF qj (qA (qB 7) qD)) (qA (qF qj (qA (qB 8) qD)) (qA (qB 9) (qA (qF qj (qA (qB 5) qD)) (qA (qF qj (qA (qB 4) qD)) qD)))))))) qG)
abbrev lsG:TSD:=(tseq (qP (qE qI (qg (qA (qC Dt.non) (qA (qN (qA (qE qI (qB 2) (qC (Dt.int 3))) (qA (qF qj (qA (qAh (qBI (qAG (qB 6) (qp (qC (Dt.int 11))) qv)) (fun x st P=>P true st) (qE (qW false) (qB 0) (qC (Dt.int 1))) []) qD)) qD))) qD))) (qE qo (qE qI (qB 2) (qC (Dt.int 4))) (qC (Dt.int 2)))) (qJ 9)) lsH)
abbrev lsF:TSD:=(tseq (qP (qAh (qBI (qAG (qB 6) (qp (qC (Dt.int 8))) (qp (qC (Dt.int 11))))) (fun x st P=>P true st) (qE (qW false) (qB 0) (qC (Dt.int 1))) []) (qJ 8)) lsG)
abbrev lsE:TSD:=(tseq (qP (qAh (qBI (qAG (qB 6) qv (qp (qC (Dt.int 8))))) (fun x st P=>P true st) (qF KL.qEV (qA (qB 0) qD)) []) (qJ 7)) lsF)
abbrev lsD:TSD:=(tseq (qP (qF KL.qBB (qA (qF K85.qAv (qA (qB 0) (qA (qC (Dt.int 3)) qD))) (qA (qB 1) (qA (qE L3.qu (qE qBA (qg (qA (qC (Dt.int 262144)) qD)) (qC (Dt.int 8))) (qE qBA (qg (qA (qC (Dt.int 2)) qD)) (qC (Dt.int 6)))) qD)))) (qJ 6)) lsE)
abbrev lsC:TSD:=(tseq (qV (qH (qE (qAN fun i j=>decide (j<i)) (qE qI (qB 2) (qC (Dt.int 5))) (qC (Dt.int 0)))) (tseq (qP (qF KL.qBB (qA (qF K85.qAv (qA (qB 0) (qA (qC (Dt.int 2)) qD))) (qA (qB 1) (qA (qE qBA (qg (qA (qC (Dt.int 8)) qD)) (qE qAn (qB 3) (qC (Dt.int 8)))) qD)))) (qJ 5)) qG) qG) lsD)
abbrev lsB:TSD:=(tseq (qP (qF KL.qBB (qA (qF K85.qAv (qA (qB 0) (qA (qC (Dt.int 1)) qD))) (qA (qB 1) (qA (qE qBA (qg (qA (qC (Dt.int 65536)) qD)) (qB 3)) qD)))) (qJ 4)) (tseq (qP (qE qBA (qg (qA (qC (Dt.int 7)) qD)) (qE qAn (qB 3) (qC (Dt.int 8)))) (qJ 5)) lsC))
abbrev qCo:TSD:=(tseq (qP (qF KL.qBB (qA (qF K85.qAv (qA (qB 0) (qA (qC (Dt.int 0)) qD))) (qA (qB 1) (qA (qg (qA (qC (Dt.int 2)) (qA (qC (Dt.int 17)) (qA (qC (Dt.int 65536)) (qA (qC (Dt.int 65536)) (qA (qC (Dt.int 8)) (qA (qC (Dt.int 3)) qD))))))) qD)))) (qJ 2)) (tseq (qP (qE qBA (qE qI (qg (qA (qE L3.qu (qC (Dt.int 1)) (qE qo (qE qI (qB 2) (qC (Dt.int 1))) (qC (Dt.int 16)))) (qA (qE qo (qE qI (qB 2) (qC (Dt.int 1))) (qC (Dt.int 3))) qD))) (qE qI (qB 2) (qC (Dt.int 0)))) (qC (Dt.int 8))) (qJ 3)) lsB))
theorem qEO {xs:List Int} {k:Nat}:L3.cutD (xs.map Dt.int) (some (k:Int)) none=(xs.drop k).map Dt.int:=by
  unfold L3.cutD
  rw [HT.qGH,HT.qEU,← List.map_drop,List.length_map]
  rcases Nat.le_total k xs.length with h | h
  · rw [Nat.min_eq_left h,List.take_of_length_le (by simp)]
  · rw [Nat.min_eq_right h,List.drop_of_length_le (by simp:xs.length≤xs.length),List.drop_of_length_le h];simp
theorem qPv {xs:List Int} {a b:Nat}:L3.cutD (xs.map Dt.int) (some (a:Int)) (some ((a+b:Nat):Int))=((xs.drop a).take b).map Dt.int:=by
  unfold L3.cutD
  rw [HT.qEU,HT.qEU,← List.map_drop,← List.map_take,List.length_map]
  congr 1
  rcases Nat.le_total a xs.length with h | h
  · rw [Nat.min_eq_left h]
    rcases Nat.le_total (a+b) xs.length with h2 | h2
    · rw [Nat.min_eq_left h2];congr 1;omega
    · rw [Nat.min_eq_right h2,List.take_of_length_le (by simp),List.take_of_length_le (by simp;omega)]
  · rw [Nat.min_eq_right h,List.drop_of_length_le (by omega:xs.length≤xs.length),List.drop_of_length_le h];simp
theorem qSm {items:List Dt} {ok:Sto→Prop} {te:TD} {cρ:Rho} {st:Sto} {Fin:List Dt→Sto→Prop} (Rl:Nat→Dt→Prop) (hok:∀ s,ql st s→ok s) (hl:items.length≤1000)
    (hs:∀ (i:Nat) d s,items[i]? = some d→ql st s→∀ P:VD,(∀ y s',ql s s'→Rl i y→P y s')→te (some d::cρ) s P)
    (hF:∀ ys s',ql st s'→ys.length=items.length→(∀ (i:Nat) y,ys[i]? = some y→Rl i y)→Fin ys s'):qKn items ok (fun x st P=>P true st) te cρ st Fin:=by
  refine⟨fun i ys s=>ql st s∧ys.length=i∧∀ (j:Nat) y,ys[j]? = some y→Rl j y,⟨.refl _,rfl,fun j y hj=>by cases hj⟩,fun i ys s _ h=>hok s h.1,?_,?_⟩
  · rintro i d ys s hd ⟨hx,hyl,hy⟩
    have hil:=(List.getElem?_eq_some_iff.mp hd).1
    refine⟨by rw [hyl,sizeLine_eq];omega,qA7 ?_⟩
    refine hs i d s hd hx _ fun y s' x' r=>⟨hx.trans x',by simp [hyl],fun j z hz=>?_⟩
    rcases Nat.lt_trichotomy j ys.length with hj | hj | hj
    · rw [List.getElem?_append_left hj] at hz;exact hy j z hz
    · subst hj
      rw [List.getElem?_concat_length] at hz
      cases hz;rw [hyl];exact r
    · rw [List.getElem?_eq_none (by simp;omega)] at hz;cases hz
  · rintro ys s ⟨hx,hyl,hy⟩
    exact hF ys s hx hyl hy
theorem allI {ys:List Dt} {Q:Int→Prop} (h:∀ (i:Nat) y,ys[i]? = some y→∃ v:Int,y = .int v∧Q v):∃ vs:List Int,ys=vs.map .int∧∀ v∈vs,Q v:=by
  induction ys with
  | nil=>exact⟨[],rfl,fun v hv=>by cases hv⟩
  | cons y ys ih =>
    obtain⟨v,rfl,q⟩:=h 0 _ rfl
    obtain⟨vs,rfl,hv⟩:=ih fun i y hy=>h (i+1) y hy
    refine⟨v::vs,rfl,fun z hz=>?_⟩
    rcases List.mem_cons.mp hz with rfl | hz
    · exact q
    · exact hv z hz
theorem allB {ys:List Dt} (h:∀ (i:Nat) y,ys[i]? = some y→∃ v:Bool,y = .bl v):∃ vs:List Bool,ys=vs.map .bl:=by
  induction ys with
  | nil=>exact⟨[],rfl⟩
  | cons y ys ih =>
    obtain⟨v,rfl⟩:=h 0 _ rfl
    obtain⟨vs,rfl⟩:=ih fun i y hy=>h (i+1) y hy
    exact⟨v::vs,rfl⟩
theorem three {ys:List Dt} (h:∀ (i:Nat) y,ys[i]? = some y→∃ v:Bool,y = .bl v) (hl:ys.length=3):∃ m:M3,ys=[.bl m.1,.bl m.2.1,.bl m.2.2]:=by
  obtain⟨vs,rfl⟩:=allB h
  rw [List.length_map] at hl
  rcases vs with _ | ⟨a,_ | ⟨b,_ | ⟨c,_ | ⟨d,r⟩⟩⟩⟩
  · cases hl
  · cases hl
  · cases hl
  · exact⟨(a,b,c),rfl⟩
  · simp at hl
theorem six {ps:List Int} (h:PIn ps [2,17,65536,65536,8,3]):∃ p0 p1 p2 p3 p4 p5:Int,ps=[p0,p1,p2,p3,p4,p5]∧(0≤p0∧p0<2)∧(0≤p1∧p1<17)∧(0≤p2∧p2<65536)∧(0≤p3∧p3<65536)∧(0≤p4∧p4<8):=by
  obtain⟨hl,hb⟩:=h
  have hl:ps.length=6:=hl
  rcases ps with _ | ⟨p0,_ | ⟨p1,_ | ⟨p2,_ | ⟨p3,_ | ⟨p4,_ | ⟨p5,_ | ⟨p6,r⟩⟩⟩⟩⟩⟩⟩<;>first
    | (simp at hl;done)
    | exact⟨p0,p1,p2,p3,p4,p5,rfl,hb 0 p0 2 rfl rfl,hb 1 p1 17 rfl rfl,hb 2 p2 65536 rfl rfl,hb 3 p3 65536 rfl rfl,hb 4 p4 8 rfl rfl⟩
    | (simp at hl;omega)
noncomputable abbrev RSt (sc:Nat) (way:Int) (n:Nat) (a b c d e f g:Option Dt):Rho:=[some (.lst sc),some (.int way),some (.lst n),a,b,c,d,e,f,g]
theorem of2 {s:Sto} {n:Nat} {a b:Dt} {x:Int} {P:VD} (hn:s[n]? = some (.rw [a,b])) (h0:0≤x) (h1:x<2) (ha:P a s) (hb:P b s):qI (.lst n) (.int x) s P:=by
  rcases (show x=0∨x=1 by omega) with rfl | rfl
  · exact qDQ (j:=0) hn rfl ha
  · exact qDQ (j:=1) hn rfl hb
section
variable {sc n:Nat} {way:Int} {p0 p1 p2 p3 p4 p5:Int} {s:Sto} {Pd:VD}
theorem qNd {nb nm nr nc:Nat} {bs rs cs:List Int} {m:M3} {x3 x6:Option Dt} {sv:Option (Int×M3)} (hn:s[n]? = some (.rw ([p0,p1,p2,p3,p4,p5].map .int))) (hb:s[nb]? = some (.rw (bs.map .int))) (hm:s[nm]? = some (.rw [.bl m.1,.bl m.2.1,.bl m.2.2])) (hr:s[nr]? = some (.rw (rs.map .int))) (hc:s[nc]? = some (.rw (cs.map .int))) (h2:0≤p2∧p2<65536)
    (hP:∀ p s',ql s s'→0≤p→p<65536→Pd (GS.mk p bs m sv rs cs).d s'):lsH (Ed Pd) (RSt sc way n x3 (some (.lst nc)) (some (.lst nr)) x6 (some (.lst nb)) (some (.lst nm)) (some (svD sv))) s:=by
  k_dat 0"r0"
  simp only [qM,qN,qF,qE,qg,qA,qD,qB,qC,List.getElem?_cons_zero,List.getElem?_cons_succ]
  refine qDQ (j:=2) hn rfl ?_
  refine⟨by show 2≤sizeLine;rw [sizeLine_eq];omega,?_⟩
  refine qDQ (j:=4) (qO hn) rfl ?_
  refine⟨cdiv (by decide) (by decide),by decide,?_⟩
  have fin:∀ (y:Int),0<y→y≤65536→qo (.int p2) (.int y) (s++[SO.rw [.int 65536,.int 200]]) fun d0 s0=>qj [.lst nb] s0 fun d1 s1=>qj [.lst nm] s1 fun d2 s2=>qj [.lst nr] s2 fun d3 s3=>qj [.lst nc] s3 fun d4 s4=>6≤sizeLine∧Pd (.tup [d0,d1,d2,svD sv,d3,d4]) s4:=by
    intro y y0 y1
    refine⟨y0,?_⟩
    have e:∀ (j:Nat) o,s[j]? = some o→qa (s++[SO.rw [.int 65536,.int 200]]) (.lst j)=some o.items:=fun j o h=>by show ((s++_)[j]?).map SO.items=_;rw [qO h];rfl
    simp only [qj,e _ _ hb,e _ _ hm,e _ _ hr,e _ _ hc]
    refine⟨by rw [sizeLine_eq];omega,?_⟩
    refine hP (p2%y) _ (.app _ _) (Int.emod_nonneg _ (by omega)) ?_
    have:=Int.emod_lt_of_pos p2 y0
    omega
  refine of2 qL (Int.emod_nonneg _ (by decide)) (Int.emod_lt_of_pos _ (by decide)) ?_ ?_
  · exact fin 65536 (by decide) (by decide)
  · exact fin 200 (by decide) (by decide)
theorem qQB {xs:List Int} {ok:Sto→Prop} {Fin:List Dt→Sto→Prop} (hok:∀ s',ql s s'→ok s') (hl:xs.length≤1000) (hF:∀ ys s',ql s s'→ys.length=xs.length→(∀ (i:Nat) y,ys[i]? = some y→∃ v:Bool,y = .bl v)→Fin ys s'):qKn (xs.map Dt.int) ok (fun x st P=>P true st) (qE (qW false) (qB 0) (qC (Dt.int 1))) [] s Fin:=by
  refine qSm (fun _ y=>∃ v:Bool,y = .bl v) hok (by rw [List.length_map];exact hl) (fun i d s' hd hx P hp=>?_) fun ys s' x yl yr=>hF ys s' x (by rw [yl,List.length_map]) yr
  obtain⟨x,-,rfl⟩:∃ x,xs[i]? = some x∧.int x=d:=by simpa using hd
  exact⟨rfl,rfl,hp _ _ (.refl _) ⟨_,rfl⟩⟩
theorem qAH {s:Sto} {j:Nat} {xs:List Dt} (h:s[j]? = some (.rw xs)):qa s (.lst j)=some xs:=by show (s[j]?).map SO.items=_;rw [h];rfl
theorem qSY {nb nm nr nc np:Nat} {bs rs cs ps:List Int} {m:M3} {x3:Option Dt} (hn:s[n]? = some (.rw ([p0,p1,p2,p3,p4,p5].map .int))) (hb:s[nb]? = some (.rw (bs.map .int))) (hm:s[nm]? = some (.rw [.bl m.1,.bl m.2.1,.bl m.2.2])) (hr:s[nr]? = some (.rw (rs.map .int))) (hc:s[nc]? = some (.rw (cs.map .int))) (hp:s[np]? = some (.rw (ps.map .int))) (pl:ps.length=14) (h2:0≤p2∧p2<65536)
    (hP:∀ p sv s',ql s s'→0≤p→p<65536→Pd (GS.mk p bs m sv rs cs).d s'):lsG (Ed Pd) (RSt sc way n x3 (some (.lst nc)) (some (.lst nr)) (some (.lst np)) (some (.lst nb)) (some (.lst nm)) none) s:=by
  refine qz ?_
  simp only [qN,qF,qE,qg,qA,qD,qB,qC,qAh,qBI,qAG,qp,qv,qFU,List.map_nil,List.getElem?_cons_zero,List.getElem?_cons_succ]
  refine qDQ (j:=3) hn rfl ?_
  simp only [hp,SO.items]
  rw [show (11:Int)=((11:Nat):Int) from rfl,qEO,qAH qL]
  refine qQB (fun s' hx=>by rw [qAH (hx _ _ qL)]) (by simp;omega) fun ys s' x yl yr=>?_
  have hx:ql s s':=fun j o hj=>x _ _ (qO hj)
  obtain⟨m',rfl⟩:=three yr (by rw [yl];simp [pl])
  simp only [qj,qAH qL]
  k_dat 0"r38"
  refine qDQ (j:=4) (qO (qO (hx _ _ hn))) rfl ?_
  k_dat 0"r21"
  have hx2:∀ a b:SO,ql s (s'++[a]++[b]):=fun a b j o hj=>qO (qO (hx _ _ hj))
  refine of2 qL (Int.emod_nonneg _ (by decide)) (Int.emod_lt_of_pos _ (by decide)) ?_ ?_
  · refine qNd (sv:=none) (hx2 _ _ _ _ hn) (hx2 _ _ _ _ hb) (hx2 _ _ _ _ hm) (hx2 _ _ _ _ hr) (hx2 _ _ _ _ hc) h2 fun p s2 x2=>hP p _ s2 ?_
    exact fun j o hj=>x2 _ _ (hx2 _ _ _ _ hj)
  · refine qNd (sv:=some (p3,m')) (hx2 _ _ _ _ hn) (hx2 _ _ _ _ hb) (hx2 _ _ _ _ hm) (hx2 _ _ _ _ hr) (hx2 _ _ _ _ hc) h2 fun p s2 x2=>hP p _ s2 ?_
    exact fun j o hj=>x2 _ _ (hx2 _ _ _ _ hj)
theorem qQb {nb nr nc np:Nat} {bs rs cs ps:List Int} {x3:Option Dt} (hn:s[n]? = some (.rw ([p0,p1,p2,p3,p4,p5].map .int))) (hb:s[nb]? = some (.rw (bs.map .int))) (hr:s[nr]? = some (.rw (rs.map .int))) (hc:s[nc]? = some (.rw (cs.map .int))) (hp:s[np]? = some (.rw (ps.map .int))) (pl:ps.length=14) (h2:0≤p2∧p2<65536)
    (hP:∀ p m sv s',ql s s'→0≤p→p<65536→Pd (GS.mk p bs m sv rs cs).d s'):lsF (Ed Pd) (RSt sc way n x3 (some (.lst nc)) (some (.lst nr)) (some (.lst np)) (some (.lst nb)) none none) s:=by
  refine qz ?_
  k_dat 0"r125"
  simp only [hp,SO.items]
  rw [show (11:Int)=((8+3:Nat):Int) from rfl,show (8:Int)=((8:Nat):Int) from rfl,qPv,qAH qL]
  refine qQB (fun s' hx=>by rw [qAH (hx _ _ qL)]) (by simp;omega) fun ys s' x yl yr=>?_
  obtain⟨m,rfl⟩:=three yr (by rw [yl];simp [pl])
  have hx:∀ a:SO,ql s (s'++[a]):=fun a j o hj=>qO (x _ _ (qO hj))
  refine qSY (m:=m) (hx _ _ _ hn) (hx _ _ _ hb) qL (hx _ _ _ hr) (hx _ _ _ hc) (hx _ _ _ hp) pl h2 fun p sv s2 x2=>hP p m sv s2 ?_
  exact fun j o hj=>x2 _ _ (hx _ _ _ hj)
theorem qQl {nr nc np:Nat} {rs cs ps:List Int} {x3:Option Dt} (hn:s[n]? = some (.rw ([p0,p1,p2,p3,p4,p5].map .int))) (hr:s[nr]? = some (.rw (rs.map .int))) (hc:s[nc]? = some (.rw (cs.map .int))) (hp:s[np]? = some (.rw (ps.map .int))) (pl:ps.length=14) (h2:0≤p2∧p2<65536)
    (hP:∀ p bs m sv s',ql s s'→0≤p→p<65536→bs.length=8→(∀ v∈bs,0≤v∧v<65536)→Pd (GS.mk p bs m sv rs cs).d s'):lsE (Ed Pd) (RSt sc way n x3 (some (.lst nc)) (some (.lst nr)) (some (.lst np)) none none none) s:=by
  refine qz ?_
  k_dat 0"r125"
  simp only [hp,SO.items]
  rw [show (8:Int)=((8:Nat):Int) from rfl,K85.qHU,qAH qL]
  refine qSm (fun _ y=>∃ v:Int,y = .int v∧0≤v∧v<65536) (fun s' hx=>by rw [qAH (hx _ _ qL)]) (by simp;omega) (fun i d s' hd hx P hq=>?_) fun ys s' x yl yr=>?_
  · obtain⟨v,-,rfl⟩:∃ v,(ps.take 8)[i]? = some v∧.int v=d:=by
      rw [List.getElem?_map] at hd
      cases h:(ps.take 8)[i]? with
      | none=>rw [h] at hd;cases hd
      | some v=>rw [h] at hd;exact⟨v,rfl,by simpa using hd⟩
    exact⟨v,rfl,fun v s' x h0 h1=>hq _ _ x ⟨v,rfl,h0,h1⟩⟩
  obtain⟨bs,rfl,hb⟩:=allI yr
  have hx:∀ a:SO,ql s (s'++[a]):=fun a j o hj=>qO (x _ _ (qO hj))
  refine qQb (bs:=bs) (hx _ _ _ hn) qL (hx _ _ _ hr) (hx _ _ _ hc) (hx _ _ _ hp) pl h2 fun p m sv s2 x2 h0 h1=>hP p bs m sv s2 ?_ h0 h1 (by simpa [pl] using yl) hb
  exact fun j o hj=>x2 _ _ (hx _ _ _ hj)
theorem qTY {sc:Nat} {ns:List Int} {s:Sto} {ρ:Rho} {k:Nat} {P:VD} (h0:ρ[0]? = some (some (.lst sc))) (hs:s[sc]? = some (.ro (ns.map .int))) (h:∀ c:Int,P (.int c) s):qF K85.qAv (qA (qB 0) (qA (qC (Dt.int (k:Int))) qD)) ρ s P:=by
  simp only [qF,qA,qD,qB,qC,h0]
  exact⟨sc,k,ns,rfl,hs,fun c=>h c⟩
theorem qIS {sc:Nat} {way:Int} {ns bs:List Int} {s:Sto} {ρ:Rho} {k:Nat} {tb:TD} {P:VD} (h0:ρ[0]? = some (some (.lst sc))) (h1:ρ[1]? = some (some (.int way))) (hs:s[sc]? = some (.ro (ns.map .int)))
    (hb:∀ Q:VD,(∀ n s',ql s s'→s'[n]? = some (.rw (bs.map .int))→Q (.lst n) s')→tb ρ s Q) (hbs:∀ x∈bs,0<x∧x<1000000) (hl:bs.length≤300)
    (h:∀ (ps:List Int) n s',ql s s'→s'[n]? = some (.rw (ps.map .int))→PIn ps bs→P (.lst n) s'):qF qBB (qA (qF K85.qAv (qA (qB 0) (qA (qC (Dt.int (k:Int))) qD))) (qA (qB 1) (qA tb qD))) ρ s P:=by
  refine qTY h0 hs fun c=>?_
  refine KM.tv h1 ?_
  refine hb _ fun n s' x hn=>?_
  exact⟨c,way,n,bs,rfl,hn,hbs,hl,fun ps s2 n2 x2 _ g2 pin=>h ps n2 s2 (fun j o hj=>x2 _ _ (x _ _ hj)) g2 pin⟩
theorem qMb {s:Sto} {ρ:Rho} {b:Int} {m:Nat} {tk:TD} {Q:VD} (hk:∀ (P:VD) s',ql s s'→P (.int (m:Int)) s'→tk ρ s' P) (hm:m≤1000) (h:∀ n s',ql s s'→s'[n]? = some (.rw ((List.replicate m b).map .int))→Q (.lst n) s'):qE qBA (qg (qA (qC (Dt.int b)) qD)) tk ρ s Q:=by
  simp only [qE,qg,qA,qD,qC]
  refine⟨z10 1 (by decide),?_⟩
  refine hk _ _ (.app _ _) ?_
  show qBA _ _ _ _
  simp only [qBA]
  rw [qL]
  refine⟨by omega,by omega,by show 1 * (m:Int).toNat≤sizeLine;rw [sizeLine_eq];omega,?_⟩
  refine h _ _ (fun j o hj=>qO (qO hj)) ?_
  rw [qL,List.flatten_replicate_singleton,List.map_replicate,Int.toNat_natCast]
theorem qNa {nr nc:Nat} {rs cs ns:List Int} {x3:Option Dt} (hsc:s[sc]? = some (.ro (ns.map .int))) (hn:s[n]? = some (.rw ([p0,p1,p2,p3,p4,p5].map .int))) (hr:s[nr]? = some (.rw (rs.map .int))) (hc:s[nc]? = some (.rw (cs.map .int))) (h2:0≤p2∧p2<65536)
    (hP:∀ p bs m sv s',ql s s'→0≤p→p<65536→bs.length=8→(∀ v∈bs,0≤v∧v<65536)→Pd (GS.mk p bs m sv rs cs).d s'):lsD (Ed Pd) (RSt sc way n x3 (some (.lst nc)) (some (.lst nr)) none none none none) s:=by
  refine qz ?_
  refine qIS (sc:=sc) (way:=way) (bs:=List.replicate 8 262144++List.replicate 6 2) (k:=3) rfl rfl hsc ?_ ?_ (by decide) fun ps np s' x hp pin=>?_
  · intro Q hQ
    show qE qBA _ _ _ s fun d1 s1=>qE qBA _ _ _ s1 fun d2 s2=>L3.qu d1 d2 s2 Q
    refine qMb (m:=8) (fun P s' _ hp=>hp) (by decide) fun n1 s1 x1 g1=>?_
    refine qMb (m:=6) (fun P s' _ hp=>hp) (by decide) fun n2 s2 x2 g2=>?_
    simp only [L3.qu,x2 _ _ g1,g2]
    refine⟨by rw [sizeLine_eq];simp,?_⟩
    refine hQ _ _ (fun j o hj=>qO (x2 _ _ (x1 _ _ hj))) ?_
    rw [qL,List.map_append]
  · intro x hx
    rcases List.mem_append.mp hx with hx | hx<;>rw [List.eq_of_mem_replicate hx]<;>decide
  · refine qQl (x _ _ hn) (x _ _ hr) (x _ _ hc) hp (by rw [pin.1];decide) h2 fun p bs m sv s2 x2=>hP p bs m sv s2 ?_
    exact fun j o hj=>x2 _ _ (x _ _ hj)
theorem qRk {nr nc k:Nat} {cs ns:List Int} (hsc:s[sc]? = some (.ro (ns.map .int))) (hn:s[n]? = some (.rw ([p0,p1,p2,p3,p4,p5].map .int))) (hr:s[nr]? = some (.rw ((List.replicate k 7).map .int))) (hc:s[nc]? = some (.rw (cs.map .int))) (hk:k≤16) (h2:0≤p2∧p2<65536)
    (hP:∀ p bs m sv rs s',ql s s'→0≤p→p<65536→bs.length=8→(∀ v∈bs,0≤v∧v<65536)→rs.length=k→(∀ v∈rs,0≤v∧v<8)→Pd (GS.mk p bs m sv rs cs).d s'):lsC (Ed Pd) (RSt sc way n (some (.int ((k * 8:Nat):Int))) (some (.lst nc)) (some (.lst nr)) none none none none) s:=by
  refine qBm (b:=decide (0<p5)) (st':=s) ?_ (fun _=>?_) fun _=>?_
  · intro P hp
    simp only [qH,qE,qB,qC,List.getElem?_cons_zero,List.getElem?_cons_succ]
    refine qDQ (j:=5) hn rfl ?_
    exact hp
  · refine qz ?_
    refine qIS (sc:=sc) (way:=way) (bs:=List.replicate k 8) (k:=2) rfl rfl hsc ?_ ?_ (by rw [List.length_replicate];omega) fun ps np s' x hp pin=>?_
    · intro Q hQ
      refine qMb (m:=k) (fun P s' _ hp=>?_) (by omega) hQ
      show qNW _ _∧P _ s'
      refine⟨cdiv (by decide) (by decide),?_⟩
      rw [show ((k * 8:Nat):Int) / 8=(k:Int) by omega]
      exact hp
    · intro x hx
      rw [List.eq_of_mem_replicate hx];decide
    · refine qNa (x _ _ hsc) (x _ _ hn) hp (x _ _ hc) h2 fun p bs m sv s2 x2 h0 h1 hb hv=>hP p bs m sv ps s2 (fun j o hj=>x2 _ _ (x _ _ hj)) h0 h1 hb hv (by rw [pin.1,List.length_replicate]) ?_
      exact qK3 pin
  · refine qNa hsc hn hr hc h2 fun p bs m sv s2 x2 h0 h1 hb hv=>hP p bs m sv _ s2 x2 h0 h1 hb hv (by rw [List.length_replicate]) ?_
    intro v hv
    rw [List.eq_of_mem_replicate hv];decide
theorem qR7 {k:Nat} {ns:List Int} (hsc:s[sc]? = some (.ro (ns.map .int))) (hn:s[n]? = some (.rw ([p0,p1,p2,p3,p4,p5].map .int))) (hk:k≤16) (h2:0≤p2∧p2<65536)
    (hP:∀ (g:GS) s',ql s s'→g.Ok→g.p<65536→Pd g.d s'):lsB (Ed Pd) (RSt sc way n (some (.int ((k * 8:Nat):Int))) none none none none none none) s:=by
  refine qz ?_
  refine qIS (sc:=sc) (way:=way) (bs:=List.replicate (k * 8) 65536) (k:=1) rfl rfl hsc ?_ ?_ (by rw [List.length_replicate];omega) fun ps np s' x hp pin=>?_
  · intro Q hQ
    exact qMb (m:=k * 8) (fun P s' _ hp=>hp) (by omega) hQ
  · intro x hx
    rw [List.eq_of_mem_replicate hx];decide
  refine qz ?_
  refine qMb (m:=k) (fun P s' _ hp=>?_) (by omega) fun nr s1 x1 g1=>?_
  · show qNW _ _∧P _ s'
    refine⟨cdiv (by decide) (by decide),?_⟩
    rw [show ((k * 8:Nat):Int) / 8=(k:Int) by omega]
    exact hp
  have hx:ql s s1:=fun j o hj=>x1 _ _ (x _ _ hj)
  have pl:ps.length=k * 8:=by rw [pin.1,List.length_replicate]
  refine qRk (hx _ _ hsc) (hx _ _ hn) g1 (x1 _ _ hp) hk h2 fun p bs m sv rs s2 x2 h0 h1 hb hv rl rv=>?_
  exact hP _ _ (fun j o hj=>x2 _ _ (hx _ _ hj)) ⟨h0,hb,hv,by show ps.length=8 * rs.length;omega,by show ps.length≤128;omega,qK3 pin,rv⟩ h1
theorem qHE {ds:List Dt} {st:Sto} {Pd:VD} (h:qFs ds st Pd):qCo (Ed Pd) (qU ["script", "way", "sizes", "many", "cells", "rights", "parts", "boxes", "marks", "saved"] ds) st:=by
  obtain⟨sc,way,ns,rfl,hsc,hP⟩:=h
  show qCo (Ed Pd) [some (.lst sc),some (.int way),none,none,none,none,none,none,none,none] st
  refine qz ?_
  refine qIS (sc:=sc) (way:=way) (bs:=[2,17,65536,65536,8,3]) (k:=0) rfl rfl hsc ?_ (by decide) (by decide) fun ps n s' x hp pin=>?_
  · intro Q hQ
    refine⟨z10 6 (by decide),?_⟩
    exact hQ _ _ (.app _ _) qL
  obtain⟨p0,p1,p2,p3,p4,p5,rfl,h0,h1,h2,h3,h4⟩:=six pin
  have fin:∀ (v:Int) s1,ql s' s1→0≤v→v≤16→qBA (.int v) (.int 8) s1 fun d s2=>lsB (Ed Pd) (RSt sc way n (some d) none none none none none none) s2:=by
    intro v s1 x1 v0 v1
    refine⟨qEH (by omega) (by omega),?_⟩
    obtain⟨k,rfl⟩:∃ k:Nat,v=(k:Int):=⟨v.toNat,by omega⟩
    rw [show (k:Int) * 8=((k * 8:Nat):Int) by omega]
    exact qR7 (x1 _ _ (x _ _ hsc)) (x1 _ _ hp) (by omega) h2 fun g s2 x2=>hP g s2 fun j o hj=>x2 _ _ (x1 _ _ (x _ _ hj))
  refine qz ?_
  simp only [qE,qg,qA,qD,qB,qC,List.set_cons_zero,List.set_cons_succ,List.getElem?_cons_zero,List.getElem?_cons_succ]
  refine qDQ (j:=1) hp rfl ?_
  k_dat 0"r21"
  simp only [L3.qu]
  refine qDQ (j:=1) hp rfl ?_
  refine⟨by decide,z10 2 (by decide),?_⟩
  refine qDQ (j:=0) (qO hp) rfl ?_
  refine of2 qL h0.1 h0.2 ?_ ?_
  · exact fin _ _ (.app _ _) (by omega) (by omega)
  · exact fin _ _ (.app _ _) (by omega) (by omega)
end
end KL
namespace KT
open PySem PySem.Spec PyProof.Rows L2 L3 K02 K85 KM
end KT
namespace K85
open PySem PySem.Spec PyProof.Rows L2 L3 K02
end K85
namespace KT
open PySem PySem.Spec PyProof.Rows L2 L3 K02 K85 KM
end KT
namespace K85
open PySem PySem.Spec PyProof.Rows L2 L3 K02
end K85
namespace K85
open PySem PySem.Spec PyProof.Rows L2 L3 K02
end K85
namespace KT
open PySem PySem.Spec PyProof.Rows L2 L3 K02 K85 KM
end KT
namespace KU
open PySem PySem.Spec PyProof.Rows L2 L3 K02 K85 K06 KM KT
end KU
namespace K62
open PySem L2 L3 K02 K85 K06 KM
end K62
namespace K62
open PySem L2 L3 K02 K85 K06 KM
theorem qIU {xs:List Int} {i:Nat} {v w:Int} (h:w∈xs.set i v):w=v∨w∈xs:=by
  rcases List.mem_or_eq_of_mem_set h with h | h
  · exact .inr h
  · exact .inl h
theorem getD_in {xs:List Int} {Q:Int→Prop} (h:∀ v∈xs,Q v) (h0:Q 0) (i:Nat):Q (xs.getD i 0):=by
  rw [List.getD_eq_getElem?_getD]
  cases e:xs[i]? with
  | none=>exact h0
  | some v=>exact h v (List.mem_of_getElem? e)
theorem qKm {g:GS} (ok:g.Ok):(next g).Ok:=⟨Int.emod_nonneg _ (by decide),ok.b8,ok.bb,ok.c8,ok.cm,ok.cb,ok.rb⟩
theorem qJk {g:GS} (ok:g.Ok) (a v:Int) (hv:0≤v∧v<65536):(qCC g a v).Ok :=
  ⟨Int.emod_nonneg _ (by decide),by show (g.bs.set _ _).length=8;rw [List.length_set];exact ok.b8,fun w hw=>by rcases qIU hw with rfl | hw;exact hv;exact ok.bb w hw,ok.c8,ok.cm,ok.cb,ok.rb⟩
theorem qRe {g:GS} (ok:g.Ok) (a v:Int) (k:Bool) (hv:0≤v∧v<65536):(qEN g a v k).Ok :=
  have h:=qJk ok a v hv
  ⟨h.p0,h.b8,h.bb,h.c8,h.cm,h.cb,h.rb⟩
theorem qQ0 {a b:Int} (ha:0≤a) (hb:0≤b):a / b≤a:=Int.ediv_le_self b ha
end K62
namespace K62
open PySem PySem.Spec PyProof.Rows L2 L3 KS K02 K85 K06 KM KL
theorem gIx {g:GS} {ρ:Rho} {i j:Nat} {s:Sto} {d:Dt} {P:VD} (hi:ρ[i]? = some (some g.d)) (hj:[.int g.p,.tup (g.bs.map .int),msD g.m,svD g.sv,.tup (g.rs.map .int),.tup (g.cs.map .int)][j]? = some d) (h:P d s):qE qI (qB i) (qC (Dt.int (j:Int))) ρ s P:=rS hi hj _ h
theorem qTw {g:GS} {ρ:Rho} {i j:Nat} {s:Sto} {xs:List Dt} {P:VD} (hi:ρ[i]? = some (some g.d)) (hj:[.int g.p,.tup (g.bs.map .int),msD g.m,svD g.sv,.tup (g.rs.map .int),.tup (g.cs.map .int)][j]? = some (.tup xs)) (h:P (.int (xs.length:Int)) s):qF qBC (qA (qE qI (qB i) (qC (Dt.int (j:Int)))) qD) ρ s P:=by
  show qE qI (qB i) (qC (Dt.int (j:Int))) ρ s _
  exact gIx hi hj h
end K62
namespace K62
open PySem PySem.Spec PyProof.Rows L2 L3 KS K02 K85 K06 KM KL
theorem qGJ {g:GS} {j:Nat} {s:Sto} {d:Dt} {P:VD} (hj:[.int g.p,.tup (g.bs.map .int),msD g.m,svD g.sv,.tup (g.rs.map .int),.tup (g.cs.map .int)][j]? = some d) (h:P d s):qI g.d (.int (j:Int)) s P:=gIx (ρ:=[some g.d]) (i:=0) rfl hj h
end K62
namespace K62
open PySem PySem.Spec PyProof.Rows L2 L3 KS K02 K85 K06 KM KL
section
variable {blk:Dt} {g:GS} {wt:List Int} {row:Rw} {a b c:Int} {nc nr:Nat} {br le:Int} {s:Sto} {Pd:VD}
theorem ixT {xs:List Dt} {j:Nat} {d:Dt} {s:Sto} {P:VD} (hj:xs[j]? = some d) (h:P d s):qI (.tup xs) (.int (j:Int)) s P:=rS (ρ:=[some (.tup xs)]) (i:=0) rfl hj P h
end
end K62
namespace KU
open PySem PySem.Spec PyProof.Rows L2 L3 K02 K85 K06 KM KT
end KU
namespace KU
open PySem PySem.Spec PyProof.Rows L2 L3 K02 K85 K06 KM KT
end KU
namespace KU
open PySem PySem.Spec PyProof.Rows L2 L3 K02 K85 K06 KM KT
end KU
namespace KU
open PySem PySem.Spec PyProof.Rows L2 L3 K02 K85 K06 KM KT
end KU
namespace KU
open PySem PySem.Spec PyProof.Rows L2 L3 K02 K85 K06 KM KT
end KU
namespace KU
open PySem L2 L3 K02 K85 K06 KM KT
end KU
namespace KU
open PySem L2 L3 K02 K85 K06 KM KT
theorem qCE {g:GS} {w:KD.IW} {ps:List Int} {x:Int} (ok:g.Ok) (hps:∀ v∈ps,qEc v) (h8:w = .right→ps.getD 1 0<8) (hx:qEc x):(KD.qAF g w ps x).2.1.Ok:=by
  have hp:∀ i,qEc (ps.getD i 0):=fun i=>K62.getD_in (Q:=qEc) hps (by unfold qEc;decide) i
  cases w with
  | get =>
    show (qCz g 0 _).2.1.Ok
    unfold qCz
    split
    · exact K62.qJk ok _ _ (K62.getD_in (Q:=fun v=>0≤v∧v<65536) ok.cb (by decide) _)
    · exact ok
  | set =>
    show (setG g (ps.getD 2 0) _).2.1.Ok
    unfold setG
    split
    · have n:=K62.qKm ok
      refine⟨n.p0,n.b8,n.bb,?_,?_,?_,n.rb⟩
      · show (g.cs.set _ _).length=_;rw [List.length_set];exact n.c8
      · show (g.cs.set _ _).length≤_;rw [List.length_set];exact n.cm
      · intro v hv
        rcases K62.qIU hv with rfl | hv
        · exact hp 2
        · exact ok.cb v hv
    · exact ok
  | div =>
    show (qCP g 0 (ps.getD 0 0) (ps.getD 1 0)).2.1.Ok
    unfold qCP
    split
    · exact ok
    · have a:=hp 0
      have b:=hp 1
      refine K62.qRe ok _ _ _ ⟨Int.ediv_nonneg a.1 b.1,?_⟩
      have:=K62.qQ0 a.1 b.1
      have:=a.2
      omega
  | tell=>exact ok
  | hear=>exact K62.qJk ok _ _ hx
  | right =>
    show (qAw g (ps.getD 0 0) (ps.getD 1 0)).2.1.Ok
    unfold qAw
    split
    · have n:=K62.qKm ok
      refine⟨n.p0,n.b8,n.bb,?_,n.cm,n.cb,?_⟩
      · show _=8 * (g.rs.set _ _).length;rw [List.length_set];exact n.c8
      · intro v hv
        rcases K62.qIU hv with rfl | hv
        · exact⟨(hp 1).1,h8 rfl⟩
        · exact ok.rb v hv
    · exact ok
end KU
namespace K63
open PySem L2 L3 K02 K85 K06 KM
open KU (qCE)
open KT (qEc)
theorem qOZ {H:Hd} {old ss vs:List Dt} {a:Nat} {s v:Dt} (h:qFf H old ss vs) (e:qLs H old s v):qFf H old (ss.set a s) (vs.set a v):=by
  refine⟨by simp only [List.length_set];exact h.1,fun i s' v' hs hv=>?_⟩
  by_cases q:a=i
  · subst q
    have l1:=(List.getElem?_eq_some_iff.mp hs).1
    have l2:=(List.getElem?_eq_some_iff.mp hv).1
    rw [List.length_set] at l1 l2
    rw [List.getElem?_set_self l1] at hs;rw [List.getElem?_set_self l2] at hv
    cases hs;cases hv;exact e
  · rw [List.getElem?_set_ne q] at hs hv
    exact h.2 i s' v' hs hv
theorem qAC {H:Hd} {b:List Int} (h:b.length=8):qFf H (b.map .int) qGn (b.map .int):=by
  refine⟨by rw [List.length_map,h];rfl,fun i s v hs hv=>?_⟩
  have hi:i<8:=(List.getElem?_eq_some_iff.mp hs).1
  have:s=qD1 i:=by
    match i,hi with
    | 0,_=>cases hs;rfl
    | 1,_=>cases hs;rfl
    | 2,_=>cases hs;rfl
    | 3,_=>cases hs;rfl
    | 4,_=>cases hs;rfl
    | 5,_=>cases hs;rfl
    | 6,_=>cases hs;rfl
    | 7,_=>cases hs;rfl
  subst this
  exact .old i v hv
theorem qAA {H:Hd} {m:M3}:qFf H (mL m) qAg (mL m):=by
  refine⟨rfl,fun i s v hs hv=>?_⟩
  have hi:i<3:=(List.getElem?_eq_some_iff.mp hs).1
  have:s=qD1 i:=by
    match i,hi with
    | 0,_=>cases hs;rfl
    | 1,_=>cases hs;rfl
    | 2,_=>cases hs;rfl
  subst this
  exact .old i v hv
theorem qHd {H:Hd} {old:List Dt} {m:M3} (a:inH H 4 = .bl m.1) (b:inH H 5 = .bl m.2.1) (c:inH H 6 = .bl m.2.2):qFf H old qKA (mL m):=by
  refine⟨rfl,fun i s v hs hv=>?_⟩
  have hi:i<3:=(List.getElem?_eq_some_iff.mp hs).1
  match i,hi with
  | 0,_=>cases hs;cases hv;rw [← a];exact .hand 4
  | 1,_=>cases hs;cases hv;rw [← b];exact .hand 5
  | 2,_=>cases hs;cases hv;rw [← c];exact .hand 6
theorem qDN {H:Hd} {b:List Int} {a:Nat} {v:Int} (h:b.length=8) (e:inH H 2 = .int v):qFf H (b.map .int) (bsE (some (a,2))) ((b.set a v).map .int):=by
  rw [List.map_set]
  refine qOZ (qAC h) ?_
  rw [← e];exact .hand 2
structure qBN (given wt:List Int) (g:GS) (rs:List Rw) (es:List Ex) (how:Str) (g':GS) (told:List Int) (n:Int) (heard:Nat):Prop where
  ex:∃ m' e r c ex,Go given wt 0 (start g) rs m' e r c∧es[e]? = some ex∧ex.bs.length≤100∧ex.ms.length≤100∧qEQ m'.H m'.g ex (qCl r m') g'∧ex.how=how∧m'.told=told∧ex.n=n∧m'.heard=heard
theorem qTK {b:Option (Nat×Int)}:(bsE b).length≤100:=by
  cases b with
  | none=>decide
  | some x=>show (qGn.set _ _).length≤100;rw [List.length_set];decide
section
variable {given wt:List Int} {g:GS} {m m':Ms} {rs:List Rw} {e c c':Nat} {r r':Rw}
theorem qBg (ok:g.Ok) {a:Int} (h0:0≤a) (h8:a<8):g.bs[a.toNat]? = some (bx g a):=by
  have:a.toNat<g.bs.length:=by rw [ok.b8];omega
  unfold bx
  rw [List.getD_eq_getElem?_getD,List.getElem?_eq_getElem this];rfl
theorem qB3 (ok:g.Ok) {a:Int} (h0:0≤a) (h8:a<8):0≤bx g a∧bx g a<65536:=by
  have h:=qBg ok h0 h8
  exact ok.bb _ (List.mem_of_getElem? h)
theorem qRc {d k v:Int} (hb:m.H.bx[k.toNat]? = some v) (h0:0≤k):Step given wt m ⟨"box",[d,k]⟩ none { m with H:=qBG m.H d (.int v) }:=by
  have:=Puts.box (H:=m.H) d k.toNat v hb
  rw [Int.toNat_of_nonneg h0] at this
  exact .put _ _ this
theorem qFm (ok:m.g.Ok):Go given wt c m [qA1] m 0 qA1 (c+1):=.here c m m qA1 [] 0 ok (.last _ _ (.out 0))
theorem qAm:qCl qA1 m=false:=by
  unfold qCl;rw [decide_eq_false (by decide)];rfl
theorem qAL {H:Hd} {g1 g':GS} {how:Str} {at_:Dt} {b:Option (Nat×Int)} {ms:List Dt} {n p:Int} {vs:List Int} {mm:M3} (hp:At H at_ p) (hb:qFf H (H.bx.map .int) (bsE b) (vs.map .int)) (hm:qFf H (mL H.ms) ms (mL mm)) (e:g'=⟨p%65536,vs,mm,g1.sv,g1.rs,g1.cs⟩):qEQ H g1 (exE how at_ b ms n) false g':=by
  subst e;exact .go p vs mm hp hb hm
theorem qAJ {es:List Ex} {how:Str} {at_:Dt} {b:Option (Nat×Int)} {ms:List Dt} {n:Int} {g':GS} {told:List Int} {heard:Nat} (go:Go given wt 0 (start g) rs m' e r c) (he:es[e]? = some (exE how at_ b ms n)) (hm:ms.length≤100) (ou:qEQ m'.H m'.g (exE how at_ b ms n) (qCl r m') g') (ht:m'.told=told) (hh:m'.heard=heard):qBN given wt g rs es how g' told n heard :=
  ⟨m',e,r,c,_,go,he,qTK,hm,ou,rfl,ht,rfl,hh⟩
theorem qA6 {H':Hd} (ok:m.g.Ok) (pu:Puts m.H r H') (q:Go given wt (c+1) { m with H:=H' } rs m' e r' c'):Go given wt c m (r::rs) m' e r' c':=.next c m _ m' r r' rs e c' ok (.put _ _ pu) q
theorem qAp {d k v:Int} (ok:m.g.Ok) (hb:m.H.bx[k.toNat]? = some v) (h0:0≤k) (q:Go given wt (c+1) { m with H:=qBG m.H d (.int v) } rs m' e r' c'):Go given wt c m (⟨"box",[d,k]⟩::rs) m' e r' c':=.next c m _ m' _ r' rs e c' ok (qRc hb h0) q
theorem qEd {w:KD.IW} {ps:List Int} {d:Int} (ok:m.g.Ok) (it:ItR m.H r w ps d) (hb:∀ v∈ps,0≤v∧v<65536) (hne:(KD.qAF m.g w ps (given.getD m.heard 0)).1 ≠ "on") (he:(partsOf (qAD r.w) r.xs "e")[0]? = some (e:Int)):Go given wt c m (r::rs) (qEK m w ps given) e r (c+1):=.here c m _ r rs e ok (.fault r w ps d e it hb hne he)
theorem qPX {w:KD.IW} {ps:List Int} {d:Int} (ok:m.g.Ok) (it:ItR m.H r w ps d) (hb:∀ v∈ps,0≤v∧v<65536) (hne:(KD.qAF m.g w ps (given.getD m.heard 0)).1 = "on") (hs:KD.qEY w ps wt=true) (he:(partsOf (qAD r.w) r.xs "e")[1]? = some (e:Int)):Go given wt c m (r::rs) (qEK m w ps given) e r (c+1):=.here c m _ r rs e ok (.shut r w ps d e it hb hne hs he)
theorem qDl {w:KD.IW} {ps:List Int} {d:Int} (ok:m.g.Ok) (it:ItR m.H r w ps d) (hb:∀ v∈ps,0≤v∧v<65536) (hne:(KD.qAF m.g w ps (given.getD m.heard 0)).1 = "on") (hs:KD.qEY w ps wt=false) {m1:Ms} (ha:after m w ps given d=m1) (q:Go given wt (c+1) m1 rs m' e r' c'):Go given wt c m (r::rs) m' e r' c':=by
  subst ha;exact .next c m _ m' r r' rs e c' ok (.item r w ps d it hb hne hs) q
theorem qCi {a b:Int} (ha:0≤a∧a<65536) (hb:0≤b∧b<65536):∀ v∈[a,b],0≤v∧v<65536:=by
  intro v hv
  simp only [List.mem_cons,List.not_mem_nil,or_false] at hv
  rcases hv with rfl | rfl
  · exact ha
  · exact hb
theorem mod2 (p:Int):p%65536%65536=p%65536:=Int.emod_emod_of_dvd _ ⟨1,rfl⟩
theorem qSp {a:Nat} {v:Int} (ok:g.Ok):qBN given wt g [⟨"num",[2,v]⟩,qA1] [onE g.p (some (a,2)) qAg] "on" (qCC g a v) [] 1 0 :=
  qAJ (qA6 ok (.num 2 v) (qFm ok)) rfl (by decide) (by rw [qAm];exact qAL (.int _) (qDN ok.b8 rfl) qAA (by rw [mod2];rfl)) rfl rfl
theorem qT5 {v:KW.Vl} {x:Int} (h:v = .n x):K20.vD v = .int x:=by rw [h];rfl
theorem qTo {v:KW.Vl} {x:Bool} (h:v = .b x):K20.vD v = .bl x:=by rw [h];rfl
theorem qNL {a:Nat} {b c v:Int} {k:Bool} {o oc:KW.Op2} (ok:g.Ok) (b0:0≤b) (b8:b<8) (c0:0≤c) (c8:c<8) (hv:KW.two o (bx g b) (bx g c) = .n v) (hk:KW.two oc (bx g b) (bx g c) = .b k):qBN given wt g [⟨"box",[0,b]⟩,⟨"box",[1,c]⟩,⟨K20.nm o,[2,0,1]⟩,⟨"nought",[4,2]⟩,⟨"high",[5,2]⟩,⟨K20.nm oc,[6,0,1]⟩,qA1] (qLC g.p a) "on" (qEN g a v k) [] 1 0:=by
  have xb:=qB3 ok b0 b8
  have yb:=qB3 ok c0 c8
  have two1:=fun (H:Hd) (h0:inH H 0 = .int (bx g b)) (h1:inH H 1 = .int (bx g c))=>Puts.two (H:=H) o 2 0 1 _ _ h0 h1 xb.1 xb.2 yb.1 yb.2
  have two2:=fun (H:Hd) (h0:inH H 0 = .int (bx g b)) (h1:inH H 1 = .int (bx g c))=>Puts.two (H:=H) oc 6 0 1 _ _ h0 h1 xb.1 xb.2 yb.1 yb.2
  rw [qT5 hv] at two1;rw [qTo hk] at two2
  exact qAJ (qAp ok (qBg ok b0 b8) b0 (qAp ok (qBg ok c0 c8) c0 (qA6 ok (two1 _ rfl rfl) (qA6 ok (.nought 4 2 v rfl) (qA6 ok (.high 5 2 v rfl) (qA6 ok (two2 _ rfl rfl) (qFm ok))))))) rfl (by decide) (by rw [qAm];exact qAL (.int _) (qDN ok.b8 rfl) (qHd rfl rfl rfl) (by rw [mod2];rfl)) rfl rfl
theorem qEv (ok:g.Ok) (hp:g.p<65536):g=(⟨g.p%65536,g.bs,g.m,g.sv,g.rs,g.cs⟩:GS):=by
  rw [Int.emod_eq_of_lt ok.p0 hp]
theorem qQ3 (ok:g.Ok) {v:Int} {k:Bool}:(qEN g 0 v k).bs.getD 0 0=v:=by
  show (g.bs.set 0 v).getD 0 0=v
  rw [List.getD_eq_getElem?_getD,List.getElem?_set_self (by rw [ok.b8];decide)];rfl
theorem qOX (ok:g.Ok) {v:Int}:(qCC g 0 v).bs.getD 0 0=v:=by
  show (g.bs.set 0 v).getD 0 0=v
  rw [List.getD_eq_getElem?_getD,List.getElem?_set_self (by rw [ok.b8];decide)];rfl
theorem qSh {a:Nat} {b c:Int} (ok:g.Ok) (hp:g.p<65536) (b0:0≤b) (b8:b<8) (c0:0≤c) (c8:c<8):qBN given wt g [⟨"box",[0,b]⟩,⟨"box",[1,c]⟩,⟨"div",[2,0,1,1]⟩,⟨"nought",[4,2]⟩,⟨"high",[5,2]⟩,⟨K20.nm .rest,[6,0,1]⟩,qA1] (qLC g.p a) (qCP g a (bx g b) (bx g c)).1 (qCP g a (bx g b) (bx g c)).2.1 [] (if bx g c=0 then 0 else 1) 0:=by
  have xb:=qB3 ok b0 b8
  have yb:=qB3 ok c0 c8
  have hx:=qBg ok b0 b8
  have hy:=qBg ok c0 c8
  generalize bx g b=x at xb hx
  generalize bx g c=y at yb hy
  by_cases hz:y=0
  · subst hz
    rw [show qCP g a x 0=qBM "nought" g from if_pos rfl,if_pos rfl]
    refine qAJ (e:=1) (m':=qEK ⟨g,qBG (qBG ⟨[],[],g.bs,g.m⟩ 0 (.int x)) 1 (.int 0),[],0⟩ .div [x,0] given) (qAp ok hx b0 (qAp ok hy c0 (qEd ok (.div 2 0 1 1 x 0 rfl rfl) (qCi xb yb) ?_ (by decide +kernel)))) rfl (by decide) ?_ rfl rfl
    · show (qCP g 0 x 0).1 ≠ "on"
      rw [show qCP g 0 x 0=qBM "nought" g from if_pos rfl]
      show Str.ofString "nought" ≠ Str.ofString "on"
      decide
    · have hg:(KD.qAF g .div [x,0] (given.getD 0 0)).2.1=g:=by
        show (qCP g 0 x 0).2.1=g
        rw [show qCP g 0 x 0=qBM "nought" g from if_pos rfl];rfl
      show qEQ _ (KD.qAF g .div [x,0] (given.getD 0 0)).2.1 _ _ _
      rw [hg]
      rw [show qCl ⟨"div",[2,0,1,1]⟩ _=false from by unfold qCl;rw [decide_eq_false (by decide)];rfl]
      k_dat 0"r39"
  · rw [show qCP g a x y=onG (qEN g a (x / y) (decide (x%y≠0))) from if_neg hz,if_neg hz]
    have hg:KD.qAF g .div [x,y] (given.getD 0 0)=onG (qEN g 0 (x / y) (decide (x%y≠0))):=by
      show qCP g 0 x y=_
      exact if_neg hz
    have q16:0≤x / y∧x / y<65536:=by
      have h1:=Int.ediv_nonneg xb.1 yb.1
      have h2:=Int.ediv_le_self y xb.1
      omega
    have haf:∀ H:Hd,after ⟨g,H,[],0⟩ .div [x,y] given 2=⟨qEN g 0 (x / y) (decide (x%y≠0)),qBG H 2 (.int (x / y)),[],0⟩:=by
      intro H
      unfold after
      dsimp only
      rw [hg]
      show (⟨qEN g 0 (x / y) (decide (x%y≠0)),if KD.qCU .div then qBG H 2 (.int ((qEN g 0 (x / y) (decide (x%y≠0))).bs.getD 0 0)) else H,_,qFR _ .div _⟩:Ms)=_
      rw [qQ3 ok];rfl
    have hk:KW.two .rest x y = .b (decide (x%y≠0)):=by
      show KW.Vl.b (decide (y≠0)&&decide (x%y≠0))=_
      rw [decide_eq_true hz,Bool.true_and]
    have two2:=fun (H:Hd) (h0:inH H 0 = .int x) (h1:inH H 1 = .int y)=>Puts.two (H:=H) .rest 6 0 1 _ _ h0 h1 xb.1 xb.2 yb.1 yb.2
    rw [qTo hk] at two2
    have ok1:(qEN g 0 (x / y) (decide (x%y≠0))).Ok:=by
      have:=qCE (w:=.div) (x:=0) ok (qCi xb yb) (fun h=>by cases h) ⟨by decide,by decide⟩
      rw [show KD.qAF g .div [x,y] 0=onG (qEN g 0 (x / y) (decide (x%y≠0))) from if_neg hz] at this
      exact this
    refine qAJ (qAp ok hx b0 (qAp ok hy c0 (qDl ok (.div 2 0 1 1 x y rfl rfl) (qCi xb yb) (by show (KD.qAF g .div [x,y] (given.getD 0 0)).1 = "on";rw [hg];rfl) rfl (haf _) (qA6 ok1 (.nought 4 2 (x / y) rfl) (qA6 ok1 (.high 5 2 (x / y) rfl) (qA6 ok1 (two2 _ rfl rfl) (qFm ok1))))))) rfl (by decide) (by rw [qAm];exact qAL (.int _) (qDN ok.b8 rfl) (qHd rfl rfl rfl) (by rw [mod2];rfl)) rfl rfl
end
end K63
namespace K63
open PySem L2 L3 K02 K85 K06 KM
open KU (qCE)
open KT (qEc)
section
variable {given wt:List Int} {g:GS} {m m':Ms} {rs:List Rw} {e c c':Nat} {r r':Rw}
theorem qDd {w:Str} {xs:List Int} (h:w ≠ "back"):qCl ⟨w,xs⟩ m=false:=by
  unfold qCl;rw [decide_eq_false h];rfl
theorem qIL {w:Str} (h:w ≠ "on"):(qBM w g).1 ≠ "on":=h
theorem qSi {a:Nat} {b c h:Int} (ok:g.Ok) (hp:g.p<65536) (b0:0≤b) (b8:b<8) (c0:0≤c) (c6:c<65536) (hh:qEc (given.getD 0 0)):qBN given wt g (qEJ 7 a b c) (qD6 7 g.p a) (qCz g a (bx g b+c)).1 (qCz g a (bx g b+c)).2.1 [] (if may 1 g (bx g b+c)=true then 1 else 0) 0:=by
  have xb:=qB3 ok b0 b8
  have hx:=qBg ok b0 b8
  generalize bx g b=x at xb hx
  show qBN given wt g [⟨"box",[0,b]⟩,⟨"num",[1,c]⟩,⟨"get",[2,0,1,1]⟩,qA1] [onE g.p (some (a,2)) qAg,noE "closed" g.p] _ _ _ _ _
  have hi:KD.qAF g .get [x,c] (given.getD 0 0)=qCz g 0 (x+c):=rfl
  by_cases hm:may 1 g (x+c)=true
  · rw [show qCz g a (x+c)=onG (qCC g a (g.cs.getD (x+c).toNat 0)) from if_pos hm,if_pos hm]
    rw [show qCz g 0 (x+c)=onG (qCC g 0 (g.cs.getD (x+c).toNat 0)) from if_pos hm] at hi
    generalize g.cs.getD (x+c).toNat 0=v at hi
    have ok1:=qCE (w:=.get) ok (qCi xb ⟨c0,c6⟩) (fun h=>by cases h) hh
    rw [hi] at ok1
    have haf:∀ H:Hd,after ⟨g,H,[],0⟩ .get [x,c] given 2=⟨qCC g 0 v,qBG H 2 (.int v),[],0⟩:=by
      intro H
      unfold after
      dsimp only
      rw [hi]
      show (⟨qCC g 0 v,if KD.qCU .get then qBG H 2 (.int ((qCC g 0 v).bs.getD 0 0)) else H,_,qFR _ .get _⟩:Ms)=_
      rw [qOX ok];rfl
    exact qAJ (qAp ok hx b0 (qA6 ok (.num 1 c) (qDl ok (.get 2 0 1 1 x c rfl rfl) (qCi xb ⟨c0,c6⟩) (by show (KD.qAF g .get [x,c] (given.getD 0 0)).1 = "on";rw [hi];rfl) rfl (haf _) (qFm ok1)))) rfl (by decide) (by rw [qAm];exact qAL (.int _) (qDN ok.b8 rfl) qAA (by rw [mod2];rfl)) rfl rfl
  · rw [show qCz g a (x+c)=qBM "closed" g from if_neg hm,if_neg hm]
    rw [show qCz g 0 (x+c)=qBM "closed" g from if_neg hm] at hi
    refine qAJ (e:=1) (qAp ok hx b0 (qA6 ok (.num 1 c) (qEd ok (.get 2 0 1 1 x c rfl rfl) (qCi xb ⟨c0,c6⟩) (by show (KD.qAF g .get [x,c] (given.getD 0 0)).1 ≠ "on";rw [hi];exact qIL (by decide)) (by decide +kernel)))) rfl (by decide) ?_ ?_ rfl
    · show qEQ _ (KD.qAF g .get [x,c] (given.getD 0 0)).2.1 _ _ _
      rw [hi,qDd (by decide)]
      k_dat 0"r39"
    · show []++(KD.qAF g .get [x,c] (given.getD 0 0)).2.2=[]
      rw [hi];rfl
theorem qPf {a:Nat} {b c:Int} (ok:g.Ok) (hp:g.p<65536) (a8:a<8) (c0:0≤c) (hh:qEc (given.getD 0 0)):qBN given wt g (qEJ 14 a b c) (qD6 14 g.p a) (qAw g (bx g a) (c%8)).1 (qAw g (bx g a) (c%8)).2.1 [] (if 0≤bx g a∧bx g a<g.rs.length then 1 else 0) 0:=by
  have xb:=qB3 ok (show (0:Int)≤(a:Int) by omega) (show (a:Int)<8 by omega)
  k_dat 0"r79"
  generalize bx g a=x at xb hx
  have k8:0≤c%8∧c%8<8:=by omega
  show qBN given wt g [⟨"box",[0,(a:Int)]⟩,⟨"num",[1,c%8]⟩,⟨"right",[0,1,1]⟩,qA1] [onE g.p none qAg,noE "closed" g.p] _ _ _ _ _
  generalize c%8=k at k8
  have kb:0≤k∧k<65536:=by omega
  have hi:KD.qAF g .right [x,k] (given.getD 0 0)=qAw g x k:=rfl
  by_cases hm:0≤x∧x<g.rs.length
  · rw [if_pos hm]
    rw [show qAw g x k=onG { next g with rs:=g.rs.set x.toNat k } from if_pos hm] at hi ⊢
    have ok1:=qCE (w:=.right) ok (qCi xb kb) (fun _=>k8.2) hh
    rw [hi] at ok1
    have haf:∀ H:Hd,after ⟨g,H,[],0⟩ .right [x,k] given 0=⟨{ next g with rs:=g.rs.set x.toNat k },H,[],0⟩:=by
      intro H
      unfold after
      dsimp only
      rw [hi];rfl
    exact qAJ (qAp ok hx (by omega) (qA6 ok (.num 1 k) (qDl ok (.right 0 1 1 x k rfl rfl) (qCi xb kb) (by show (KD.qAF g .right [x,k] (given.getD 0 0)).1 = "on";rw [hi];rfl) rfl (haf _) (qFm ok1)))) rfl (by decide) (by rw [qAm];exact qAL (.int _) (qAC ok.b8) qAA (by rw [mod2];rfl)) rfl rfl
  · rw [if_neg hm]
    rw [show qAw g x k=qBM "closed" g from if_neg hm] at hi ⊢
    refine qAJ (e:=1) (qAp ok hx (by omega) (qA6 ok (.num 1 k) (qEd ok (.right 0 1 1 x k rfl rfl) (qCi xb kb) (by show (KD.qAF g .right [x,k] (given.getD 0 0)).1 ≠ "on";rw [hi];exact qIL (by decide)) (by decide +kernel)))) rfl (by decide) ?_ ?_ rfl
    · show qEQ _ (KD.qAF g .right [x,k] (given.getD 0 0)).2.1 _ _ _
      rw [hi,qDd (by decide)]
      k_dat 0"r39"
    · show []++(KD.qAF g .right [x,k] (given.getD 0 0)).2.2=[]
      rw [hi];rfl
noncomputable def qDy (wt:List Int) (q:Int):Bool:=(wt.map Dt.int).any fun z=>eqD 0 z (.int (q / 8))
theorem qN3 {a b c:Int} (ha:0≤a∧a<65536) (hb:0≤b∧b<65536) (hc:0≤c∧c<65536):∀ v∈[a,b,c],0≤v∧v<65536:=by
  intro v hv
  simp only [List.mem_cons,List.not_mem_nil,or_false] at hv
  rcases hv with rfl | rfl | rfl
  · exact ha
  · exact hb
  · exact hc
theorem qTE {a:Nat} {b c:Int} (ok:g.Ok) (hp:g.p<65536) (a8:a<8) (b0:0≤b) (b8:b<8) (c0:0≤c) (c6:c<65536) (hh:qEc (given.getD 0 0)):qBN given wt g (qEJ 8 a b c) (qD6 8 g.p a) (if may 2 g (bx g b+c)=true then (if qDy wt (bx g b+c)=true then "shut" else "on") else "closed") (setG g (bx g a) (bx g b+c)).2.1 [] (if may 2 g (bx g b+c)=true then 1 else 0) 0:=by
  have xb:=qB3 ok b0 b8
  have hx:=qBg ok b0 b8
  have zb:=qB3 ok (show (0:Int)≤(a:Int) by omega) (show (a:Int)<8 by omega)
  have hz:=qBg ok (show (0:Int)≤(a:Int) by omega) (show (a:Int)<8 by omega)
  generalize bx g b=x at xb hx
  generalize bx g a=z at zb hz
  have t3:=qN3 xb ⟨c0,c6⟩ zb
  show qBN given wt g [⟨"box",[0,b]⟩,⟨"num",[1,c]⟩,⟨"box",[2,(a:Int)]⟩,⟨"set",[0,1,2,1,2]⟩,qA1] [onE g.p none qAg,noE "closed" g.p,exE "shut" (.int ((g.p+1)%65536)) none qAg 1] _ _ _ _ _
  have hi:KD.qAF g .set [x,c,z] (given.getD 0 0)=setG g z (x+c):=rfl
  by_cases hm:may 2 g (x+c)=true
  · rw [if_pos hm,if_pos hm]
    rw [show setG g z (x+c)=onG { next g with cs:=g.cs.set (x+c).toNat z } from if_pos hm] at hi ⊢
    have ok1:=qCE (w:=.set) ok t3 (fun h=>by cases h) hh
    rw [hi] at ok1
    by_cases hs:qDy wt (x+c)=true
    · rw [if_pos hs]
      refine qAJ (e:=2) (qAp ok hx b0 (qA6 ok (.num 1 c) (qAp ok hz (by omega) (qPX ok (.set 0 1 2 1 2 x c z rfl rfl rfl) t3 (by show (KD.qAF g .set [x,c,z] (given.getD 0 0)).1 = "on";rw [hi];rfl) ?_ (by decide +kernel))))) rfl (by decide) ?_ ?_ rfl
      · show (true&&qDy wt (x+c))=true
        rw [hs];rfl
      · show qEQ _ (KD.qAF g .set [x,c,z] (given.getD 0 0)).2.1 _ _ _
        rw [hi,qDd (by decide)]
        exact qAL (.int _) (qAC ok.b8) qAA (by rw [mod2];rfl)
      · show []++(KD.qAF g .set [x,c,z] (given.getD 0 0)).2.2=[]
        rw [hi];rfl
    · rw [if_neg hs]
      have haf:∀ H:Hd,after ⟨g,H,[],0⟩ .set [x,c,z] given 0=⟨{ next g with cs:=g.cs.set (x+c).toNat z },H,[],0⟩:=by
        intro H
        unfold after
        dsimp only
        rw [hi];rfl
      exact qAJ (qAp ok hx b0 (qA6 ok (.num 1 c) (qAp ok hz (by omega) (qDl ok (.set 0 1 2 1 2 x c z rfl rfl rfl) t3 (by show (KD.qAF g .set [x,c,z] (given.getD 0 0)).1 = "on";rw [hi];rfl) (by show (true&&qDy wt (x+c))=false;rw [Bool.not_eq_true] at hs;rw [hs];rfl) (haf _) (qFm ok1))))) rfl (by decide) (by rw [qAm];exact qAL (.int _) (qAC ok.b8) qAA (by rw [mod2];rfl)) rfl rfl
  · rw [if_neg hm,if_neg hm]
    rw [show setG g z (x+c)=qBM "closed" g from if_neg hm] at hi ⊢
    refine qAJ (e:=1) (qAp ok hx b0 (qA6 ok (.num 1 c) (qAp ok hz (by omega) (qEd ok (.set 0 1 2 1 2 x c z rfl rfl rfl) t3 (by show (KD.qAF g .set [x,c,z] (given.getD 0 0)).1 ≠ "on";rw [hi];exact qIL (by decide)) (by decide +kernel))))) rfl (by decide) ?_ ?_ rfl
    · show qEQ _ (KD.qAF g .set [x,c,z] (given.getD 0 0)).2.1 _ _ _
      rw [hi,qDd (by decide)]
      k_dat 0"r39"
    · show []++(KD.qAF g .set [x,c,z] (given.getD 0 0)).2.2=[]
      rw [hi];rfl
theorem qSC {a:Nat} {b c:Int} (ok:g.Ok) (a8:a<8) (hh:qEc (given.getD 0 0)):qBN given wt g (qEJ 12 a b c) (qD6 12 g.p a) "on" (next g) [bx g a] 1 0:=by
  have xb:=qB3 ok (show (0:Int)≤(a:Int) by omega) (show (a:Int)<8 by omega)
  k_dat 0"r79"
  generalize bx g a=x at xb hx
  show qBN given wt g [⟨"box",[0,(a:Int)]⟩,⟨"tell",[0]⟩,qA1] [onE g.p none qAg] _ _ _ _ _
  have hb:∀ v∈[x],0≤v∧v<65536:=by intro v hv;rw [List.mem_singleton] at hv;subst hv;exact xb
  exact qAJ (qAp ok hx (by omega) (qDl ok (.tell 0 x rfl) hb rfl rfl (rfl:after ⟨g,_,[],0⟩ .tell [x] given 0=⟨g,_,[x],0⟩) (qFm ok))) rfl (by decide) (by rw [qAm];exact qAL (.int _) (qAC ok.b8) qAA (by rw [mod2];rfl)) rfl rfl
theorem qRf {a:Nat} {b c h:Int} {gs:List Int} (ok:g.Ok) (hh:qEc h):qBN (h::gs) wt g (qEJ 13 a b c) (qD6 13 g.p a) "on" (qCC g a h) [] 1 1:=by
  show qBN (h::gs) wt g [⟨"hear",[2]⟩,qA1] [onE g.p (some (a,2)) qAg] _ _ _ _ _
  have haf:∀ H:Hd,after ⟨g,H,[],0⟩ .hear [] (h::gs) 2=⟨qCC g 0 h,qBG H 2 (.int h),[],1⟩:=by
    intro H
    show (⟨qCC g 0 h,if KD.qCU .hear then qBG H 2 (.int ((qCC g 0 h).bs.getD 0 0)) else H,_,qFR _ .hear _⟩:Ms)=_
    rw [qOX ok]
    show (⟨qCC g 0 h,qBG H 2 (.int h),[],if (true&&decide (0<gs.length+1))=true then 0+1 else 0⟩:Ms)=_
    rw [decide_eq_true (by omega)];rfl
  have ok1:(qCC g 0 h).Ok:=qCE (w:=.hear) (ps:=[]) (x:=h) ok (fun v hv=>by cases hv) (fun h=>by cases h) hh
  exact qAJ (qDl ok (.hear 2) (fun v hv=>by cases hv) rfl rfl (haf _) (qFm ok1)) rfl (by decide) (by rw [qAm];exact qAL (.int _) (qDN ok.b8 rfl) qAA (by rw [mod2];rfl)) rfl rfl
end
end K63
namespace K63
open PySem L2 L3 K02 K85 K06 KM
open KU (qCE)
open KT (qEc)
section
variable {given wt:List Int} {g:GS} {m m':Ms} {rs:List Rw} {e c c':Nat} {r r':Rw}
theorem qQG (p c:Int):(p+c - 31)%65536%65536=(p+1+c - 32)%65536:=by
  rw [mod2];congr 1;omega
theorem qQH {c:Int} {es:List Ex} (ok:g.Ok) (he:es[0]? = some (qG4 g.p c)):qBN given wt g [qA1] es "on" (leap g c) [] 1 0 :=
  qAJ (qFm ok) he (by decide) (by rw [qAm];exact qAL (.int _) (qAC ok.b8) qAA (by rw [qQG];rfl)) rfl rfl
theorem qQK {es:List Ex} (ok:g.Ok) (he:es[0]? = some (onE g.p none qAg)):qBN given wt g [qA1] es "on" (next g) [] 1 0 :=
  qAJ (qFm ok) he (by decide) (by rw [qAm];exact qAL (.int _) (qAC ok.b8) qAA (by rw [mod2];rfl)) rfl rfl
theorem qOD {how:Str} {es:List Ex} (ok:g.Ok) (hp:g.p<65536) (he:es[0]? = some (noE how g.p)):qBN given wt g [qA1] es how g [] 0 0 :=
  qAJ (qFm ok) he (by decide) (by rw [qAm];exact qAL (.int _) (qAC ok.b8) qAA (qEv ok hp)) rfl rfl
theorem qT3 {a:Nat} (ok:g.Ok) (a8:a<8):qBN given wt g [⟨"box",[0,(a:Int)]⟩,qA1] [exE "on" (qI4 0) none qAg 1] "on" { g with p:=bx g a%65536 } [] 1 0:=by
  k_dat 0"r79"
  exact qAJ (qAp ok hx (by omega) (qFm ok)) rfl (by decide) (by rw [qAm];exact qAL (.hand "hand" 0 (bx g a) rfl) (qAC ok.b8) qAA rfl) rfl rfl
theorem qRR (ok:g.Ok) (hp:g.p<65536):qBN given wt g [⟨"back",[1,0]⟩] [onE g.p none qAg,noE "bad" g.p] (qCd g).1 (qCd g).2.1 [] (if g.sv.isSome then 1 else 0) 0:=by
  have la:=Last.back (H:=(start g).H) (sv:=g.sv) 1 0
  cases hs:g.sv with
  | none =>
    have e1:qCd g=qBM "bad" g:=by unfold qCd;rw [hs]
    rw [e1]
    have l1:Last (start g).H g.sv ⟨"back",[1,0]⟩ 1:=by rw [hs] at la ⊢;exact la
    refine qAJ (e:=1) (.here 0 (start g) (start g) ⟨"back",[1,0]⟩ [] 1 ok (.last _ _ l1)) rfl (by decide) ?_ rfl rfl
    have:qCl ⟨"back",[1,0]⟩ (start g)=false:=by
      show (_&&g.sv.isSome)=false
      rw [hs];exact Bool.and_false _
    rw [this]
    k_dat 0"r39"
  | some q =>
    obtain⟨q,mm⟩:=q
    have e1:qCd g=onG { g with p:=q,m:=mm,sv:=none }:=by unfold qCd;rw [hs]
    rw [e1]
    have l1:Last (start g).H g.sv ⟨"back",[1,0]⟩ 0:=by rw [hs] at la ⊢;exact la
    refine qAJ (e:=0) (.here 0 (start g) (start g) ⟨"back",[1,0]⟩ [] 0 ok (.last _ _ l1)) rfl (by decide) ?_ rfl rfl
    have:qCl ⟨"back",[1,0]⟩ (start g)=true:=by
      show (decide (Str.ofString "back" = Str.ofString "back")&&g.sv.isSome)=true
      rw [hs];rfl
    rw [this]
    exact .back q mm g.bs hs (qAC ok.b8)
theorem qRm {a:Nat} {c:Int} (ok:g.Ok) (a6:a<6):qBN given wt g [⟨"mark",[4,(a:Int) / 2]⟩,⟨"when",[4,(a:Int)%2,1 - (a:Int)%2]⟩] [qG4 g.p c,onE g.p none qAg] "on" (if qDx a g.m=true then leap g c else next g) [] 1 0:=by
  have key:∀ (k:Nat) (t:Bool) (x y:Int),(mL g.m)[k]? = some (.bl t)→Go given wt 0 (start g) [⟨"mark",[4,(k:Int)]⟩,⟨"when",[4,x,y]⟩] ⟨g,qBG (start g).H 4 (.bl t),[],0⟩ (if t then x else y).toNat ⟨"when",[4,x,y]⟩ 2∨(if t then x else y)<0:=by
    intro k t x y hk
    by_cases h0:(if t then x else y)<0
    · exact .inr h0
    · refine .inl (qA6 ok (.mark 4 k _ hk) (.here 1 _ _ _ [] _ ok ?_))
      have l:=Last.whn (H:=qBG (start g).H 4 (.bl t)) (sv:=g.sv) 4 x y t rfl
      rw [Int.toNat_of_nonneg (by omega)]
      exact .last _ _ l
  have fin:∀ (b:Bool) (m1:Ms) (r:Rw) (rs:List Rw) (n:Nat),m1.g=g→m1.H.bx=g.bs→m1.H.ms=g.m→m1.told=[]→m1.heard=0→qCl r m1=false→Go given wt 0 (start g) rs m1 (if b then 0 else 1) r n→qBN given wt g rs [qG4 g.p c,onE g.p none qAg] "on" (if b=true then leap g c else next g) [] 1 0:=by
    intro b m1 r rs n h1 h2 h3 h4 h5 hk go
    cases b with
    | true =>
      refine qAJ go rfl (by decide) ?_ h4 h5
      rw [hk]
      exact qAL (.int _) (by rw [h2];exact qAC ok.b8) (by rw [h3];exact qAA) (by rw [qQG,h1];rfl)
    | false =>
      refine qAJ go rfl (by decide) ?_ h4 h5
      rw [hk]
      exact qAL (.int _) (by rw [h2];exact qAC ok.b8) (by rw [h3];exact qAA) (by rw [mod2,h1];rfl)
  have go2:∀ (k:Nat) (t b:Bool) (x y:Int),(mL g.m)[k]? = some (.bl t)→(if t then x else y)=(if b then 0 else 1)→qBN given wt g [⟨"mark",[4,(k:Int)]⟩,⟨"when",[4,x,y]⟩] [qG4 g.p c,onE g.p none qAg] "on" (if b=true then leap g c else next g) [] 1 0:=by
    intro k t b x y hk he
    rcases key k t x y hk with h | h
    · refine fin b ⟨g,qBG (start g).H 4 (.bl t),[],0⟩ ⟨"when",[4,x,y]⟩ _ 2 rfl rfl rfl rfl rfl (qDd (by decide)) ?_
      rw [he] at h
      cases b<;>exact h
    · rw [he] at h
      cases b<;>simp at h
  match a,a6 with
  | 0,_=>exact go2 0 g.m.1 g.m.1 0 1 rfl (by cases g.m.1<;>rfl)
  | 1,_=>exact go2 0 g.m.1 (!g.m.1) 1 0 rfl (by cases g.m.1<;>rfl)
  | 2,_=>exact go2 1 g.m.2.1 g.m.2.1 0 1 rfl (by cases g.m.2.1<;>rfl)
  | 3,_=>exact go2 1 g.m.2.1 (!g.m.2.1) 1 0 rfl (by cases g.m.2.1<;>rfl)
  | 4,_=>exact go2 2 g.m.2.2 g.m.2.2 0 1 rfl (by cases g.m.2.2<;>rfl)
  | 5,_=>exact go2 2 g.m.2.2 (!g.m.2.2) 1 0 rfl (by cases g.m.2.2<;>rfl)
end
noncomputable def qG7 (w:Int) (wt:List Int) (q:Int) (how:Str):Str:=if w=8∧how = "on" then (if qDy wt q=true then "shut" else "on") else how
noncomputable def qC8 (how:Str):Int:=if how = "on" ∨ how = "shut" then 1 else 0
theorem qKI {wt gs:List Int} {g:GS} {h w b c:Int} {a:Nat} (ok:g.Ok) (hp:g.p<65536) (hh:qEc h) (w0:0≤w) (w6:w<16) (a8:a<8) (b0:0≤b) (b8:b<8) (c0:0≤c) (c6:c<64) :
    qBN (h::gs) wt g (blR w a b c) (blE w a c g.p) (qG7 w wt (bx g b+c) (doW g w a b c h).1) (doW g w a b c h).2.1 (doW g w a b c h).2.2 (qC8 (qG7 w wt (bx g b+c) (doW g w a b c h).1)) (if w=13 then 1 else 0):=by
  have m8:0≤c%8∧c%8<8:=by omega
  have e:w=0∨w=1∨w=2∨w=3∨w=4∨w=5∨w=6∨w=7∨w=8∨w=9∨w=10∨w=11∨w=12∨w=13∨w=14∨w=15:=by omega
  rcases e with rfl | rfl | rfl | rfl | rfl | rfl | rfl | rfl | rfl | rfl | rfl | rfl | rfl | rfl | rfl | rfl
  · exact qOD (how:= "halt") ok hp rfl
  · exact qSp ok
  · have x:=qNL (given:=h::gs) (wt:=wt) (a:=a) (o:=.add) (oc:=.over) ok b0 b8 m8.1 m8.2 rfl rfl
    have xb:=qB3 ok b0 b8
    have yb:=qB3 ok m8.1 m8.2
    have e:(decide (65536≤bx g b+bx g (c%8))) = !(decide (0≤bx g b+bx g (c%8))&&decide (bx g b+bx g (c%8)<65536)):=by
      rw [decide_eq_true (show 0≤bx g b+bx g (c%8) by omega),Bool.true_and,← decide_not]
      congr 1;simp
    rw [e] at x
    exact x
  · have x:=qNL (given:=h::gs) (wt:=wt) (a:=a) (o:=.sub) (oc:=.under) ok b0 b8 m8.1 m8.2 rfl rfl
    have xb:=qB3 ok b0 b8
    have yb:=qB3 ok m8.1 m8.2
    have e:(decide (bx g b<bx g (c%8))) = !(decide (0≤bx g b - bx g (c%8))&&decide (bx g b - bx g (c%8)<65536)):=by
      rw [decide_eq_true (show bx g b - bx g (c%8)<65536 by omega),Bool.and_true,← decide_not]
      congr 1;simp
    rw [e] at x
    exact x
  · have x:=qNL (given:=h::gs) (wt:=wt) (a:=a) (o:=.mul) (oc:=.wide) ok b0 b8 m8.1 m8.2 rfl rfl
    have xb:=qB3 ok b0 b8
    have yb:=qB3 ok m8.1 m8.2
    have e:(decide (65536≤bx g b * bx g (c%8))) = !(decide (0≤bx g b * bx g (c%8))&&decide (bx g b * bx g (c%8)<65536)):=by
      rw [decide_eq_true (show 0≤bx g b * bx g (c%8) from Int.mul_nonneg xb.1 yb.1),Bool.true_and,← decide_not]
      congr 1;simp
    rw [e] at x
    exact x
  · exact qOD (how:= "bad") ok hp rfl
  · have x:=qSh (given:=h::gs) (wt:=wt) (a:=a) ok hp b0 b8 m8.1 m8.2
    show qBN _ _ _ _ _ (qCP g a (bx g b) (bx g (c%8))).1 (qCP g a (bx g b) (bx g (c%8))).2.1 (qCP g a (bx g b) (bx g (c%8))).2.2 (qC8 (qCP g a (bx g b) (bx g (c%8))).1) 0
    unfold qCP at x ⊢
    by_cases hz:bx g (c%8)=0
    · k_dat 0"r80"
    · k_dat 0"r81"
  · have x:=qSi (given:=h::gs) (wt:=wt) (a:=a) (h:=0) ok hp b0 b8 c0 (show c<65536 by omega) hh
    show qBN _ _ _ _ _ (qCz g a (bx g b+c)).1 (qCz g a (bx g b+c)).2.1 (qCz g a (bx g b+c)).2.2 (qC8 (qCz g a (bx g b+c)).1) 0
    unfold qCz at x ⊢
    by_cases hz:may 1 g (bx g b+c)=true
    · k_dat 0"r80"
    · k_dat 0"r81"
  · have x:=qTE (given:=h::gs) (wt:=wt) (a:=a) ok hp a8 b0 b8 c0 (show c<65536 by omega) hh
    show qBN _ _ _ _ _ (qG7 8 wt (bx g b+c) (setG g (bx g a) (bx g b+c)).1) (setG g (bx g a) (bx g b+c)).2.1 (setG g (bx g a) (bx g b+c)).2.2 (qC8 (qG7 8 wt (bx g b+c) (setG g (bx g a) (bx g b+c)).1)) 0
    unfold setG at x ⊢
    by_cases hz:may 2 g (bx g b+c)=true
    · rw [if_pos hz,if_pos hz,if_pos hz] at x;rw [if_pos hz]
      have e:qG7 8 wt (bx g b+c) (onG { next g with cs:=g.cs.set (bx g b+c).toNat (bx g a) }).1=(if qDy wt (bx g b+c)=true then (Str.ofString "shut") else Str.ofString "on"):=if_pos ⟨rfl,rfl⟩
      rw [e]
      by_cases hs:qDy wt (bx g b+c)=true
      · rw [if_pos hs] at x ⊢;exact x
      · rw [if_neg hs] at x ⊢;exact x
    · rw [if_neg hz,if_neg hz,if_neg hz] at x;rw [if_neg hz]
      have e:qG7 8 wt (bx g b+c) (qBM "closed" g).1 = "closed":=if_neg (fun q=>by have:=q.2;revert this;show ¬ (Str.ofString "closed" = Str.ofString "on");decide)
      rw [e];exact x
  · exact qQH ok rfl
  · show qBN _ _ _ (qDH 10 a) (qFK 10 a g.p c) (qG7 10 wt (bx g b+c) (if qDx a g.m=true then onG (leap g c) else onG (next g)).1) (if qDx a g.m=true then onG (leap g c) else onG (next g)).2.1 (if qDx a g.m=true then onG (leap g c) else onG (next g)).2.2 (qC8 (qG7 10 wt (bx g b+c) (if qDx a g.m=true then onG (leap g c) else onG (next g)).1)) 0
    by_cases a6:a<6
    · have x:=qRm (given:=h::gs) (wt:=wt) (a:=a) (c:=c) ok a6
      have e1:qDH 10 a=[⟨"mark",[4,(a:Int) / 2]⟩,⟨"when",[4,(a:Int)%2,1 - (a:Int)%2]⟩]:=by
        unfold qDH
        rw [if_neg (by omega),if_neg (by omega),if_pos rfl]
      have e2:qFK 10 a g.p c=[qG4 g.p c,onE g.p none qAg]:=by
        unfold qFK
        rw [if_neg (by omega),if_neg (by omega),if_pos rfl]
      rw [e1,e2]
      by_cases hz:qDx a g.m=true
      · rw [if_pos hz] at x ⊢;exact x
      · rw [if_neg hz] at x ⊢;exact x
    · have:a=6∨a=7:=by omega
      rcases this with rfl | rfl
      · exact qQH ok rfl
      · exact qQK ok rfl
  · exact qT3 ok a8
  · exact qSC (b:=b) (c:=c) ok a8 hh
  · exact qRf (b:=b) (c:=c) ok hh
  · have x:=qPf (given:=h::gs) (wt:=wt) (a:=a) (b:=b) ok hp a8 c0 hh
    show qBN _ _ _ _ _ (qAw g (bx g a) (c%8)).1 (qAw g (bx g a) (c%8)).2.1 (qAw g (bx g a) (c%8)).2.2 (qC8 (qAw g (bx g a) (c%8)).1) 0
    unfold qAw at x ⊢
    by_cases hz:0≤bx g a∧bx g a<g.rs.length
    · k_dat 0"r80"
    · k_dat 0"r81"
  · have x:=qRR (given:=h::gs) (wt:=wt) ok hp
    show qBN _ _ _ _ _ (qCd g).1 (qCd g).2.1 (qCd g).2.2 (qC8 (qCd g).1) 0
    unfold qCd at x ⊢
    cases hs:g.sv with
    | none=>rw [hs] at x;exact x
    | some q=>rw [hs] at x;exact x
end K63
namespace K62
open PySem PySem.Spec PyProof.Rows L2 L3 KS K02 K85 K06 KM KL
end K62
namespace K62
open PySem PySem.Spec PyProof.Rows L2 L3 KS K02 K85 K06 KM KL
theorem qLK {n:Nat} (xs:List Int):KL.okS (n+2) (.tup (xs.map .int))=true:=by
  show (xs.map Dt.int).all (KL.okS (n+1))=true
  rw [List.all_eq_true]
  intro d hd
  obtain⟨v,-,rfl⟩:=List.mem_map.mp hd
  rfl
theorem qM1 (g:GS):KL.okS 4 g.d=true:=by
  show [Dt.int g.p,.tup (g.bs.map .int),msD g.m,svD g.sv,.tup (g.rs.map .int),.tup (g.cs.map .int)].all (KL.okS 3)=true
  have e1:KL.okS 3 (svD g.sv)=true:=by
    cases g.sv with
    | none=>rfl
    | some q=>rfl
  simp only [List.all_cons,List.all_nil,qLK,e1,Bool.and_true]
  rfl
end K62
namespace K63
open PySem PySem.Spec PyProof.Rows L2 L3 KS K02 K85 K06 KM KL
abbrev qBw:TSD:=(tseq (qP (qg (qA (qC (Dt.str "halt")) (qA (qC (Dt.str "put")) (qA (qC (Dt.str "add")) (qA (qC (Dt.str "sub")) (qA (qC (Dt.str "mul")) (qA (qC (Dt.str "bad")) (qA (qC (Dt.str "div")) (qA (qC (Dt.str "get")) (qA (qC (Dt.str "set")) (qA (qC (Dt.str "jump")) (qA (qC (Dt.str "when")) (qA (qC (Dt.str "go")) (qA (qC (Dt.str "tell")) (qA (qC (Dt.str "hear")) qD))))))))))))))) (qJ 1)) (tseq (qM (qN (qA (qE qI (qE L3.qu (qB 1) (qg (qA (qC (Dt.str "right")) (qA (qC (Dt.str "back")) qD)))) (qE qAn (qB 0) (qC (Dt.int 4096)))) (qA (qE qo (qE qAn (qB 0) (qC (Dt.int 512))) (qC (Dt.int 8))) (qA (qE qo (qE qAn (qB 0) (qC (Dt.int 64))) (qC (Dt.int 8))) (qA (qE qo (qB 0) (qC (Dt.int 64))) qD)))))) qG))
abbrev qDF:TSD:=(tseq (qP (qAh (qBJ (qC (Dt.int 8))) (fun x st P=>P true st) (qN (qA (qC (Dt.str "old")) (qA (qB 0) qD))) []) (qJ 5)) (tseq (qV (qH (qE (qBf true) (qB 2) (qC Dt.non))) (tseq (qP (qN (qA (qC (Dt.str "hand")) (qA (qE qI (qB 2) (qC (Dt.int 1))) qD))) (qRZ (qB 5) (qE qI (qB 2) (qC (Dt.int 0))))) qG) qG) (tseq (qM (qN (qA (qB 0) (qA (qB 1) (qA (qF qj (qA (qB 5) qD)) (qA (qF qj (qA (qB 3) qD)) (qA (qB 4) qD))))))) qG)))
theorem qND {n:Int} (n0:0≤n) (n6:n<65536):∃ j:Nat,n / 4096=(j:Int)∧j<16:=⟨(n / 4096).toNat,by omega,by omega⟩
noncomputable def w14:List Dt:=[.str "halt",.str "put",.str "add",.str "sub",.str "mul",.str "bad",.str "div",.str "get",.str "set",.str "jump",.str "when",.str "go",.str "tell",.str "hear"]
noncomputable def w16:List Dt:=[.str "halt",.str "put",.str "add",.str "sub",.str "mul",.str "bad",.str "div",.str "get",.str "set",.str "jump",.str "when",.str "go",.str "tell",.str "hear",.str "right",.str "back"]
theorem qOe {j:Nat} (h:j<16):w16[j]? = some (.str (qAM (j:Int))):=by
  rcases (show j=0∨j=1∨j=2∨j=3∨j=4∨j=5∨j=6∨j=7∨j=8∨j=9∨j=10∨j=11∨j=12∨j=13∨j=14∨j=15 by omega) with rfl | rfl | rfl | rfl | rfl | rfl | rfl | rfl | rfl | rfl | rfl | rfl | rfl | rfl | rfl | rfl<;>rfl
theorem qFX {ds:List Dt} {st:Sto} {Pd:VD} (h:qCI ds st Pd):qBw (Ed Pd) (qU ["number", "words"] ds) st:=by
  obtain⟨n,rfl,n0,n6,hP⟩:=h
  show qBw (Ed Pd) [some (.int n),none] st
  refine qz ?_
  simp only [qg,qA,qD,qC]
  refine⟨z10 14 (by decide),?_⟩
  show tseq _ _ (Ed Pd) [some (.int n),some (.lst st.length)] (st++[SO.rw w14])
  have g1:(st++[SO.rw w14])[st.length]? = some (.rw w14):=qL
  have x1:ql st (st++[SO.rw w14]):=.app _ _
  generalize st++[SO.rw w14]=s1 at g1 x1
  k_dat 0"r0"
  simp only [qM,qN,qE,qg,qA,qD,qB,qC,L3.qu,List.getElem?_cons_zero,List.getElem?_cons_succ,qO g1,qL]
  refine⟨z10 2 (by decide),?_⟩
  obtain⟨j,ej,hj⟩:=qND n0 n6
  refine⟨z10 16 (by decide),cdiv (by decide) (by decide),?_⟩
  rw [ej]
  refine qDQ (j:=j) qL (qOe hj) ?_
  rw [← ej]
  refine⟨cdiv (by decide) (by decide),by decide,cdiv (by decide) (by decide),by decide,by decide,z10 4 (by decide),?_⟩
  exact hP _ fun k o hk=>qO (qO (x1 _ _ hk))
theorem tnx {E:qA4} {ρ:Rho} {s:Sto} (h:E.nx ρ s):qG E ρ s:=h
theorem qOx {n a:Nat} (h:a<n):ixN n (a:Int)=some a:=by
  unfold ixN
  simp [h]
theorem qTG {st:Sto} {ρ:Rho} {te:TD} {caps:List (Nat×Str)} {n:Nat} {f:Nat→Dt} {P:VD} (hn:n≤1000) (hs:∀ (i:Nat),i<n→∀ Q:VD,Q (f i) st→te (some (.int (i:Int))::qFU caps ρ) st Q) (h:P (.lst st.length) (st++[SO.rw ((List.range n).map f)])):qAh (qBJ (qC (Dt.int (n:Int)))) (fun x st P=>P true st) te caps ρ st P:=by
  simp only [qAh,qBJ,qC]
  refine⟨by omega,by omega,?_⟩
  rw [Int.toNat_natCast]
  refine⟨fun i ys s=>s=st∧ys=(List.range i).map f,⟨rfl,rfl⟩,fun _ _ _ _ _=>trivial,?_,?_⟩
  · rintro i d ys s hd ⟨rfl,rfl⟩
    obtain⟨hi,rfl⟩:=qDp hd
    rw [Int.zero_add]
    refine⟨by rw [List.length_map,List.length_range,sizeLine_eq];omega,qA7 (hs i hi _ ⟨rfl,?_⟩)⟩
    rw [List.range_succ,List.map_append];rfl
  · rintro ys s ⟨rfl,rfl⟩
    rw [qCV]
    exact h
theorem qH9 {ds:List Dt} {st:Sto} {Pd:VD} (h:qAS ds st Pd):qDF (Ed Pd) (qU ["how", "place", "box", "marks", "done", "boxes"] ds) st:=by
  obtain⟨how,at_,b,m,ms,n,rfl,hm,hb,hP⟩:=h
  show qDF (Ed Pd) [some (.str how),some at_,some (qN5 b),some (.lst m),some (.int n),none] st
  refine qz ?_
  refine qTG (n:=8) (f:=qD1) (by decide) (fun j hj Q hQ=>⟨z10 2 (by decide),hQ⟩) ?_
  show tseq _ _ (Ed Pd) [some (.str how),some at_,some (qN5 b),some (.lst m),some (.int n),some (.lst st.length)] (st++[SO.rw qGn])
  have g1:(st++[SO.rw qGn])[st.length]? = some (.rw qGn):=qL
  have g2:(st++[SO.rw qGn])[m]? = some (.rw ms):=qO hm
  have hml:=qAX hm
  have fin:∀ (xs:List Dt),(bsE b)=xs→tseq (qM (qN (qA (qB 0) (qA (qB 1) (qA (qF qj (qA (qB 5) qD)) (qA (qF qj (qA (qB 3) qD)) (qA (qB 4) qD))))))) qG (Ed Pd) [some (.str how),some at_,some (qN5 b),some (.lst m),some (.int n),some (.lst st.length)] (st++[SO.rw xs]):=by
    intro xs e
    subst e
    k_dat 0"r0"
    simp only [qM,qN,qF,qA,qD,qB,qj,List.getElem?_cons_zero,List.getElem?_cons_succ,qAH (qO hm),qAH qL]
    exact⟨z10 5 (by decide),hP _ (.app _ _)⟩
  refine qBm (b:=b.isSome) (st':=st++[SO.rw qGn]) ?_ (fun q=>?_) fun q=>?_
  · intro P hp
    cases b with
    | none=>exact hp
    | some x=>exact hp
  · cases b with
    | none=>cases q
    | some x =>
      obtain⟨a,h⟩:=x
      have a8:=hb a h rfl
      k_dat 0"r0"
      simp only [qP,qN,qE,qA,qD,qB,qC,qRZ,qN5,List.getElem?_cons_zero,List.getElem?_cons_succ]
      refine K62.ixT (j:=1) rfl ⟨z10 2 (by decide),?_⟩
      refine K62.ixT (j:=0) rfl ?_
      dsimp only
      rw [g1]
      have e1:ixN qGn.length (a:Int)=some a:=qOx a8
      dsimp only
      rw [e1]
      refine tnx ?_
      have:=fin (qGn.set a (qI4 h)) rfl
      dsimp only
      rw [KS.qKq]
      exact this
  · cases b with
    | none=>exact fin _ rfl
    | some x=>cases q
end K63
namespace K63
open PySem PySem.Spec PyProof.Rows L2 L3 KS K02 K85 K06 KM KL
abbrev smF:TSD:=(tseq (qM (qN (qA (qB 8) (qA (qg (qA (qF K63.qAS (qA (qC (Dt.str "on")) (qA (qE qo (qE L3.qu (qB 1) (qC (Dt.int 1))) (qC (Dt.int 65536))) (qA (qN (qA (qB 5) (qA (qC (Dt.int 2)) qD))) (qA (qB 3) (qA (qC (Dt.int 1)) qD)))))) (qA (qF K63.qAS (qA (qC (Dt.str "nought")) (qA (qB 1) (qA (qC Dt.non) (qA (qB 2) (qA (qC (Dt.int 0)) qD)))))) qD))) qD)))) qG)
abbrev smE:TSD:=(tseq (qP (qE L3.qu (qB 8) (qg (qA (qB 10) (qA (qN (qA (qC (Dt.str "nought")) (qA (qC (Dt.int 4)) (qA (qC (Dt.int 2)) qD)))) (qA (qN (qA (qC (Dt.str "high")) (qA (qC (Dt.int 5)) (qA (qC (Dt.int 2)) qD)))) (qA (qN (qA (qB 9) (qA (qC (Dt.int 6)) (qA (qC (Dt.int 0)) (qA (qC (Dt.int 1)) qD))))) (qA (qN (qA (qC (Dt.str "out")) (qA (qC (Dt.int 0)) qD))) qD))))))) (qJ 8)) smF)
abbrev qDO:TSD:=(tseq (qP (qB 0) (qi 4 (qY (qJ 4) (qY (qJ 5) (qY (qJ 6) (qY (qJ 7) qAK)))))) (tseq (qP (qg (qA (qN (qA (qC (Dt.str "box")) (qA (qC (Dt.int 0)) (qA (qB 6) qD)))) (qA (qN (qA (qC (Dt.str "box")) (qA (qC (Dt.int 1)) (qA (qE qo (qB 7) (qC (Dt.int 8))) qD)))) qD))) (qJ 8)) (tseq (qP (qE qI7 (qKt [(Sum.inr (Str.ofString "add"),(qC (Dt.str "over"))),(Sum.inr (Str.ofString "sub"),(qC (Dt.str "under"))),(Sum.inr (Str.ofString "mul"),(qC (Dt.str "wide"))),(Sum.inr (Str.ofString "div"),(qC (Dt.str "rest")))]) (qB 4)) (qJ 9)) (tseq (qP (qE qI (qg (qA (qN (qA (qB 4) (qA (qC (Dt.int 2)) (qA (qC (Dt.int 0)) (qA (qC (Dt.int 1)) qD))))) (qA (qN (qA (qC (Dt.str "div")) (qA (qC (Dt.int 2)) (qA (qC (Dt.int 0)) (qA (qC (Dt.int 1)) (qA (qC (Dt.int 1)) qD)))))) qD))) (qF qDR (qA (qE (qW false) (qB 4) (qC (Dt.str "div"))) qD))) (qJ 10)) smE))))
theorem qRY {w:Int} {ρ:Rho} {st:Sto} {P:VD} (hw:qC5 w) (hv:ρ[4]? = some (some (.str (qAM w)))) (h:∀ s',ql st s'→P (.str (K20.nm (opC w))) s'):qE qI7 (qKt [(Sum.inr (Str.ofString "add"),(qC (Dt.str "over"))),(Sum.inr (Str.ofString "sub"),(qC (Dt.str "under"))),(Sum.inr (Str.ofString "mul"),(qC (Dt.str "wide"))),(Sum.inr (Str.ofString "div"),(qC (Dt.str "rest")))]) (qB 4) ρ st P:=by
  have h2:=h (st++[SO.dc [(Sum.inr (Str.ofString "add"),.str "over"),(Sum.inr (Str.ofString "sub"),.str "under"),(Sum.inr (Str.ofString "mul"),.str "wide"),(Sum.inr (Str.ofString "div"),.str "rest")]]) (.app _ _)
  simp only [qE,qKt,tvK,qC,qB,hv]
  refine⟨qL,?_⟩
  rw [KS.qKq]
  show qI7 (.dic st.length) (.str (qAM w)) (st++[SO.dc [(Sum.inr (Str.ofString "add"),.str "over"),(Sum.inr (Str.ofString "sub"),.str "under"),(Sum.inr (Str.ofString "mul"),.str "wide"),(Sum.inr (Str.ofString "div"),.str "rest")]]) P
  simp only [qI7,qL,qFV]
  rcases hw with rfl | rfl | rfl | rfl
  · exact h2
  · exact h2
  · exact h2
  · exact h2
noncomputable def thr (w:Int):Rw:=if w=6 then ⟨"div",[2,0,1,1]⟩ else ⟨qAM w,[2,0,1]⟩
theorem qFq {how:Str} {at_:Dt} {a m:Nat} {h n:Int} {ms:List Dt} {s:Sto} {P:VD} (hm:s[m]? = some (.rw ms)) (a8:a<8) (q:∀ s',ql s s'→P (exD (exE how at_ (some (a,h)) ms n)) s'):qAS [.str how,at_,.tup [.int (a:Int),.int h],.lst m,.int n] s P :=
  ⟨how,at_,some (a,h),m,ms,n,rfl,hm,fun a' h' e=>by cases e;exact a8,q⟩
theorem qBO {how:Str} {at_:Dt} {m:Nat} {n:Int} {ms:List Dt} {s:Sto} {P:VD} (hm:s[m]? = some (.rw ms)) (q:∀ s',ql s s'→P (exD (exE how at_ none ms n)) s'):qAS [.str how,at_,.non,.lst m,.int n] s P :=
  ⟨how,at_,none,m,ms,n,rfl,hm,(fun a' h' e=>by cases e),q⟩
theorem qZ {a b c:Sto} (h:ql a b) (k:ql b c):ql a c:=fun j o hj=>k _ _ (h _ _ hj)
theorem qH4 {ds:List Dt} {st:Sto} {Pd:VD} (h:qGV ds st Pd):qDO (Ed Pd) (qU ["row", "place", "old", "new", "word", "a", "b", "c", "rows", "carry", "third"] ds) st:=by
  obtain⟨w,a,b,c,p,o,n,rfl,ho,hn,hw,a8,hP⟩:=h
  show qDO (Ed Pd) [some (qC9 w a b c),some (.int p),some (.lst o),some (.lst n),none,none,none,none,none,none,none] st
  k_dat 0"r0"
  k_dat 0"r82"
  refine⟨rfl,?_⟩
  refine qz ?_
  simp only [qg,qN,qE,qA,qD,qB,qC,List.getElem?_cons_zero,List.getElem?_cons_succ,List.set_cons_zero,List.set_cons_succ]
  refine⟨z10 3 (by decide),by decide,z10 3 (by decide),z10 2 (by decide),?_⟩
  have g1:(st++[SO.rw ([⟨"box",[0,b]⟩,⟨"box",[1,c%8]⟩].map qk)])[st.length]? = some (.rw ([⟨"box",[0,b]⟩,⟨"box",[1,c%8]⟩].map qk)):=qL
  have x1:ql st (st++[SO.rw ([⟨"box",[0,b]⟩,⟨"box",[1,c%8]⟩].map qk)]):=.app _ _
  show tseq _ _ (Ed Pd) [some (qC9 w a b c),some (.int p),some (.lst o),some (.lst n),some (.str (qAM w)),some (.int a),some (.int b),some (.int c),some (.lst st.length),none,none] (st++[SO.rw ([⟨"box",[0,b]⟩,⟨"box",[1,c%8]⟩].map qk)])
  generalize st++[SO.rw ([⟨"box",[0,b]⟩,⟨"box",[1,c%8]⟩].map qk)]=s1 at g1 x1
  refine qz ?_
  refine qRY hw rfl fun s2 x2=>?_
  have g2:=x2 _ _ g1
  have fin:∀ s3,ql s2 s3→smE (Ed Pd) [some (qC9 w a b c),some (.int p),some (.lst o),some (.lst n),some (.str (qAM w)),some (.int a),some (.int b),some (.int c),some (.lst st.length),some (.str (K20.nm (opC w))),some (qk (thr w))] s3:=by
    intro s3 x3
    have g3:=x3 _ _ g2
    have y3:=qZ x1 (qZ x2 x3)
    refine qz ?_
    simp only [qE,qg,qN,qA,qD,qB,qC,List.getElem?_cons_zero,List.getElem?_cons_succ,List.set_cons_zero,List.set_cons_succ,L3.qu,qO g3,qL]
    refine⟨z10 3 (by decide),z10 3 (by decide),z10 4 (by decide),z10 2 (by decide),z10 5 (by decide),z10 7 (by decide),?_⟩
    have g4:=@qL (s3++[SO.rw [qk (thr w),qk ⟨"nought",[4,2]⟩,qk ⟨"high",[5,2]⟩,qk ⟨K20.nm (opC w),[6,0,1]⟩,qk qA1]]) (.rw ((qHJ w b c).map qk))
    have x4:ql s3 (s3++[SO.rw [qk (thr w),qk ⟨"nought",[4,2]⟩,qk ⟨"high",[5,2]⟩,qk ⟨K20.nm (opC w),[6,0,1]⟩,qk qA1]]++[.rw ((qHJ w b c).map qk)]):=qZ (.app _ _) (.app _ _)
    generalize hs4:s3++[SO.rw [qk (thr w),qk ⟨"nought",[4,2]⟩,qk ⟨"high",[5,2]⟩,qk ⟨K20.nm (opC w),[6,0,1]⟩,qk qA1]]++[.rw ((qHJ w b c).map qk)]=s4 at g4 x4
    generalize hr4:(s3++[SO.rw [qk (thr w),qk ⟨"nought",[4,2]⟩,qk ⟨"high",[5,2]⟩,qk ⟨K20.nm (opC w),[6,0,1]⟩,qk qA1]]).length=r4 at g4
    have goal:smF (Ed Pd) [some (qC9 w a b c),some (.int p),some (.lst o),some (.lst n),some (.str (qAM w)),some (.int a),some (.int b),some (.int c),some (.lst r4),some (.str (K20.nm (opC w))),some (qk (thr w))] s4:=by
      have z4:=qZ y3 x4
      k_dat 0"r0"
      simp only [qM,qE,qg,qN,qF,qA,qD,qB,qC,List.getElem?_cons_zero,List.getElem?_cons_succ,L3.qu]
      refine⟨by decide,z10 2 (by decide),?_⟩
      refine qFq (z4 _ _ hn) a8 fun s5 x5=>?_
      refine qBO (x5 _ _ (z4 _ _ ho)) fun s6 x6=>?_
      k_dat 0"r38"
      exact hP _ _ _ (qZ z4 (qZ x5 (qZ x6 (.app _ _)))) (qO (x6 _ _ (x5 _ _ g4))) qL
    subst hr4;subst hs4
    exact goal
  refine qz ?_
  simp only [qE,qg,qN,qF,qA,qD,qB,qC,List.getElem?_cons_zero,List.getElem?_cons_succ,List.set_cons_zero,List.set_cons_succ]
  refine⟨z10 4 (by decide),z10 5 (by decide),z10 2 (by decide),?_⟩
  k_dat 0"r18"
  have eb:(eqD 8 (.str (qAM w)) (.str "div") != false)=decide (w=6):=by
    rcases hw with rfl | rfl | rfl | rfl<;>rfl
  rw [eb]
  simp only [qDR]
  by_cases hw6:w=6
  · have f:=fin _ (.app _ (SO.rw [qk ⟨qAM w,[2,0,1]⟩,qk ⟨"div",[2,0,1,1]⟩]))
    rw [show thr w=⟨"div",[2,0,1,1]⟩ from if_pos hw6] at f
    rw [decide_eq_true hw6]
    exact qDQ (j:=1) qL rfl f
  · have f:=fin _ (.app _ (SO.rw [qk ⟨qAM w,[2,0,1]⟩,qk ⟨"div",[2,0,1,1]⟩]))
    rw [show thr w=⟨qAM w,[2,0,1]⟩ from if_neg hw6] at f
    rw [decide_eq_false hw6]
    exact qDQ (j:=0) qL rfl f
end K63
namespace K63
open PySem PySem.Spec PyProof.Rows L2 L3 KS K02 K85 K06 KM KL
abbrev qC0:TSD:=(tseq (qP (qB 0) (qi 4 (qY (qJ 3) (qY (qJ 4) (qY (qJ 5) (qY (qJ 6) qAK)))))) (tseq (qP (qE qo (qE L3.qu (qB 1) (qC (Dt.int 1))) (qC (Dt.int 65536))) (qJ 7)) (tseq (qP (qF K63.qAS (qA (qC (Dt.str "closed")) (qA (qB 1) (qA (qC Dt.non) (qA (qB 2) (qA (qC (Dt.int 0)) qD)))))) (qJ 8)) (tseq (qV (qH (qE (qW false) (qB 3) (qC (Dt.str "get")))) (tseq (qP (qg (qA (qN (qA (qC (Dt.str "box")) (qA (qC (Dt.int 0)) (qA (qB 5) qD)))) (qA (qN (qA (qC (Dt.str "num")) (qA (qC (Dt.int 1)) (qA (qB 6) qD)))) (qA (qN (qA (qC (Dt.str "get")) (qA (qC (Dt.int 2)) (qA (qC (Dt.int 0)) (qA (qC (Dt.int 1)) (qA (qC (Dt.int 1)) qD)))))) (qA (qN (qA (qC (Dt.str "out")) (qA (qC (Dt.int 0)) qD))) qD))))) (qJ 9)) (tseq (qM (qN (qA (qB 9) (qA (qg (qA (qF K63.qAS (qA (qC (Dt.str "on")) (qA (qB 7) (qA (qN (qA (qB 4) (qA (qC (Dt.int 2)) qD))) (qA (qB 2) (qA (qC (Dt.int 1)) qD)))))) (qA (qB 8) qD))) qD)))) qG)) qG) (tseq (qV (qH (qE (qW false) (qB 3) (qC (Dt.str "set")))) (tseq (qP (qg (qA (qN (qA (qC (Dt.str "box")) (qA (qC (Dt.int 0)) (qA (qB 5) qD)))) (qA (qN (qA (qC (Dt.str "num")) (qA (qC (Dt.int 1)) (qA (qB 6) qD)))) (qA (qN (qA (qC (Dt.str "box")) (qA (qC (Dt.int 2)) (qA (qB 4) qD)))) (qA (qN (qA (qC (Dt.str "set")) (qA (qC (Dt.int 0)) (qA (qC (Dt.int 1)) (qA (qC (Dt.int 2)) (qA (qC (Dt.int 1)) (qA (qC (Dt.int 2)) qD))))))) (qA (qN (qA (qC (Dt.str "out")) (qA (qC (Dt.int 0)) qD))) qD)))))) (qJ 9)) (tseq (qM (qN (qA (qB 9) (qA (qg (qA (qF K63.qAS (qA (qC (Dt.str "on")) (qA (qB 7) (qA (qC Dt.non) (qA (qB 2) (qA (qC (Dt.int 1)) qD)))))) (qA (qB 8) (qA (qF K63.qAS (qA (qC (Dt.str "shut")) (qA (qB 7) (qA (qC Dt.non) (qA (qB 2) (qA (qC (Dt.int 1)) qD)))))) qD)))) qD)))) qG)) qG) (tseq (qV (qH (qE (qW false) (qB 3) (qC (Dt.str "tell")))) (tseq (qM (qN (qA (qg (qA (qN (qA (qC (Dt.str "box")) (qA (qC (Dt.int 0)) (qA (qB 4) qD)))) (qA (qN (qA (qC (Dt.str "tell")) (qA (qC (Dt.int 0)) qD))) (qA (qN (qA (qC (Dt.str "out")) (qA (qC (Dt.int 0)) qD))) qD)))) (qA (qg (qA (qF K63.qAS (qA (qC (Dt.str "on")) (qA (qB 7) (qA (qC Dt.non) (qA (qB 2) (qA (qC (Dt.int 1)) qD)))))) qD)) qD)))) qG) qG) (tseq (qV (qH (qE (qW false) (qB 3) (qC (Dt.str "hear")))) (tseq (qM (qN (qA (qg (qA (qN (qA (qC (Dt.str "hear")) (qA (qC (Dt.int 2)) qD))) (qA (qN (qA (qC (Dt.str "out")) (qA (qC (Dt.int 0)) qD))) qD))) (qA (qg (qA (qF K63.qAS (qA (qC (Dt.str "on")) (qA (qB 7) (qA (qN (qA (qB 4) (qA (qC (Dt.int 2)) qD))) (qA (qB 2) (qA (qC (Dt.int 1)) qD)))))) qD)) qD)))) qG) qG) (tseq (qP (qg (qA (qN (qA (qC (Dt.str "box")) (qA (qC (Dt.int 0)) (qA (qB 4) qD)))) (qA (qN (qA (qC (Dt.str "num")) (qA (qC (Dt.int 1)) (qA (qE qo (qB 6) (qC (Dt.int 8))) qD)))) (qA (qN (qA (qC (Dt.str "right")) (qA (qC (Dt.int 0)) (qA (qC (Dt.int 1)) (qA (qC (Dt.int 1)) qD))))) (qA (qN (qA (qC (Dt.str "out")) (qA (qC (Dt.int 0)) qD))) qD))))) (qJ 9)) (tseq (qM (qN (qA (qB 9) (qA (qg (qA (qF K63.qAS (qA (qC (Dt.str "on")) (qA (qB 7) (qA (qC Dt.non) (qA (qB 2) (qA (qC (Dt.int 1)) qD)))))) (qA (qB 8) qD))) qD)))) qG)))))))))
section
variable {E:qA4} {ρ:Rho} {st:Sto} {x:TD} {A N:TSD} {a b:Str}
theorem yes (hx:∀ P:VD,P (.str a) st→x ρ st P) (h:(a==b)=true) (q:A { E with nx:=N E } ρ st):tseq (qV (qH (qE (qW false) x (qC (.str b)))) A qG) N E ρ st:=qBm (eqS hx) (fun _=>q) fun e=>by rw [h] at e;cases e
theorem no (hx:∀ P:VD,P (.str a) st→x ρ st P) (h:(a==b)=false) (q:N E ρ st):tseq (qV (qH (qE (qW false) x (qC (.str b)))) A qG) N E ρ st:=qBm (eqS hx) (fun e=>by rw [h] at e;cases e) fun _=>q
end
theorem qG8 {ds:List Dt} {st:Sto} {Pd:VD} (h:qEa ds st Pd):qC0 (Ed Pd) (qU ["row", "place", "old", "word", "a", "b", "c", "then", "fault", "rows"] ds) st:=by
  obtain⟨w,a,b,c,p,o,rfl,ho,hw,a8,hP⟩:=h
  show qC0 (Ed Pd) [some (qC9 w a b c),some (.int p),some (.lst o),none,none,none,none,none,none,none] st
  k_dat 0"r0"
  k_dat 0"r82"
  refine⟨rfl,?_⟩
  refine qz ?_
  k_dat 0"r126"
  k_dat 0"r21"
  refine qz ?_
  k_dat 0"r40"
  refine qBO ho fun s1 x1=>?_
  have ho1:=x1 _ _ ho
  rcases hw with rfl | rfl | rfl | rfl | rfl
  · k_dat 0"r25"
    refine qz ?_
    k_dat 0"r83"
    refine⟨z10 3 (by decide),z10 3 (by decide),z10 5 (by decide),z10 2 (by decide),z10 4 (by decide),?_⟩
    k_dat 0"r0"
    k_dat 0"r24"
    refine⟨z10 2 (by decide),?_⟩
    refine qFq (qO ho1) a8 fun s2 x2=>?_
    k_dat 0"r38"
    k_dat 0"r66"
  · refine no (fun P hp=>hp) rfl ?_
    k_dat 0"r25"
    refine qz ?_
    k_dat 0"r83"
    refine⟨z10 3 (by decide),z10 3 (by decide),z10 3 (by decide),z10 6 (by decide),z10 2 (by decide),z10 5 (by decide),?_⟩
    k_dat 0"r0"
    k_dat 0"r24"
    refine qBO (qO ho1) fun s2 x2=>?_
    refine qBO (x2 _ _ (qO ho1)) fun s3 x3=>?_
    refine⟨z10 3 (by decide),z10 2 (by decide),?_⟩
    exact hP _ _ _ (qZ x1 (qZ (.app _ _) (qZ x2 (qZ x3 (.app _ _))))) (qO (x3 _ _ (x2 _ _ qL))) qL
  · iterate 2 refine no (fun P hp=>hp) rfl ?_
    k_dat 0"r25"
    k_dat 0"r0"
    k_dat 0"r24"
    refine⟨z10 3 (by decide),z10 2 (by decide),z10 2 (by decide),z10 3 (by decide),?_⟩
    refine qBO (qO ho1) fun s2 x2=>?_
    k_dat 0"r67"
    k_dat 0"r66"
  · iterate 3 refine no (fun P hp=>hp) rfl ?_
    k_dat 0"r25"
    k_dat 0"r0"
    k_dat 0"r24"
    refine⟨z10 2 (by decide),z10 2 (by decide),z10 2 (by decide),z10 2 (by decide),?_⟩
    refine qFq (qO ho1) a8 fun s2 x2=>?_
    k_dat 0"r67"
    k_dat 0"r66"
  · iterate 4 refine no (fun P hp=>hp) rfl ?_
    refine qz ?_
    simp only [qE,qg,qN,qA,qD,qB,qC,List.getElem?_cons_zero,List.getElem?_cons_succ,List.set_cons_zero,List.set_cons_succ]
    refine⟨z10 3 (by decide),by decide,z10 3 (by decide),z10 4 (by decide),z10 2 (by decide),z10 4 (by decide),?_⟩
    k_dat 0"r0"
    k_dat 0"r24"
    refine qBO (qO ho1) fun s2 x2=>?_
    k_dat 0"r38"
    k_dat 0"r66"
end K63
namespace K63
open PySem PySem.Spec PyProof.Rows L2 L3 KS K02 K85 K06 KM KL
abbrev qDh:TSD:=(tseq (qP (qB 0) (qi 4 (qY (qJ 3) (qY (qJ 4) (qY (qJ 5) (qY (qJ 6) qAK)))))) (tseq (qP (qE qo (qE L3.qu (qB 1) (qC (Dt.int 1))) (qC (Dt.int 65536))) (qJ 7)) (tseq (qP (qF K63.qAS (qA (qC (Dt.str "on")) (qA (qE qo (qE L3.qCY (qE L3.qu (qB 1) (qB 6)) (qC (Dt.int 31))) (qC (Dt.int 65536))) (qA (qC Dt.non) (qA (qB 2) (qA (qC (Dt.int 1)) qD)))))) (qJ 8)) (tseq (qP (qF K63.qAS (qA (qC (Dt.str "on")) (qA (qB 7) (qA (qC Dt.non) (qA (qB 2) (qA (qC (Dt.int 1)) qD)))))) (qJ 9)) (tseq (qV (qDT (qH (qE (qW false) (qB 3) (qC (Dt.str "jump")))) (qA5 (qH (qE (qW false) (qB 3) (qC (Dt.str "when")))) (qH (qE (qW false) (qB 4) (qC (Dt.int 6)))))) (tseq (qM (qN (qA (qg (qA (qN (qA (qC (Dt.str "out")) (qA (qC (Dt.int 0)) qD))) qD)) (qA (qg (qA (qB 8) qD)) qD)))) qG) qG) (tseq (qV (qA5 (qH (qE (qW false) (qB 3) (qC (Dt.str "when")))) (qH (qE (qW false) (qB 4) (qC (Dt.int 7))))) (tseq (qM (qN (qA (qg (qA (qN (qA (qC (Dt.str "out")) (qA (qC (Dt.int 0)) qD))) qD)) (qA (qg (qA (qB 9) qD)) qD)))) qG) qG) (tseq (qV (qH (qE (qW false) (qB 3) (qC (Dt.str "when")))) (tseq (qM (qN (qA (qg (qA (qN (qA (qC (Dt.str "mark")) (qA (qC (Dt.int 4)) (qA (qE qAn (qB 4) (qC (Dt.int 2))) qD)))) (qA (qN (qA (qC (Dt.str "when")) (qA (qC (Dt.int 4)) (qA (qE qo (qB 4) (qC (Dt.int 2))) (qA (qE L3.qCY (qC (Dt.int 1)) (qE qo (qB 4) (qC (Dt.int 2)))) qD))))) qD))) (qA (qg (qA (qB 8) (qA (qB 9) qD))) qD)))) qG) qG) (tseq (qV (qH (qE (qW false) (qB 3) (qC (Dt.str "go")))) (tseq (qM (qN (qA (qg (qA (qN (qA (qC (Dt.str "box")) (qA (qC (Dt.int 0)) (qA (qB 4) qD)))) (qA (qN (qA (qC (Dt.str "out")) (qA (qC (Dt.int 0)) qD))) qD))) (qA (qg (qA (qF K63.qAS (qA (qC (Dt.str "on")) (qA (qN (qA (qC (Dt.str "hand")) (qA (qC (Dt.int 0)) qD))) (qA (qC Dt.non) (qA (qB 2) (qA (qC (Dt.int 1)) qD)))))) qD)) qD)))) qG) qG) (tseq (qV (qH (qE (qW false) (qB 3) (qC (Dt.str "back")))) (tseq (qM (qN (qA (qg (qA (qN (qA (qC (Dt.str "back")) (qA (qC (Dt.int 1)) (qA (qC (Dt.int 0)) qD)))) qD)) (qA (qg (qA (qB 9) (qA (qF K63.qAS (qA (qC (Dt.str "bad")) (qA (qB 1) (qA (qC Dt.non) (qA (qB 2) (qA (qC (Dt.int 0)) qD)))))) qD))) qD)))) qG) qG) (tseq (qM (qN (qA (qg (qA (qN (qA (qC (Dt.str "out")) (qA (qC (Dt.int 0)) qD))) qD)) (qA (qg (qA (qF K63.qAS (qA (qB 3) (qA (qB 1) (qA (qC Dt.non) (qA (qB 2) (qA (qC (Dt.int 0)) qD)))))) qD)) qD)))) qG))))))))))
theorem qHx {ds:List Dt} {st:Sto} {Pd:VD} (h:qGg ds st Pd):qDh (Ed Pd) (qU ["row", "place", "old", "word", "a", "b", "c", "then", "far", "near"] ds) st:=by
  obtain⟨w,a,b,c,p,o,rfl,ho,hw,a8,hP⟩:=h
  show qDh (Ed Pd) [some (qC9 w a b c),some (.int p),some (.lst o),none,none,none,none,none,none,none] st
  k_dat 0"r0"
  k_dat 0"r82"
  refine⟨rfl,?_⟩
  refine qz ?_
  k_dat 0"r126"
  k_dat 0"r21"
  refine qz ?_
  simp only [qE,qF,qA,qD,qB,qC,L3.qu,L3.qCY,List.getElem?_cons_zero,List.getElem?_cons_succ,List.set_cons_zero,List.set_cons_succ]
  k_dat 0"r21"
  refine qBO ho fun s1 x1=>?_
  refine qz ?_
  k_dat 0"r40"
  refine qBO (x1 _ _ ho) fun s2 x2=>?_
  have ho2:=x2 _ _ (x1 _ _ ho)
  have y2:=qZ x1 x2
  have e1:∀ P:Bool→Sto→Prop,P ((qAM w==Str.ofString "jump") || ((qAM w==Str.ofString "when")&&decide ((a:Int)=6))) s2→(qDT (qH (qE (qW false) (qB 3) (qC (Dt.str "jump")))) (qA5 (qH (qE (qW false) (qB 3) (qC (Dt.str "when")))) (qH (qE (qW false) (qB 4) (qC (Dt.int 6)))))) [some (qC9 w a b c),some (.int p),some (.lst o),some (.str (qAM w)),some (.int a),some (.int b),some (.int c),some (.int ((p+1)%65536)),some (exD (qG4 p c)),some (exD (onE p none qAg))] s2 P:=orB (eqS fun P hp=>hp) fun _=>qPl (eqS fun P hp=>hp) fun _=>eqI fun P hp=>hp
  have e2:∀ P:Bool→Sto→Prop,P ((qAM w==Str.ofString "when")&&decide ((a:Int)=7)) s2→(qA5 (qH (qE (qW false) (qB 3) (qC (Dt.str "when")))) (qH (qE (qW false) (qB 4) (qC (Dt.int 7))))) [some (qC9 w a b c),some (.int p),some (.lst o),some (.str (qAM w)),some (.int a),some (.int b),some (.int c),some (.int ((p+1)%65536)),some (exD (qG4 p c)),some (exD (onE p none qAg))] s2 P:=qPl (eqS fun P hp=>hp) fun _=>eqI fun P hp=>hp
  have wj:(qAM w==Str.ofString "jump")=decide (w=9):=by rcases hw with rfl | rfl | rfl | rfl | rfl | rfl<;>rfl
  have ww:(qAM w==Str.ofString "when")=decide (w=10):=by rcases hw with rfl | rfl | rfl | rfl | rfl | rfl<;>rfl
  rw [wj,ww] at e1;rw [ww] at e2
  refine qBm e1 (fun q=>?_) fun q=>?_
  · have c1:w=9∨w=10∧(a:Int)=6:=by simpa using q
    k_dat 0"r0"
    k_dat 0"r127"
    refine⟨z10 2 (by decide),z10 1 (by decide),z10 1 (by decide),z10 2 (by decide),?_⟩
    refine hP _ _ _ (qZ y2 (qZ (.app _ _) (.app _ _))) ?_ ?_
    · rw [qDH,if_pos c1];exact qO qL
    · rw [qFK,if_pos c1];exact qL
  have c1:¬ (w=9∨w=10∧(a:Int)=6):=by intro k;rw [show (decide (w=9) || (decide (w=10)&&decide ((a:Int)=6)))=true by simpa using k] at q;cases q
  refine qBm e2 (fun q=>?_) fun q=>?_
  · have c2:w=10∧(a:Int)=7:=by simpa using q
    k_dat 0"r0"
    k_dat 0"r127"
    refine⟨z10 2 (by decide),z10 1 (by decide),z10 1 (by decide),z10 2 (by decide),?_⟩
    refine hP _ _ _ (qZ y2 (qZ (.app _ _) (.app _ _))) ?_ ?_
    · rw [qDH,if_neg c1,if_pos c2];exact qO qL
    · rw [qFK,if_neg c1,if_pos c2];exact qL
  have c2:¬ (w=10∧(a:Int)=7):=by intro k;rw [show (decide (w=10)&&decide ((a:Int)=7))=true by simpa using k] at q;cases q
  have fin:∀ (s3:Sto) (i j:Nat),ql s2 s3→s3[i]? = some (.rw ((if w=10 then [(⟨"mark",[4,(a:Int) / 2]⟩:Rw),⟨"when",[4,(a:Int)%2,1 - (a:Int)%2]⟩] else if w=11 then [⟨"box",[0,(a:Int)]⟩,qA1] else if w=15 then [⟨"back",[1,0]⟩] else [qA1]).map qk))→s3[j]? = some (.rw ((if w=10 then [qG4 p c,onE p none qAg] else if w=11 then [exE "on" (qI4 0) none qAg 1] else if w=15 then [onE p none qAg,noE "bad" p] else [noE (qAM w) p]).map exD))→Pd (.tup [.lst i,.lst j]) s3:=by
    intro s3 i j x3 hi hj
    refine hP _ _ _ (qZ y2 x3) ?_ ?_
    · rw [qDH,if_neg c1,if_neg c2];exact hi
    · rw [qFK,if_neg c1,if_neg c2];exact hj
  clear hP e1 e2
  rcases hw with rfl | rfl | rfl | rfl | rfl | rfl
  · exact absurd (.inl rfl) c1
  · k_dat 0"r25"
    k_dat 0"r0"
    simp only [qM,qE,qg,qN,qA,qD,qB,qC,L3.qCY,List.getElem?_cons_zero,List.getElem?_cons_succ,List.set_cons_zero,List.set_cons_succ]
    refine⟨cdiv (by decide) (by decide),z10 3 (by decide),by decide,by decide,z10 4 (by decide),z10 2 (by decide),z10 2 (by decide),z10 2 (by decide),?_⟩
    exact fin _ _ _ (qZ (.app _ _) (.app _ _)) (qO qL) qL
  · refine no (fun P hp=>hp) rfl ?_
    k_dat 0"r25"
    k_dat 0"r0"
    k_dat 0"r24"
    refine⟨z10 3 (by decide),z10 2 (by decide),z10 2 (by decide),z10 2 (by decide),?_⟩
    refine qBO (qO ho2) fun s3 x3=>?_
    k_dat 0"r67"
    k_dat 0"r84"
  · iterate 2 refine no (fun P hp=>hp) rfl ?_
    k_dat 0"r25"
    k_dat 0"r0"
    k_dat 0"r24"
    refine⟨z10 3 (by decide),z10 1 (by decide),?_⟩
    refine qBO (qO ho2) fun s3 x3=>?_
    k_dat 0"r38"
    k_dat 0"r84"
  all_goals
    iterate 3 refine no (fun P hp=>hp) rfl ?_
    k_dat 0"r0"
    k_dat 0"r24"
    refine⟨z10 2 (by decide),z10 1 (by decide),?_⟩
    refine qBO (qO ho2) fun s3 x3=>?_
    k_dat 0"r67"
    k_dat 0"r84"
end K63
namespace K63
open PySem PySem.Spec PyProof.Rows L2 L3 KS K02 K85 K06 KM KL
abbrev bkE:TSD:=(tseq (qM (qN (qA (qB 1) (qA (qC (Dt.int 7)) (qA (qF qj (qA (qB 5) qD)) (qA (qF qj (qA (qB 6) qD)) qD)))))) qG)
abbrev qCw:TSD:=(tseq (qP (qF K63.qCI (qA (qB 0) qD)) (qJ 2)) (tseq (qP (qAh (qBJ (qC (Dt.int 3))) (fun x st P=>P true st) (qN (qA (qC (Dt.str "old")) (qA (qB 0) qD))) []) (qJ 3)) (tseq (qP (qg (qA (qN (qA (qC (Dt.str "hand")) (qA (qC (Dt.int 4)) qD))) (qA (qN (qA (qC (Dt.str "hand")) (qA (qC (Dt.int 5)) qD))) (qA (qN (qA (qC (Dt.str "hand")) (qA (qC (Dt.int 6)) qD))) qD)))) (qJ 4)) (tseq (qV (qH (qE (qW false) (qE qI (qB 2) (qC (Dt.int 0))) (qC (Dt.str "put")))) (tseq (qKz 5 6 (qA (qg (qA (qN (qA (qC (Dt.str "num")) (qA (qC (Dt.int 2)) (qA (qE qI (qB 2) (qC (Dt.int 3))) qD)))) (qA (qN (qA (qC (Dt.str "out")) (qA (qC (Dt.int 0)) qD))) qD))) (qA (qg (qA (qF K63.qAS (qA (qC (Dt.str "on")) (qA (qE qo (qE L3.qu (qB 1) (qC (Dt.int 1))) (qC (Dt.int 65536))) (qA (qN (qA (qE qI (qB 2) (qC (Dt.int 1))) (qA (qC (Dt.int 2)) qD))) (qA (qB 3) (qA (qC (Dt.int 1)) qD)))))) qD)) qD))) qG) (tseq (qV (qH (qE (qBH false) (qE qI (qB 2) (qC (Dt.int 0))) (qN (qA (qC (Dt.str "add")) (qA (qC (Dt.str "sub")) (qA (qC (Dt.str "mul")) (qA (qC (Dt.str "div")) qD))))))) (tseq (qP (qF K63.qGV (qA (qB 2) (qA (qB 1) (qA (qB 3) (qA (qB 4) qD))))) (qi 2 (qY (qJ 5) (qY (qJ 6) qAK)))) qG) (tseq (qV (qH (qE (qBH false) (qE qI (qB 2) (qC (Dt.int 0))) (qN (qA (qC (Dt.str "get")) (qA (qC (Dt.str "set")) (qA (qC (Dt.str "tell")) (qA (qC (Dt.str "hear")) (qA (qC (Dt.str "right")) qD)))))))) (tseq (qP (qF K63.qEa (qA (qB 2) (qA (qB 1) (qA (qB 3) qD)))) (qi 2 (qY (qJ 5) (qY (qJ 6) qAK)))) qG) (tseq (qP (qF K63.qGg (qA (qB 2) (qA (qB 1) (qA (qB 3) qD)))) (qi 2 (qY (qJ 5) (qY (qJ 6) qAK)))) qG)) qG)) qG)) bkE))))
def bkD:TSD:=(tseq (qV (qH (qE (qW false) (qE qI (qB 2) (qC (Dt.int 0))) (qC (Dt.str "put")))) (tseq (qKz 5 6 (qA (qg (qA (qN (qA (qC (Dt.str "num")) (qA (qC (Dt.int 2)) (qA (qE qI (qB 2) (qC (Dt.int 3))) qD)))) (qA (qN (qA (qC (Dt.str "out")) (qA (qC (Dt.int 0)) qD))) qD))) (qA (qg (qA (qF K63.qAS (qA (qC (Dt.str "on")) (qA (qE qo (qE L3.qu (qB 1) (qC (Dt.int 1))) (qC (Dt.int 65536))) (qA (qN (qA (qE qI (qB 2) (qC (Dt.int 1))) (qA (qC (Dt.int 2)) qD))) (qA (qB 3) (qA (qC (Dt.int 1)) qD)))))) qD)) qD))) qG) (tseq (qV (qH (qE (qBH false) (qE qI (qB 2) (qC (Dt.int 0))) (qN (qA (qC (Dt.str "add")) (qA (qC (Dt.str "sub")) (qA (qC (Dt.str "mul")) (qA (qC (Dt.str "div")) qD))))))) (tseq (qP (qF K63.qGV (qA (qB 2) (qA (qB 1) (qA (qB 3) (qA (qB 4) qD))))) (qi 2 (qY (qJ 5) (qY (qJ 6) qAK)))) qG) (tseq (qV (qH (qE (qBH false) (qE qI (qB 2) (qC (Dt.int 0))) (qN (qA (qC (Dt.str "get")) (qA (qC (Dt.str "set")) (qA (qC (Dt.str "tell")) (qA (qC (Dt.str "hear")) (qA (qC (Dt.str "right")) qD)))))))) (tseq (qP (qF K63.qEa (qA (qB 2) (qA (qB 1) (qA (qB 3) qD)))) (qi 2 (qY (qJ 5) (qY (qJ 6) qAK)))) qG) (tseq (qP (qF K63.qGg (qA (qB 2) (qA (qB 1) (qA (qB 3) qD)))) (qi 2 (qY (qJ 5) (qY (qJ 6) qAK)))) qG)) qG)) qG)) bkE)
section
variable {E:qA4} {ρ:Rho} {st:Sto} {x te:TD} {a:Str} {xs:List Dt} {b:Bool}
theorem inS (hx:∀ P:VD,P (.str a) st→x ρ st P) (ht:∀ P:VD,P (.tup xs) st→te ρ st P) (ok:xs.all (okD 0)=true) (e:(xs.any (fun z=>eqD 0 z (.str a)) != false)=b):∀ P:Bool→Sto→Prop,P b st→qH (qE (qBH false) x te) ρ st P:=by
  intro P hp
  simp only [qH,qE]
  refine hx _ (ht _ ⟨rfl,ok,?_⟩)
  rw [e];exact hp
end
theorem qNm {w:Int} (h0:0≤w) (h1:w<16):w=0∨w=1∨w=2∨w=3∨w=4∨w=5∨w=6∨w=7∨w=8∨w=9∨w=10∨w=11∨w=12∨w=13∨w=14∨w=15:=by omega
theorem qRA {w:Int} (h0:0≤w) (h1:w<16):(qAM w==Str.ofString "put")=decide (w=1):=by
  k_dat 0"r85"
theorem qRU {w:Int} (h0:0≤w) (h1:w<16):(([.str "add",.str "sub",.str "mul",.str "div"]:List Dt).any (fun z=>eqD 0 z (.str (qAM w))) != false)=decide (qC5 w):=by
  k_dat 0"r85"
theorem qQZ {w:Int} (h0:0≤w) (h1:w<16):(([.str "get",.str "set",.str "tell",.str "hear",.str "right"]:List Dt).any (fun z=>eqD 0 z (.str (qAM w))) != false)=decide (qDs w):=by
  k_dat 0"r85"
theorem qHC {ds:List Dt} {st:Sto} {Pd:VD} (h:qF1 ds st Pd):qCw (Ed Pd) (qU ["number", "place", "row", "old", "new", "rows", "exits"] ds) st:=by
  obtain⟨n,p,rfl,n0,n6,hP⟩:=h
  show qCw (Ed Pd) [some (.int n),some (.int p),none,none,none,none,none] st
  have ea:n / 512%8=((aN n:Nat):Int):=by unfold aN;omega
  have a8:aN n<8:=by unfold aN;omega
  have w0:0≤n / 4096:=by omega
  have w6:n / 4096<16:=by omega
  refine qz ?_
  simp only [qF,qA,qD,qB,List.getElem?_cons_zero,List.getElem?_cons_succ,List.set_cons_zero,List.set_cons_succ]
  refine⟨n,rfl,n0,n6,fun s1 x1=>?_⟩
  rw [ea]
  generalize aN n=a at *
  generalize n / 4096=w at *
  generalize n / 64%8=b at *
  generalize n%64=c at *
  refine qz ?_
  refine qTG (n:=3) (f:=qD1) (by decide) (fun j hj Q hQ=>⟨z10 2 (by decide),hQ⟩) ?_
  refine qz ?_
  k_dat 0"r83"
  refine⟨z10 2 (by decide),z10 2 (by decide),z10 2 (by decide),z10 3 (by decide),?_⟩
  have go:(s1++[SO.rw qAg]++[SO.rw qKA])[s1.length]? = some (.rw qAg):=qO qL
  have gn:=@qL (s1++[SO.rw qAg]) (SO.rw qKA)
  have x3:ql st (s1++[SO.rw qAg]++[SO.rw qKA]):=qZ x1 (qZ (.app _ _) (.app _ _))
  have goal:∀ (s3:Sto) (o m:Nat),ql st s3→s3[o]? = some (.rw qAg)→s3[m]? = some (.rw qKA)→bkD (Ed Pd) [some (.int n),some (.int p),some (qC9 w a b c),some (.lst o),some (.lst m),none,none] s3:=by
    clear go gn x3
    intro s3 o m x3 go gm
    have fin:∀ (s:Sto) (i j:Nat),ql s3 s→s[i]? = some (.rw ((blR w a b c).map qk))→s[j]? = some (.rw ((blE w a c p).map exD))→bkE (Ed Pd) [some (.int n),some (.int p),some (qC9 w a b c),some (.lst o),some (.lst m),some (.lst i),some (.lst j)] s:=by
      intro s i j xs hi hj
      k_dat 0"r0"
      simp only [qM,qN,qF,qA,qD,qB,qC,qj,List.getElem?_cons_zero,List.getElem?_cons_succ,List.set_cons_zero,List.set_cons_succ,qAH hi,qAH hj]
      exact⟨z10 4 (by decide),hP _ (qZ x3 xs)⟩
    refine qAQ (ifS (b:=decide (w=1)) (st':=s3) ?_ (fun q=>?_) fun q=>?_)
    · rw [← qRA w0 w6]
      exact eqS fun P hp=>rS (i:=2) (j:=0) rfl rfl P hp
    · have q1:w=1:=of_decide_eq_true q
      k_dat 0"r0"
      simp only [qKz,qE,qN,qg,qF,qA,qD,qB,qC,L3.qu,List.getElem?_cons_zero,List.getElem?_cons_succ,List.set_cons_zero,List.set_cons_succ]
      refine K62.ixT (j:=3) rfl ⟨z10 3 (by decide),z10 2 (by decide),z10 2 (by decide),by decide,?_⟩
      refine K62.ixT (j:=1) rfl ⟨z10 2 (by decide),?_⟩
      refine qFq (qO go) a8 fun s4 x4=>?_
      refine⟨z10 1 (by decide),_,_,rfl,?_⟩
      refine fin _ _ _ (qZ (.app _ _) (qZ x4 (.app _ _))) ?_ ?_
      · rw [blR,if_pos q1];exact qO (x4 _ _ qL)
      · rw [blE,if_pos q1];exact qL
    have q1:¬ w=1:=of_decide_eq_false q
    refine qAQ (ifS (b:=decide (qC5 w)) (st':=s3) ?_ (fun q=>?_) fun q=>?_)
    · refine inS (fun P hp=>rS (i:=2) (j:=0) rfl rfl P hp) ?_ rfl (qRU w0 w6)
      intro P hp
      simp only [qN,qA,qD,qC]
      exact⟨z10 4 (by decide),hp⟩
    · have q2:qC5 w:=of_decide_eq_true q
      k_dat 0"r0"
      k_dat 0"r86"
      refine⟨w,a,b,c,p,o,m,rfl,go,gm,q2,a8,fun i j s4 x4 hi hj=>?_⟩
      k_dat 0"r87"
      refine⟨rfl,?_⟩
      refine fin _ _ _ x4 ?_ ?_
      · rw [blR,if_neg q1,if_pos q2];exact hi
      · rw [blE,if_neg q1,if_pos q2];exact hj
    have q2:¬ qC5 w:=of_decide_eq_false q
    refine qAQ (ifS (b:=decide (qDs w)) (st':=s3) ?_ (fun q=>?_) fun q=>?_)
    · refine inS (fun P hp=>rS (i:=2) (j:=0) rfl rfl P hp) ?_ rfl (qQZ w0 w6)
      intro P hp
      simp only [qN,qA,qD,qC]
      exact⟨z10 5 (by decide),hp⟩
    · have q3:qDs w:=of_decide_eq_true q
      k_dat 0"r0"
      k_dat 0"r86"
      refine⟨w,a,b,c,p,o,rfl,go,q3,a8,fun i j s4 x4 hi hj=>?_⟩
      k_dat 0"r87"
      refine⟨rfl,?_⟩
      refine fin _ _ _ x4 ?_ ?_
      · rw [blR,if_neg q1,if_neg q2,if_pos q3];exact hi
      · rw [blE,if_neg q1,if_neg q2,if_pos q3];exact hj
    have q3:¬ qDs w:=of_decide_eq_false q
    have q4:qNI w:=by unfold qNI qDs qC5 at *;omega
    k_dat 0"r0"
    k_dat 0"r86"
    refine⟨w,a,b,c,p,o,rfl,go,q4,a8,fun i j s4 x4 hi hj=>?_⟩
    k_dat 0"r87"
    refine⟨rfl,?_⟩
    refine fin _ _ _ x4 ?_ ?_
    · rw [blR,if_neg q1,if_neg q2,if_neg q3];exact hi
    · rw [blE,if_neg q1,if_neg q2,if_neg q3];exact hj
  exact goal _ _ _ x3 go gn
end K63
namespace K63
open PySem PySem.Spec PyProof.Rows L2 L3 KS K02 K85 K06 KM KL
abbrev qBl:TSD:=(tseq (qP (qE L3.qu (qE L3.qu (qAG (qE qI (qB 0) (qC (Dt.int 5))) qv (qp (qB 2))) (qN (qA (qB 1) qD))) (qAG (qE qI (qB 0) (qC (Dt.int 5))) (qp (qE L3.qu (qB 2) (qC (Dt.int 1)))) qv)) (qJ 3)) (tseq (qP (qE qAn (qB 2) (qC (Dt.int 8))) (qJ 4)) (tseq (qP (qE L3.qu (qE L3.qu (qAG (qE qI (qB 0) (qC (Dt.int 4))) qv (qp (qB 4))) (qN (qA (qE L3.qu (qE qo (qE qI (qE qI (qB 0) (qC (Dt.int 4))) (qB 4)) (qC (Dt.int 4))) (qC (Dt.int 4))) qD))) (qAG (qE qI (qB 0) (qC (Dt.int 4))) (qp (qE L3.qu (qB 4) (qC (Dt.int 1)))) qv)) (qJ 5)) (tseq (qM (qN (qA (qB 2) (qA (qE qI (qB 0) (qC (Dt.int 1))) (qA (qE qI (qB 0) (qC (Dt.int 2))) (qA (qE qI (qB 0) (qC (Dt.int 3))) (qA (qB 5) (qA (qB 3) qD)))))))) qG))))
theorem qDL {xs:List Int} {k:Nat}:L3.cutD (xs.map Dt.int) none (some (k:Int))=(xs.take k).map Dt.int:=qHU
theorem qLA {xs:List Int} {k:Nat} {v:Int} (h:k<xs.length):(xs.take k).map Dt.int++[.int v]++(xs.drop (k+1)).map Dt.int=(xs.set k v).map .int:=by
  rw [List.set_eq_take_append_cons_drop,if_pos h];simp
theorem qE8 {ds:List Dt} {st:Sto} {Pd:VD} (h:qHt ds st Pd):qBl (Ed Pd) (qU ["state", "number", "place", "cells", "page", "rights"] ds) st:=by
  obtain⟨g,n,p,rfl,ok,hp,hP⟩:=h
  show qBl (Ed Pd) [some g.d,some (.int n),some (.int (p:Int)),none,none,none] st
  have c8:=ok.c8
  have cm:=ok.cm
  have hq:p / 8<g.rs.length:=by omega
  have e8:(p:Int) / 8=((p / 8:Nat):Int):=by omega
  refine qz ?_
  k_dat 0"r88"
  refine K62.qGJ (j:=5) rfl ?_
  refine⟨z10 1 (by decide),?_⟩
  simp only [L3.qu]
  refine⟨?_,?_⟩
  · rw [sizeLine_eq,qDL];simp;omega
  refine K62.qGJ (j:=5) rfl ?_
  dsimp only
  rw [show (p:Int)+1=((p+1:Nat):Int) from rfl,KL.qEO,qDL]
  refine⟨by rw [sizeLine_eq];simp;omega,?_⟩
  rw [qLA hp]
  refine qz ?_
  k_dat 0"r128"
  refine⟨cdiv (by decide) (by decide),?_⟩
  rw [e8]
  refine qz ?_
  k_dat 0"r88"
  iterate 2 refine K62.qGJ (j:=4) rfl ?_
  refine K62.ixT (j:=p / 8) (d:=.int (g.rs.getD (p / 8) 0)) (by rw [List.getElem?_map,List.getD_eq_getElem?_getD,List.getElem?_eq_getElem hq];rfl) ?_
  k_dat 0"r21"
  simp only [L3.qu]
  refine⟨z10 1 (by decide),?_⟩
  refine⟨?_,?_⟩
  · rw [sizeLine_eq,qDL];simp;omega
  refine K62.qGJ (j:=4) rfl ?_
  dsimp only
  rw [show ((p / 8:Nat):Int)+1=((p / 8+1:Nat):Int) from rfl,KL.qEO,qDL]
  refine⟨by rw [sizeLine_eq];simp;omega,?_⟩
  rw [qLA hq]
  k_dat 0"r0"
  simp only [qM,qE,qN,qA,qD,qB,qC,List.getElem?_cons_zero,List.getElem?_cons_succ,List.set_cons_zero,List.set_cons_succ]
  refine K62.qGJ (j:=1) rfl ?_
  refine K62.qGJ (j:=2) rfl ?_
  refine K62.qGJ (j:=3) rfl ?_
  exact⟨z10 6 (by decide),hP _ (.refl _)⟩
end K63
namespace K63
open PySem PySem.Spec PyProof.Rows L2 L3 KS K02 K85 K06 KM KL
abbrev riB:TSD:=(tseq (qP (qF qDR (qA (qE (qBH false) (qB 4) (qN (qA (qC (Dt.str "on")) (qA (qC (Dt.str "shut")) qD)))) qD)) (qJ 11)) (tseq (qM (qF (KL.qCn 5) (qA (qAG (qB 8) qv (qp (qC (Dt.int 5)))) (qA (qN (qA (qB 4) (qA (qB 5) (qA (qB 6) (qA (qB 11) (qA (qF qDR (qA (qE (qW false) (qE qI (qB 9) (qC (Dt.int 0))) (qC (Dt.str "hear"))) qD)) qD)))))) qD)))) qG))
abbrev qCp:TSD:=(tseq (qP (qF K06.qFv (qA (qB 0) (qA (qE qI (qB 2) (qC (Dt.int 0))) qD))) (qi 3 (qY (qJ 4) (qY (qJ 5) (qY (qJ 6) qAK))))) (tseq (qP (qF K63.qF1 (qA (qB 1) (qA (qE qI (qB 0) (qC (Dt.int 0))) qD))) (qJ 7)) (tseq (qP (qF KM.qEh (qA (qB 7) (qA (qB 0) (qA (qB 2) (qA (qB 3) qD))))) (qJ 8)) (tseq (qP (qF K63.qCI (qA (qB 1) qD)) (qJ 9)) (tseq (qV (qA5 (qH (qE (qW false) (qE qI (qB 9) (qC (Dt.int 0))) (qC (Dt.str "set")))) (qH (qE (qW false) (qB 4) (qC (Dt.str "on"))))) (tseq (qP (qE L3.qu (qE qI (qE qI (qB 0) (qC (Dt.int 1))) (qE qI (qB 9) (qC (Dt.int 2)))) (qE qI (qB 9) (qC (Dt.int 3)))) (qJ 10)) (tseq (qP (qE qI (qg (qA (qC (Dt.str "on")) (qA (qC (Dt.str "shut")) qD))) (qF qDR (qA (qE (qBH false) (qE qAn (qB 10) (qC (Dt.int 8))) (qB 3)) qD))) (qJ 4)) qG)) qG) riB)))))
theorem c0:∀ r∈([]:List Rw),OkR r:=fun r h=>by cases h
theorem c1 {r:Rw} {rs:List Rw} (h:OkR r) (t:∀ r∈rs,OkR r):∀ x∈r::rs,OkR x:=fun x hx=>by
  rcases List.mem_cons.mp hx with rfl | hx
  · exact h
  · exact t x hx
theorem qCc:OkR qA1:=qA9 (w:=Str.ofString "out") (f:= "e") (by decide +kernel) (by decide +kernel)
theorem qFQ {x y:Int}:OkR ⟨"box",[x,y]⟩:=qA9 (w:=Str.ofString "box") (f:= "dn") (by decide +kernel) (by show 2=_;decide +kernel)
theorem qK6 {x y:Int}:OkR ⟨"num",[x,y]⟩:=qA9 (w:=Str.ofString "num") (f:= "dn") (by decide +kernel) (by show 2=_;decide +kernel)
theorem qIX {w b c:Int} (h:qC5 w):∀ r∈qHJ w b c,OkR r:=by
  have h3:OkR (if w=6 then ⟨"div",[2,0,1,1]⟩ else ⟨qAM w,[2,0,1]⟩):=by
    rcases h with rfl | rfl | rfl | rfl
    · exact qA9 (w:=Str.ofString "add") (f:= "dxx") (by decide +kernel) (by decide +kernel)
    · exact qA9 (w:=Str.ofString "sub") (f:= "dxx") (by decide +kernel) (by decide +kernel)
    · exact qA9 (w:=Str.ofString "mul") (f:= "dxx") (by decide +kernel) (by decide +kernel)
    · exact qA9 (w:=Str.ofString "div") (f:= "dxxe") (by decide +kernel) (by decide +kernel)
  have h6:OkR ⟨K20.nm (opC w),[6,0,1]⟩:=by
    rcases h with rfl | rfl | rfl | rfl
    · exact qA9 (w:=Str.ofString "over") (f:= "dxx") (by decide +kernel) (by decide +kernel)
    · exact qA9 (w:=Str.ofString "under") (f:= "dxx") (by decide +kernel) (by decide +kernel)
    · exact qA9 (w:=Str.ofString "wide") (f:= "dxx") (by decide +kernel) (by decide +kernel)
    · exact qA9 (w:=Str.ofString "rest") (f:= "dxx") (by decide +kernel) (by decide +kernel)
  exact c1 qFQ (c1 qFQ (c1 h3 (c1 (qA9 (w:=Str.ofString "nought") (f:= "dx") (by decide +kernel) (by decide +kernel)) (c1 (qA9 (w:=Str.ofString "high") (f:= "dx") (by decide +kernel) (by decide +kernel)) (c1 h6 (c1 qCc c0))))))
theorem qSg {w b c:Int} {a:Nat} (h0:0≤w) (h1:w<16):(∀ r∈blR w a b c,OkR r)∧(blR w a b c).length≤7:=by
  rcases qNm h0 h1 with rfl | rfl | rfl | rfl | rfl | rfl | rfl | rfl | rfl | rfl | rfl | rfl | rfl | rfl | rfl | rfl
  · k_dat 0"r41"
  · exact⟨c1 qK6 (c1 qCc c0),by show 2≤7;decide⟩
  · exact⟨qIX (w:=2) (.inl rfl),by show 7≤7;decide⟩
  · exact⟨qIX (w:=3) (.inr (.inl rfl)),by show 7≤7;decide⟩
  · exact⟨qIX (w:=4) (.inr (.inr (.inl rfl))),by show 7≤7;decide⟩
  · k_dat 0"r41"
  · exact⟨qIX (w:=6) (.inr (.inr (.inr rfl))),by show 7≤7;decide⟩
  · exact⟨c1 qFQ (c1 qK6 (c1 (qA9 (w:=Str.ofString "get") (f:= "dxxe") (by decide +kernel) (by decide +kernel)) (c1 qCc c0))),by show 4≤7;decide⟩
  · exact⟨c1 qFQ (c1 qK6 (c1 qFQ (c1 (qA9 (w:=Str.ofString "set") (f:= "xxxee") (by decide +kernel) (by decide +kernel)) (c1 qCc c0)))),by show 5≤7;decide⟩
  · k_dat 0"r41"
  · show (∀ r∈qDH 10 a,OkR r)∧(qDH 10 a).length≤7
    unfold qDH
    split
    · k_dat 0"r41"
    split
    · k_dat 0"r41"
    rw [if_pos rfl]
    exact⟨c1 (qA9 (w:=Str.ofString "mark") (f:= "dn") (by decide +kernel) (by show 2=_;decide +kernel)) (c1 (qA9 (w:=Str.ofString "when") (f:= "xee") (by decide +kernel) (by show 3=_;decide +kernel)) c0),by show 2≤7;decide⟩
  · exact⟨c1 qFQ (c1 qCc c0),by show 2≤7;decide⟩
  · exact⟨c1 qFQ (c1 (qA9 (w:=Str.ofString "tell") (f:= "x") (by decide +kernel) (by decide +kernel)) (c1 qCc c0)),by show 3≤7;decide⟩
  · exact⟨c1 (qA9 (w:=Str.ofString "hear") (f:= "d") (by decide +kernel) (by decide +kernel)) (c1 qCc c0),by show 2≤7;decide⟩
  · exact⟨c1 qFQ (c1 qK6 (c1 (qA9 (w:=Str.ofString "right") (f:= "xxe") (by decide +kernel) (by decide +kernel)) (c1 qCc c0))),by show 4≤7;decide⟩
  · exact⟨c1 (qA9 (w:=Str.ofString "back") (f:= "ee") (by decide +kernel) (by decide +kernel)) c0,by show 1≤7;decide⟩
theorem qTf {how:Str}:(([.str "on",.str "shut"]:List Dt).any (fun z=>eqD 0 z (.str how)) != false)=decide (how = "on" ∨ how = "shut"):=by
  by_cases h1:how = "on"
  · subst h1;rfl
  by_cases h2:how = "shut"
  · subst h2;rfl
  have e1:(Str.ofString "on" == how)=false:=beq_eq_false_iff_ne.mpr fun e=>h1 e.symm
  have e2:(Str.ofString "shut" == how)=false:=beq_eq_false_iff_ne.mpr fun e=>h2 e.symm
  rw [decide_eq_false (fun e=>e.elim h1 h2)]
  show (((Str.ofString "on" == how) || ((Str.ofString "shut" == how) || false)) != false)=false
  rw [e1,e2];rfl
theorem qSw {w:Int} (h0:0≤w) (h1:w<16):(qAM w==Str.ofString "set")=decide (w=8)∧(eqD 8 (.str (qAM w)) (.str "hear") != false)=decide (w=13):=by
  rcases qNm h0 h1 with rfl | rfl | rfl | rfl | rfl | rfl | rfl | rfl | rfl | rfl | rfl | rfl | rfl | rfl | rfl | rfl<;>exact⟨rfl,rfl⟩
theorem qKd {g g':GS} {n w a bb c:Int} {gn heard cnt:Nat} {wt told:List Int} {b ad:Option Dt} {how:Str} {ex:Ex} {s:Sto} {Pd:VD} (eh:ex.how=how) (en:ex.n=qC8 how) (hh:heard=if w=13 then 1 else 0) (w0:0≤w) (w6:w<16) (hP:∀ s',ql s s'→Pd (.bl true) s'):riB (Ed Pd) [some g.d,some (.int n),some (.lst gn),some (.tup (wt.map .int)),some (.str how),some g'.d,some (.tup (told.map .int)),b,some (qLH ex g' told heard cnt),some (qC9 w a bb c),ad,none] s:=by
  refine qz ?_
  simp only [qF,qE,qN,qA,qD,qB,qC,List.getElem?_cons_zero,List.getElem?_cons_succ,List.set_cons_zero,List.set_cons_succ]
  refine⟨z10 2 (by decide),rfl,rfl,?_⟩
  rw [qTf]
  simp only [qDR]
  have ed:(if decide (how = "on" ∨ how = "shut")=true then (1:Int) else 0)=qC8 how:=by
    unfold qC8
    by_cases q:how = "on" ∨ how = "shut"
    · rw [decide_eq_true q,if_pos q];rfl
    · rw [decide_eq_false q,if_neg q];rfl
  rw [ed]
  k_dat 0"r0"
  simp only [qM,qF,qE,qAG,qv,qp,qN,qA,qD,qB,qC,List.getElem?_cons_zero,List.getElem?_cons_succ,List.set_cons_zero,List.set_cons_succ]
  refine K62.ixT (j:=0) rfl ⟨rfl,rfl,?_⟩
  rw [(qSw w0 w6).2]
  simp only [qDR]
  refine⟨z10 5 (by decide),?_⟩
  have e5:((heard:Nat):Int)=(if decide (w=13)=true then (1:Int) else 0):=by
    subst hh
    by_cases q:w=13
    · rw [decide_eq_true q,if_pos q];rfl
    · rw [decide_eq_false q,if_neg q];rfl
  refine⟨.tup [.str how,g'.d,.tup (told.map .int),.int (qC8 how),.int (heard:Int)],?_,?_,fun s' x'=>hP _ x'⟩
  · rw [← e5,← en,← eh];rfl
  · show [Dt.str how,g'.d,.tup (told.map .int),.int (qC8 how),.int (heard:Int)].all (KL.okS 4)=true
    simp only [List.all_cons,List.all_nil,K62.qLK,K62.qM1,Bool.and_true]
    rfl
end K63
namespace K63
open PySem PySem.Spec PyProof.Rows L2 L3 KS K02 K85 K06 KM KL
theorem qTP {w:Int} {how:Str} (w0:0≤w) (w6:w<16):((qAM w==Str.ofString "set")&&(how==Str.ofString "on"))=decide (w=8∧how = "on"):=by
  rw [(qSw w0 w6).1]
  by_cases h1:how = "on"
  · subst h1
    by_cases h2:w=8<;>simp [h2]
  · have e:(how==Str.ofString "on")=false:=beq_eq_false_iff_ne.mpr h1
    rw [e,Bool.and_false];exact (decide_eq_false fun q=>h1 q.2).symm
theorem qG0 {ds:List Dt} {st:Sto} {Pd:VD} (h:qFu ds st Pd):qCp (Ed Pd) (qU ["state", "number", "given", "watched", "how", "after", "told", "block", "found", "row", "address", "done"] ds) st:=by
  obtain⟨g,n,gn,h,gs,wt,rfl,ok,p128,n0,n6,hm,hc,hg,gl,wl,h0,h6,hP⟩:=h
  show qCp (Ed Pd) [some g.d,some (.int n),some (.lst gn),some (.tup (wt.map .int)),none,none,none,none,none,none,none,none] st
  have ea:n / 512%8=((aN n:Nat):Int):=by unfold aN;omega
  have a8:aN n<8:=by unfold aN;omega
  have w0:0≤n / 4096:=by omega
  have w6:n / 4096<16:=by omega
  have b0:0≤n / 64%8:=by omega
  have b8:n / 64%8<8:=by omega
  have k0:0≤n%64:=by omega
  have k6:n%64<64:=by omega
  have er:doR g h=doW g (n / 4096) (aN n) (n / 64%8) (n%64) h:=by
    unfold doR
    rw [if_pos hm,hc,ea,show n / 4096%16=n / 4096 by omega]
  obtain⟨m',e,r,cn,ex,go,he,hb,hms,ou,eh,et,en,ehd⟩:=(qKI (wt:=wt) (gs:=gs) (h:=h) ok (show g.p<65536 by omega) ⟨h0,h6⟩ w0 w6 a8 b0 b8 k0 k6).ex
  k_dat 0"r0"
  simp only [qP,qF,qE,qA,qD,qB,qC,List.getElem?_cons_zero,List.getElem?_cons_succ,List.set_cons_zero,List.set_cons_succ]
  refine qDQ (j:=0) hg rfl ?_
  refine⟨g,h,rfl,ok,?_⟩
  rw [er]
  generalize hR:doW g (n / 4096) (aN n) (n / 64%8) (n%64) h=R at *
  simp only [qi,qAx,qa,qY,qJ,qAK,List.getElem?_cons_zero,List.getElem?_cons_succ,List.set_cons_zero,List.set_cons_succ]
  refine⟨rfl,?_⟩
  refine qz ?_
  simp only [qF,qE,qA,qD,qB,qC,List.getElem?_cons_zero,List.getElem?_cons_succ,List.set_cons_zero,List.set_cons_succ]
  refine K62.qGJ (j:=0) rfl ?_
  refine⟨n,g.p,rfl,n0,n6,fun s1 x1=>?_⟩
  refine qz ?_
  k_dat 0"r40"
  have bo:=qSg (a:=aN n) (b:=n / 64%8) (c:=n%64) w0 w6
  refine⟨.int g.p,.int 7,blR (n / 4096) (aN n) (n / 64%8) (n%64),blE (n / 4096) (aN n) (n%64) g.p,g,gn,h::gs,wt,rfl,⟨_,x1 _ _ hg,rfl⟩,bo.1,by omega,by simp;omega,by omega,m',e,r,cn,ex,_,go,he,hb,hms,ou,fun s2 x2=>?_⟩
  refine qz ?_
  k_dat 0"r40"
  refine⟨n,rfl,n0,n6,fun s3 x3=>?_⟩
  have y3:=qZ x1 (qZ x2 x3)
  rw [et]
  refine qBm (b:=decide (n / 4096=8∧R.1 = "on")) (st':=s3) ?_ (fun q=>?_) fun q=>?_
  · rw [← qTP w0 w6]
    exact qPl (eqS fun P hp=>rS (i:=9) (j:=0) rfl rfl P hp) fun _=>eqS fun P hp=>hp
  · have q:=of_decide_eq_true q
    rw [show qG7 (n / 4096) wt (bx g (n / 64%8)+n%64) R.1=(if qDy wt (bx g (n / 64%8)+n%64)=true then Str.ofString "shut" else Str.ofString "on") from if_pos q] at eh en
    refine qz ?_
    k_dat 0"r128"
    refine K62.qGJ (j:=1) rfl ?_
    refine K62.ixT (j:=2) rfl ?_
    have eS:n / 64%8=(((n / 64%8).toNat:Nat):Int):=by omega
    have hx:=qBg ok b0 b8
    have hix:∀ P:VD,P (.int (bx g (n / 64%8))) s3→qI (.tup (g.bs.map .int)) (.int (n / 64%8)) s3 P:=by
      intro P hp
      rw [eS]
      exact K62.ixT (j:=(n / 64%8).toNat) (by rw [List.getElem?_map,hx];rfl) hp
    refine hix _ ?_
    refine K62.ixT (j:=3) rfl ?_
    simp only [L3.qu]
    generalize bx g (n / 64%8)+n%64=qq at *
    refine qz ?_
    simp only [qF,qE,qg,qA,qD,qB,qC,List.getElem?_cons_zero,List.getElem?_cons_succ,List.set_cons_zero,List.set_cons_succ]
    refine⟨z10 2 (by decide),cdiv (by decide) (by decide),rfl,?_,?_⟩
    · rw [List.all_eq_true];intro d hd;obtain⟨v,-,rfl⟩:=List.mem_map.mp hd;rfl
    show qDR [.bl (qDy wt qq != false)] _ _
    simp only [qDR]
    by_cases hs:qDy wt qq=true
    · rw [hs]
      rw [if_pos hs] at eh en
      refine qDQ (j:=1) qL rfl ?_
      exact qKd eh en ehd w0 w6 fun s' x'=>hP _ (qZ y3 (qZ (.app _ _) x'))
    · rw [if_neg hs] at eh en
      rw [Bool.not_eq_true] at hs
      rw [hs]
      refine qDQ (j:=0) qL rfl ?_
      exact qKd eh en ehd w0 w6 fun s' x'=>hP _ (qZ y3 (qZ (.app _ _) x'))
  · have q:=of_decide_eq_false q
    rw [show qG7 (n / 4096) wt (bx g (n / 64%8)+n%64) R.1=R.1 from if_neg q] at eh en
    exact qKd eh en ehd w0 w6 fun s' x'=>hP _ (qZ y3 x')
end K63
namespace K63
open PySem PySem.Spec PyProof.Rows L2 L3 KS K02 K85 K06 KM KL
abbrev qTa:TSD:=(tseq (qCb (qBI (qE L3.qu (qg (qA (qC (Dt.int 0)) qD)) (qAG (qB 0) (qp (qC (Dt.int 5))) qv))) (qJ 3) (tseq (qP (qF KL.qBB (qA (qB 3) (qA (qB 1) (qA (qg (qA (qC (Dt.int 65536)) (qA (qC (Dt.int 128)) (qA (qC (Dt.int 65536)) (qA (qC (Dt.int 65536)) qD))))) qD)))) (qi 4 (qY (qJ 4) (qY (qJ 5) (qY (qJ 6) (qY (qJ 7) qAK)))))) (tseq (qP (qF K63.qHt (qA (qB 2) (qA (qB 4) (qA (qE qo (qB 5) (qF qBC (qA (qE qI (qB 2) (qC (Dt.int 5))) qD))) qD)))) (qJ 8)) (tseq (qP (qF KL.qDq (qA (qB 7) (qA (qF qBC (qA (qE qI (qB 2) (qC (Dt.int 4))) qD)) qD))) (qJ 9)) (tseq (qV (qA2 (qH (qF K63.qFu (qA (qB 8) (qA (qB 4) (qA (qAG (qg (qA (qB 6) (qA (qC (Dt.int 7)) (qA (qC (Dt.int 65535)) qD)))) qv (qp (qE L3.qu (qC (Dt.int 1)) (qE qo (qB 7) (qC (Dt.int 3)))))) (qA (qB 9) qD))))))) (tseq (qM (qC (Dt.bl false))) qG) qG) (tseq (qV (qH (qE (qW false) (qE qo (qB 5) (qC (Dt.int 3))) (qC (Dt.int 0)))) (tseq (qP (qB 8) (qJ 2)) qG) qG) qG)))))) (tseq (qM (qC (Dt.bl true))) qG))
abbrev qNr:TSD:=(tseq (qP (qE qo (qF K85.qAv (qA (qB 0) (qA (qC (Dt.int 4)) qD))) (qC (Dt.int 2))) (qJ 1)) (tseq (qP (qF KL.qFs (qA (qB 0) (qA (qB 1) qD))) (qJ 2)) (tseq (qV (qH (qE (qW false) (qF qBC (qA (qE qI (qB 2) (qC (Dt.int 5))) qD)) (qC (Dt.int 0)))) (tseq (qP (qE L3.qu (qAG (qB 2) qv (qp (qC (Dt.int 4)))) (qN (qA (qN (qA (qC (Dt.int 7)) qD)) (qA (qE qNn (qN (qA (qC (Dt.int 0)) qD)) (qC (Dt.int 8))) qD)))) (qJ 2)) qG) qG) qTa)))
section
variable {g:GS} {n:Int} {p:Nat}
theorem qJQ {xs:List Int} {i:Nat} {v x:Int} (h:x∈xs.set i v):x∈xs∨x=v:=List.mem_or_eq_of_mem_set h
theorem qLD (ok:g.Ok) (hp:p<g.cs.length) (n0:0≤n) (n6:n<65536):(qD0 g n p).Ok where
  p0:=Int.natCast_nonneg p
  b8:=ok.b8
  bb:=ok.bb
  c8:=by show (g.cs.set p n).length=8 * (g.rs.set _ _).length;rw [List.length_set,List.length_set];exact ok.c8
  cm:=by show (g.cs.set p n).length≤128;rw [List.length_set];exact ok.cm
  cb:=fun v hv=>by
    rcases qJQ hv with h | rfl
    · exact ok.cb v h
    · exact⟨n0,n6⟩
  rb:=fun v hv=>by
    rcases qJQ hv with h | rfl
    · exact ok.rb v h
    · omega
theorem qJd {xs:List Int} {i:Nat} {v:Int} (h:i<xs.length):(xs.set i v).getD i 0=v:=by
  rw [List.getD_eq_getElem?_getD,List.getElem?_set_self h];rfl
theorem qOE (ok:g.Ok) (hp:p<g.cs.length):may 4 (qD0 g n p) (qD0 g n p).p=true:=by
  have c8:=ok.c8
  show ((decide ((0:Int)≤(p:Int))&&decide ((p:Int)<((g.cs.set p n).length:Int)))&&decide ((g.rs.set (p / 8) (g.rs.getD (p / 8) 0%4+4)).getD ((p:Int) / 8).toNat 0 / 4%2=1))=true
  rw [List.length_set,show ((p:Int) / 8).toNat=p / 8 by omega,qJd (by omega),decide_eq_true (by omega),decide_eq_true (by omega),decide_eq_true (by omega)]
  rfl
theorem qLf (hp:p<g.cs.length):(qD0 g n p).cs.getD (qD0 g n p).p.toNat 0=n:=qJd hp
end
theorem four {ps:List Int} (h:PIn ps [65536,128,65536,65536]):∃ a b c d:Int,ps=[a,b,c,d]∧(0≤a∧a<65536)∧(0≤b∧b<128)∧(0≤c∧c<65536)∧0≤d:=by
  obtain⟨hl,hb⟩:=h
  have hl:ps.length=4:=hl
  match ps,hl with
  | [a,b,c,d],_=>exact⟨a,b,c,d,rfl,hb 0 _ _ rfl rfl,hb 1 _ _ rfl rfl,hb 2 _ _ rfl rfl,(hb 3 _ _ rfl rfl).1⟩
noncomputable abbrev RL (way:Int) (g:GS) (a b c d e f h:Option Dt):Rho:=[some (.lst 0),some (.int way),some g.d,a,b,c,d,e,f,h]
theorem qSn:(List.replicate (8:Int).toNat [Dt.int 0]).flatten=(List.replicate 8 (0:Int)).map .int:=rfl
theorem qK2 {ns:List Int} {way:Int} {g:GS} {s1:Sto} {Pd:VD} (h0:s1[0]? = some (.ro (ns.map .int))) (hl:ns.length≤63) (ok:g.Ok) (g8:8≤g.cs.length) (hP:∀ s,Pd (.bl true) s):qTa (Ed Pd) (RL way g none none none none none none none) s1:=by
  k_dat 0"r0"
  simp only [qCb,qBI,qE,qg,qAG,qv,qp,qA,qD,qB,qC,List.getElem?_cons_zero,List.getElem?_cons_succ,List.set_cons_zero,List.set_cons_succ]
  refine⟨z10 1 (by decide),?_⟩
  rw [qO h0]
  simp only [SO.items]
  rw [show (5:Int)=((5:Nat):Int) from rfl,KL.qEO]
  simp only [L3.qu]
  have g1:∀ o:SO,(s1++[SO.rw [.int 0]]++[o])[s1.length]? = some (.rw [.int 0]):=fun o=>qO qL
  simp only [g1,qL]
  have hlen:(ns.drop 5).length≤ns.length:=by rw [List.length_drop];omega
  refine⟨by rw [sizeLine_eq];simp;omega,?_⟩
  rw [qAH qL]
  have ei:[Dt.int 0]++(ns.drop 5).map Dt.int=(0::ns.drop 5).map Dt.int:=rfl
  rw [ei]
  generalize 0::ns.drop 5=cells at *
  have gL:∀ s:Sto,(s++[SO.rw (cells.map Dt.int)])[s.length]? = some (.rw (cells.map .int)):=fun s=>qL
  generalize hsL:s1++[SO.rw [.int 0]]++[SO.rw ((ns.drop 5).map .int)]=s2
  have gc:=gL s2
  refine⟨fun i ρ s=>(∃ (g:GS) (a b c d e f h:Option Dt),ρ=RL way g a b c d e f h∧g.Ok∧8≤g.cs.length)∧ql (s2++[SO.rw (cells.map Dt.int)]) s,⟨⟨g,_,_,_,_,_,_,_,rfl,ok,g8⟩,.refl _⟩,fun i ρ s _ h=>qAH (h.2 _ _ gc),?_,?_⟩
  · clear ok g8 g
    rintro i d ρ s hd ⟨⟨g,a,b,c,e,f,k,m,rfl,ok,g8⟩,hx⟩
    obtain⟨cell,rfl⟩:∃ x:Int,d = .int x:=by
      rw [List.getElem?_map] at hd
      cases h:cells[i]? with
      | none=>rw [h] at hd;cases hd
      | some v=>rw [h] at hd;exact⟨v,by simpa using hd.symm⟩
    have c8:=ok.c8
    have cm:=ok.cm
    show tseq _ _ _ (RL way g (some (.int cell)) b c e f k m) s
    k_dat 0"r0"
    simp only [qP,qF,qg,qA,qD,qB,qC,List.getElem?_cons_zero,List.getElem?_cons_succ,List.set_cons_zero,List.set_cons_succ]
    refine⟨z10 4 (by decide),?_⟩
    refine⟨cell,way,s.length,[65536,128,65536,65536],rfl,qL,by decide,by decide,fun ps s3 pn x3 l3 hp pin=>?_⟩
    have y3:ql s s3:=fun j o hj=>x3 _ _ (qO hj)
    obtain⟨n,p,h,q,rfl,hn,hpb,hh,hq⟩:=four pin
    simp only [qi,qAH hp,qY,qJ,qAK,List.getElem?_cons_zero,List.getElem?_cons_succ,List.set_cons_zero,List.set_cons_succ,List.map_cons,List.map_nil]
    refine⟨rfl,?_⟩
    refine qz ?_
    k_dat 0"r129"
    refine K62.qGJ (j:=5) rfl ?_
    simp only [qBC,qa,List.length_map]
    refine⟨by omega,?_⟩
    have r0:=Int.emod_nonneg p (show ((g.cs.length:Nat):Int)≠0 by omega)
    have r1:=Int.emod_lt_of_pos p (show (0:Int)<((g.cs.length:Nat):Int) by omega)
    have e1:p%((g.cs.length:Nat):Int)=(((p%((g.cs.length:Nat):Int)).toNat:Nat):Int):=by omega
    generalize (p%((g.cs.length:Nat):Int)).toNat=j at e1
    rw [e1]
    have hj:j<g.cs.length:=by omega
    refine⟨g,n,j,rfl,ok,hj,fun s4 x4=>?_⟩
    refine qz ?_
    k_dat 0"r129"
    refine K62.qGJ (j:=4) rfl ?_
    simp only [qBC,qa,List.length_map]
    refine⟨q,g.rs.length,rfl,by omega,fun wt s5 x5 hw=>?_⟩
    have y5:=qZ hx (qZ y3 (qZ x4 x5))
    k_dat 0"r0"
    simp only [qV,qA2,qH,qg,qE,qF,qAG,qv,qp,qA,qD,qB,qC,L3.qu,List.getElem?_cons_zero,List.getElem?_cons_succ,List.set_cons_zero,List.set_cons_succ]
    refine⟨z10 3 (by decide),by decide,?_⟩
    dsimp only
    rw [qL]
    dsimp only [SO.items]
    have k0:0≤q%3∧q%3<3:=by omega
    have e2:1+q%3=(((q%3).toNat+1:Nat):Int):=by omega
    have k3:(q%3).toNat≤2:=by omega
    rw [e2]
    generalize (q%3).toNat=t at k3
    have e3:L3.cutD [Dt.int h,Dt.int 7,Dt.int 65535] none (some ((t+1:Nat):Int))=(h::[7,65535].take t).map Dt.int:=qDL (xs:=[h,7,65535]) (k:=t+1)
    rw [e3]
    refine⟨qD0 g n j,n,_,h,[7,65535].take t,wt,rfl,qLD ok hj hn.1 hn.2,by show (j:Int)<128;omega,hn.1,hn.2,qOE ok hj,qLf hj,qL,by rw [List.length_take];omega,by omega,hh.1,hh.2,fun s6 x6=>qAz ?_⟩
    have y6:=qZ y5 (qZ (.app _ _) (qZ (.app _ _) x6))
    have ok2:(qD0 g n j).Ok:=qLD ok hj hn.1 hn.2
    have l2:8≤(qD0 g n j).cs.length:=by show 8≤(g.cs.set j n).length;rw [List.length_set];exact g8
    refine tnx ?_
    dsimp only
    refine (qBm (b:=decide (p%3=0)) (st':=s6) ?_ (fun _=>?_) fun _=>?_)
    · exact eqI fun P hp=>⟨by decide,hp⟩
    · exact⟨⟨qD0 g n j,_,_,_,_,_,_,_,rfl,ok2,l2⟩,y6⟩
    · exact⟨⟨g,_,_,_,_,_,_,_,rfl,ok,g8⟩,y6⟩
  · rintro ρ s ⟨⟨g,a,b,c,e,f,k,m,rfl,ok,g8⟩,hx⟩
    exact hP s
theorem qRq {ds:List Dt} {st:Sto} {Pd:VD} (h:qIp ds st Pd):qNr (Ed Pd) (qU ["script", "way", "state", "cell", "number", "place", "given", "pages", "some", "watched"] ds) st:=by
  obtain⟨ns,rfl,rfl,hl,hP⟩:=h
  show qNr (Ed Pd) [some (.lst 0),none,none,none,none,none,none,none,none,none] [SO.ro (ns.map .int)]
  refine qz ?_
  simp only [qE,qF,qA,qD,qB,qC,List.getElem?_cons_zero,List.getElem?_cons_succ]
  refine⟨0,4,ns,rfl,rfl,fun x=>⟨by decide,?_⟩⟩
  generalize x%2=way
  refine qz ?_
  k_dat 0"r40"
  refine⟨0,way,ns,rfl,rfl,fun g s1 x1 ok gp=>?_⟩
  have h0:s1[0]? = some (.ro (ns.map .int)):=x1 _ _ rfl
  have c8:=ok.c8
  refine qBm (b:=decide (((g.cs.map Dt.int).length:Int)=0)) (st':=s1) ?_ (fun _=>?_) fun q=>?_
  · exact eqI fun P hp=>K62.qTw (i:=2) (j:=5) rfl rfl hp
  · refine qz ?_
    k_dat 0"r88"
    refine⟨z10 1 (by decide),z10 1 (by decide),?_⟩
    refine⟨by simp,by decide,by decide,by rw [sizeLine_eq];decide,?_⟩
    refine⟨z10 2 (by decide),?_⟩
    rw [qSn]
    simp only [L3.qu]
    refine⟨z10 6 (by decide),?_⟩
    refine qK2 (g:={ g with rs:=[7],cs:=List.replicate 8 0 }) h0 hl ?_ (show 8≤(List.replicate 8 (0:Int)).length by decide) hP
    exact⟨ok.p0,ok.b8,ok.bb,rfl,(show (List.replicate 8 (0:Int)).length≤128 by decide),(show ∀ v∈List.replicate 8 (0:Int),0≤v∧v<65536 by decide),(show ∀ v∈[(7:Int)],0≤v∧v<8 by decide)⟩
  · have q:=of_decide_eq_false q
    rw [List.length_map] at q
    exact qK2 h0 hl ok (by omega) hP
end K63
namespace K63
open PySem PySem.Spec PyProof.Rows L2 L3 K06
abbrev qD8:TSD:=(tseq (qP (qF K20.qBq (qA (qB 1) (qA (qB 3) (qA (qB 4) qD)))) (qJ 5)) (tseq (qM (qF qBR (qA (qF qBZ (qA (qB 0) (qA (qB 2) (qA (qE qo (qB 5) (qC (Dt.int 65536))) (qA (qB7 (qAq (fun i j=>decide (i≤j)) (fun i j=>decide (i<j)) (qC (Dt.int 0)) (qB 5) (qC (Dt.int 65536)))) qD))))) qD))) qG))
theorem qNy {ds:List Dt} {st:Sto} {P:VD} (h:K06.qBq ds st P):K20.qBq ds st P:=by
  obtain⟨w,x,y,rfl,hw,h0,h1,h⟩:=h
  rcases hw with rfl | rfl | rfl
  · exact⟨.add,x,y,rfl,.inl rfl,h0,h1,h⟩
  · exact⟨.sub,x,y,rfl,.inr (.inl rfl),h0,h1,h⟩
  · exact⟨.mul,x,y,rfl,.inr (.inr rfl),h0,h1,h⟩
abbrev qCZ:TSD:=K01.qCZ
theorem qJr {ds:List Dt} {st:Sto} {Pd:VD} (h:K01.qDM ds st Pd):qCZ (Ed Pd) (qU ["number"] ds) st:=K01.qHm h
theorem qJH {ds:List Dt} {st:Sto} {Pd:VD} (h:K06.qER ds st Pd):qD8 (Ed Pd) (qU ["state", "word", "a", "x", "y", "plain"] ds) st:=by
  obtain⟨g,w,a,x,y,rfl,hw,h8,h0,h1,hx0,hx1,h⟩:=h
  show qD8 (Ed Pd) [some g.d,some (.str (qAM w)),some (.int a),some (.int x),some (.int y),none] st
  refine K02.qz ?_
  simp only [qF,qA,qD,qB,List.getElem?_cons_zero,List.getElem?_cons_succ]
  refine qNy ⟨w,x,y,rfl,hw,hx0,hx1,?_⟩
  k_dat 0"r21"
  have fin:qBZ [g.d,.int a,.int (qDW w x y%65536),.bl (!(decide (0≤qDW w x y)&&decide (qDW w x y<65536)))] st (fun d st=>qBR [d] st Pd):=⟨g,a,_,_,rfl,h8,h0,h1,_,rfl,h⟩
  k_dat 0"r122"
  by_cases c0:0≤qDW w x y
  · rw [decide_eq_true c0,Bool.true_and] at fin
    exact qDB (decide_eq_true c0) fin
  · rw [decide_eq_false c0,Bool.false_and] at fin
    exact qJF (decide_eq_false c0) fin
end K63
namespace K63
open PySem PySem.Spec PyProof.Rows L2 L3
local macro_rules | `(tactic| k_dat $x:ident "e")=>`(tactic| (case $x:ident=>walk_at "d_e"))
local macro_rules | `(tactic| k_dat $x:ident "r")=>`(tactic| (case $x:ident=>rfl))
local macro_rules | `(tactic| k_dat $x:ident "m")=>`(tactic| (case $x:ident=>assumption))
local macro_rules | `(tactic| k_dat $x:ident "d")=>`(tactic| (case $x:ident=>decide))
local macro_rules | `(tactic| k_dat $x:ident "a")=>`(tactic| (case $x:ident=>walk_at "d_a"))
local macro_rules | `(tactic| k_dat $x:ident "t")=>`(tactic| (case $x:ident=>walk_at "d_t"))
local macro_rules | `(tactic| k_dat $x:ident "s")=>`(tactic| (case $x:ident=>walk_at "d_ss"))
local macro_rules | `(tactic| k_dat $x:ident "i")=>`(tactic| (case $x:ident=>walk_at "d_i"))
local macro_rules | `(tactic| k_dat $x:ident "n")=>`(tactic| (case $x:ident=>first | exact qKO _ | with_unfolding_all rfl))
local macro_rules | `(tactic| k_dat $n:num "zv0")=>`(tactic| ((with_reducible refine' qRX $n ?n ?v ?d ?c);k_dat n "r";(case v=>first | exact Or.inl rfl | exact Or.inr (Or.inl rfl));k_dat d "d";k_dat c "d"))
local macro_rules | `(tactic| k_dat $n:num "zc0")=>`(tactic| ((with_reducible refine' qHj $n _ ?hc ?N ?S ?hx ?nd ?i ?f ?e ?y ?yl ?sw ?hs);k_dat y "r";k_dat hc "r";k_dat N "m";(case S=>exact qH5 (by assumption) (by rfl));k_dat hx "r";(case nd=>decide +kernel);k_dat sw "r";k_dat yl "r";k_dat i "i";(case f=>(intro _ _ _ _;walk_at "d_if"));(case e=>(intro _ _ _ _;walk_at "d_e"));(case hs=>(intro _;rfl))))
local macro_rules | `(tactic| k_dat $n:num "zc1")=>`(tactic| ((with_reducible refine' qHj $n _ ?hc ?N ?S ?hx ?nd ?i ?f ?e ?y ?yl ?sw ?hs);k_dat y "r";k_dat hc "r";k_dat N "m";(case S=>exact qGF (by assumption) (by rfl));k_dat hx "r";(case nd=>decide +kernel);k_dat sw "r";k_dat yl "r";k_dat i "i";(case f=>(intro _ _ _ _;walk_at "d_if"));(case e=>(intro _ _ _ _;walk_at "d_e"));(case hs=>(intro _;rfl))))
local macro_rules | `(tactic| k_dat $n:num "zc2")=>`(tactic| ((with_reducible refine' qHj $n [] ?hc ?N ?S ?hx ?nd ?i ?f ?e ?y ?yl ?sw ?hs);k_dat y "r";k_dat hc "r";k_dat N "m";(case S=>exact qJa (by rfl));k_dat hx "r";(case nd=>decide +kernel);k_dat sw "r";k_dat yl "r";k_dat i "i";(case f=>(intro _ _ _ _;walk_at "d_if"));(case e=>(intro _ _ _ _;walk_at "d_e"));(case hs=>(intro _;rfl))))
local macro_rules | `(tactic| k_dat $n:num "zs0")=>`(tactic| ((with_reducible refine' qSQ $n ?N ?e ?i ?x ?s ?f);k_dat i "r";k_dat s "r";k_dat N "m";(case x=>first | exact Or.inl rfl | exact Or.inr rfl);(case f=>first | exact .inl rfl | exact .inr rfl);k_dat e "e"))
local macro_rules | `(tactic| k_dat $n:num "zg0")=>`(tactic| ((with_reducible refine' qIK $n ?nd ?n ?x ?f);k_dat n "r";k_dat nd "m";(case x=>first | exact Or.inl rfl | exact Or.inr rfl);(case f=>first | exact .inl rfl | exact .inr rfl)))
local macro_rules | `(tactic| k_dat $n:num "za0")=>`(tactic| ((with_reducible refine' qQv $n ?N ?e ?i ?x ?f);k_dat i "r";k_dat N "m";(case x=>first | exact Or.inl rfl | exact Or.inr rfl);(case f=>first | exact .inl rfl | exact .inr rfl);k_dat e "e"))
local macro_rules | `(tactic| k_dat $n:num "zu0")=>`(tactic| ((with_reducible refine' qHZ $n ?c ?g ?n ?s);k_dat n "r";k_dat c "r";(case g=>walk_at "d_gs");k_dat s "r"))
local macro_rules | `(tactic| k_dat $l:ident "s0")=>`(tactic| ((with_reducible refine' $l ?v ?r);k_dat v "e";(case r=>walk_at "d_pk")))
local macro_rules | `(tactic| k_dat $l:ident "s1")=>`(tactic| ((with_reducible refine' $l ?a ?b);k_dat a "e";k_dat b "e"))
local macro_rules | `(tactic| k_dat $l:ident "s2")=>`(tactic| ((with_reducible refine' $l ?a);k_dat a "e"))
local macro_rules | `(tactic| k_dat $l:ident "s3")=>`(tactic| ((with_reducible refine' $l ?a ?b ?h1 ?h2 ?h3 ?h4 ?h5);k_dat a "e";k_dat b "e";k_dat h1 "r";k_dat h2 "r";k_dat h3 "r";k_dat h4 "r";k_dat h5 "r"))
local macro_rules | `(tactic| k_dat $l:ident "s4")=>`(tactic| ((with_reducible refine' $l ?f ?n ?r ?a ?g ?db ?he ?hpl);k_dat f "m";k_dat n "r";(case r=>walk_at "d_room");k_dat a "a";k_dat g "r";k_dat db "d";k_dat he "r";k_dat hpl "r"))
local macro_rules | `(tactic| k_dat $l:ident "s5")=>`(tactic| ((with_reducible refine' $l ?hu ?a ?b ?m);(case hu=>walk_at "d_hu");k_dat a "e";k_dat b "e";k_dat m "n"))
local macro_rules | `(tactic| k_dat $l:ident "s6")=>`(tactic| ((with_reducible refine' $l ?a ?b ?m);k_dat a "e";k_dat b "e";k_dat m "n"))
local macro_rules | `(tactic| k_dat $l:ident "s7")=>`(tactic| ((with_reducible refine' $l ?c ?m ?a ?g ?he ?hpl);k_dat c "r";k_dat m "m";k_dat a "a";k_dat g "r";k_dat he "r";k_dat hpl "r"))
local macro_rules | `(tactic| k_dat $l:ident "s8")=>`(tactic| ((with_reducible refine' $l ?a);k_dat a "a"))
local macro_rules | `(tactic| k_dat $l:ident "s9")=>`(tactic| ((with_reducible refine' $l ?a ?l ?h);k_dat a "e";(case l=>walk_at "d_o");(case h=>walk_at "d_o")))
local macro_rules | `(tactic| k_dat $l:ident "s10")=>`(tactic| ((with_reducible refine' $l ?m ?a ?g ?he ?hpl);k_dat m "m";k_dat a "a";k_dat g "r";k_dat he "r";k_dat hpl "r"))
local macro_rules | `(tactic| k_dat $l:ident "s11")=>`(tactic| ((with_reducible refine' $l ?m ?g);k_dat m "m";k_dat g "r"))
local macro_rules | `(tactic| k_dat $l:ident "s12")=>`(tactic| ((with_reducible refine' $l ?a ?b ?c ?m);k_dat a "e";k_dat b "e";k_dat c "e";(case m=>with_unfolding_all rfl)))
local macro_rules | `(tactic| k_dat $l:ident "s13")=>`(tactic| ((with_reducible refine' $l ?hu ?a ?b ?m);(case hu=>exact hu1 (by assumption));k_dat a "e";k_dat b "e";k_dat m "n"))
local macro_rules | `(tactic| k_dat $l:ident "s14")=>`(tactic| ((with_reducible refine' $l ?T ?i ?g ?d ?s);k_dat T "m";k_dat g "r";k_dat d "d";(case s=>exact fun _ _=>rfl);k_dat i "e"))
local macro_rules | `(tactic| k_dat $l:ident "s15")=>`(tactic| ((with_reducible refine' $l ?a);k_dat a "t"))
local macro_rules | `(tactic| k_dat $l:ident "s16")=>`(tactic| ((with_reducible refine' $l ?T ?i ?g ?d ?m);k_dat T "m";k_dat g "r";k_dat d "d";k_dat i "e";k_dat m "n"))
local macro_rules | `(tactic| k_dat $l:ident "s17")=>`(tactic| ((with_reducible refine' $l ?a ?b);k_dat a "t";(case b=>walk_at "d_w")))
local macro_rules | `(tactic| k_dat $l:ident "s18")=>`(tactic| ((with_reducible refine' $l ?m ?a ?g ?s);k_dat m "m";k_dat a "e";k_dat g "r";k_dat s "r"))
local macro_rules | `(tactic| walk_at "d_room")=>`(tactic| first
  | exact qAt.mono (by assumption) (by decide)
  | exact qAt.mono (by assumption) (by omega))
local macro_rules | `(tactic| walk_at "d_hu")=>`(tactic| first
  | exact qTy (by assumption))
local macro_rules | `(tactic| walk_at "d_ps")=>`(tactic| first
  | (with_reducible exact dps_nil)
  | ((with_reducible refine' dps_cons ?v ?r);k_dat v "e";(case r=>walk_at "d_ps")))
local macro_rules | `(tactic| walk_at "d_pk")=>`(tactic| first
  | (with_reducible exact qOk)
  | (k_dat qO6 "s0"))
local macro_rules | `(tactic| walk_at "d_e")=>`(tactic| first
  | (with_reducible exact qRx)
  | (with_reducible exact qSO)
  | (with_reducible exact qTJ)
  | (with_reducible exact qSa)
  | ((with_reducible show DE _ (.Name _ _) _);first
      | (k_dat 0 "zv0")
      | (k_dat 1 "zv0")
      | (k_dat 2 "zv0")
      | (k_dat 3 "zv0")
      | (k_dat 4 "zv0")
      | (k_dat 5 "zv0")
      | (k_dat 6 "zv0")
      | (k_dat 7 "zv0")
      | (k_dat 8 "zv0")
      | (k_dat 9 "zv0")
      | (k_dat 10 "zv0")
      | (k_dat 11 "zv0")
      | (k_dat 12 "zv0")
      | (k_dat 13 "zv0")
      | (k_dat 14 "zv0")
      | (k_dat 15 "zv0"))
  | (k_dat qQc "s1")
  | (k_dat qLc "s3")
  | (k_dat qRw "s1")
  | (k_dat qRt "s1")
  | (k_dat qRC "s1")
  | (k_dat qRS "s1")
  | (k_dat qRr "s1")
  | (k_dat qSI "s1")
  | (k_dat qTd "s5")
  | (k_dat qSl "s5")
  | (k_dat qTh "s6")
  | (k_dat qSz "s6")
  | (k_dat qTS "s6")
  | (k_dat qS0 "s6")
  | (k_dat qN8 "s6")
  | (k_dat qQ9 "s8")
  | (k_dat qRz "s8")
  | (k_dat qMC "s9")
  | (k_dat qMp "s9")
  | ((with_reducible refine' qS5 ?a ?b ?s);k_dat a "e";k_dat b "e";(case s=>exact fun _ _=>rfl))
  | ((with_reducible refine' qM4 ?f ?r ?a ?g ?db ?he ?hpl);k_dat f "m";(case r=>walk_at "d_room");k_dat a "a";k_dat g "r";k_dat db "d";k_dat he "r";k_dat hpl "r")
  | (k_dat qSP "s10")
  | (k_dat qLt "s10")
  | (k_dat qMy "s10")
  | (k_dat qSA "s10")
  | (k_dat qMt "s11")
  | (k_dat qLq "s11")
  | (k_dat qNU "s11")
  | (k_dat qKb "s11")
  | ((with_reducible refine' qQq ?f ?g ?db);(case f=>first | assumption | exact qJz.con (by assumption));k_dat g "r";k_dat db "d")
  | (k_dat qLP "s3")
  | (k_dat qRu "s2")
  | (k_dat qRB "s1")
  | (k_dat qSG "s2")
  | ((with_reducible refine' qTV ?c ?a ?b);k_dat c "t";k_dat a "e";k_dat b "e")
  | (k_dat qNq "s12")
  | ((with_reducible refine' qH8 _ ?hc ?S ?hx ?nd ?i ?f ?e ?hs);k_dat hc "r";(case S=>exact qH5 (by assumption) (by rfl));k_dat hx "r";(case nd=>decide +kernel);k_dat i "i";(case f=>(intro _ _ _ _;walk_at "d_if"));(case e=>(intro _ _ _ _;walk_at "d_e"));(case hs=>(intro _;rfl)))
  | ((with_reducible refine' qH8 _ ?hc ?S ?hx ?nd ?i ?f ?e ?hs);k_dat hc "r";(case S=>exact qGF (by assumption) (by rfl));k_dat hx "r";(case nd=>decide +kernel);k_dat i "i";(case f=>(intro _ _ _ _;walk_at "d_if"));(case e=>(intro _ _ _ _;walk_at "d_e"));(case hs=>(intro _;rfl)))
  | ((with_reducible refine' qH8 [] ?hc ?S ?hx ?nd ?i ?f ?e ?hs);k_dat hc "r";(case S=>exact qJa (by rfl));k_dat hx "r";(case nd=>decide +kernel);k_dat i "i";(case f=>(intro _ _ _ _;walk_at "d_if"));(case e=>(intro _ _ _ _;walk_at "d_e"));(case hs=>(intro _;rfl)))
  | (with_reducible exact qN2)
  | ((with_reducible refine' qOm ?h ?hall ?hl ?h0 ?h15 ?hk ?nd);(case h=>walk_at "d_pk");k_dat hall "r";k_dat hl "r";(case h0=>exact List.cons_ne_nil _ _);k_dat h15 "d";k_dat hk "d";k_dat nd "d")
  | ((with_reducible refine' qOs ?hu ?a ?b ?s);(case hu=>exact hu1 (by assumption));k_dat a "e";k_dat b "e";(case s=>exact fun _ _=>rfl))
  | ((with_reducible refine' qNO ?hu ?a ?b ?c ?m);(case hu=>exact hu1 (by assumption));k_dat a "e";k_dat b "e";k_dat c "e";(case m=>exact⟨rfl,rfl,rfl,rfl⟩))
  | ((with_reducible refine' qQ6 ?c ?f ?a ?b);k_dat c "m";k_dat f "d";k_dat a "e";k_dat b "r")
  | ((with_reducible refine' qPN ?f ?r ?o ?a ?g ?h ?t);k_dat f "m";(case r=>walk_at "d_room");k_dat o "e";k_dat a "a";k_dat g "r";k_dat h "r";k_dat t "r")
  | (k_dat qMP "s14")
  | ((with_reducible refine' qPS ?f ?r ?a ?g ?d ?he ?hpl);k_dat f "m";(case r=>walk_at "d_room");k_dat a "a";k_dat g "r";k_dat d "d";k_dat he "r";k_dat hpl "r")
  | (k_dat qRI "s1")
  | ((with_reducible refine' qGY _ ?hc ?S ?hx ?hy ?nd ?i ?f ?e ?hs);k_dat hc "r";(case S=>exact qH5 (by assumption) (by rfl));k_dat hx "r";k_dat hy "r";(case nd=>decide +kernel);k_dat i "i";(case f=>(intro _ _ _ _;walk_at "d_if"));(case e=>(intro _ _ _ _;walk_at "d_e"));(case hs=>(intro _;rfl)))
  | ((with_reducible refine' qGY _ ?hc ?S ?hx ?hy ?nd ?i ?f ?e ?hs);k_dat hc "r";(case S=>exact qGF (by assumption) (by rfl));k_dat hx "r";k_dat hy "r";(case nd=>decide +kernel);k_dat i "i";(case f=>(intro _ _ _ _;walk_at "d_if"));(case e=>(intro _ _ _ _;walk_at "d_e"));(case hs=>(intro _;rfl)))
  | ((with_reducible refine' qGY [] ?hc ?S ?hx ?hy ?nd ?i ?f ?e ?hs);k_dat hc "r";(case S=>exact qJa (by rfl));k_dat hx "r";k_dat hy "r";(case nd=>decide +kernel);k_dat i "i";(case f=>(intro _ _ _ _;walk_at "d_if"));(case e=>(intro _ _ _ _;walk_at "d_e"));(case hs=>(intro _;rfl))))
local macro_rules | `(tactic| walk_at "d_a")=>`(tactic| first
  | (with_reducible exact qEm)
  | ((with_reducible refine' qCm ?a ?b ?h);k_dat a "e";k_dat b "a";k_dat h "r"))
local macro_rules | `(tactic| walk_at "d_o")=>`(tactic| first
  | (with_reducible exact qPP)
  | (k_dat qOo "s2"))
local macro_rules | `(tactic| walk_at "d_t")=>`(tactic| first
  | (k_dat qRV "s15")
  | ((with_reducible refine' qKv (qNk ?a ?b));k_dat a "t";(case b=>walk_at "d_w"))
  | ((with_reducible refine' qKv (qPz ?a ?b));k_dat a "t";(case b=>walk_at "d_w"))
  | (k_dat qQz "s5")
  | (k_dat qSV "s5")
  | (k_dat qQs "s6")
  | (k_dat qRH "s6")
  | (k_dat qQY "s6")
  | (k_dat qRE "s6")
  | (k_dat qQ5 "s6")
  | (k_dat qMG "s6")
  | (k_dat qMS "s12")
  | (k_dat qJ6 "s16")
  | ((with_reducible refine' qQM ?a ?h);k_dat a "e";(case h=>(intro _;rfl))))
local macro_rules | `(tactic| walk_at "d_w")=>`(tactic| first
  | (k_dat qNk "s17")
  | (k_dat qPz "s17")
  | (k_dat qPY "s15")
  | (k_dat qQu "s15"))
local macro_rules | `(tactic| walk_at "d_if")=>`(tactic| first
  | (with_reducible exact qO5)
  | (k_dat qPT "s15"))
local macro_rules | `(tactic| walk_at "d_i")=>`(tactic| first
  | ((with_reducible refine' qQ7 ?m ?a ?b ?g ?s ?s2 ?hpl);k_dat m "m";k_dat a "e";k_dat b "e";k_dat g "r";k_dat s "r";k_dat s2 "r";k_dat hpl "r")
  | ((with_reducible refine' qNA ?m ?a ?b ?g ?s ?hall ?hks ?hpl ?hbk);k_dat m "m";k_dat a "e";k_dat b "e";k_dat g "r";k_dat s "r";k_dat hall "r";k_dat hks "r";k_dat hpl "r";(case hbk=>exact⟨_,rfl⟩))
  | (k_dat qMH "s18")
  | (k_dat qSE "s2"))
local macro_rules | `(tactic| walk_at "d_g")=>`(tactic| first
  | (k_dat 0 "zg0")
  | (k_dat 1 "zg0")
  | (k_dat 2 "zg0")
  | (k_dat 3 "zg0")
  | (k_dat 4 "zg0")
  | (k_dat 5 "zg0")
  | (k_dat 6 "zg0")
  | (k_dat 7 "zg0")
  | (k_dat 8 "zg0")
  | (k_dat 9 "zg0")
  | (k_dat 10 "zg0")
  | (k_dat 11 "zg0")
  | (k_dat 12 "zg0")
  | (k_dat 13 "zg0")
  | (k_dat 14 "zg0")
  | (k_dat 15 "zg0")
  | (k_dat 1 "zu0")
  | (k_dat 2 "zu0")
  | (k_dat 3 "zu0")
  | (k_dat 4 "zu0")
  | (k_dat 5 "zu0")
  | (k_dat 6 "zu0")
  | (k_dat 7 "zu0")
  | (k_dat 8 "zu0")
  | ((with_reducible refine' qSB ?a ?b ?h);k_dat a "e";k_dat b "e";(case h=>(intro _;rfl))))
local macro_rules | `(tactic| walk_at "d_gs")=>`(tactic| first
  | (with_reducible exact qKs)
  | ((with_reducible refine' qGw ?a ?b ?h);(case a=>walk_at "d_g");(case b=>walk_at "d_gs");k_dat h "r"))
local macro_rules | `(tactic| walk_at "d_s")=>`(tactic| first
  | (k_dat qRJ "s2")
  | ((with_reducible refine' qTe ?c ?a ?b);k_dat c "t";k_dat a "s";k_dat b "s")
  | ((with_reducible refine' qPD ?a ?h);k_dat h "r";k_dat a "e")
  | ((with_reducible refine' qRa ?p ?c ?i ?g ?b ?h);(case p=>exact PassesOwn.never);k_dat c "r";k_dat i "i";(case g=>walk_at "d_g");k_dat b "s";(case h=>(intro _;rfl)))
  | ((with_reducible show DS _ (.Assign [.Name _ _] (.ListComp _ _ _ _) _) _);first
      | (k_dat 0 "zc0")
      | (k_dat 0 "zc1")
      | (k_dat 0 "zc2")
      | (k_dat 1 "zc0")
      | (k_dat 1 "zc1")
      | (k_dat 1 "zc2")
      | (k_dat 2 "zc0")
      | (k_dat 2 "zc1")
      | (k_dat 2 "zc2")
      | (k_dat 3 "zc0")
      | (k_dat 3 "zc1")
      | (k_dat 3 "zc2")
      | (k_dat 4 "zc0")
      | (k_dat 4 "zc1")
      | (k_dat 4 "zc2")
      | (k_dat 5 "zc0")
      | (k_dat 5 "zc1")
      | (k_dat 5 "zc2")
      | (k_dat 6 "zc0")
      | (k_dat 6 "zc1")
      | (k_dat 6 "zc2")
      | (k_dat 7 "zc0")
      | (k_dat 7 "zc1")
      | (k_dat 7 "zc2")
      | (k_dat 8 "zc0")
      | (k_dat 8 "zc1")
      | (k_dat 8 "zc2")
      | (k_dat 9 "zc0")
      | (k_dat 9 "zc1")
      | (k_dat 9 "zc2")
      | (k_dat 10 "zc0")
      | (k_dat 10 "zc1")
      | (k_dat 10 "zc2")
      | (k_dat 11 "zc0")
      | (k_dat 11 "zc1")
      | (k_dat 11 "zc2")
      | (k_dat 12 "zc0")
      | (k_dat 12 "zc1")
      | (k_dat 12 "zc2")
      | (k_dat 13 "zc0")
      | (k_dat 13 "zc1")
      | (k_dat 13 "zc2")
      | (k_dat 14 "zc0")
      | (k_dat 14 "zc1")
      | (k_dat 14 "zc2")
      | (k_dat 15 "zc0")
      | (k_dat 15 "zc1")
      | (k_dat 15 "zc2"))
  | ((with_reducible show DS _ (.Assign [.Name _ _] _ _) _);first
      | (k_dat 0 "zs0")
      | (k_dat 1 "zs0")
      | (k_dat 2 "zs0")
      | (k_dat 3 "zs0")
      | (k_dat 4 "zs0")
      | (k_dat 5 "zs0")
      | (k_dat 6 "zs0")
      | (k_dat 7 "zs0")
      | (k_dat 8 "zs0")
      | (k_dat 9 "zs0")
      | (k_dat 10 "zs0")
      | (k_dat 11 "zs0")
      | (k_dat 12 "zs0")
      | (k_dat 13 "zs0")
      | (k_dat 14 "zs0")
      | (k_dat 15 "zs0"))
  | ((with_reducible refine' qO7 ?hu ?a ?b ?v ?s);(case hu=>exact hu1 (by assumption));k_dat s "r";k_dat v "e";k_dat a "e";k_dat b "e")
  | ((with_reducible refine' qSF ?c ?f ?o ?v ?s);k_dat c "m";k_dat f "d";k_dat s "r";k_dat v "e";k_dat o "e")
  | ((with_reducible refine' qPk 5 6 ?c ?N ?i ?j ?ij ?x ?y ?a ?w ?s);k_dat c "r";k_dat N "m";k_dat i "r";k_dat j "r";k_dat ij "d";k_dat x "r";k_dat y "r";k_dat a "a";k_dat w "r";k_dat s "r")
  | ((with_reducible refine' qQJ ?e ?g ?s ?w ?h);k_dat s "r";k_dat w "r";k_dat h "r";k_dat e "e";(case g=>walk_at "d_g"))
  | ((with_reducible show DS _ (.AugAssign (.Name _ _) _ _ _) _);first
      | (k_dat 0 "za0")
      | (k_dat 1 "za0")
      | (k_dat 2 "za0")
      | (k_dat 3 "za0")
      | (k_dat 4 "za0")
      | (k_dat 5 "za0")
      | (k_dat 6 "za0")
      | (k_dat 7 "za0")
      | (k_dat 8 "za0")
      | (k_dat 9 "za0")
      | (k_dat 10 "za0")
      | (k_dat 11 "za0")
      | (k_dat 12 "za0")
      | (k_dat 13 "za0")
      | (k_dat 14 "za0")
      | (k_dat 15 "za0")))
local macro_rules | `(tactic| walk_at "d_ss")=>`(tactic| first
  | (with_reducible exact qO0)
  | ((with_reducible refine' qIj ?a ?b);(case a=>walk_at "d_s");k_dat b "s"))
set_option hygiene false in
local macro_rules | `(tactic| k_dat ($a,$t,$r) "k")=>`(tactic| (have nd:=($a).nd;refine qRW F $a (fun ds st Pd h=>by first | (obtain⟨_,rfl,_⟩:=h;rfl) | (obtain⟨_,_,rfl,_⟩:=h;rfl) | (obtain⟨_,_,_,rfl,_⟩:=h;rfl) | (obtain⟨_,_,_,_,rfl,_⟩:=h;rfl) | (obtain⟨_,_,_,_,_,rfl,_⟩:=h;rfl) | (obtain⟨_,_,_,_,_,_,rfl,_⟩:=h;rfl) | (obtain⟨_,_,_,_,_,_,_,rfl,_⟩:=h;rfl) | (obtain⟨_,_,_,_,_,_,_,_,rfl,_⟩:=h;rfl) | (obtain⟨_,_,_,_,_,_,_,_,_,_,_,rfl,_⟩:=h;rfl) | (obtain⟨_,_,_,_,_,_,_,_,_,_,_,_,rfl,_⟩:=h;rfl) | (obtain⟨_,_,_,_,_,_,_,_,_,_,_,_,_,_,rfl,_⟩:=h;rfl) | (obtain⟨_,_,_,_,_,_,_,_,_,_,_,_,_,_,_,_,rfl,_⟩:=h;rfl) | (obtain⟨_,_,_,_,_,_,_,_,_,_,_,_,_,_,_,_,_,_,rfl,_⟩:=h;rfl)) fun cdv A outer s H E hr=>?_;refine⟨$t,?t,fun ds st Pd h=>$r h⟩;(case t=>(refine' qIj ?a ?b;(case a=>walk_at "d_s");(case b=>walk_at "d_ss")))))
local macro_rules | `(tactic| k_dat 0 "c")=>`(tactic| exact⟨rfl,rfl,rfl,by decide +kernel,rfl,by decide +kernel,by decide +kernel⟩)
noncomputable def top (i:Nat):Stmt:=PySem.Challenge.pw_asitruns_k63_whole_guest_rows.main.body.getD i (.Pass ⟨0,0,0,0⟩)
noncomputable abbrev qEl:Stmt:=top 2
noncomputable abbrev qED:Stmt:=top 13
noncomputable abbrev qF4:Stmt:=top 14
noncomputable abbrev qID:Stmt:=top 15
noncomputable abbrev qF6:Stmt:=top 16
noncomputable abbrev qD2:Stmt:=top 17
noncomputable abbrev qCB:Stmt:=top 18
noncomputable abbrev qJt:Stmt:=top 19
noncomputable abbrev qRb:Stmt:=top 20
noncomputable abbrev qBi:Stmt:=top 21
noncomputable abbrev qGx:Stmt:=top 23
noncomputable abbrev qGf:Stmt:=top 24
noncomputable abbrev qGl:Stmt:=top 25
noncomputable abbrev qEG:Stmt:=top 29
noncomputable abbrev qEE:Stmt:=top 22
noncomputable abbrev qFF:Stmt:=top 26
noncomputable abbrev qCk:Stmt:=top 27
noncomputable abbrev qFB:Stmt:=top 28
noncomputable abbrev qEx:Stmt:=top 30
noncomputable abbrev qE2:Stmt:=top 31
noncomputable abbrev qGr:Stmt:=top 32
noncomputable abbrev qE3:Stmt:=top 34
noncomputable abbrev qD9:Stmt:=top 39
noncomputable abbrev qE4:Stmt:=top 42
noncomputable abbrev qCO:Stmt:=top 43
noncomputable abbrev qBj:Stmt:=inClass (top 45) 0
noncomputable abbrev qB1:Stmt:=inClass (top 45) 1
noncomputable abbrev qBk:Stmt:=inClass (top 45) 2
noncomputable abbrev qEF:Stmt:=inClass (top 45) 3
noncomputable abbrev qCM:Stmt:=inClass (top 45) 4
noncomputable abbrev qCg:Stmt:=top 46
noncomputable abbrev qDg:Stmt:=top 47
noncomputable abbrev qFA:Stmt:=top 48
noncomputable abbrev qD5:Stmt:=top 50
noncomputable abbrev qCf:Stmt:=top 51
noncomputable abbrev qB8:Stmt:=top 52
noncomputable abbrev qCN:Stmt:=top 53
noncomputable abbrev qCq:Stmt:=top 54
noncomputable abbrev qB2:Stmt:=top 56
noncomputable abbrev qBz:Stmt:=top 59
noncomputable abbrev qDI:Stmt:=top 60
noncomputable abbrev qDe:Stmt:=top 61
noncomputable abbrev qCr:Stmt:=top 62
noncomputable abbrev qDb:Stmt:=top 63
noncomputable abbrev qCj:Stmt:=top 64
noncomputable abbrev qBh:Stmt:=top 65
noncomputable abbrev qBY:Stmt:=top 57
noncomputable abbrev qDJ:Stmt:=top 58
noncomputable abbrev qCu:Stmt:=top 66
noncomputable abbrev qHh:Stmt:=top 67
section
variable {P:Program} {w:World} {K:W.Frag} {mg:Str→Option Value} {base:Heap} {f:Addr} {fd:FuncData}
theorem qLS:qT ["number"] ["number"] (qK qEl):=by k_dat 0 "c"
theorem qLw (F:Fun K "set_out" "set_out" qEl f fd) (gT2:qJz K mg "WORDS" K01.qKR):qw P w K mg base CX0 1 f fd ["number"] (qS K K01.qDM):=by
  k_dat (qLS,K63.qCZ,K63.qJr) "k"
theorem qKf:qT ["parts", "k", "part"] ["parts", "k", "part"] (qK qED):=by k_dat 0 "c"
theorem qKX (F:Fun K "replaced" "replaced" qED f fd)  : qw P w K mg base CX0 1 f fd ["parts", "k", "part"] (qS K K06.qx):=by
  k_dat (qKf,K06.qF9,K06.qJG) "k"
theorem qMu:qT ["right", "state", "address"] ["right", "state", "address"] (qK qF4):=by k_dat 0 "c"
theorem qNz (F:Fun K "may_be" "may_be" qF4 f fd) (gI4:qAW K mg "RIGHTS" (.int 4)) (gI5:qAW K mg "CELLS" (.int 5)) (m3:mg "len" = none):qw P w K mg base CX0 1 f fd ["right", "state", "address"] (qS K K06.qFJ):=by
  k_dat (qMu,K06.qJN,K06.qLU) "k"
theorem qOp:qT ["state", "place"] ["state", "place"] (qK qID):=by k_dat 0 "c"
theorem qPe (F:Fun K "moved" "moved" qID f fd) (gI0:qAW K mg "PLACE" (.int 0)) (dreplaced:qR P w K mg base "replaced" 1 K06.qx):qw P w K mg base CX0 2 f fd ["state", "place"] (qS K K06.qBp):=by
  k_dat (qOp,K06.qKw,K06.qOL) "k"
theorem qOa:qT ["state"] ["state"] (qK qF6):=by k_dat 0 "c"
theorem qOJ (F:Fun K "one_on" "one_on" qF6 f fd) (gI0:qAW K mg "PLACE" (.int 0)) (dmoved:qR P w K mg base "moved" 2 K06.qBp):qw P w K mg base CX0 3 f fd ["state"] (qS K K06.qA0):=by
  k_dat (qOa,K06.qId,K06.qLV) "k"
theorem qJ8:qT ["state", "a", "number"] ["state", "a", "number"] (qK qD2):=by k_dat 0 "c"
theorem qKh (F:Fun K "with_box" "with_box" qD2 f fd) (gI1:qAW K mg "BOXES" (.int 1)) (dreplaced:qR P w K mg base "replaced" 1 K06.qx) (done_on:qR P w K mg base "one_on" 3 K06.qA0):qw P w K mg base CX0 4 f fd ["state", "a", "number"] (qS K K06.qAT):=by
  k_dat (qJ8,K06.qGO,K06.qJX) "k"
theorem qGT:qT ["state", "a", "number", "carry"] ["state", "a", "number", "carry"] (qK qCB):=by k_dat 0 "c"
theorem qGt (F:Fun K "with_outcome" "with_outcome" qCB f fd) (gI2:qAW K mg "MARKS" (.int 2)) (dreplaced:qR P w K mg base "replaced" 1 K06.qx) (dwith_box:qR P w K mg base "with_box" 4 K06.qAT):qw P w K mg base CX0 5 f fd ["state", "a", "number", "carry"] (qS K K06.qBZ):=by
  k_dat (qGT,K06.qDf,K06.qFW) "k"
theorem qQN:qT ["how", "state"] ["how", "state"] (qK qJt):=by k_dat 0 "c"
theorem qQX (F:Fun K "left" "left" qJt f fd)  : qw P w K mg base CX0 1 f fd ["how", "state"] (qS K K06.qAu):=by
  k_dat (qQN,K06.qNP,K06.qPu) "k"
theorem qT9:qT ["state"] ["state"] (qK qRb):=by k_dat 0 "c"
theorem qUP (F:Fun K "on" "on" qRb f fd)  : qw P w K mg base CX0 1 f fd ["state"] (qS K K06.qBR):=by
  k_dat (qT9,K06.qSx,K06.qS1) "k"
theorem qFc:qT ["word", "x", "y"] ["word", "x", "y"] (qK qBi):=by k_dat 0 "c"
theorem qFe (F:Fun K "plain_outcome" "plain_outcome" qBi f fd)  : qw P w K mg base CX0 1 f fd ["word", "x", "y"] (qS K K20.qBq):=by
  k_dat (qFc,K20.qC7,K20.qEs) "k"
theorem qMm:qT ["state", "a", "x", "y"] ["state", "a", "x", "y"] (qK qGx):=by k_dat 0 "c"
theorem qM9 (F:Fun K "do_div" "do_div" qGx f fd) (dwith_outcome:qR P w K mg base "with_outcome" 5 K06.qBZ) (dleft:qR P w K mg base "left" 1 K06.qAu) (don:qR P w K mg base "on" 1 K06.qBR):qw P w K mg base CX0 6 f fd ["state", "a", "x", "y"] (qS K K06.qGL):=by
  k_dat (qMm,K06.qJg,K06.qMQ) "k"
theorem qMz:qT ["state", "a", "address"] ["state", "a", "address"] (qK qGf):=by k_dat 0 "c"
theorem qM8 (F:Fun K "do_get" "do_get" qGf f fd) (gI5:qAW K mg "CELLS" (.int 5)) (gI6:qAW K mg "READ" (.int 1)) (dmay_be:qR P w K mg base "may_be" 1 K06.qFJ) (dwith_box:qR P w K mg base "with_box" 4 K06.qAT) (dleft:qR P w K mg base "left" 1 K06.qAu) (don:qR P w K mg base "on" 1 K06.qBR):qw P w K mg base CX0 6 f fd ["state", "a", "address"] (qS K K06.qGm):=by
  k_dat (qMz,K06.qI9,K06.qLQ) "k"
theorem qOV:qT ["state", "number", "address"] ["state", "number", "address"] (qK qGl):=by k_dat 0 "c"
theorem qNx (F:Fun K "do_set" "do_set" qGl f fd) (gI5:qAW K mg "CELLS" (.int 5)) (gI7:qAW K mg "WRITTEN" (.int 2)) (dreplaced:qR P w K mg base "replaced" 1 K06.qx) (dmay_be:qR P w K mg base "may_be" 1 K06.qFJ) (done_on:qR P w K mg base "one_on" 3 K06.qA0) (dleft:qR P w K mg base "left" 1 K06.qAu) (don:qR P w K mg base "on" 1 K06.qBR):qw P w K mg base CX0 6 f fd ["state", "number", "address"] (qS K K06.qCI):=by
  k_dat (qOV,K06.qIy,K06.qLg) "k"
theorem qJi:qT ["state", "page", "rights"] ["state", "page", "rights"] (qK qEG):=by k_dat 0 "c"
theorem qKW (F:Fun K "do_right" "do_right" qEG f fd) (gI4:qAW K mg "RIGHTS" (.int 4)) (m3:mg "len" = none) (dreplaced:qR P w K mg base "replaced" 1 K06.qx) (done_on:qR P w K mg base "one_on" 3 K06.qA0) (dleft:qR P w K mg base "left" 1 K06.qAu) (don:qR P w K mg base "on" 1 K06.qBR):qw P w K mg base CX0 6 f fd ["state", "page", "rights"] (qS K K06.qB6):=by
  k_dat (qJi,K06.qGi,K06.qJW) "k"
theorem qKN:qT ["state", "word", "a", "x", "y", "plain"] ["state", "word", "a", "x", "y"] (qK qEE):=by k_dat 0 "c"
theorem qKV (F:Fun K "do_count" "do_count" qEE f fd) (dwith_outcome:qR P w K mg base "with_outcome" 5 K06.qBZ) (don:qR P w K mg base "on" 1 K06.qBR) (dplain_outcome:qR P w K mg base "plain_outcome" 1 K20.qBq):qw P w K mg base CX0 6 f fd ["state", "word", "a", "x", "y"] (qS K K06.qER):=by
  k_dat (qKN,K63.qD8,K63.qJH) "k"
theorem qMV:qT ["a", "marks"] ["a", "marks"] (qK qFF):=by k_dat 0 "c"
theorem qLv (F:Fun K "is_when" "is_when" qFF f fd)  : qw P w K mg base CX0 1 f fd ["a", "marks"] (qS K K06.qDD):=by
  k_dat (qMV,K06.qHS,K06.qJ7) "k"
theorem qHz:qT ["place", "c"] ["place", "c"] (qK qCk):=by k_dat 0 "c"
theorem qHr (F:Fun K "leap_place" "leap_place" qCk f fd)  : qw P w K mg base CX0 1 f fd ["place", "c"] (qS K K06.qCK):=by
  k_dat (qHz,K06.qEb,K06.qG3) "k"
theorem qLj:qT ["state", "c"] ["state", "c"] (qK qFB):=by k_dat 0 "c"
theorem qLe (F:Fun K "do_leap" "do_leap" qFB f fd) (gI0:qAW K mg "PLACE" (.int 0)) (dmoved:qR P w K mg base "moved" 2 K06.qBp) (don:qR P w K mg base "on" 1 K06.qBR) (dleap_place:qR P w K mg base "leap_place" 1 K06.qCK):qw P w K mg base CX0 6 f fd ["state", "c"] (qS K K06.qD3):=by
  k_dat (qLj,K06.qHc,K06.qJq) "k"
theorem qMA:qT ["state", "saved"] ["state"] (qK qEx):=by k_dat 0 "c"
theorem qL8 (F:Fun K "do_back" "do_back" qEx f fd) (gI1:qAW K mg "BOXES" (.int 1)) (gI3:qAW K mg "SAVED" (.int 3)) (gI4:qAW K mg "RIGHTS" (.int 4)) (gI5:qAW K mg "CELLS" (.int 5)) (dleft:qR P w K mg base "left" 1 K06.qAu) (don:qR P w K mg base "on" 1 K06.qBR):qw P w K mg base CX0 6 f fd ["state"] (qS K K06.qGB):=by
  k_dat (qMA,K06.qHY,K06.qKK) "k"
theorem qL7:qT ["state", "row", "heard", "word", "a", "b", "c", "boxes"] ["state", "row", "heard"] (qK qE2):=by k_dat 0 "c"
theorem qMR (F:Fun K "do_word" "do_word" qE2 f fd) (gI1:qAW K mg "BOXES" (.int 1)) (gI2:qAW K mg "MARKS" (.int 2)) (dmoved:qR P w K mg base "moved" 2 K06.qBp) (done_on:qR P w K mg base "one_on" 3 K06.qA0) (dwith_box:qR P w K mg base "with_box" 4 K06.qAT) (dleft:qR P w K mg base "left" 1 K06.qAu) (don:qR P w K mg base "on" 1 K06.qBR) (ddo_div:qR P w K mg base "do_div" 6 K06.qGL) (ddo_get:qR P w K mg base "do_get" 6 K06.qGm) (ddo_set:qR P w K mg base "do_set" 6 K06.qCI) (ddo_right:qR P w K mg base "do_right" 6 K06.qB6) (ddo_count:qR P w K mg base "do_count" 6 K06.qER) (dis_when:qR P w K mg base "is_when" 1 K06.qDD) (ddo_leap:qR P w K mg base "do_leap" 6 K06.qD3) (ddo_back:qR P w K mg base "do_back" 6 K06.qGB):qw P w K mg base CX0 7 f fd ["state", "row", "heard"] (qS K K06.qES):=by
  k_dat (qL7,K06.qHH,K06.qJ2) "k"
theorem qNu:qT ["state", "heard", "place"] ["state", "heard"] (qK qGr):=by k_dat 0 "c"
theorem qM2 (F:Fun K "do_row" "do_row" qGr f fd) (gI0:qAW K mg "PLACE" (.int 0)) (gI5:qAW K mg "CELLS" (.int 5)) (gI8:qAW K mg "RUN" (.int 4)) (dset_out:qR P w K mg base "set_out" 1 K01.qDM) (dmay_be:qR P w K mg base "may_be" 1 K06.qFJ) (dleft:qR P w K mg base "left" 1 K06.qAu) (ddo_word:qR P w K mg base "do_word" 7 K06.qES):qw P w K mg base CX0 8 f fd ["state", "heard"] (qS K K06.qFv):=by
  k_dat (qNu,K06.qI6,K06.qL2) "k"
theorem qL6:qT ["word", "named", "x", "y"] ["word", "named"] (qK qE3):=by k_dat 0 "c"
theorem qLm (F:Fun K "made_of" "made_of" qE3 f fd) (dplain_outcome:qR P w K mg base "plain_outcome" 1 K20.qBq):qw P w K mg base CX0 2 f fd ["word", "named"] (qS K K20.qFE):=by
  k_dat (qL6,K20.qHi,K20.qKe) "k"
theorem qJn:qT ["row", "sign"] ["row", "sign"] (qK qD9):=by k_dat 0 "c"
theorem qKY (F:Fun K "parts_of" "parts_of" qD9 f fd) (m1:mg "tuple" = none) (m14:mg "zip" = none) (tD0:TopD w K mg "FORMS" K85.qDu):qw P w K mg base CX0 1 f fd ["row", "sign"] (qS K K85.qAs):=by
  have hint0:Hint [(1, "sign")]:=⟨trivial⟩
  k_dat (qJn,K85.qC3,K85.qJJ) "k"
theorem qLR:qT ["state", "word", "parts", "heard"] ["state", "word", "parts", "heard"] (qK qE4):=by k_dat 0 "c"
theorem qMM (F:Fun K "do_item" "do_item" qE4 f fd) (dwith_box:qR P w K mg base "with_box" 4 K06.qAT) (don:qR P w K mg base "on" 1 K06.qBR) (ddo_div:qR P w K mg base "do_div" 6 K06.qGL) (ddo_get:qR P w K mg base "do_get" 6 K06.qGm) (ddo_set:qR P w K mg base "do_set" 6 K06.qCI) (ddo_right:qR P w K mg base "do_right" 6 K06.qB6):qw P w K mg base CX0 7 f fd ["state", "word", "parts", "heard"] (qS K KD.qDU):=by
  k_dat (qLR,KD.qDk,KD.qKJ) "k"
theorem qHA:qT ["word", "parts", "watched"] ["word", "parts", "watched"] (qK qCO):=by k_dat 0 "c"
theorem qHB (F:Fun K "is_shutting" "is_shutting" qCO f fd)  : qw P w K mg base CX0 1 f fd ["word", "parts", "watched"] (qS K KD.qB0):=by
  k_dat (qHA,KD.qBa,KD.qGQ) "k"
theorem qFk:qT ["self", "boxes", "marks"] ["self", "boxes", "marks"] (qK qBj):=by k_dat 0 "c"
theorem qFn (F:Fun K "__init__" "Hold.__init__" qBj f fd) (cC:qDt K "Hold" ["hands", "shelf", "boxes", "marks"]):qw P w K mg base CX0 1 f fd ["self", "boxes", "marks"] (qS K KM.qFp):=by
  k_dat (qFk,KM.qBD,KM.qE5) "k"
theorem qGe:qT ["self", "x"] ["self", "x"] (qK qB1):=by k_dat 0 "c"
theorem qGS (F:Fun K "in_hand" "Hold.in_hand" qB1 f fd) (cC:qDt K "Hold" ["hands", "shelf", "boxes", "marks"]):qw P w K mg base CX0 1 f fd ["self", "x"] (qS K KM.qAU):=by
  k_dat (qGe,KM.qBK,KM.qFY) "k"
theorem qFS:qT ["self", "s"] ["self", "s"] (qK qBk):=by k_dat 0 "c"
theorem qFb (F:Fun K "on_shelf" "Hold.on_shelf" qBk f fd) (cC:qDt K "Hold" ["hands", "shelf", "boxes", "marks"]):qw P w K mg base CX0 1 f fd ["self", "s"] (qS K KM.qBW):=by
  k_dat (qFS,KM.qBF,KM.qFD) "k"
theorem qKC:qT ["self", "row", "word"] ["self", "row"] (qK qEF):=by k_dat 0 "c"
theorem qKS (F:Fun K "put" "Hold.put" qEF f fd) (dmade_of:qR P w K mg base "made_of" 2 K20.qFE) (dparts_of:qR P w K mg base "parts_of" 1 K85.qAs) (cC:qDt K "Hold" ["hands", "shelf", "boxes", "marks"]) (mHold_in_hand:qCT P w K mg base "Hold" "in_hand" 1 KM.qAU) (mHold_on_shelf:qCT P w K mg base "Hold" "on_shelf" 1 KM.qBW):qw P w K mg base CX0 3 f fd ["self", "row"] (qS K KM.qIf):=by
  have hint0:Hint [(0, "self")]:=⟨trivial⟩
  k_dat (qKC,KM.qCy,KM.qIt) "k"
theorem qHF:qT ["self", "source", "old", "where"] ["self", "source", "old"] (qK qCM):=by k_dat 0 "c"
theorem qG9 (F:Fun K "source" "Hold.source" qCM f fd) (cC:qDt K "Hold" ["hands", "shelf", "boxes", "marks"]) (mHold_in_hand:qCT P w K mg base "Hold" "in_hand" 1 KM.qAU) (mHold_on_shelf:qCT P w K mg base "Hold" "on_shelf" 1 KM.qBW):qw P w K mg base CX0 2 f fd ["self", "source", "old"] (qS K KM.qBS):=by
  k_dat (qHF,KM.qBb,KM.qF3) "k"
theorem qH2:qT ["row", "parts", "saved"] ["row", "parts", "saved"] (qK qCg):=by k_dat 0 "c"
theorem qIG (F:Fun K "number_out" "number_out" qCg f fd)  : qw P w K mg base CX0 1 f fd ["row", "parts", "saved"] (qS K KM.qDK):=by
  k_dat (qH2,KM.qBs,KM.qG5) "k"
theorem qIe:qT ["way", "state", "hold", "is_back", "boxes", "place", "marks"] ["way", "state", "hold", "is_back"] (qK qDg):=by k_dat 0 "c"
theorem qI2 (F:Fun K "state_out" "state_out" qDg f fd) (gI3:qAW K mg "SAVED" (.int 3)) (gI4:qAW K mg "RIGHTS" (.int 4)) (gI5:qAW K mg "CELLS" (.int 5)) (m1:mg "tuple" = none) (m2:mg "isinstance" = none) (cC:qDt K "Hold" ["hands", "shelf", "boxes", "marks"]) (mHold_in_hand:qCT P w K mg base "Hold" "in_hand" 1 KM.qAU) (mHold_source:qCT P w K mg base "Hold" "source" 2 KM.qBS):qw P w K mg base CX0 3 f fd ["way", "state", "hold", "is_back"] (qS K KM.qC1):=by
  have hint0:Hint [(2, "hold")]:=⟨trivial⟩
  k_dat (qIe,KM.qCD,KM.qHv) "k"
theorem qLr:qT ["host", "state", "given", "watched", "hold", "told", "heard", "count", "row", "word", "parts", "number", "outcome", "way", "is_back"] ["host", "state", "given", "watched"] (qK qFA):=by k_dat 0 "c"
theorem qMT (F:Fun K "do_host" "do_host" qFA f fd) (gT0:qJz K mg "LAST" KM.qI3) (gT1:qJz K mg "BRINGING" KD.qPU) (gI1:qAW K mg "BOXES" (.int 1)) (gI2:qAW K mg "MARKS" (.int 2)) (gI3:qAW K mg "SAVED" (.int 3)) (m1:mg "tuple" = none) (m3:mg "len" = none) (m6:mg "enumerate" = none) (tN0:qOh w K mg "ITEMS" KM.qGs) (dparts_of:qR P w K mg base "parts_of" 1 K85.qAs) (ddo_item:qR P w K mg base "do_item" 7 KD.qDU) (dis_shutting:qR P w K mg base "is_shutting" 1 KD.qB0) (dnumber_out:qR P w K mg base "number_out" 1 KM.qDK) (dstate_out:qR P w K mg base "state_out" 3 KM.qC1) (cC:qDt K "Hold" ["hands", "shelf", "boxes", "marks"]) (mHold_in_hand:qCT P w K mg base "Hold" "in_hand" 1 KM.qAU) (mHold_put:qCT P w K mg base "Hold" "put" 3 KM.qIf) (kC:qJm P w K mg base "Hold" 1 KM.qFp):qw P w K mg base CX0 9 f fd ["host", "state", "given", "watched"] (qS K KM.qEh):=by
  have hint0:Hint [(4, "hold")]:=⟨trivial⟩
  k_dat (qLr,KM.qDo,KM.qKT) "k"
theorem qKU:qT ["cell", "k", "number"] ["cell", "k"] (qK qD5):=by k_dat 0 "c"
theorem qKF (F:Fun K "_law_mix" "_law_mix" qD5 f fd)  : qw P w K mg base CX0 1 f fd ["cell", "k"] (qS K KL.qLF):=by
  k_dat (qKU,KL.qEC,KL.qIz) "k"
theorem qHq:qT ["cell", "way", "bounds", "found", "k"] ["cell", "way", "bounds"] (qK qCf):=by k_dat 0 "c"
theorem qII (F:Fun K "_law_parts" "_law_parts" qCf f fd) (m3:mg "len" = none) (m7:mg "range" = none) (d_law_mix:qR P w K mg base "_law_mix" 1 KL.qLF):qw P w K mg base CX0 2 f fd ["cell", "way", "bounds"] (qS K KL.qBB):=by
  k_dat (qHq,KL.qC2,KL.qG1) "k"
theorem qGa:qT ["script", "k"] ["script", "k"] (qK qB8):=by k_dat 0 "c"
theorem qGb (F:Fun K "_law_cell_at" "_law_cell_at" qB8 f fd) (m3:mg "len" = none):qw P w K mg base CX0 1 f fd ["script", "k"] (qS K K85.qAv):=by
  k_dat (qGa,K85.qBx,K85.qFd) "k"
theorem qHD:qT ["part"] ["part"] (qK qCN):=by k_dat 0 "c"
theorem qG6 (F:Fun K "_law_number" "_law_number" qCN f fd)  : qw P w K mg base CX0 1 f fd ["part"] (qS K KL.qEV):=by
  k_dat (qHD,KL.qCR,KL.qGq) "k"
theorem qHn:qT ["script", "way", "sizes", "many", "cells", "rights", "parts", "boxes", "marks", "saved"] ["script", "way"] (qK qCq):=by k_dat 0 "c"
theorem qIJ (F:Fun K "_law_state" "_law_state" qCq f fd) (m1:mg "tuple" = none) (d_law_parts:qR P w K mg base "_law_parts" 2 KL.qBB) (d_law_cell_at:qR P w K mg base "_law_cell_at" 1 K85.qAv) (d_law_number:qR P w K mg base "_law_number" 1 KL.qEV):qw P w K mg base CX0 3 f fd ["script", "way"] (qS K KL.qFs):=by
  k_dat (qHn,KL.qCo,KL.qHE) "k"
theorem qGG:qT ["cell", "pages"] ["cell", "pages"] (qK qB2):=by k_dat 0 "c"
theorem qF8 (F:Fun K "_law_watched" "_law_watched" qB2 f fd) (m1:mg "tuple" = none) (m7:mg "range" = none):qw P w K mg base CX0 1 f fd ["cell", "pages"] (qS K KL.qDq):=by
  have hint0:Hint [(0, "cell")]:=⟨trivial⟩
  k_dat (qGG,KL.qBy,KL.qFl) "k"
theorem qGk:qT ["number", "words"] ["number"] (qK qBz):=by k_dat 0 "c"
theorem qGE (F:Fun K "_law_set_out" "_law_set_out" qBz f fd)  : qw P w K mg base CX0 1 f fd ["number"] (qS K K63.qCI):=by
  k_dat (qGk,K63.qBw,K63.qFX) "k"
theorem qJZ:qT ["how", "place", "box", "marks", "done", "boxes"] ["how", "place", "box", "marks", "done"] (qK qDI):=by k_dat 0 "c"
theorem qIl (F:Fun K "_law_exit" "_law_exit" qDI f fd) (m1:mg "tuple" = none) (m7:mg "range" = none):qw P w K mg base CX0 1 f fd ["how", "place", "box", "marks", "done"] (qS K K63.qAS):=by
  k_dat (qJZ,K63.qDF,K63.qH9) "k"
theorem qI5:qT ["row", "place", "old", "new", "word", "a", "b", "c", "rows", "carry", "third"] ["row", "place", "old", "new"] (qK qDe):=by k_dat 0 "c"
theorem qIo (F:Fun K "_law_sums" "_law_sums" qDe f fd) (m4:mg "int" = none) (d_law_exit:qR P w K mg base "_law_exit" 1 K63.qAS):qw P w K mg base CX0 2 f fd ["row", "place", "old", "new"] (qS K K63.qGV):=by
  k_dat (qI5,K63.qDO,K63.qH4) "k"
theorem qIY:qT ["row", "place", "old", "word", "a", "b", "c", "then", "fault", "rows"] ["row", "place", "old"] (qK qCr):=by k_dat 0 "c"
theorem qHw (F:Fun K "_law_items" "_law_items" qCr f fd) (d_law_exit:qR P w K mg base "_law_exit" 1 K63.qAS):qw P w K mg base CX0 2 f fd ["row", "place", "old"] (qS K K63.qEa):=by
  k_dat (qIY,K63.qC0,K63.qG8) "k"
theorem qIi:qT ["row", "place", "old", "word", "a", "b", "c", "then", "far", "near"] ["row", "place", "old"] (qK qDb):=by k_dat 0 "c"
theorem qIb (F:Fun K "_law_ways" "_law_ways" qDb f fd) (d_law_exit:qR P w K mg base "_law_exit" 1 K63.qAS):qw P w K mg base CX0 2 f fd ["row", "place", "old"] (qS K K63.qGg):=by
  k_dat (qIi,K63.qDh,K63.qHx) "k"
theorem qIC:qT ["number", "place", "row", "old", "new", "rows", "exits"] ["number", "place"] (qK qCj):=by k_dat 0 "c"
theorem qH1 (F:Fun K "_law_block" "_law_block" qCj f fd) (m1:mg "tuple" = none) (m7:mg "range" = none) (d_law_set_out:qR P w K mg base "_law_set_out" 1 K63.qCI) (d_law_exit:qR P w K mg base "_law_exit" 1 K63.qAS) (d_law_sums:qR P w K mg base "_law_sums" 2 K63.qGV) (d_law_items:qR P w K mg base "_law_items" 2 K63.qEa) (d_law_ways:qR P w K mg base "_law_ways" 2 K63.qGg):qw P w K mg base CX0 3 f fd ["number", "place"] (qS K K63.qF1):=by
  k_dat (qIC,K63.qCw,K63.qHC) "k"
theorem qFa:qT ["state", "number", "place", "cells", "page", "rights"] ["state", "number", "place"] (qK qBh):=by k_dat 0 "c"
theorem qFj (F:Fun K "_law_with_row" "_law_with_row" qBh f fd)  : qw P w K mg base CX0 1 f fd ["state", "number", "place"] (qS K K63.qHt):=by
  k_dat (qFa,K63.qBl,K63.qE8) "k"
theorem qE1:qT ["thing"] ["thing"] (qK qBY):=by k_dat 0 "c"
theorem qFC (F:Fun K "_law_is_number" "_law_is_number" qBY f fd) (m2:mg "isinstance" = none) (m4:mg "int" = none) (m5:mg "bool" = none):qw P w K mg base CX0 1 f fd ["thing"] (qS K K85.qFt):=by
  k_dat (qE1,K85.qBU,K85.qEX) "k"
theorem qJe:qT ["found", "due", "one", "other"] ["found", "due"] (qK qDJ):=by k_dat 0 "c"
theorem qIm {K:W.Frag} {vs:List V} {H:Hp} {Q:VK} {E:XK} (h:qS K (KL.qCn 0) vs H Q E):False:=by
  obtain⟨φ,st,ds,Pd,R,dl,hs,hq⟩:=h
  obtain⟨d,rfl,h,_⟩:=hs
  cases d<;>simp [KL.okS] at h
theorem qI0 (N:Nat) (F:Fun K "_law_same" "_law_same" qDJ f fd) (m1:mg "tuple" = none) (m2:mg "isinstance" = none) (m3:mg "len" = none) (m5:mg "bool" = none) (m12:mg "str" = none) (m14:mg "zip" = none) (d_law_is_number:qR P w K mg base "_law_is_number" 1 K85.qFt) (d_law_same:qR P w K mg base "_law_same" (2+N) (KL.qCn N)):qw P w K mg base CX0 (2+N+1) f fd ["found", "due"] (qS K (KL.qCn (N+1))):=by
  k_dat (qJe,KL.qCJ N,KL.qIN N) "k"
theorem qIT:qT ["state", "number", "given", "watched", "how", "after", "told", "block", "found", "row", "address", "done"] ["state", "number", "given", "watched"] (qK qCu):=by k_dat 0 "c"
theorem qIE (F:Fun K "_law_right" "_law_right" qCu f fd) (m4:mg "int" = none) (ddo_row:qR P w K mg base "do_row" 8 K06.qFv) (ddo_host:qR P w K mg base "do_host" 9 KM.qEh) (d_law_set_out:qR P w K mg base "_law_set_out" 1 K63.qCI) (d_law_block:qR P w K mg base "_law_block" 3 K63.qF1) (d_law_same:qR P w K mg base "_law_same" 7 (KL.qCn 5)):qw P w K mg base CX0 10 f fd ["state", "number", "given", "watched"] (qS K K63.qFu):=by
  k_dat (qIT,K63.qCp,K63.qG0) "k"
theorem qTW:qT ["script", "way", "state", "cell", "number", "place", "given", "pages", "some", "watched"] ["script"] (qK qHh):=by k_dat 0 "c"
theorem qTI (F:Fun K "law" "law" qHh f fd) (m3:mg "len" = none) (d_law_parts:qR P w K mg base "_law_parts" 2 KL.qBB) (d_law_cell_at:qR P w K mg base "_law_cell_at" 1 K85.qAv) (d_law_state:qR P w K mg base "_law_state" 3 KL.qFs) (d_law_watched:qR P w K mg base "_law_watched" 1 KL.qDq) (d_law_with_row:qR P w K mg base "_law_with_row" 1 K63.qHt) (d_law_right:qR P w K mg base "_law_right" 10 K63.qFu):qw P w K mg base CX0 12 f fd ["script"] (qS K qIp):=by
  k_dat (qTW,qNr,qRq) "k"
end
@[elab_as_elim] theorem len1 {C:List Value→Prop} (us:List Value) (hl:us.length=1) (h:∀ a0,C [a0]):C us:=by
  match us,hl with
  | [a0],_=>exact h _
@[elab_as_elim] theorem len2 {C:List Value→Prop} (us:List Value) (hl:us.length=2) (h:∀ a0 a1,C [a0,a1]):C us:=by
  match us,hl with
  | [a0,a1],_=>exact h _ _
@[elab_as_elim] theorem len3 {C:List Value→Prop} (us:List Value) (hl:us.length=3) (h:∀ a0 a1 a2,C [a0,a1,a2]):C us:=by
  match us,hl with
  | [a0,a1,a2],_=>exact h _ _ _
@[elab_as_elim] theorem len4 {C:List Value→Prop} (us:List Value) (hl:us.length=4) (h:∀ a0 a1 a2 a3,C [a0,a1,a2,a3]):C us:=by
  match us,hl with
  | [a0,a1,a2,a3],_=>exact h _ _ _ _
@[elab_as_elim] theorem len5 {C:List Value→Prop} (us:List Value) (hl:us.length=5) (h:∀ a0 a1 a2 a3 a4,C [a0,a1,a2,a3,a4]):C us:=by
  match us,hl with
  | [a0,a1,a2,a3,a4],_=>exact h _ _ _ _ _
@[elab_as_elim] theorem len6 {C:List Value→Prop} (us:List Value) (hl:us.length=6) (h:∀ a0 a1 a2 a3 a4 a5,C [a0,a1,a2,a3,a4,a5]):C us:=by
  match us,hl with
  | [a0,a1,a2,a3,a4,a5],_=>exact h _ _ _ _ _ _
@[elab_as_elim] theorem len7 {C:List Value→Prop} (us:List Value) (hl:us.length=7) (h:∀ a0 a1 a2 a3 a4 a5 a6,C [a0,a1,a2,a3,a4,a5,a6]):C us:=by
  match us,hl with
  | [a0,a1,a2,a3,a4,a5,a6],_=>exact h _ _ _ _ _ _ _
@[elab_as_elim] theorem len8 {C:List Value→Prop} (us:List Value) (hl:us.length=8) (h:∀ a0 a1 a2 a3 a4 a5 a6 a7,C [a0,a1,a2,a3,a4,a5,a6,a7]):C us:=by
  match us,hl with
  | [a0,a1,a2,a3,a4,a5,a6,a7],_=>exact h _ _ _ _ _ _ _ _
@[elab_as_elim] theorem len9 {C:List Value→Prop} (us:List Value) (hl:us.length=9) (h:∀ a0 a1 a2 a3 a4 a5 a6 a7 a8,C [a0,a1,a2,a3,a4,a5,a6,a7,a8]):C us:=by
  match us,hl with
  | [a0,a1,a2,a3,a4,a5,a6,a7,a8],_=>exact h _ _ _ _ _ _ _ _ _
theorem all_mk {l:W.OpenLaw} {w:World} {K:W.Frag} {h:Heap} {mg:Str→Option Value} {fa CC:Addr} (X:K.In h) (G:h.Ns mainGlobals mg) (hfa:mg "law" = some (.ref fa))
    (aC:W.nsIn K mainGlobals "Hold" = some (some (.ref CC))) (pg:W.plainGet K CC Str.empty=true) (hd:W.hasDictIn K CC=true) (po:W.plainOver K CC=true) (sa:W.findIn K (.ref CC) "__setattr__" = some (some (.builtin "object.__setattr__"))) (mk:W.makesIn K CC=true) (kc:W.keepIn K (.ref CC)=true)
    (nf0:W.findIn K (.ref CC) "hands" = some none)
    (nf1:W.findIn K (.ref CC) "shelf" = some none)
    (nf2:W.findIn K (.ref CC) "boxes" = some none)
    (nf3:W.findIn K (.ref CC) "marks" = some none)
    (h0:qm K "set_out" qEl)
    (h1:qm K "replaced" qED)
    (h2:qm K "may_be" qF4)
    (h3:qm K "moved" qID)
    (h4:qm K "one_on" qF6)
    (h5:qm K "with_box" qD2)
    (h6:qm K "with_outcome" qCB)
    (h7:qm K "left" qJt)
    (h8:qm K "on" qRb)
    (h9:qm K "plain_outcome" qBi)
    (h10:qm K "do_div" qGx)
    (h11:qm K "do_get" qGf)
    (h12:qm K "do_set" qGl)
    (h13:qm K "do_right" qEG)
    (h14:qm K "do_count" qEE)
    (h15:qm K "is_when" qFF)
    (h16:qm K "leap_place" qCk)
    (h17:qm K "do_leap" qFB)
    (h18:qm K "do_back" qEx)
    (h19:qm K "do_word" qE2)
    (h20:qm K "do_row" qGr)
    (h21:qm K "made_of" qE3)
    (h22:qm K "parts_of" qD9)
    (h23:qm K "do_item" qE4)
    (h24:qm K "is_shutting" qCO)
    (h25:qC4 K CC "__init__" "Hold.__init__" qBj)
    (h26:qC4 K CC "in_hand" "Hold.in_hand" qB1)
    (h27:qC4 K CC "on_shelf" "Hold.on_shelf" qBk)
    (h28:qC4 K CC "put" "Hold.put" qEF)
    (h29:qC4 K CC "source" "Hold.source" qCM)
    (h30:qm K "number_out" qCg)
    (h31:qm K "state_out" qDg)
    (h32:qm K "do_host" qFA)
    (h33:qm K "_law_mix" qD5)
    (h34:qm K "_law_parts" qCf)
    (h35:qm K "_law_cell_at" qB8)
    (h36:qm K "_law_number" qCN)
    (h37:qm K "_law_state" qCq)
    (h38:qm K "_law_watched" qB2)
    (h39:qm K "_law_set_out" qBz)
    (h40:qm K "_law_exit" qDI)
    (h41:qm K "_law_sums" qDe)
    (h42:qm K "_law_items" qCr)
    (h43:qm K "_law_ways" qDb)
    (h44:qm K "_law_block" qCj)
    (h45:qm K "_law_with_row" qBh)
    (h46:qm K "_law_is_number" qBY)
    (h47:qm K "_law_same" qDJ)
    (h48:qm K "_law_right" qCu)
    (h49:qm K "law" qHh)
    {aT0:Addr} {iT0:Array Value} {nT0:Nat} {sT0:Array (Option Value)} (b0:W.nsIn K mainGlobals "LAST" = some (some (.ref aT0))) (e0:K.lookup aT0=some ⟨.type "tuple",none,.seq iT0 nT0,sT0⟩) (v0:qBc iT0.toList KM.qSy=true) (w0:iT0.size≤sizeLine)
    {aT1:Addr} {iT1:Array Value} {nT1:Nat} {sT1:Array (Option Value)} (b1:W.nsIn K mainGlobals "BRINGING" = some (some (.ref aT1))) (e1:K.lookup aT1=some ⟨.type "tuple",none,.seq iT1 nT1,sT1⟩) (v1:qBc iT1.toList KD.qUF=true) (w1:iT1.size≤sizeLine)
    {aT2:Addr} {iT2:Array Value} {nT2:Nat} {sT2:Array (Option Value)} (b2:W.nsIn K mainGlobals "WORDS" = some (some (.ref aT2))) (e2:K.lookup aT2=some ⟨.type "tuple",none,.seq iT2 nT2,sT2⟩) (v2:qBc iT2.toList K01.qEz=true) (w2:iT2.size≤sizeLine)
    {tI0:Tok} (p0:W.nsIn K mainGlobals "PLACE" = some (some (.int 0 tI0)))
    {tI1:Tok} (p1:W.nsIn K mainGlobals "BOXES" = some (some (.int 1 tI1)))
    {tI2:Tok} (p2:W.nsIn K mainGlobals "MARKS" = some (some (.int 2 tI2)))
    {tI3:Tok} (p3:W.nsIn K mainGlobals "SAVED" = some (some (.int 3 tI3)))
    {tI4:Tok} (p4:W.nsIn K mainGlobals "RIGHTS" = some (some (.int 4 tI4)))
    {tI5:Tok} (p5:W.nsIn K mainGlobals "CELLS" = some (some (.int 5 tI5)))
    {tI6:Tok} (p6:W.nsIn K mainGlobals "READ" = some (some (.int 1 tI6)))
    {tI7:Tok} (p7:W.nsIn K mainGlobals "WRITTEN" = some (some (.int 2 tI7)))
    {tI8:Tok} (p8:W.nsIn K mainGlobals "RUN" = some (some (.int 4 tI8)))
    {aD0:Addr} {esD0:Array DictEntry} {nD0:Nat} (bD0:W.nsIn K mainGlobals "FORMS" = some (some (.ref aD0))) (eD0:K.lookup aD0=some ⟨.type "dict",none,.dict esD0 nD0,#[]⟩) (yD0:(aD0==sysModules)=false) (uD0:qCG w.params esD0.toList K85.qDu)
    {aN0:Addr} {esN0:Array DictEntry} {nN0:Nat} (bN0:W.nsIn K mainGlobals "ITEMS" = some (some (.ref aN0))) (eN0:K.lookup aN0=some ⟨.type "dict",none,.dict esN0 nN0,#[]⟩) (yN0:(aN0==sysModules)=false) (uN0:qCL w.params esN0.toList KM.qGs)
    (z0:W.nsIn K mainGlobals "all" = some none)
    (z1:W.nsIn K mainGlobals "tuple" = some none)
    (z2:W.nsIn K mainGlobals "isinstance" = some none)
    (z3:W.nsIn K mainGlobals "len" = some none)
    (z4:W.nsIn K mainGlobals "int" = some none)
    (z5:W.nsIn K mainGlobals "bool" = some none)
    (z6:W.nsIn K mainGlobals "enumerate" = some none)
    (z7:W.nsIn K mainGlobals "range" = some none)
    (z8:W.nsIn K mainGlobals "min" = some none)
    (z9:W.nsIn K mainGlobals "max" = some none)
    (z10:W.nsIn K mainGlobals "sum" = some none)
    (z11:W.nsIn K mainGlobals "list" = some none)
    (z12:W.nsIn K mainGlobals "str" = some none)
    (z13:W.nsIn K mainGlobals "any" = some none)
    (z14:W.nsIn K mainGlobals "zip" = some none)
    : ∃ fd:FuncData,(∀ (s:Shared) (v:Value),BindsTo s fd ⟨[v],[]⟩ [("script",v)])∧∀ base:Heap,K.In base→base.Ns mainGlobals mg→qw l.prog w K mg base CX0 12 fa fd ["script"] (qS K qIp):=by
  obtain⟨f9,fd9,a9,F9⟩:=h49.ex
  have e:=hfa.symm.trans (W.mg_of X G a9)
  cases e
  have gT0:=qE9 (mg:=mg) (x:= "LAST") (W.mg_of X G b0) e0 v0 w0
  have gT1:=qE9 (mg:=mg) (x:= "BRINGING") (W.mg_of X G b1) e1 v1 w1
  have gT2:=qE9 (mg:=mg) (x:= "WORDS") (W.mg_of X G b2) e2 v2 w2
  have gI0:=qBr (K:=K) (W.mg_of X G p0)
  have gI1:=qBr (K:=K) (W.mg_of X G p1)
  have gI2:=qBr (K:=K) (W.mg_of X G p2)
  have gI3:=qBr (K:=K) (W.mg_of X G p3)
  have gI4:=qBr (K:=K) (W.mg_of X G p4)
  have gI5:=qBr (K:=K) (W.mg_of X G p5)
  have gI6:=qBr (K:=K) (W.mg_of X G p6)
  have gI7:=qBr (K:=K) (W.mg_of X G p7)
  have gI8:=qBr (K:=K) (W.mg_of X G p8)
  have m0:=W.mg_none_of X G z0
  have m1:=W.mg_none_of X G z1
  have m2:=W.mg_none_of X G z2
  have m3:=W.mg_none_of X G z3
  have m4:=W.mg_none_of X G z4
  have m5:=W.mg_none_of X G z5
  have m6:=W.mg_none_of X G z6
  have m7:=W.mg_none_of X G z7
  have m8:=W.mg_none_of X G z8
  have m9:=W.mg_none_of X G z9
  have m10:=W.mg_none_of X G z10
  have m11:=W.mg_none_of X G z11
  have m12:=W.mg_none_of X G z12
  have m13:=W.mg_none_of X G z13
  have m14:=W.mg_none_of X G z14
  have tD0:TopD w K mg "FORMS" K85.qDu:=⟨_,_,_,W.mg_of X G bD0,eD0,yD0,uD0⟩
  have tN0:qOh w K mg "ITEMS" KM.qGs:=⟨_,_,_,W.mg_of X G bN0,eN0,yN0,uN0⟩
  have CC0:Cls K CC:=⟨pg,hd,po,sa⟩
  have cC:qDt K "Hold" ["hands", "shelf", "boxes", "marks"]:=⟨fun c hc=>by
    rw [aC] at hc
    cases hc
    refine⟨CC0,fun f hf=>?_⟩
    simp only [List.mem_cons,List.not_mem_nil,or_false] at hf
    rcases hf with rfl | rfl | rfl | rfl
    · exact nf0
    · exact nf1
    · exact nf2
    · exact nf3⟩
  have F9':=F9
  obtain⟨oc,od,kV,dc,pm,an,cd,ct,sl,rfl,-,-⟩:=F9'.ex
  refine⟨W.fnOf "law" "law" (qAy qHh) (qAl qHh) (qK qHh) .none kV dc pm an cd ct,fun s v=>.of_eq rfl,fun base _ _=>?_⟩
  have Dset_out:=h0.ok (P:=l.prog) (w:=w) (base:=base) X G (fun F=>qLw F gT2) (L3.b1 rfl fun _ _ _ _ _ _ _=>rfl)
  have Dreplaced:=h1.ok (P:=l.prog) (w:=w) (base:=base) X G (fun F=>qKX F ) (L3.b3 rfl fun _ _ _ _ _ _ _ _ _=>rfl)
  have Dmay_be:=h2.ok (P:=l.prog) (w:=w) (base:=base) X G (fun F=>qNz F gI4 gI5 m3) (L3.b3 rfl fun _ _ _ _ _ _ _ _ _=>rfl)
  have Dmoved:=h3.ok (P:=l.prog) (w:=w) (base:=base) X G (fun F=>qPe F gI0 Dreplaced) (L3.b2 rfl fun _ _ _ _ _ _ _ _=>rfl)
  have Done_on:=h4.ok (P:=l.prog) (w:=w) (base:=base) X G (fun F=>qOJ F gI0 Dmoved) (L3.b1 rfl fun _ _ _ _ _ _ _=>rfl)
  have Dwith_box:=h5.ok (P:=l.prog) (w:=w) (base:=base) X G (fun F=>qKh F gI1 Dreplaced Done_on) (L3.b3 rfl fun _ _ _ _ _ _ _ _ _=>rfl)
  have Dwith_outcome:=h6.ok (P:=l.prog) (w:=w) (base:=base) X G (fun F=>qGt F gI2 Dreplaced Dwith_box) (L3.b4 rfl fun _ _ _ _ _ _ _ _ _ _=>rfl)
  have Dleft:=h7.ok (P:=l.prog) (w:=w) (base:=base) X G (fun F=>qQX F ) (L3.b2 rfl fun _ _ _ _ _ _ _ _=>rfl)
  have Don:=h8.ok (P:=l.prog) (w:=w) (base:=base) X G (fun F=>qUP F ) (L3.b1 rfl fun _ _ _ _ _ _ _=>rfl)
  have Dplain_outcome:=h9.ok (P:=l.prog) (w:=w) (base:=base) X G (fun F=>qFe F ) (L3.b3 rfl fun _ _ _ _ _ _ _ _ _=>rfl)
  have Ddo_div:=h10.ok (P:=l.prog) (w:=w) (base:=base) X G (fun F=>qM9 F Dwith_outcome Dleft Don) (L3.b4 rfl fun _ _ _ _ _ _ _ _ _ _=>rfl)
  have Ddo_get:=h11.ok (P:=l.prog) (w:=w) (base:=base) X G (fun F=>qM8 F gI5 gI6 Dmay_be Dwith_box Dleft Don) (L3.b3 rfl fun _ _ _ _ _ _ _ _ _=>rfl)
  have Ddo_set:=h12.ok (P:=l.prog) (w:=w) (base:=base) X G (fun F=>qNx F gI5 gI7 Dreplaced Dmay_be Done_on Dleft Don) (L3.b3 rfl fun _ _ _ _ _ _ _ _ _=>rfl)
  have Ddo_right:=h13.ok (P:=l.prog) (w:=w) (base:=base) X G (fun F=>qKW F gI4 m3 Dreplaced Done_on Dleft Don) (L3.b3 rfl fun _ _ _ _ _ _ _ _ _=>rfl)
  have Ddo_count:=h14.ok (P:=l.prog) (w:=w) (base:=base) X G (fun F=>qKV F Dwith_outcome Don Dplain_outcome) (L3.b5 rfl fun _ _ _ _ _ _ _ _ _ _ _=>rfl)
  have Dis_when:=h15.ok (P:=l.prog) (w:=w) (base:=base) X G (fun F=>qLv F ) (L3.b2 rfl fun _ _ _ _ _ _ _ _=>rfl)
  have Dleap_place:=h16.ok (P:=l.prog) (w:=w) (base:=base) X G (fun F=>qHr F ) (L3.b2 rfl fun _ _ _ _ _ _ _ _=>rfl)
  have Ddo_leap:=h17.ok (P:=l.prog) (w:=w) (base:=base) X G (fun F=>qLe F gI0 Dmoved Don Dleap_place) (L3.b2 rfl fun _ _ _ _ _ _ _ _=>rfl)
  have Ddo_back:=h18.ok (P:=l.prog) (w:=w) (base:=base) X G (fun F=>qL8 F gI1 gI3 gI4 gI5 Dleft Don) (L3.b1 rfl fun _ _ _ _ _ _ _=>rfl)
  have Ddo_word:=h19.ok (P:=l.prog) (w:=w) (base:=base) X G (fun F=>qMR F gI1 gI2 Dmoved Done_on Dwith_box Dleft Don Ddo_div Ddo_get Ddo_set Ddo_right Ddo_count Dis_when Ddo_leap Ddo_back) (L3.b3 rfl fun _ _ _ _ _ _ _ _ _=>rfl)
  have Ddo_row:=h20.ok (P:=l.prog) (w:=w) (base:=base) X G (fun F=>qM2 F gI0 gI5 gI8 Dset_out Dmay_be Dleft Ddo_word) (L3.b2 rfl fun _ _ _ _ _ _ _ _=>rfl)
  have Dmade_of:=h21.ok (P:=l.prog) (w:=w) (base:=base) X G (fun F=>qLm F Dplain_outcome) (L3.b2 rfl fun _ _ _ _ _ _ _ _=>rfl)
  have Dparts_of:=h22.ok (P:=l.prog) (w:=w) (base:=base) X G (fun F=>qKY F m1 m14 tD0) (L3.b2 rfl fun _ _ _ _ _ _ _ _=>rfl)
  have Ddo_item:=h23.ok (P:=l.prog) (w:=w) (base:=base) X G (fun F=>qMM F Dwith_box Don Ddo_div Ddo_get Ddo_set Ddo_right) (L3.b4 rfl fun _ _ _ _ _ _ _ _ _ _=>rfl)
  have Dis_shutting:=h24.ok (P:=l.prog) (w:=w) (base:=base) X G (fun F=>qHB F ) (L3.b3 rfl fun _ _ _ _ _ _ _ _ _=>rfl)
  have kC:=h25.make (P:=l.prog) (w:=w) (base:=base) X G aC mk kc (fun F=>qFn F cC) (L3.b3 rfl fun _ _ _ _ _ _ _ _ _=>rfl)
  have MHold_in_hand:=h26.ok (P:=l.prog) (w:=w) (mg:=mg) (base:=base) aC CC0 (fun F=>qGS F cC) (L3.b2 rfl fun _ _ _ _ _ _ _ _=>rfl)
  have MHold_on_shelf:=h27.ok (P:=l.prog) (w:=w) (mg:=mg) (base:=base) aC CC0 (fun F=>qFb F cC) (L3.b2 rfl fun _ _ _ _ _ _ _ _=>rfl)
  have MHold_put:=h28.ok (P:=l.prog) (w:=w) (mg:=mg) (base:=base) aC CC0 (fun F=>qKS F Dmade_of Dparts_of cC MHold_in_hand MHold_on_shelf) (L3.b2 rfl fun _ _ _ _ _ _ _ _=>rfl)
  have MHold_source:=h29.ok (P:=l.prog) (w:=w) (mg:=mg) (base:=base) aC CC0 (fun F=>qG9 F cC MHold_in_hand MHold_on_shelf) (L3.b3 rfl fun _ _ _ _ _ _ _ _ _=>rfl)
  have Dnumber_out:=h30.ok (P:=l.prog) (w:=w) (base:=base) X G (fun F=>qIG F ) (L3.b3 rfl fun _ _ _ _ _ _ _ _ _=>rfl)
  have Dstate_out:=h31.ok (P:=l.prog) (w:=w) (base:=base) X G (fun F=>qI2 F gI3 gI4 gI5 m1 m2 cC MHold_in_hand MHold_source) (L3.b4 rfl fun _ _ _ _ _ _ _ _ _ _=>rfl)
  have Ddo_host:=h32.ok (P:=l.prog) (w:=w) (base:=base) X G (fun F=>qMT F gT0 gT1 gI1 gI2 gI3 m1 m3 m6 tN0 Dparts_of Ddo_item Dis_shutting Dnumber_out Dstate_out cC MHold_in_hand MHold_put kC) (L3.b4 rfl fun _ _ _ _ _ _ _ _ _ _=>rfl)
  have D_law_mix:=h33.ok (P:=l.prog) (w:=w) (base:=base) X G (fun F=>qKF F ) (L3.b2 rfl fun _ _ _ _ _ _ _ _=>rfl)
  have D_law_parts:=h34.ok (P:=l.prog) (w:=w) (base:=base) X G (fun F=>qII F m3 m7 D_law_mix) (L3.b3 rfl fun _ _ _ _ _ _ _ _ _=>rfl)
  have D_law_cell_at:=h35.ok (P:=l.prog) (w:=w) (base:=base) X G (fun F=>qGb F m3) (L3.b2 rfl fun _ _ _ _ _ _ _ _=>rfl)
  have D_law_number:=h36.ok (P:=l.prog) (w:=w) (base:=base) X G (fun F=>qG6 F ) (L3.b1 rfl fun _ _ _ _ _ _ _=>rfl)
  have D_law_state:=h37.ok (P:=l.prog) (w:=w) (base:=base) X G (fun F=>qIJ F m1 D_law_parts D_law_cell_at D_law_number) (L3.b2 rfl fun _ _ _ _ _ _ _ _=>rfl)
  have D_law_watched:=h38.ok (P:=l.prog) (w:=w) (base:=base) X G (fun F=>qF8 F m1 m7) (L3.b2 rfl fun _ _ _ _ _ _ _ _=>rfl)
  have D_law_set_out:=h39.ok (P:=l.prog) (w:=w) (base:=base) X G (fun F=>qGE F ) (L3.b1 rfl fun _ _ _ _ _ _ _=>rfl)
  have D_law_exit:=h40.ok (P:=l.prog) (w:=w) (base:=base) X G (fun F=>qIl F m1 m7) (L3.b5 rfl fun _ _ _ _ _ _ _ _ _ _ _=>rfl)
  have D_law_sums:=h41.ok (P:=l.prog) (w:=w) (base:=base) X G (fun F=>qIo F m4 D_law_exit) (L3.b4 rfl fun _ _ _ _ _ _ _ _ _ _=>rfl)
  have D_law_items:=h42.ok (P:=l.prog) (w:=w) (base:=base) X G (fun F=>qHw F D_law_exit) (L3.b3 rfl fun _ _ _ _ _ _ _ _ _=>rfl)
  have D_law_ways:=h43.ok (P:=l.prog) (w:=w) (base:=base) X G (fun F=>qIb F D_law_exit) (L3.b3 rfl fun _ _ _ _ _ _ _ _ _=>rfl)
  have D_law_block:=h44.ok (P:=l.prog) (w:=w) (base:=base) X G (fun F=>qH1 F m1 m7 D_law_set_out D_law_exit D_law_sums D_law_items D_law_ways) (L3.b2 rfl fun _ _ _ _ _ _ _ _=>rfl)
  have D_law_with_row:=h45.ok (P:=l.prog) (w:=w) (base:=base) X G (fun F=>qFj F ) (L3.b3 rfl fun _ _ _ _ _ _ _ _ _=>rfl)
  have D_law_is_number:=h46.ok (P:=l.prog) (w:=w) (base:=base) X G (fun F=>qFC F m2 m4 m5) (L3.b1 rfl fun _ _ _ _ _ _ _=>rfl)
  have R_law_same:∀ N,qR l.prog w K mg base "_law_same" (2+N) (KL.qCn N):=by
    intro N
    induction N with
    | zero=>exact h47.zero X G (ps:=["found", "due"]) qIm (L3.b2 rfl fun _ _ _ _ _ _ _ _=>rfl)
    | succ N ih=>exact h47.ok X G (fun F=>qI0 N F m1 m2 m3 m5 m12 m14 D_law_is_number ih) (L3.b2 rfl fun _ _ _ _ _ _ _ _=>rfl)
  have D_law_same:qR l.prog w K mg base "_law_same" 7 (KL.qCn 5):=R_law_same 5
  have D_law_right:=h48.ok (P:=l.prog) (w:=w) (base:=base) X G (fun F=>qIE F m4 Ddo_row Ddo_host D_law_set_out D_law_block D_law_same) (L3.b4 rfl fun _ _ _ _ _ _ _ _ _ _=>rfl)
  exact qTI F9 m3 D_law_parts D_law_cell_at D_law_state D_law_watched D_law_with_row D_law_right
end K63
local macro_rules | `(tactic| k_dat 0 "h")=>`(tactic| (refine' L3.qm.of ?a ?l ?c ?k;(case a=>k_is);(case l=>k_is);(case c=>k_is);(case k=>k_is)))
local macro_rules | `(tactic| k_dat 0 "i")=>`(tactic| (refine' L3.qC4.of ?a ?i ?l ?c ?k;(case a=>k_is);(case i=>k_is);(case l=>k_is);(case c=>k_is);(case k=>k_is)))
def PySem.W.Fast.tw10865221816731150234 : Nat := 0
def PySem.W.Fast.tw169791835681855076 : Nat := 0
def PySem.W.Fast.tw2135954768795103532 : Nat := 0
def PySem.W.Fast.tw2700451456470416816 : Nat := 0
def PySem.W.Fast.tw2922848459847054114 : Nat := 0
def PySem.W.Fast.tw14072576802199194162 : Nat := 0
def PySem.W.Fast.tw2010581772591787451 : Nat := 0
def PySem.W.Fast.tw17092350428057754451 : Nat := 0
def PySem.W.Fast.tw12527705255981505344 : Nat := 0
def PySem.W.Fast.tw12420064278010861694 : Nat := 0
def PySem.W.Fast.tw5145627169831520200 : Nat := 0
def PySem.W.Fast.tw7363491334341616169 : Nat := 0
def PySem.W.Fast.tw10641878556278113321 : Nat := 0
def PySem.W.Fast.tw1240462397958413484 : Nat := 0
def PySem.W.Fast.tw6140857219862268943 : Nat := 0
def PySem.W.Fast.tw8086623221197948064 : Nat := 0
def PySem.W.Fast.tw3651406476560437416 : Nat := 0
def PySem.W.Fast.tw8929777853582492265 : Nat := 0
def PySem.W.Fast.tw13809430846492418881 : Nat := 0
def PySem.W.Fast.tw16666709257011087291 : Nat := 0
def PySem.W.Fast.tw3388225183563145698 : Nat := 0
def PySem.W.Fast.tw11495573975346650040 : Nat := 0
def PySem.W.Fast.tw7860595337618167375 : Nat := 0
def PySem.W.Fast.tw14236610631808489553 : Nat := 0
def PySem.W.Fast.tw12909234831389712077 : Nat := 0
def PySem.W.Fast.tw6416371941504046699 : Nat := 0
def PySem.W.Fast.tw17594416666359381596 : Nat := 0
def PySem.W.Fast.tw15747311978729712096 : Nat := 0
def PySem.W.Fast.tw6176129361614479707 : Nat := 0
def PySem.W.Fast.tw4208339571069213134 : Nat := 0
def PySem.W.Fast.tw11020045563353726781 : Nat := 0
def PySem.W.Fast.tw3372197730503228416 : Nat := 0
def PySem.W.Fast.tw18232394813321398213 : Nat := 0
def PySem.W.Fast.tw13487472441742688787 : Nat := 0
def PySem.W.Fast.tw11783744402897390110 : Nat := 0
def PySem.W.Fast.tw2730125995372182377 : Nat := 0
def PySem.W.Fast.tw17798998190567832130 : Nat := 0
def PySem.W.Fast.tw2771727114940397657 : Nat := 0
def PySem.W.Fast.tw9491242393299124575 : Nat := 0
def PySem.W.Fast.tw9378438354326134146 : Nat := 0
def PySem.W.Fast.tw11242927004299488597 : Nat := 0
def PySem.W.Fast.tw11250536450102623728 : Nat := 0
def PySem.W.Fast.tw16381841164733268701 : Nat := 0
open PySem PySem.W PyProof.Rows
set_option maxRecDepth 100000 in
set_option maxHeartbeats 0 in
theorem PySem.Challenge.cw_asitruns_k63_whole_guest_rows_holds : PySem.Challenge.rw_asitruns_k63_whole_guest_rows.Holds := by
  w_on;o_law;k_head;(case hw=>w_witness2)
  k_fill
  refine L3.qM7 (l:=PySem.Challenge.rw_asitruns_k63_whole_guest_rows) 12 rfl rfl ⟨rfl,by decide,by decide⟩ (fun w h Y=>W.kIn_of Y) ?F
  case F =>
    intro w mg fa h KX G hmg
    refine' K63.all_mk KX G hmg ?aC ?pg ?hd ?po ?sa ?mk ?kc ?nf0 ?nf1 ?nf2 ?nf3 ?h0 ?h1 ?h2 ?h3 ?h4 ?h5 ?h6 ?h7 ?h8 ?h9 ?h10 ?h11 ?h12 ?h13 ?h14 ?h15 ?h16 ?h17 ?h18 ?h19 ?h20 ?h21 ?h22 ?h23 ?h24 ?h25 ?h26 ?h27 ?h28 ?h29 ?h30 ?h31 ?h32 ?h33 ?h34 ?h35 ?h36 ?h37 ?h38 ?h39 ?h40 ?h41 ?h42 ?h43 ?h44 ?h45 ?h46 ?h47 ?h48 ?h49 ?b0 ?e0 ?v0 ?w0 ?b1 ?e1 ?v1 ?w1 ?b2 ?e2 ?v2 ?w2 ?p0 ?p1 ?p2 ?p3 ?p4 ?p5 ?p6 ?p7 ?p8 ?bD0 ?eD0 ?yD0 ?uD0 ?bN0 ?eN0 ?yN0 ?uN0 ?z0 ?z1 ?z2 ?z3 ?z4 ?z5 ?z6 ?z7 ?z8 ?z9 ?z10 ?z11 ?z12 ?z13 ?z14
    (case aC=>k_is)
    (case pg=>k_is)
    (case hd=>k_is)
    (case po=>k_is)
    (case sa=>k_is)
    (case mk=>k_is)
    (case kc=>k_is)
    (case nf0=>k_is)
    (case nf1=>k_is)
    (case nf2=>k_is)
    (case nf3=>k_is)
    (case h0=>k_dat 0 "h")
    (case h1=>k_dat 0 "h")
    (case h2=>k_dat 0 "h")
    (case h3=>k_dat 0 "h")
    (case h4=>k_dat 0 "h")
    (case h5=>k_dat 0 "h")
    (case h6=>k_dat 0 "h")
    (case h7=>k_dat 0 "h")
    (case h8=>k_dat 0 "h")
    (case h9=>k_dat 0 "h")
    (case h10=>k_dat 0 "h")
    (case h11=>k_dat 0 "h")
    (case h12=>k_dat 0 "h")
    (case h13=>k_dat 0 "h")
    (case h14=>k_dat 0 "h")
    (case h15=>k_dat 0 "h")
    (case h16=>k_dat 0 "h")
    (case h17=>k_dat 0 "h")
    (case h18=>k_dat 0 "h")
    (case h19=>k_dat 0 "h")
    (case h20=>k_dat 0 "h")
    (case h21=>k_dat 0 "h")
    (case h22=>k_dat 0 "h")
    (case h23=>k_dat 0 "h")
    (case h24=>k_dat 0 "h")
    (case h25=>k_dat 0 "i")
    (case h26=>k_dat 0 "i")
    (case h27=>k_dat 0 "i")
    (case h28=>k_dat 0 "i")
    (case h29=>k_dat 0 "i")
    (case h30=>k_dat 0 "h")
    (case h31=>k_dat 0 "h")
    (case h32=>k_dat 0 "h")
    (case h33=>k_dat 0 "h")
    (case h34=>k_dat 0 "h")
    (case h35=>k_dat 0 "h")
    (case h36=>k_dat 0 "h")
    (case h37=>k_dat 0 "h")
    (case h38=>k_dat 0 "h")
    (case h39=>k_dat 0 "h")
    (case h40=>k_dat 0 "h")
    (case h41=>k_dat 0 "h")
    (case h42=>k_dat 0 "h")
    (case h43=>k_dat 0 "h")
    (case h44=>k_dat 0 "h")
    (case h45=>k_dat 0 "h")
    (case h46=>k_dat 0 "h")
    (case h47=>k_dat 0 "h")
    (case h48=>k_dat 0 "h")
    (case h49=>k_dat 0 "h")
    (case b0=>k_is)
    (case e0=>k_is)
    (case v0=>rfl)
    (case w0=>decide)
    (case b1=>k_is)
    (case e1=>k_is)
    (case v1=>rfl)
    (case w1=>decide)
    (case b2=>k_is)
    (case e2=>k_is)
    (case v2=>rfl)
    (case w2=>decide)
    (case p0=>k_is)
    (case p1=>k_is)
    (case p2=>k_is)
    (case p3=>k_is)
    (case p4=>k_is)
    (case p5=>k_is)
    (case p6=>k_is)
    (case p7=>k_is)
    (case p8=>k_is)
    (case bD0=>k_is)
    (case eD0=>k_is)
    (case yD0=>decide)
    (case uD0=>exact⟨⟨_,_,rfl,rfl,rfl⟩,⟨_,_,rfl,rfl,rfl⟩,⟨_,_,rfl,rfl,rfl⟩,⟨_,_,rfl,rfl,rfl⟩,⟨_,_,rfl,rfl,rfl⟩,⟨_,_,rfl,rfl,rfl⟩,⟨_,_,rfl,rfl,rfl⟩,⟨_,_,rfl,rfl,rfl⟩,⟨_,_,rfl,rfl,rfl⟩,⟨_,_,rfl,rfl,rfl⟩,⟨_,_,rfl,rfl,rfl⟩,⟨_,_,rfl,rfl,rfl⟩,⟨_,_,rfl,rfl,rfl⟩,⟨_,_,rfl,rfl,rfl⟩,⟨_,_,rfl,rfl,rfl⟩,⟨_,_,rfl,rfl,rfl⟩,⟨_,_,rfl,rfl,rfl⟩,⟨_,_,rfl,rfl,rfl⟩,⟨_,_,rfl,rfl,rfl⟩,⟨_,_,rfl,rfl,rfl⟩,⟨_,_,rfl,rfl,rfl⟩,⟨_,_,rfl,rfl,rfl⟩,⟨_,_,rfl,rfl,rfl⟩,⟨_,_,rfl,rfl,rfl⟩,⟨_,_,rfl,rfl,rfl⟩,trivial⟩)
    (case bN0=>k_is)
    (case eN0=>k_is)
    (case yN0=>decide)
    (case uN0=>exact⟨⟨_,_,rfl,rfl,rfl⟩,⟨_,_,rfl,rfl,rfl⟩,⟨_,_,rfl,rfl,rfl⟩,⟨_,_,rfl,rfl,rfl⟩,⟨_,_,rfl,rfl,rfl⟩,⟨_,_,rfl,rfl,rfl⟩,trivial⟩)
    (case z0=>k_is)
    (case z1=>k_is)
    (case z2=>k_is)
    (case z3=>k_is)
    (case z4=>k_is)
    (case z5=>k_is)
    (case z6=>k_is)
    (case z7=>k_is)
    (case z8=>k_is)
    (case z9=>k_is)
    (case z10=>k_is)
    (case z11=>k_is)
    (case z12=>k_is)
    (case z13=>k_is)
    (case z14=>k_is)

