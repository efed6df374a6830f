import PyProof.Rows.All
import Wide.All
import OpenK.AllK
import Wide.FinOn
import Lean
import PyProof.EqAt
import PyProof.EqKinds
import PyProof.TupleCall
import PyProof.NeKinds
import KE.LcSums
import KE.KRevSl
import OpenK.KTop
import PyProof.Draws
import PyProof.EnumMake
import KE.KIntText
import KE.KxText
import PyProof.StrLawsTight
import PyProof.StrLawsChain
import PyProof.StrLawsIn
import PyProof.StrLawsJoin
import PyProof.CallStr
import PyProof.MeetsStr
import PyProof.MeetsStr2
import PyProof.StrCalls2
import PyProof.StrLoop
import PyProof.ConsumeWalk
import PySem.Challenge.RW_asitruns_k86_whole_left_where_told
set_option Elab.async false
set_option linter.all false
set_option maxRecDepth 100000
set_option hygiene false
local macro_rules|`(tactic|k_dat 0"r0")=>`(tactic|(obtain⟨φ,st,ρ,P,pre,ht,hq⟩:=h))
local macro_rules|`(tactic|k_dat 0"r1")=>`(tactic|(intro pins s σ H Q I h))
local macro_rules|`(tactic|k_dat 0"r2")=>`(tactic|(refine⟨rfl,rfl,qAT (by decide +kernel) ?_⟩))
local macro_rules|`(tactic|k_dat 0"r3")=>`(tactic|(show tseq _ _ (Ed Pd) _ st))
local macro_rules|`(tactic|k_dat 0"r4")=>`(tactic|(obtain⟨φ,st,x,y,P,R,dx,dy,hr,hq⟩:=h))
local macro_rules|`(tactic|k_dat 0"r5")=>`(tactic|(repeat first | refine skp (fun P hp=>hp) ?_ | refine skp (fun P hp=>⟨rfl,rfl,hp⟩) ?_))
local macro_rules|`(tactic|k_dat 0"r6")=>`(tactic|(intro pins s σ H v w u1 u2 Q I r1 r2 h))
local macro_rules|`(tactic|k_dat 0"r7")=>`(tactic|(intro X hP hw hK hc i pins s σ H E I hf st hg))
local macro_rules|`(tactic|k_dat 0"r8")=>`(tactic|(intro pins s σ H x y v u Q I rx ry h))
local macro_rules|`(tactic|k_dat 0"r9")=>`(tactic|(refine hit (fun P hp=>hp) ?_))
local macro_rules|`(tactic|k_dat 0"r10")=>`(tactic|(simp only [DL] at h))
local macro_rules|`(tactic|k_dat 0"r11")=>`(tactic|(rcases List.mem_append.mp hr with hr | hr))
local macro_rules|`(tactic|k_dat 0"r12")=>`(tactic|(obtain⟨φ,st,ρ,P,pre,ht,n,b,c,r⟩:=h))
local macro_rules|`(tactic|k_dat 0"r13")=>`(tactic|(intro pins s σ H D I h))
local macro_rules|`(tactic|k_dat 0"r14")=>`(tactic|(simp only [qD,qB,qC,L3.qAe,List.getElem?_cons_zero,List.getElem?_cons_succ]))
local macro_rules|`(tactic|k_dat 0"r15")=>`(tactic|(refine⟨φ,st,ρ,_,pre,ht,fun x st1 h1 φ1 H1 v b1 dx=>?_⟩))
local macro_rules|`(tactic|k_dat 0"r16")=>`(tactic|(refine K22.seq1 (K22.qAG v1 (by decide +kernel) ?_)))
local macro_rules|`(tactic|k_dat 0"r17")=>`(tactic|(obtain⟨t',rfl⟩:=ry))
local macro_rules|`(tactic|k_dat 0"r18")=>`(tactic|(obtain⟨a,ha,a16⟩:=t.hN x hx))
local macro_rules|`(tactic|k_dat 0"r19")=>`(tactic|(rcases hc with rfl | hc))
local macro_rules|`(tactic|k_dat 0"r20")=>`(tactic|(simp only [List.mem_cons,List.not_mem_nil,or_false] at hb))
local macro_rules|`(tactic|k_dat 0"r21")=>`(tactic|(refine⟨by decide,?_⟩))
local macro_rules|`(tactic|k_dat 0"r22")=>`(tactic|(obtain⟨hi,rfl⟩:=qAi hd))
local macro_rules|`(tactic|k_dat 0"r23")=>`(tactic|(obtain⟨o,es,ep,ho,r⟩:=hm))
local macro_rules|`(tactic|k_dat 0"r24")=>`(tactic|(rcases List.mem_cons.mp hq with rfl | hq))
local macro_rules|`(tactic|k_dat 0"r25")=>`(tactic|(obtain⟨u,hu,ru⟩:=rv.get hx))
local macro_rules|`(tactic|k_dat 0"r26")=>`(tactic|(obtain⟨f0,f1,f2,f3,f4,f5⟩:=hf it (by simp)))
local macro_rules|`(tactic|k_dat 0"r27")=>`(tactic|(intro i φ' st' H' bh hok hi))
local macro_rules|`(tactic|k_dat 0"r28")=>`(tactic|(rcases List.mem_cons.mp hb with rfl | hb))
local macro_rules|`(tactic|k_dat 0"r29")=>`(tactic|(have:b=it:=by simpa using hb))
local macro_rules|`(tactic|k_dat 0"r30")=>`(tactic|(obtain⟨⟨old,he⟩,hit⟩:=st))
local macro_rules|`(tactic|k_dat 0"r31")=>`(tactic|(refine part (i:=0) hp (by omega) ?_))
local macro_rules|`(tactic|k_dat 0"r32")=>`(tactic|(refine qk ⟨by show (0:Int)<(numbers:Int);omega,?_⟩))
local macro_rules|`(tactic|k_dat 0"r33")=>`(tactic|(obtain⟨i,-,rfl⟩:=List.mem_map.mp hr))
local macro_rules|`(tactic|k_dat 0"r34")=>`(tactic|(refine⟨φ,st,ρ,_,pre,ht,fun d st1 h1 φ1 H1 v b1 dx=>?_⟩))
local macro_rules|`(tactic|k_dat 0"r35")=>`(tactic|(refine K22.qAG (a:= "yes") v2 (by decide +kernel) (K22.seq1 ?_)))
local macro_rules|`(tactic|k_dat 0"r36")=>`(tactic|(refine K22.qAG (a:= "no") v2 (by decide +kernel) (K22.seq1 ?_)))
local macro_rules|`(tactic|k_dat 0"r37")=>`(tactic|(refine K22.qAG (a:= "nought") v2 (by decide +kernel) (K22.seq1 ?_)))
local macro_rules|`(tactic|k_dat 0"r38")=>`(tactic|(refine K22.qAG (a:= "high") v2 (by decide +kernel) (K22.seq1 ?_)))
local macro_rules|`(tactic|k_dat 0"r39")=>`(tactic|(refine K22.qAG (a:=K20.nm o) v2 (nk _ (by decide +kernel)) (K22.seq1 ?_)))
local macro_rules|`(tactic|k_dat 0"r40")=>`(tactic|(refine part (i:=1) hp (by omega) ?_))
local macro_rules|`(tactic|k_dat 0"r41")=>`(tactic|(refine K22.qAG v1 (by decide +kernel) ?_))
local macro_rules|`(tactic|k_dat 0"r42")=>`(tactic|(refine hit (fun P hp=>⟨rfl,rfl,hp⟩) ?_))
local macro_rules|`(tactic|k_dat 0"r43")=>`(tactic|(refine⟨z10 4 (by decide),?_⟩))
local macro_rules|`(tactic|k_dat 0"r44")=>`(tactic|(simp [List.filter_cons,e0,e1,e2]))
local macro_rules|`(tactic|k_dat 0"r45")=>`(tactic|(obtain⟨b,hb,b16⟩:=t.hN y hy))
local macro_rules|`(tactic|k_dat 0"r46")=>`(tactic|(obtain⟨o',e1⟩:=I.base.there b o e hx))
local macro_rules|`(tactic|k_dat 0"r47")=>`(tactic|(rw [show its.toArray.any (eqU x)=its.any (eqU x) by simp,qDf r fs]))
local macro_rules|`(tactic|k_dat 0"r48")=>`(tactic|(have l1:its.toArray.size=a.length:=by rw [List.size_toArray,← rv.length,hd.length]))
local macro_rules|`(tactic|k_dat 0"r49")=>`(tactic|(have l2:its2.toArray.size=b.length:=by rw [List.size_toArray,← rv2.length,hd2.length]))
local macro_rules|`(tactic|k_dat 0"r50")=>`(tactic|(simpa using (Option.some.inj this).symm))
local macro_rules|`(tactic|k_dat 0"r51")=>`(tactic|(rcases ds with _ | ⟨d,_ | ⟨d2,r⟩⟩))
local macro_rules|`(tactic|k_dat 0"r52")=>`(tactic|(obtain⟨i0,i1,i2,i3,i4,i5⟩:=hf it (by simp)))
local macro_rules|`(tactic|k_dat 0"r53")=>`(tactic|(rw [z,q1] at q4;cases q4;rw [q2] at q5;injection q5 with q7;exact absurd q7 (by decide)))
local macro_rules|`(tactic|k_dat 0"r54")=>`(tactic|(have q:its.toArray[i]? = some u:=by simpa using hu))
local macro_rules|`(tactic|k_dat 0"r55")=>`(tactic|(have hx0:its.toArray[i]? = some x0:=hx0))
local macro_rules|`(tactic|k_dat 0"r56")=>`(tactic|(rw [q] at hx0;exact (Option.some.inj hx0).symm))
local macro_rules|`(tactic|k_dat 0"r57")=>`(tactic|(rcases hb with rfl | rfl | rfl | rfl | rfl))
local macro_rules|`(tactic|k_dat 0"r58")=>`(tactic|(obtain⟨⟨hz,hI,ta,tb,hO⟩,h1,h2⟩:=st))
local macro_rules|`(tactic|k_dat 0"r59")=>`(tactic|(obtain⟨z0,z1,z2,z3,z4,z5⟩:=hf z (by simp)))
local macro_rules|`(tactic|k_dat 0"r60")=>`(tactic|(obtain⟨o0,o1,o2,o3,o4,o5⟩:=hf TO (by simp)))
local macro_rules|`(tactic|k_dat 0"r61")=>`(tactic|(obtain⟨e0,e1,e2,e3,e4,e5⟩:=hf i1 (by simp)))
local macro_rules|`(tactic|k_dat 0"r62")=>`(tactic|(obtain⟨g0,g1,g2,g3,g4,g5⟩:=hf i2 (by simp)))
local macro_rules|`(tactic|k_dat 0"r63")=>`(tactic|(have nt:∀ b v,H b=some v→b≠z∧b≠TO∧b≠i1∧b≠i2:=fun b v q=>⟨fun y=>(by rw [y,z0] at q;cases q),fun y=>(by rw [y,o0] at q;cases q),fun y=>(by rw [y,e0] at q;cases q),fun y=>(by rw [y,g0] at q;cases q)⟩))
local macro_rules|`(tactic|k_dat 0"r64")=>`(tactic|(have nch:∀ b,b ∉ [z,TO,i1,i2]→b≠z∧b≠TO∧b≠i1∧b≠i2:=fun b q=>⟨fun y=>q (by simp [y]),fun y=>q (by simp [y]),fun y=>q (by simp [y]),fun y=>q (by simp [y])⟩))
local macro_rules|`(tactic|k_dat 0"r65")=>`(tactic|(have e2:(one 120==("x" : Str))=true:=by decide +kernel))
local macro_rules|`(tactic|k_dat 0"r66")=>`(tactic|(exact qC3 (i:=0) (x:=d) a h1 rfl (rX (i:=1) (j:=0) rfl rfl) fun s2 a2 x2=>hP s2 a2 x2))
local macro_rules|`(tactic|k_dat 0"r67")=>`(tactic|(refine K22.qAG (a:= "mark") v2 (by decide +kernel) (K22.seq1 ?_)))
local macro_rules|`(tactic|k_dat 0"r68")=>`(tactic|(have hl:=(List.getElem?_eq_some_iff.mp hj).1))
local macro_rules|`(tactic|k_dat 0"r69")=>`(tactic|(simp only [tseq,qP,qF,qA,qE,qD,qB,qC,List.getElem?_cons_zero,List.getElem?_cons_succ]))
local macro_rules|`(tactic|k_dat 0"r70")=>`(tactic|(refine K22.seq1 (K22.qDe v1 (by decide +kernel) ?_)))
local macro_rules|`(tactic|k_dat 0"r71")=>`(tactic|(show qJ (.lst st.length) (.int ((0:Nat):Int)) _ _))
local macro_rules|`(tactic|k_dat 0"r72")=>`(tactic|(show qJ (.lst st.length) (.int ((1:Nat):Int)) _ _))
local macro_rules|`(tactic|k_dat 0"r73")=>`(tactic|(refine⟨cdiv (by decide) (by decide),?_⟩))
local macro_rules|`(tactic|k_dat 0"r74")=>`(tactic|(exact I1.qK0 (Nat.le_refl _) (I1.hok.fresh (Nat.le_refl _))))
local macro_rules|`(tactic|k_dat 0"r75")=>`(tactic|(rw [show qCb f v ((k,x)::r)=(if k=f then (k,v)::r else (k,x)::qCb f v r) from rfl]))
local macro_rules|`(tactic|k_dat 0"r76")=>`(tactic|(intro pins s σ H x v vl vu lo hi sl Q I rx hs pl pu h))
local macro_rules|`(tactic|k_dat 0"r77")=>`(tactic|(intro value slice pins s σ H x y v u Q I rx ry h hs))
local macro_rules|`(tactic|k_dat 0"r78")=>`(tactic|(refine⟨φ,st,ρ,_,pre,ht,fun k st1 h1 φ1 H1 b1=>?_⟩))
local macro_rules|`(tactic|k_dat 0"r79")=>`(tactic|(refine⟨φ,st,ρ,_,pre,ht,fun items ok st1 h1 φ1 H1 J b1 hJ=>?_⟩))
local macro_rules|`(tactic|k_dat 0"r80")=>`(tactic|(simp only [List.zip_cons_cons,List.zip_nil_left,List.filter_cons,e1,e2,List.filter_nil,Bool.false_eq_true,if_false,if_true,List.map_cons,List.map_nil]))
local macro_rules|`(tactic|k_dat 0"r81")=>`(tactic|(refine K22.qAG (a:= "box") v2 (by decide +kernel) (K22.seq1 ?_)))
local macro_rules|`(tactic|k_dat 0"r82")=>`(tactic|(simp only [List.zip_cons_cons,List.zip_nil_left,List.filter_cons,e0,e1,e2,List.filter_nil,Bool.false_eq_true,if_false,if_true,List.map_cons,List.map_nil,ha,hb]))
local macro_rules|`(tactic|k_dat 0"r83")=>`(tactic|(simp only [qD,qB,qC,List.getElem?_cons_zero,List.getElem?_cons_succ]))
local macro_rules|`(tactic|k_dat 0"r84")=>`(tactic|(simp only [tseq,qO,qP,qD,qB,qC,qI,qF,qA,qE,qZ,qz,qCu,qNn,qJn,qDd,qB3,qNt,qH,qa,qC7,qG,qAm,qEG,qA3,qAj,qDK,qAK,qAA,qAY,qCC,qAq,qi,qd,qCT,qJ,qj,qAf,L3.qm,L3.qAe,qAk,qDC,qg,qES,qB6,qAD,qV,qHP,qAS,qX,qBj,List.map_cons,List.map_nil,List.length_cons,List.length_nil,List.cons_append,List.nil_append,List.replicate,List.set,List.getElem?_cons_zero,List.getElem?_cons_succ,Option.map_some,SO.items,GS.d]))
local macro_rules|`(tactic|k_dat 0"r85")=>`(tactic|(exact⟨_,rfl,.num _ _ ha ⟨by omega,by omega⟩⟩))
local macro_rules|`(tactic|k_dat 0"r86")=>`(tactic|(refine⟨by decide,by decide,by decide,z1 4 (by decide),by decide,?_⟩))
local macro_rules|`(tactic|k_dat 0"r87")=>`(tactic|(exact⟨z1 3 (by decide),hP ⟨"num",[a,v]⟩ _ (.app _ _) tv⟩))
local macro_rules|`(tactic|k_dat 0"r88")=>`(tactic|(simp only [qP,qZ,qA,qE,qD,qz,qF,qC,qB,List.getElem?_cons_zero,List.getElem?_cons_succ,qDi]))
local macro_rules|`(tactic|k_dat 0"r89")=>`(tactic|(simp only [qF,qA,qE,qB,List.getElem?_cons_zero,List.getElem?_cons_succ]))
local macro_rules|`(tactic|k_dat 0"r90")=>`(tactic|(exact⟨_,rfl,Int.emod_nonneg _ (by decide),Int.emod_lt_of_pos _ (by decide)⟩))
local macro_rules|`(tactic|k_dat 0"r91")=>`(tactic|(have I1:Inv X pins σ H { s with heap:=h' }:=I.turned (t':=s.toks) (fun b o hb e=>(sb.2 b hb).trans e) f0 f1 f3 f4 f5))
local macro_rules|`(tactic|k_dat 0"r92")=>`(tactic|(exact thn (hr pos pins s1 σ H1 _ I1 q1) fun us s2 ⟨xs,H2,I2,r2,q2⟩=>⟨x::xs,H2,I2,.cons r1 r2,q2⟩))
local macro_rules|`(tactic|k_dat 0"r93")=>`(tactic|(show wpAny _ _ (if (((sIx items.size 0 lo:Nat):Int)==0&&(1:Int)==1&&(sIx items.size items.size hi - sIx items.size 0 lo)==items.size)=true then _ else _) _ _ s))
local macro_rules|`(tactic|k_dat 0"r94")=>`(tactic|(refine⟨φ,st,ρ,_,pre,ht,fun ds st1 h1 φ1 H1 vs b1 dx=>⟨by rw [← dx.length];exact h1.1,fun p hp=>?_⟩⟩))
local macro_rules|`(tactic|k_dat 0"r95")=>`(tactic|(have l1:its.toArray.size=a.items.length:=by rw [List.size_toArray,← rv.length,d1.length]))
local macro_rules|`(tactic|k_dat 0"r96")=>`(tactic|(have l2:its2.toArray.size=b.items.length:=by rw [List.size_toArray,← rv2.length,d2.length]))
local macro_rules|`(tactic|k_dat 0"r97")=>`(tactic|(have I1:Inv X pins σ H { s with heap:=h' }:=I.kept (t':=s.toks) fun b o e=>hx b o (Nat.ne_of_lt (Heap.lt_size e)) e))
local macro_rules|`(tactic|k_dat 0"r98")=>`(tactic|(unfold Builtin.SmallTypes.nextOf;refine wpAny_bind (wpAny_callSpecial?_slot (name:=Str.ofString "__next__") hit.typeIs slot_tupleiter_next (wpAny_call_entry slot_tupleiter_next hit.typeIs entry_tupleiter_next ?_ (args_tupleiter_next _)))))
local macro_rules|`(tactic|k_dat 0"r99")=>`(tactic|(show wpAny _ _ (field (.ref it) 0 >>= _) _ _ s;refine wpAny_bind (wpAny_field ho hd (x:=.ref t) rfl ?_)))
local macro_rules|`(tactic|k_dat 0"r100")=>`(tactic|(show wpAny _ _ (if (Value.ref t==Value.none)=true then _ else _) _ _ s;rw [if_neg (show ¬ ((Value.ref t==Value.none)=true) from Bool.false_ne_true)]))
local macro_rules|`(tactic|k_dat 0"r101")=>`(tactic|(show wpAny _ _ (field (.ref it) 1 >>= _) _ _ s;refine wpAny_bind (wpAny_field ho hd (x:=.int i 0) rfl ?_)))
local macro_rules|`(tactic|k_dat 0"r102")=>`(tactic|(show wpAny _ _ (seqItems? (.ref t) >>= _) _ _ s;refine wpAny_bind (wpAny_seqItems hol hdl ?_);simp only [Int.toNat_natCast,hx]))
local macro_rules|`(tactic|k_dat 0"r103")=>`(tactic|(exact⟨⟨_,he,rfl⟩,h _ he ⟨_,Heap.get?_push_of_some _ (Heap.get?_push_size _ rfl),rfl,rfl⟩ (by rw [Heap.size_push,hz]) fun b o x=>Heap.get?_push_of_some _ (Heap.get?_push_of_some _ x)⟩))
local macro_rules|`(tactic|k_dat 0"r104")=>`(tactic|(refine wpAny_bind (wpAny_attempt (wpAny_callSpecial?_slot (name:=Str.ofString "__next__") hT F.slot_enumerate_next (wpAny_call_entry F.slot_enumerate_next hT F.entry_enumerate_next ?_ (F.args_enumerate_next_1 _))))))
local macro_rules|`(tactic|k_dat 0"r105")=>`(tactic|(exact wpAny_bind (wpAny_isInstance (T:= "StopIteration") (b:=true) ⟨o,ho,hc⟩ isSubtype_stop (wpAny_pure (hQ _ he')))))
local macro_rules|`(tactic|k_dat 0"r106")=>`(tactic|(refine⟨_,rfl,wpAny_letOwnedTupleGo_enum (s:={ s with heap:=h',toks:=tk+1 }) ho fun h2 he2 hs2=>?_⟩))
local macro_rules|`(tactic|k_dat 0"r107")=>`(tactic|(have hT2:h2.get? s.heap.objs.size=some { cls:=.type "tuple",data:=.seq #[.int ((i+1:Nat):Int) tk,x0] }:=(hs2.2 _ (Ne.symm (qA1 (Heap.lt_size he) (Nat.le_refl _)))).trans hT))
local macro_rules|`(tactic|k_dat 0"r108")=>`(tactic|(have hk2:∀ b o,b≠e→b≠it→s.heap.get? b=some o→h2.get? b=some o:=fun b o hb hb2 q=>(hs2.2 b hb).trans (hk b o hb hb2 q)))
local macro_rules|`(tactic|k_dat 0"r109")=>`(tactic|(have nt:∀ b v,H b=some v→b≠e∧b≠it:=fun b v q=>⟨fun z=>(by rw [z,e0] at q;cases q),fun z=>(by rw [z,i0] at q;cases q)⟩))
local macro_rules|`(tactic|k_dat 0"r110")=>`(tactic|(refine⟨by show 2≤sizeLine;decide,[.int ((i+1:Nat):Int) tk,x0],.cons ⟨_,rfl⟩ (.cons ru .nil),⟨_,hT2,rfl,0,rfl⟩⟩))
local macro_rules|`(tactic|k_dat 0"r111")=>`(tactic|(refine (I.hok b v q).stay (fun c o hc y=>?_) (fun c y=>by rw [qM (qN y hp)];exact y) fun c ys y=>by rw [qM (qN y hp)];exact y))
local macro_rules|`(tactic|k_dat 0"r112")=>`(tactic|(have hza:=Heap.get?_update_self (h:=s.heap) (Obj.mapFields fun x_1=>x_1.setIfInBounds 0 Value.ellipsis) hz (Obj.isFreed_of_fields (Obj.data_mapFields rfl _))))
local macro_rules|`(tactic|k_dat 0"r113")=>`(tactic|(have hua:∀ c,c≠z→(s.heap.update z (Obj.mapFields fun x_1=>x_1.setIfInBounds 0 Value.ellipsis)).get? c=s.heap.get? c:=fun c hc=>Heap.get?_update_ne _ _ _ _ hc))
local macro_rules|`(tactic|k_dat 0"r114")=>`(tactic|(have h1a:St1 k1 ha:=D1.frame _ _ _ h1 fun c hc o q=>(hua c (fun e=>ap.z1 (e ▸ hc))).trans q))
local macro_rules|`(tactic|k_dat 0"r115")=>`(tactic|(have h2a:St2 k2 ha:=D2.frame _ _ _ h2 fun c hc o q=>(hua c (fun e=>ap.z2 (e ▸ hc))).trans q))
local macro_rules|`(tactic|k_dat 0"r116")=>`(tactic|(have h2c:St2 k2 hc:=D2.frame _ _ _ h2a fun c hcm o q=>(sbc.2 c (fun e=>ap.o2 (e ▸ hcm))).trans ((sb1.2 c (fun e=>ap.a2 (e ▸ hcm))).trans q)))
local macro_rules|`(tactic|k_dat 0"r117")=>`(tactic|(refine wpAny_bind (wpAny_attempt (wpAny_callSpecial?_slot (name:=Str.ofString "__next__") hT F.slot_zip_next (wpAny_call_entry F.slot_zip_next hT F.entry_zip_next ?_ (F.args_zip_next_1 _))))))
local macro_rules|`(tactic|k_dat 0"r118")=>`(tactic|(exact⟨⟨k z (by simp) _ hz,k TI (by simp) _ hI,ta,tb,k TO (by simp) _ hO⟩,⟨o1,k i1 (by simp) _ q1,q⟩,⟨o2,k i2 (by simp) _ r1,r⟩⟩))
local macro_rules|`(tactic|k_dat 0"r119")=>`(tactic|(refine⟨_,rfl,wpAny_letOwnedTupleGo_zip (s:={ s with heap:=h',toks:=tk }) hz' fun h2' hz2 hs2=>?_⟩))
local macro_rules|`(tactic|k_dat 0"r120")=>`(tactic|(have hk2:∀ b o,b≠z→b≠TO→b≠i1→b≠i2→s.heap.get? b=some o→h2'.get? b=some o:=fun b o q1 q2 q3 q4 q=>(hs2.2 b q1).trans (hk b o q1 q2 q3 q4 q)))
local macro_rules|`(tactic|k_dat 0"r121")=>`(tactic|(refine (I.hok b v q).stay (fun c o hc y=>?_) (fun c y=>by rw [qM (qN y hp0)];exact y) fun c ys y=>by rw [qM (qN y hp0)];exact y))
local macro_rules|`(tactic|k_dat 0"r122")=>`(tactic|(refine⟨?_,?_,?_,?_,?_,?_,?_,?_,?_,?_,?_,?_,?_,?_,?_,?_⟩<;>(intro q;try simp only [List.mem_cons,List.not_mem_nil,or_false] at q)<;>(revert q alt';try revert alt2)<;>(unfold Addr at *;omega)))
local macro_rules|`(tactic|k_dat 0"r123")=>`(tactic|(simp only [qFn,tseq,qO,qD,qB,qC,qI,List.getElem?_cons_zero,List.getElem?_cons_succ,List.set_cons_zero,List.set_cons_succ]))
local macro_rules|`(tactic|k_dat 0"r124")=>`(tactic|(have v2:∀ P:VD,P (.str r.w) st→qB 2 [some (.ins n),some (qS r),some (.str r.w)] st P:=fun P hp=>hp))
local macro_rules|`(tactic|k_dat 0"r125")=>`(tactic|(refine qHQ (i:=2) (j:=0) (k:=2) (xs:=[.str e.how,e.at_,.tup e.bs,.tup e.ms,.int e.n]) a rfl rfl rfl rfl al l1 fun s1 x1=>?_))
local macro_rules|`(tactic|k_dat 0"r126")=>`(tactic|(simp only [tseq,qP,qZ,qA,qE,qD,qB,qC,List.getElem?_cons_zero,List.getElem?_cons_succ,List.set_cons_zero,List.set_cons_succ]))
local macro_rules|`(tactic|k_dat 0"r127")=>`(tactic|(refine qw (xs:=[.int g.p,.tup (g.bs.map .int),msD g.m,svD g.sv,.tup (g.rs.map .int),.tup (g.cs.map .int)]) (v:=3) (d:=.tup [.int q,msD m]) (by rw [sv];rfl) ?_))
local macro_rules|`(tactic|k_dat 0"r128")=>`(tactic|(refine qw (xs:=[.int g.p,.tup (g.bs.map .int),msD g.m,svD g.sv,.tup (g.rs.map .int),.tup (g.cs.map .int)]) (v:=4) (d:=.tup (g.rs.map .int)) rfl ?_))
local macro_rules|`(tactic|k_dat 0"r129")=>`(tactic|(refine qw (xs:=[.int g.p,.tup (g.bs.map .int),msD g.m,svD g.sv,.tup (g.rs.map .int),.tup (g.cs.map .int)]) (v:=5) (d:=.tup (g.cs.map .int)) rfl ?_))
local macro_rules|`(tactic|k_dat 0"r130")=>`(tactic|(refine rS (i:=0) (j:=1) (xs:=[.str how,.tup [.str w,.int x],.tup bs,.tup ms,.int nn]) rfl rfl _ ?_))
local macro_rules|`(tactic|k_dat 0"r131")=>`(tactic|(refine qw (xs:=[.int m.g.p,.tup (m.g.bs.map .int),msD m.g.m,svD m.g.sv,.tup (m.g.rs.map .int),.tup (m.g.cs.map .int)]) (v:=3) (d:=svD m.g.sv) rfl ?_))
local macro_rules|`(tactic|k_dat 0"r132")=>`(tactic|(have hc:L3.cutD (SO.rw ([p0,p1,p2,p3,p4,p5,p6,p7].map Dt.int)).items none (some 6)=[p0,p1,p2,p3,p4,p5].map Dt.int:=qEE (xs:=[p0,p1,p2,p3,p4,p5,p6,p7]) (k:=6)))
local macro_rules|`(tactic|k_dat 0"r133")=>`(tactic|(simp only [qD,qB,qC,qj,List.getElem?_cons_zero,List.getElem?_cons_succ,List.set_cons_succ,List.set_cons_zero]))
local macro_rules|`(tactic|k_dat 0"r134")=>`(tactic|(simp only [qB,qC,qy,qA3,qAE,qAA,qAK,qCK,List.map_nil,List.getElem?_cons_zero,List.getElem?_cons_succ]))
local macro_rules|`(tactic|k_dat 0"r135")=>`(tactic|(simp only [qF,qA,qE,qy,qAj,qC,qCK,List.map_cons,List.map_nil,List.getElem?_cons_zero,List.getElem?_cons_succ,Option.join_some]))
local macro_rules|`(tactic|k_dat 0"r136")=>`(tactic|(refine⟨by rw [e1];exact t.hN,by rw [e1];exact t.hT,?_,?_,by rw [e1];exact t.b8,by rw [e1];exact t.bb,ok⟩))
local macro_rules|`(tactic|k_dat 0"r137")=>`(tactic|(exact .inl ⟨m',e,r',c',he,t2,sv2,nb',fun rest=>.next _ _ _ _ _ _ _ _ _ t.ok d (ru rest)⟩))
local macro_rules|`(tactic|k_dat 0"r138")=>`(tactic|(refine .inr ⟨m2,t2,sv2,fun rest m' e r' c' q=>.next _ _ _ _ _ _ _ _ _ t.ok d (ru rest m' e r' c' ?_)⟩))
set_option hygiene true
namespace L2
open PySem PySem.Spec PyProof.Rows
noncomputable abbrev Key:=Sum Int Str
noncomputable def qGj:Key→Value→Bool
  | .inl k,v=>Value.isInt k v
  | .inr x,v=>Value.isStrOf x v
noncomputable def qSv (w:World):Key→Int
  | .inl k=>hashInt k
  | .inr x=>hashStr w x
theorem qAP:∀ {k:Key} {v:Value},qGj k v=true→(∃ i t,k=Sum.inl i∧v=Value.int i t)∨(∃ x t,k=Sum.inr x∧v=Value.str x t)
  | .inl i,v,h=>by
    obtain⟨t,e⟩:=Value.isInt_shape (k:=i) (v:=v) h
    exact .inl ⟨i,t,rfl,e⟩
  | .inr x,v,h=>by
    obtain⟨t,e⟩:=Value.isStrOf_shape (x:=x) (v:=v) h
    exact .inr ⟨x,t,rfl,e⟩
theorem qKX (i:Int) (t:Tok):qGj (.inl i) (.int i t)=true:=by simp [qGj,Value.isInt]
theorem qKG (x:Str) (t:Tok):qGj (.inr x) (.str x t)=true:=by simp [qGj,Value.isStrOf]
theorem qOd (a b:Int):decide ((Sum.inl a:Key)=Sum.inl b)=(a==b):=by
  by_cases e:a=b
  · subst e;simp
  · have h:¬ (Sum.inl a:Key)=Sum.inl b:=fun q=>e (Sum.inl.inj q)
    rw [decide_eq_false h]
    exact (beq_eq_false_iff_ne.mpr e).symm
theorem qQm (a b:Str):decide ((Sum.inr a:Key)=Sum.inr b)=decide (a=b):=by
  by_cases e:a=b
  · subst e;simp
  · have h:¬ (Sum.inr a:Key)=Sum.inr b:=fun q=>e (Sum.inr.inj q)
    rw [decide_eq_false h,decide_eq_false e]
theorem qP4 (a:Int) (b:Str):decide ((Sum.inl a:Key)=Sum.inr b)=false:=decide_eq_false (fun q=>nomatch q)
theorem qPp (a:Str) (b:Int):decide ((Sum.inr a:Key)=Sum.inl b)=false:=decide_eq_false (fun q=>nomatch q)
noncomputable def qAV (prog:Program) (w:World):PySem.KeyKind prog w Key where
  is:=qGj
  hash:=qSv w
  inj :=fun v a b ha hb=>by
    rcases qAP ha with ⟨i,t,rfl,rfl⟩ | ⟨x,t,rfl,rfl⟩
    · rcases qAP hb with ⟨j,u,rfl,e⟩ | ⟨y,u,rfl,e⟩
      · injection e with e1 _;rw [e1]
      · exact nomatch e
    · rcases qAP hb with ⟨j,u,rfl,e⟩ | ⟨y,u,rfl,e⟩
      · exact nomatch e
      · injection e with e1 _;rw [e1]
  byValue:=fun k v h=>by
    rcases qAP h with ⟨i,t,rfl,rfl⟩ | ⟨x,t,rfl,rfl⟩<;>rfl
  pyHash:=fun hv h=>by
    rcases qAP hv with ⟨i,t,rfl,rfl⟩ | ⟨x,t,rfl,rfl⟩
    · exact wpAny_pyHash_int h
    · exact wpAny_pyHash_str h
  eqBool:=fun hu hv h=>by
    rcases qAP hu with ⟨i,t,rfl,rfl⟩ | ⟨x,t,rfl,rfl⟩
    · rcases qAP hv with ⟨j,u,rfl,rfl⟩ | ⟨y,u,rfl,rfl⟩
      · rw [qOd] at h;exact wpAny_eqBool_int h
      · rw [qP4] at h;exact SeqAt.EqAt.int_str i t y u _ _ _ _ h
    · rcases qAP hv with ⟨j,u,rfl,rfl⟩ | ⟨y,u,rfl,rfl⟩
      · rw [qPp] at h;exact SeqAt.EqAt.str_int x t j u _ _ _ _ h
      · rw [qQm] at h;exact wpAny_eqBool_str h
  «strs»:=fun k x t v h=>by
    rcases qAP h with ⟨i,u,rfl,e⟩ | ⟨y,u,rfl,e⟩
    · exact nomatch e
    · injection e with e1 _
      subst e1
      cases v<;>rfl
theorem qIM (prog:Program) (w:World) (i:Int) (t:Tok):(qAV prog w).is (.inl i) (.int i t)=true:=qKX i t
theorem qHj (prog:Program) (w:World) (x:Str) (t:Tok):(qAV prog w).is (.inr x) (.str x t)=true:=qKG x t
end L2
namespace L2
open PySem PySem.Spec PyProof.Rows
inductive V where
  | non | bl (b:Bool) | int (i:Int) | str (x:Str) | byt (b:Array UInt8) | flt (b:UInt64) | ref (a:Addr) | ty (n:String)
  deriving DecidableEq
noncomputable def RelV:V→Value→Prop
  | .non,u=>u=Value.none
  | .bl b,u=>u=Value.bool b
  | .int i,u=>∃ t,u=Value.int i t
  | .str x,u=>∃ t,u=Value.str x t
  | .byt b,u=>∃ t,u=Value.bytes b t
  | .flt b,u=>∃ t,u=Value.float b t
  | .ref a,u=>u=Value.ref a
  | .ty n,u=>u=Value.type n
noncomputable abbrev Vals:List V→List Value→Prop:=Paired RelV
theorem Vals.length {xs:List V} {us:List Value} (r:Vals xs us):xs.length=us.length:=Paired.length r
theorem Vals.get:∀ {xs:List V} {us:List Value} {i:Nat} {x:V},Vals xs us→xs[i]? = some x→∃ u,us[i]? = some u∧RelV x u
  | _,_,_,_,.nil,e=>by simp at e
  | _,_,0,_,.cons r _,e=>by simp at e;subst e;exact⟨_,rfl,r⟩
  | _,_,i+1,x,.cons _ t,e=>by
    obtain⟨u,h1,h2⟩:=Vals.get (i:=i) (x:=x) t (by simpa using e)
    exact⟨u,by simpa using h1,h2⟩
theorem Vals.set {x:V} {u:Value} (r:RelV x u):∀ {xs:List V} {us:List Value} (i:Nat),Vals xs us→Vals (xs.set i x) (us.set i u)
  | _,_,_,.nil=>.nil
  | _,_,0,.cons _ t=>.cons r t
  | _,_,i+1,.cons q t=>.cons q (Vals.set r i t)
theorem Vals.append:∀ {xs ys:List V} {us ws:List Value},Vals xs us→Vals ys ws→Vals (xs++ys) (us++ws)
  | _,_,_,_,.nil,s=>s
  | _,_,_,_,.cons r t,s=>.cons r (Vals.append t s)
theorem Vals.take:∀ {xs:List V} {us:List Value} (n:Nat),Vals xs us→Vals (xs.take n) (us.take n)
  | _,_,0,_=>.nil
  | _,_,_+1,.nil=>.nil
  | _,_,n+1,.cons r t=>.cons r (Vals.take n t)
theorem Vals.drop:∀ {xs:List V} {us:List Value} (n:Nat),Vals xs us→Vals (xs.drop n) (us.drop n)
  | _,_,0,r=>r
  | _,_,_+1,.nil=>.nil
  | _,_,n+1,.cons _ t=>Vals.drop n t
noncomputable def qC6:Option V→Option Value→Prop
  | some v,some u=>RelV v u
  | none,none=>True
  | _,_=>False
noncomputable def KV {κ:Type}:List (κ×V)→List (κ×Value)→Prop:=Paired fun (p:κ×V) (q:κ×Value)=>p.1=q.1∧RelV p.2 q.2
noncomputable def kV:Key→V
  | .inl i=>.int i
  | .inr x=>.str x
inductive HO where
  /-- a list -/
  | lst (xs:List V)
  /-- a tuple (never changes) -/
  | tup (xs:List V)
  /-- a dict whose keys are ints and texts;one whose keys are tuples of ints and texts (the empty one is both) -/
  | dK (kvs:List (Key×V)) | dT (kvs:List (List Key×V))
  /-- a set of ints: its members,its size -/
  | set (S:Int→Bool) (n:Nat)
  /-- an instance of the class at C,its dict at dx,its attributes -/
  | ins (C dx:Addr) (fs:List (Str×V))
  /-- the dict of the instance at x -/
  | own (x:Addr)
  /-- the dict of an exception -/
  | xd (fs:List (Str×V))
  /-- a bound method,f of x -/
  | met (f x:Addr)
  /-- a range object lo,lo+1,.. below hi -/
  | rng (lo hi:Int)
  /-- a thing that is known to the object (the script;a dict while a loop walks it): read,never written while it is so -/
  | frz (o:Obj) (u:HO)
  /-- a code object's table -/
  | tbl (ps:Array Value)
  /-- any other thing,by what is true of its one object (a def of one's own: SetO a S n:=HO.ext fun h=>..) -/
  | ext (φ:Heap→Prop)
noncomputable abbrev Hp:=Addr→Option HO
noncomputable def upd (H:Hp) (a:Addr) (o:HO):Hp:=fun b=>if b=a then some o else H b
theorem qY {H:Hp} {a:Addr} {o:HO}:upd H a o a=some o:=by unfold upd;rw [if_pos rfl]
theorem qM {H:Hp} {a b:Addr} {o:HO} (h:b≠a):upd H a o b=H b:=by unfold upd;rw [if_neg h]
theorem qGJ {H:Hp} {a b:Addr} {o u:HO} (h:H a=some o) (h':H b=some u) (d:o≠u):a≠b:=by
  intro e;subst e;rw [h] at h';exact d (Option.some.inj h')
theorem qN {H:Hp} {a b:Addr} {o:HO} (h:H a=some o) (h':H b=none):a≠b:=by
  intro e;subst e;rw [h] at h';cases h'
section
variable (P:Program) (w:World)
noncomputable def qAl (H:Hp) (h:Heap) (a:Addr):HO→Prop
  | .lst xs=>xs.length≤sizeLine∧∃ (its:List Value) (n:Nat),Vals xs its∧h.get? a=some { cls:=.type "list",data:=.seq its.toArray n }
  | .tup xs=>xs.length≤sizeLine∧∃ its:List Value,Vals xs its∧IsTup h a its.toArray
  | .dK kvs=>kvs.length≤sizeLine∧(a==sysModules)=false∧∃ vs,KV kvs vs∧h.DictOf (qAV P w) a vs
  | .dT kvs=>kvs.length≤sizeLine∧(a==sysModules)=false∧∃ xs:List (List Key×Addr×Value),
      Paired (fun (p:List Key×V) (q:List Key×Addr×Value)=>p.1=q.1∧H q.2.1=some (.tup (p.1.map kV))∧RelV p.2 q.2.2) kvs xs ∧
      ∃ o es ep,h.get? a=some o∧o.ExactDict∧o.data = .dict es ep∧es.toList=xs.map (entryOfKey (tupleKind (qAV P w)))∧(xs.map (·.1)).Nodup
  | .set S n=>h.SetOf (intKind P w) a S n
  | .ins C dx fs=>H dx=some (.own a)∧fs.length≤1000∧dx≠a∧h.get? a=some (W.instObj C dx) ∧
      ∃ mA,h.Ns1 dx mA∧(∀ f,qC6 (fs.lookup f) (mA f))∧PySem.Within mA (fs.map (·.1))
  | .own _=>∃ o,h.get? a=some o
  | .xd fs=>∃ mA,h.Ns1 a mA∧∀ f,qC6 (fs.lookup f) (mA f)
  | .rng lo hi=>∃ t u v,h.get? a=some { cls:=.type "range",data:=.fields #[.int lo t,.int hi u,.int 1 v] }
  | .frz o u=>h.get? a=some o∧qAl H h a u
  | .tbl ps=>h.get? a=some { cls:=.none,data:=.fields ps }
  | .met f x=>h.get? a=some (W.methodObj (.ref f) (.ref x))
  | .ext φ=>φ h∧(∃ o,h.get? a=some o)∧∀ h1 h2:Heap,φ h1→(∀ o,h1.get? a=some o→h2.get? a=some o)→φ h2
def HOk (H:Hp) (h:Heap):Prop:=∀ a o,H a=some o→qAl P w H h a o
end
section
variable {P:Program} {w:World} {H H':Hp} {h h':Heap} {a:Addr} {o:HO}
theorem qAl.lt (x:qAl P w H h a o):a<h.objs.size:=by
  cases o with
  | lst xs=>obtain⟨_,_,_,_,e⟩:=x;exact Heap.lt_size e
  | tup xs=>obtain⟨_,_,_,p⟩:=x;exact p.lt
  | dK kvs=>obtain⟨_,_,_,_,o,_,_,e,_⟩:=x;exact Heap.lt_size e
  | dT kvs=>obtain⟨_,_,_,_,o,_,_,e,_⟩:=x;exact Heap.lt_size e
  | set S n=>obtain⟨o,_,_,_,e,_⟩:=x;exact Heap.lt_size e
  | ins C dx fs=>obtain⟨_,_,_,e,_⟩:=x;exact Heap.lt_size e
  | own y=>obtain⟨_,e⟩:=x;exact Heap.lt_size e
  | xd fs=>obtain⟨_,⟨_,_,_,e,_⟩,_⟩:=x;exact Heap.lt_size e
  | rng lo hi=>obtain⟨_,_,_,e⟩:=x;exact Heap.lt_size e
  | frz ob u=>obtain⟨e,_⟩:=x;exact Heap.lt_size e
  | tbl ps=>exact Heap.lt_size (show h.get? a=some _ from x)
  | met f y=>exact Heap.lt_size (show h.get? a=some _ from x)
  | ext φ=>obtain⟨_,⟨_,e⟩,_⟩:=x;exact Heap.lt_size e
theorem Paired.qQa {α β:Type} {F G:α→β→Prop}:∀ {l₁:List α} {l₂:List β},Paired F l₁ l₂→(∀ a b,F a b→G a b)→Paired G l₁ l₂
  | _,_,.nil,_=>.nil
  | _,_,.cons r t,f=>.cons (f _ _ r) (Paired.qQa t f)
theorem qAl.stay (x:qAl P w H h a o) (k:∀ b u,(b=a∨H b=some (.own a))→h.get? b=some u→h'.get? b=some u)
    (ho:∀ b,H b=some (.own a)→H' b=some (.own a)) (ht:∀ b xs,H b=some (.tup xs)→H' b=some (.tup xs)):qAl P w H' h' a o:=by
  induction o with
  | lst xs=>obtain⟨z,its,n,r,e⟩:=x;exact⟨z,its,n,r,k _ _ (.inl rfl) e⟩
  | tup xs=>obtain⟨z,its,r,ob,e,c⟩:=x;exact⟨z,its,r,ob,k _ _ (.inl rfl) e,c⟩
  | dK kvs=>obtain⟨z,y,vs,r,ob,es,ep,e,c⟩:=x;exact⟨z,y,vs,r,ob,es,ep,k _ _ (.inl rfl) e,c⟩
  | dT kvs =>
    obtain⟨z,y,xs,r,ob,es,ep,e,c⟩:=x
    exact⟨z,y,xs,Paired.qQa r fun p q z=>⟨z.1,ht _ _ z.2.1,z.2.2⟩,ob,es,ep,k _ _ (.inl rfl) e,c⟩
  | set S n=>obtain⟨ob,es,ep,t,e,c⟩:=x;exact⟨ob,es,ep,t,k _ _ (.inl rfl) e,c⟩
  | ins C dx fs =>
    obtain⟨d,z,ne,e,mA,⟨od,es,ep,e2,c⟩,r⟩:=x
    exact⟨ho _ d,z,ne,k _ _ (.inl rfl) e,mA,⟨od,es,ep,k _ _ (.inr d) e2,c⟩,r⟩
  | own y=>obtain⟨ob,e⟩:=x;exact⟨ob,k _ _ (.inl rfl) e⟩
  | xd fs=>obtain⟨mA,⟨od,es,ep,e,c⟩,r⟩:=x;exact⟨mA,⟨od,es,ep,k _ _ (.inl rfl) e,c⟩,r⟩
  | rng lo hi=>obtain⟨t,u,v,e⟩:=x;exact⟨t,u,v,k _ _ (.inl rfl) e⟩
  | frz ob u ih=>obtain⟨e,q⟩:=x;exact⟨k _ _ (.inl rfl) e,ih q⟩
  | tbl ps =>
    have e:h.get? a=some { cls:=.none,data:=.fields ps }:=x
    show h'.get? a=some { cls:=.none,data:=.fields ps }
    exact k a _ (.inl rfl) e
  | met f y =>
    have e:h.get? a=some (W.methodObj (.ref f) (.ref y)):=x
    show h'.get? a=some (W.methodObj (.ref f) (.ref y))
    exact k a _ (.inl rfl) e
  | ext φ=>obtain⟨p,⟨o,e⟩,st⟩:=x;exact⟨st _ _ p fun o q=>k _ _ (.inl rfl) q,⟨o,k _ _ (.inl rfl) e⟩,st⟩
theorem HOk.lt (x:HOk P w H h) (e:H a=some o):a<h.objs.size:=(x a o e).lt
theorem HOk.fresh (x:HOk P w H h) (e:h.objs.size≤a):H a=none:=by
  cases q:H a with
  | none=>rfl
  | some u=>exact absurd (Nat.lt_of_lt_of_le (x.lt q) e) (Nat.lt_irrefl _)
theorem HOk.kept (x:HOk P w H h) (k:∀ b u,h.get? b=some u→h'.get? b=some u):HOk P w H h':=fun a o e =>
  (x a o e).stay (fun b u _ q=>k b u q) (fun _ q=>q) fun _ _ q=>q
theorem HOk.laid (x:HOk P w H h) (k:∀ b u,h.get? b=some u→h'.get? b=some u) (hp:h.objs.size≤a) (new:qAl P w (upd H a o) h' a o):HOk P w (upd H a o) h':=fun b u e=>by
  have hn:=x.fresh hp
  by_cases hb:b=a
  · subst hb;rw [qY] at e;cases e;exact new
  · rw [qM hb] at e
    exact (x b u e).stay (fun c v _ q=>k c v q) (fun c q=>by rw [qM (qN q hn)];exact q) fun c xs q=>by rw [qM (qN q hn)];exact q
end
def Rd (H:Hp) (a:Addr) (u:HO):Prop:=H a=some u∨∃ o,H a=some (.frz o u)
theorem Rd.ok {P:Program} {w:World} {H:Hp} {h:Heap} {a:Addr} {u:HO} (r:Rd H a u) (x:HOk P w H h):qAl P w H h a u:=by
  rcases r with r | ⟨o,r⟩
  · exact x a u r
  · obtain⟨_,q⟩:=x a _ r
    exact q
noncomputable def Mut:Option HO→Prop
  | some (.lst _)=>True
  | some (.dK _)=>True
  | some (.dT _)=>True
  | some (.set _ _)=>True
  | some (.ins _ _ _)=>True
  | some (.ext _)=>True
  | _=>False
section
variable {P:Program} {w:World} {H:Hp} {h h':Heap} {x e:Addr} {o':HO}
theorem HOk.write (ok:HOk P w H h) (mu:Mut (H x)) (he:e=x∨H e=some (.own x)) (k:∀ b u,b≠e→h.get? b=some u→h'.get? b=some u) (heo:∃ u,h'.get? e=some u)
    (new:qAl P w (upd H x o') h' x o'):HOk P w (upd H x o') h':=fun b u q=>by
  have nown:∀ c y,H c=some (.own y)→c≠x:=fun c y r z=>by subst z;rw [r] at mu;exact mu
  have ntup:∀ c xs,H c=some (.tup xs)→c≠x:=fun c xs r z=>by subst z;rw [r] at mu;exact mu
  by_cases hb:b=x
  · subst hb;rw [qY] at q;cases q;exact new
  · rw [qM hb] at q
    by_cases hbe:b=e
    · have q':H b=some (.own x):=by
        rcases he with z | z
        · exact absurd (hbe.trans z) hb
        · rw [hbe];exact z
      rw [q] at q';cases q'
      obtain⟨v,hv⟩:=heo
      exact⟨v,by rw [hbe];exact hv⟩
    · refine (ok b u q).stay (fun c v hc r=>k c v ?_ r) (fun c r=>by rw [qM (nown c b r)];exact r) fun c xs r=>by rw [qM (ntup c xs r)];exact r
      k_dat 0"r19"
      · exact hbe
      · rintro rfl
        rcases he with z | z
        · exact nown c b hc z
        · rw [hc] at z;cases z;exact hb rfl
end
structure Un (fs ex:List Addr) (H H':Hp) (h h':Heap):Prop where
  keep:∀ b o,h.get? b=some o→H b=none→b ∉ fs→b ∉ ex→h'.get? b=some o
  slot:∀ b o,h.get? b=some o→H b=none→b∈fs→b ∉ ex→∃ sl,h'.get? b=some { o with slots:=sl }
  free:∀ b o,h.get? b=some o→H b=none→b ∉ ex→H' b=none
  there:∀ b o,h.get? b=some o→b ∉ ex→∃ o',h'.get? b=some o'
  tups:∀ b xs,H b=some (.tup xs)→H' b=some (.tup xs)
  frzs:∀ b o u,H b=some (.frz o u)→H' b=some (.frz o u)
  tbls:∀ b ps,H b=some (.tbl ps)→∃ more,H' b=some (.tbl (ps++more))
section
variable {fs fs' ex ex':List Addr} {H H1 H2:Hp} {h h1 h2 h':Heap} {a x e:Addr} {o:HO}
theorem Un.any (u:Un fs ex H H1 h h1) {b:Addr} {ob:Obj} (q:h.get? b=some ob) (n:H b=none) (hx:b ∉ ex):∃ sl,h1.get? b=some { ob with slots:=sl }:=by
  by_cases hb:b∈fs
  · exact u.slot b ob q n hb hx
  · exact⟨ob.slots,u.keep b ob q n hb hx⟩
theorem Un.kept (k:∀ b u,h.get? b=some u→h'.get? b=some u):Un fs ex H H h h' :=
  ⟨fun b ob q _ _ _=>k b ob q,fun b ob q _ _ _=>⟨ob.slots,k b ob q⟩,fun _ _ _ n _=>n,fun b ob q _=>⟨ob,k b ob q⟩,fun _ _ q=>q,fun _ _ _ q=>q,fun _ ps q=>⟨#[],by rw [q];simp⟩⟩
theorem Un.refl:Un fs ex H H h h:=Un.kept fun _ _ q=>q
theorem Un.laid (k:∀ b u,h.get? b=some u→h'.get? b=some u) (hp:h.objs.size≤a) (hn:H a=none):Un fs ex H (upd H a o) h h' where
  keep:=fun b u q _ _ _=>k b u q
  slot:=fun b u q _ _ _=>⟨u.slots,k b u q⟩
  free:=fun b u q n _=>by rw [qM (Nat.ne_of_lt (Nat.lt_of_lt_of_le (Heap.lt_size q) hp))];exact n
  there:=fun b u q _=>⟨u,k b u q⟩
  tups:=fun b xs q=>by rw [qM (qN q hn)];exact q
  frzs:=fun b u xs q=>by rw [qM (qN q hn)];exact q
  tbls:=fun b ps q=>⟨#[],by rw [qM (qN q hn),q];simp⟩
theorem Un.write (mu:Mut (H x)) (he:e=x∨H e=some (.own x)) (k:∀ b u,b≠e→h.get? b=some u→h'.get? b=some u) (heo:∃ u,h'.get? e=some u):Un fs ex H (upd H x o) h h':=by
  have hx:∀ b,H b=none→b≠x:=fun b n z=>by subst z;rw [n] at mu;exact mu
  have hb:∀ b,H b=none→b≠e:=fun b n z=>by
    subst z
    rcases he with r | r
    · exact hx b n r
    · rw [n] at r;cases r
  have hm:∀ b u,H b=some u→¬ Mut (some u)→b≠x:=fun b u q nm z=>by subst z;rw [q] at mu;exact nm mu
  refine⟨fun b u q n _ _=>k b u (hb b n) q,fun b u q n _ _=>⟨u.slots,k b u (hb b n) q⟩,fun b u q n _=>by rw [qM (hx b n)];exact n,fun b u q _=>?_,
    fun b xs q=>by rw [qM (hm b _ q fun z=>z)];exact q,fun b u xs q=>by rw [qM (hm b _ q fun z=>z)];exact q,fun b ps q=>⟨#[],by rw [qM (hm b _ q fun z=>z),q];simp⟩⟩
  by_cases hbe:b=e
  · subst hbe;exact heo
  · exact⟨u,k b u hbe q⟩
end
noncomputable def trk (h:Heap) (H:Hp):List Addr:=(List.range h.objs.size).filter fun a=>(H a).isSome
noncomputable def qGp (h:Heap) (H:Hp):Heap:=W.hideAll h (trk h H)
theorem qKV (h:Heap) (H:Hp):(qGp h H).objs.size=h.objs.size:=W.hideAll_size _ _
theorem qLx {h:Heap} {H:Hp} {b:Addr} {o:Obj} (e:h.get? b=some o) (n:H b=none):(qGp h H).get? b=some o :=
  W.hideAll_get _ e fun hm=>by
    have q:(H b).isSome=true:=(List.mem_filter.mp hm).2
    rw [n] at q;simp at q
theorem qNb {h:Heap} {H:Hp} {b:Addr} {o:Obj} (e:(qGp h H).get? b=some o):h.get? b=some o∧H b=none:=by
  have e':h.get? b=some o:=W.of_hideAll (trk h H) e
  refine⟨e',?_⟩
  cases q:H b with
  | none=>rfl
  | some x =>
    have hm:b∈trk h H:=List.mem_filter.mpr ⟨List.mem_range.mpr (Heap.lt_size e'),by simp [q]⟩
    have z:(qGp h H).get? b=none:=W.hideAll_none (trk h H) hm
    rw [z] at e;cases e
noncomputable def qNr (g h:Heap) (L:Addr):List (Addr×Obj):=(List.range h.objs.size).filterMap fun a=>if a=L∨(g.get? a).isSome=true then none else (h.get? a).map fun o=>(a,o)
noncomputable def rest (g h:Heap) (L d:Addr):List (Addr×Obj):=(qNr g h L).filter fun p=>decide (p.1≠d)
end L2
namespace L2
open PySem PySem.Spec PyProof.Rows
structure Mod (K:W.Frag) (mg:Str→Option Value) (base:Heap):Prop where
  kin:K.In base
  glob:base.Ns mainGlobals mg
  blt:∃ mb,base.Ns builtinsNs mb∧∀ x:Str,x ≠ "__name__" → mb x=bootBuiltins x
  nolimit:base.NoLimit
structure Cx where
  prog:Program
  w:World
  K:W.Frag
  mg:Str→Option Value
  base:Heap
  A:Around
  N:List Str
  s₀:Shared
  H₀:Hp
  env:Env
  outer:List Env
  stack:List Env
  ex:List Addr
  fn:Str→Bool
  calm:Bool
  pn:List (Addr×Obj)
  xe:Value→Shared→Prop
noncomputable def frs (l:List Env):List Addr:=l.filterMap (·.frame)
noncomputable abbrev Cx.fs (X:Cx):List Addr:=frs X.outer
def Vis (sc:Scope) (x:Str):Prop:=sc.names.lookup x=some .local∨sc.names.lookup x=some .cell∨sc.names.lookup x=some .free
def Loc (sc:Scope) (x:Str):Prop:=sc.names.lookup x=some .local∨sc.names.lookup x=some .cell
def Look (env:Env) (h:Heap) (m:Str→Option Value) (x:Str) (u:Value):Prop :=
  (env.kindOf x=some .local∧m x=some u)∨((env.kindOf x=some .cell∨env.kindOf x=some .free)∧∃ c,env.cells.lookup x=some c∧h.IsCell c (some u))
structure Cx.Ok (X:Cx):Prop where
  mod:Mod X.K X.mg X.base
  kind:X.env.scope.kind = .function
  glob:X.env.globals=mainGlobals
  blt:X.env.builtins=builtinsNs
  above:X.s₀.heap.objs.size≤X.env.locals
  inj:∀ x y c,X.env.cells.lookup x=some c→X.env.cells.lookup y=some c→x=y
  has:∀ x,(X.env.kindOf x=some .cell∨X.env.kindOf x=some .free)→∃ c,X.env.cells.lookup x=some c
  cab:∀ x c,X.fn x=true→X.env.cells.lookup x=some c→X.s₀.heap.objs.size≤c
  hd:X.calm=true→X.A.handled=none
  frames:X.A.frames=some X.stack
  stk:X.stack=X.outer∨(X.stack=X.env::X.outer∧X.env.frame=some X.env.locals)
  exf:∀ b∈X.ex,b≠X.env.locals∧∀ x c,X.env.cells.lookup x=some c→c≠b
  bs:∀ b o,X.base.get? b=some o→X.s₀.heap.get? b=some o∧X.H₀ b=none
  bsz:X.base.objs.size≤X.s₀.heap.objs.size
  noex:∀ b o,X.base.get? b=some o→b ∉ X.ex
  exfs:∀ b∈X.ex,b ∉ X.fs
  qD5:X.s₀.heap.FunFrames X.base X.outer
  frf:∀ b∈X.fs,X.H₀ b=none
structure Inv (X:Cx) (pins:List (Addr×Obj)) (σ:List (Option V)) (H:Hp) (s:Shared):Prop where
  ok:X.Ok
  os:s.os=X.s₀.os
  bare:AllBare s.gens
  base:Un X.fs X.ex X.H₀ H X.s₀.heap s.heap
  loc:∃ m,s.heap.Ns X.env.locals m∧∀ (i:Nat) (x:Str) (v:V),X.N[i]? = some x→σ[i]? = some (some v)→Vis X.env.scope x→∃ u,RelV v u∧Look X.env s.heap m x u
  cell:∀ x c,X.env.cells.lookup x=some c→∃ v,s.heap.IsCell c v
  free:H X.env.locals=none
  freeC:∀ x c,X.env.cells.lookup x=some c→H c=none
  pin:∀ p∈X.pn++pins,s.heap.get? p.1=some p.2∧H p.1=none∧p.1≠X.env.locals∧p.1 ∉ X.fs∧∀ v,p.2.data≠.cell v
  hok:HOk X.prog X.w H s.heap
  len:σ.length=X.N.length
section
variable {X:Cx} {pins:List (Addr×Obj)} {σ:List (Option V)} {H H':Hp} {s:Shared} {h':Heap}
theorem Cx.Ok.qSr (ok:X.Ok) {b:Addr} {o:Obj} (e:X.base.get? b=some o):b ∉ X.fs:=fun hb=>by
  have:=(ok.qD5.mem hb).1
  rw [e] at this;cases this
theorem Inv.bs (I:Inv X pins σ H s):∀ b o,X.base.get? b=some o→s.heap.get? b=some o∧H b=none:=fun b o e =>
  ⟨I.base.keep b o (I.ok.bs b o e).1 (I.ok.bs b o e).2 (I.ok.qSr e) (I.ok.noex b o e),I.base.free b o (I.ok.bs b o e).1 (I.ok.bs b o e).2 (I.ok.noex b o e)⟩
theorem Inv.bk (I:Inv X pins σ H s):∀ b o,X.base.get? b=some o→s.heap.get? b=some o:=fun b o e=>(I.bs b o e).1
theorem Inv.mod (I:Inv X pins σ H s):Mod X.K X.mg X.base:=I.ok.mod
theorem Inv.kIn (I:Inv X pins σ H s):X.K.In s.heap:=I.ok.mod.kin.keeps I.bk
theorem Inv.nolimit (I:Inv X pins σ H s):s.heap.NoLimit:=I.ok.mod.nolimit.keeps I.bk
theorem Inv.lt (I:Inv X pins σ H s):X.env.locals<s.heap.objs.size:=let ⟨_,hn,_⟩:=I.loc;hn.lt
theorem Inv.sz (I:Inv X pins σ H s):X.s₀.heap.objs.size≤s.heap.objs.size:=Nat.le_trans I.ok.above (Nat.le_of_lt I.lt)
theorem Inv.qRP (I:Inv X pins σ H s) {a:Addr} (h:s.heap.objs.size≤a):a ∉ X.fs:=fun hb=>by
  obtain⟨_,o,ho,_⟩:=I.ok.qD5.mem hb
  exact absurd (Nat.lt_of_lt_of_le (Heap.lt_size ho) (Nat.le_trans I.sz h)) (Nat.lt_irrefl _)
theorem Inv.cne (I:Inv X pins σ H s):∀ x c,X.env.cells.lookup x=some c→c≠X.env.locals:=fun x c e z=>by
  obtain⟨v,o,ho,hd⟩:=I.cell x c e
  obtain⟨m,⟨o',es,ep,ho',hd',_⟩,_⟩:=I.loc
  rw [z,ho'] at ho;cases ho;rw [hd'] at hd;cases hd
theorem Inv.qD5 (I:Inv X pins σ H s):s.heap.FunFrames X.base X.outer:=by
  have all:∀ (l:List Env),(∀ b∈frs l,b∈X.fs)→X.s₀.heap.FunFrames X.base l→s.heap.FunFrames X.base l:=by
    intro l
    induction l with
    | nil=>intro _ _;trivial
    | cons env r ih =>
      intro hs hl
      obtain⟨hk,⟨L,o,hf,hn,ho,hd⟩,hr⟩:=hl
      have hL:L∈X.fs:=hs L (by unfold frs;rw [List.filterMap_cons,hf];exact List.mem_cons_self)
      obtain⟨sl,e⟩:=I.base.slot L o ho (I.ok.frf L hL) hL fun z=>I.ok.exfs L z hL
      exact⟨hk,⟨L,_,hf,hn,e,hd⟩,ih (fun b hb=>hs b (by unfold frs;rw [List.filterMap_cons,hf];exact List.mem_cons_of_mem _ hb)) hr⟩
  exact all X.outer (fun _ hb=>hb) I.ok.qD5
theorem Inv.stack (I:Inv X pins σ H s):s.heap.FunFrames X.base X.stack:=by
  rcases I.ok.stk with e | ⟨e,hf⟩
  · rw [e];exact I.qD5
  · rw [e]
    obtain⟨m,hn,_⟩:=I.loc
    refine .cons (by rw [I.ok.kind];decide) hf hn ?_ I.qD5
    exact Heap.get?_none_of_le (Nat.le_trans I.ok.bsz I.ok.above)
theorem Inv.qGx (I:Inv X pins σ H s):∀ b∈frs X.stack,b∈X.env.locals::X.fs:=fun b hb=>by
  rcases I.ok.stk with e | ⟨e,hf⟩
  · rw [e] at hb;exact List.mem_cons_of_mem _ hb
  · rw [e] at hb
    unfold frs at hb
    rw [List.filterMap_cons,hf] at hb
    exact hb
theorem Inv.qJo (I:Inv X pins σ H s):∀ b∈frs X.stack,H b=none:=fun b hb=>by
  rcases List.mem_cons.mp (I.qGx b hb) with e | hb
  · rw [e];exact I.free
  · obtain⟨_,o,ho,_⟩:=I.ok.qD5.mem hb
    exact I.base.free b o ho (I.ok.frf b hb) fun z=>I.ok.exfs b z hb
theorem Inv.step {g':Array GenState} {t':Nat} {d':Drawn} {ch:List Addr} (I:Inv X pins σ H s)
    (hch:∀ b∈ch,(b∈X.ex∨X.s₀.heap.objs.size≤b)∧b≠X.env.locals∧(∀ x c,X.env.cells.lookup x=some c→c≠b)∧∀ p∈X.pn++pins,p.1≠b)
    (keep:∀ b o,b≠X.env.locals→b ∉ X.fs→b ∉ ch→s.heap.get? b=some o→H b=none→h'.get? b=some o)
    (slot:∀ b o,b≠X.env.locals→b∈X.fs→b ∉ ch→s.heap.get? b=some o→H b=none→∃ sl,h'.get? b=some { o with slots:=sl }) (free:∀ b o,b ∉ ch→s.heap.get? b=some o→H b=none→H' b=none)
    (there:∀ b o,b ∉ ch→s.heap.get? b=some o→∃ o',h'.get? b=some o')
    (tups:∀ b xs,H b=some (.tup xs)→H' b=some (.tup xs)) (frzs:∀ b o u,H b=some (.frz o u)→H' b=some (.frz o u)) (tbls:∀ b ps,H b=some (.tbl ps)→∃ more,H' b=some (.tbl (ps++more)))
    (ns:∀ m,s.heap.Ns X.env.locals m→h'.Ns X.env.locals m) (hok:HOk X.prog X.w H' h') (hg:AllBare g') :
    Inv X pins σ H' { s with heap:=h',gens:=g',drawn:=d',toks:=t' }:=by
  have neL:∀ b o,X.s₀.heap.get? b=some o→b≠X.env.locals:=fun b o e=>Nat.ne_of_lt (Nat.lt_of_lt_of_le (Heap.lt_size e) I.ok.above)
  have neC:∀ b o,X.s₀.heap.get? b=some o→b ∉ X.ex→b ∉ ch:=fun b o e hx hb=>by
    rcases (hch b hb).1 with z | z
    · exact hx z
    · exact absurd (Nat.lt_of_lt_of_le (Heap.lt_size e) z) (Nat.lt_irrefl _)
  have cellK:∀ x c,X.env.cells.lookup x=some c→∀ v,s.heap.IsCell c v→h'.IsCell c v:=fun x c e v ⟨o,ho,hd⟩=>by
    have nch:c ∉ ch:=fun z=>(hch c z).2.2.1 x c e rfl
    by_cases hc:c∈X.fs
    · obtain⟨sl,q⟩:=slot c o (I.cne x c e) hc nch ho (I.freeC x c e)
      exact⟨_,q,hd⟩
    · exact⟨o,keep c o (I.cne x c e) hc nch ho (I.freeC x c e),hd⟩
  refine⟨I.ok,I.os,hg,⟨fun b o e n hb hx=>?_,fun b o e n hb hx=>?_,fun b o e n hx=>?_,fun b o e hx=>?_,fun b xs e=>tups b xs (I.base.tups b xs e),fun b o xs e=>frzs b o xs (I.base.frzs b o xs e),fun b ps e=>?_⟩,?_,fun x c e=>?_,?_,fun x c e=>?_,fun p hp=>?_,hok,I.len⟩
  · exact keep b o (neL b o e) hb (neC b o e hx) (I.base.keep b o e n hb hx) (I.base.free b o e n hx)
  · obtain⟨sl,e1⟩:=I.base.slot b o e n hb hx
    obtain⟨sl',e2⟩:=slot b _ (neL b o e) hb (neC b o e hx) e1 (I.base.free b o e n hx)
    exact⟨sl',e2⟩
  · k_dat 0"r46"
    exact free b o' (neC b o e hx) e1 (I.base.free b o e n hx)
  · k_dat 0"r46"
    exact there b o' (neC b o e hx) e1
  · obtain⟨m1,e1⟩:=I.base.tbls b ps e
    obtain⟨m2,e2⟩:=tbls b _ e1
    exact⟨m1++m2,by rw [e2,Array.append_assoc]⟩
  · obtain⟨m,hn,hl⟩:=I.loc
    refine⟨m,ns m hn,fun i x v e1 e2 e3=>?_⟩
    obtain⟨u,r,l⟩:=hl i x v e1 e2 e3
    refine⟨u,r,?_⟩
    rcases l with l | ⟨k,c,e,z⟩
    · exact .inl l
    · exact .inr ⟨k,c,e,cellK x c e _ z⟩
  · obtain⟨v,z⟩:=I.cell x c e
    exact⟨v,cellK x c e v z⟩
  · obtain⟨m,⟨o,_,_,ho,_⟩,_⟩:=I.loc
    exact free _ o (fun z=>(hch _ z).2.1 rfl) ho I.free
  · obtain⟨v,o,ho,hd⟩:=I.cell x c e
    exact free c o (fun z=>(hch c z).2.2.1 x c e rfl) ho (I.freeC x c e)
  · obtain⟨e,n,ne,nf,d⟩:=I.pin p hp
    have nch:p.1 ∉ ch:=fun z=>(hch p.1 z).2.2.2 p hp rfl
    exact⟨keep p.1 p.2 ne nf nch e n,free p.1 p.2 nch e n,ne,nf,d⟩
theorem Inv.un {t':Nat} (I:Inv X pins σ H s) (u:Un X.fs [] H H' s.heap h') (hok:HOk X.prog X.w H' h'):Inv X pins σ H' { s with heap:=h',toks:=t' }:=by
  obtain⟨m,⟨o,es,ep,ho,r⟩,_⟩:=id I.loc
  obtain⟨sl,hL⟩:=u.any ho I.free (by simp)
  exact I.step (g':=s.gens) (d':=s.drawn) (ch:=[]) (fun _ z=>nomatch z) (fun b o _ hb _ e n=>u.keep b o e n hb (by simp)) (fun b o _ hb _ e n=>u.slot b o e n hb (by simp)) (fun b o _ e n=>u.free b o e n (by simp)) (fun b o _ e=>u.there b o e (by simp)) u.tups u.frzs u.tbls (fun m' hm=>by
    obtain⟨o',es',ep',ho',r'⟩:=hm
    rw [ho] at ho';cases ho'
    exact⟨_,es',ep',hL,r'⟩) hok I.bare
theorem Inv.call {g':Array GenState} {t':Nat} {d':Drawn} {ch:List Addr} (I:Inv X pins σ H s) (u:Un (frs X.stack) ch H H' s.heap h') (hok:HOk X.prog X.w H' h') (hg:AllBare g')
    (hch:∀ b∈ch,(b∈X.ex∨X.s₀.heap.objs.size≤b)∧b≠X.env.locals∧(∀ x c,X.env.cells.lookup x=some c→c≠b)∧∀ p∈X.pn++pins,p.1≠b) :
    Inv X pins σ H' { s with heap:=h',gens:=g',drawn:=d',toks:=t' }:=by
  obtain⟨m,⟨o,es,ep,ho,r⟩,_⟩:=id I.loc
  obtain⟨sl,hL⟩:=u.any ho I.free fun z=>(hch _ z).2.1 rfl
  exact I.step (ch:=ch) hch (fun b o hL hb hc e n=>u.keep b o e n (fun z=>(List.mem_cons.mp (I.qGx b z)).elim hL hb) hc) (fun b o _ _ hc e n=>u.any e n hc) (fun b o hc e n=>u.free b o e n hc) (fun b o hc e=>u.there b o e hc) u.tups u.frzs u.tbls (fun m' hm=>by
    obtain⟨o',es',ep',ho',r'⟩:=hm
    rw [ho] at ho';cases ho'
    exact⟨_,es',ep',hL,r'⟩) hok hg
theorem Inv.turned {t':Nat} {it:Addr} (I:Inv X pins σ H s) (k:∀ b o,b≠it→s.heap.get? b=some o→h'.get? b=some o) (hn:H it=none) (hL:it≠X.env.locals)
    (h1:it∈X.ex∨X.s₀.heap.objs.size≤it) (h2:∀ x c,X.env.cells.lookup x=some c→c≠it) (h3:∀ p∈X.pn++pins,p.1≠it):Inv X pins σ H { s with heap:=h',toks:=t' }:=by
  have nit:∀ b u,H b=some u→b≠it:=fun b u e z=>by rw [z,hn] at e;cases e
  refine I.step (g':=s.gens) (d':=s.drawn) (ch:=[it]) (fun b hb=>?_) (fun b o _ _ hc e _=>k b o (fun z=>hc (by simp [z])) e) (fun b o _ _ hc e _=>⟨o.slots,k b o (fun z=>hc (by simp [z])) e⟩) (fun _ _ _ _ n=>n)
    (fun b o hc e=>⟨o,k b o (fun z=>hc (by simp [z])) e⟩) (fun _ _ e=>e) (fun _ _ _ e=>e) (fun b ps e=>⟨#[],by rw [e];simp⟩) (fun m hm=>?_) (fun b u e=>?_) I.bare
  · have e:b=it:=by simpa using hb
    subst e
    exact⟨h1,hL,h2,h3⟩
  · k_dat 0"r23"
    exact⟨o,es,ep,k _ o (Ne.symm hL) ho,r⟩
  · refine (I.hok b u e).stay (fun c v hc q=>k c v ?_ q) (fun _ q=>q) fun _ _ q=>q
    rcases hc with z | z
    · rw [z];exact nit b u e
    · exact nit c _ z
theorem Inv.tok (I:Inv X pins σ H s) (t:Nat):Inv X pins σ H { s with toks:=t }:=I.un (h':=s.heap) (t':=t) Un.refl I.hok
theorem Inv.kept {t':Nat} (I:Inv X pins σ H s) (k:∀ b u,s.heap.get? b=some u→h'.get? b=some u):Inv X pins σ H { s with heap:=h',toks:=t' }:=I.un (Un.kept k) (I.hok.kept k)
theorem Inv.laid {a:Addr} {o:HO} {t':Nat} (I:Inv X pins σ H s) (k:∀ b u,s.heap.get? b=some u→h'.get? b=some u) (hp:s.heap.objs.size≤a) (new:qAl X.prog X.w (upd H a o) h' a o) :
    Inv X pins σ (upd H a o) { s with heap:=h',toks:=t' }:=I.un (Un.laid k hp (I.hok.fresh hp)) (I.hok.laid k hp new)
theorem Inv.write {x e:Addr} {o:HO} {t':Nat} (I:Inv X pins σ H s) (mu:Mut (H x)) (he:e=x∨H e=some (.own x)) (k:∀ b u,b≠e→s.heap.get? b=some u→h'.get? b=some u) (heo:∃ u,h'.get? e=some u)
    (new:qAl X.prog X.w (upd H x o) h' x o):Inv X pins σ (upd H x o) { s with heap:=h',toks:=t' }:=I.un (Un.write mu he k heo) (I.hok.write mu he k heo new)
theorem Inv.qE6 {pins':List (Addr×Obj)} (I:Inv X pins σ H s) (h:∀ p∈pins',s.heap.get? p.1=some p.2∧H p.1=none∧p.1≠X.env.locals∧p.1 ∉ X.fs∧∀ v,p.2.data≠.cell v):Inv X pins' σ H s :=
  ⟨I.ok,I.os,I.bare,I.base,I.loc,I.cell,I.free,I.freeC,fun p hp=>(List.mem_append.mp hp).elim (fun z=>I.pin p (List.mem_append_left _ z)) (h p),I.hok,I.len⟩
theorem qHm {N:List Str} (hN:N.Nodup) {i j:Nat} {x:Str} (a:N[i]? = some x) (b:N[j]? = some x):i=j:=by
  obtain⟨h1,e1⟩:=List.getElem?_eq_some_iff.mp a
  obtain⟨h2,e2⟩:=List.getElem?_eq_some_iff.mp b
  exact (List.getElem_inj hN).mp (e1.trans e2.symm)
theorem qGQ {M:Model} {A:Around} {E:Value→Shared→Prop} {i:Nat} {x:Str} {v:V} {u:Value} {Q:Unit→Shared→Prop} (I:Inv X pins σ H s) (hN:X.N.Nodup) (hi:X.N[i]? = some x) (hx:Loc X.env.scope x) (r:RelV v u)
    (h:∀ s',Inv X pins (σ.set i (some v)) H s'→(∃ a,Heap.SameBut a s.heap s'.heap∧(a=X.env.locals∨X.env.cells.lookup x=some a))→Q () s') (hf:X.fn x=true∨X.env.scope.names.lookup x=some .local:=by first | exact .inl rfl | exact .inr rfl | assumption):wpAny M A (storeName X.env x u) Q E s:=by
  obtain⟨m,hn,hl⟩:=id I.loc
  have hcls:(X.env.scope.kind == .class || (X.env.scope.kind == .module&&X.env.locals != X.env.globals))=false:=by rw [I.ok.kind];rfl
  have hiσ:i<σ.length:=by rw [I.len];exact (List.getElem?_eq_some_iff.mp hi).1
  have cne:=I.cne
  have tracked:∀ {a:Addr} {h':Heap},(∃ o,s.heap.get? a=some o∧H a=none)→Heap.SameBut a s.heap h'→HOk X.prog X.w H h':=fun {a h'} ha hs b ob e=>by
    obtain⟨_,_,hfree⟩:=ha
    refine (I.hok b ob e).stay (fun c w' hc q=>(hs.2 c ?_).trans q) (fun _ q=>q) fun _ _ q=>q
    rintro rfl
    k_dat 0"r19"
    · rw [hfree] at e;cases e
    · rw [hfree] at hc;cases hc
  rcases hx with hk | hk
  · refine wpAny_storeName_local hk hn (fun h' hn' hs=>?_) hcls
    obtain⟨oL,_,_,hoL,_⟩:=id hn
    refine h _ ⟨I.ok,I.os,I.bare,⟨fun b o e n hb hx=>?_,fun b o e n hb hx=>?_,I.base.free,fun b o e hx=>?_,I.base.tups,I.base.frzs,I.base.tbls⟩,⟨_,hn',fun j y v' e1 e2 e3=>?_⟩,fun y c e=>?_,I.free,I.freeC,fun p hp=>?_,tracked ⟨oL,hoL,I.free⟩ hs,by simpa using I.len⟩ ⟨_,hs,.inl rfl⟩
    · exact (hs.2 b (Nat.ne_of_lt (Nat.lt_of_lt_of_le (Heap.lt_size e) I.ok.above))).trans (I.base.keep b o e n hb hx)
    · obtain⟨sl,e1⟩:=I.base.slot b o e n hb hx
      exact⟨sl,(hs.2 b (Nat.ne_of_lt (Nat.lt_of_lt_of_le (Heap.lt_size e) I.ok.above))).trans e1⟩
    · k_dat 0"r46"
      exact⟨o',(hs.2 b (Nat.ne_of_lt (Nat.lt_of_lt_of_le (Heap.lt_size e) I.ok.above))).trans e1⟩
    · by_cases hj:j=i
      · subst hj
        rw [hi] at e1;cases e1
        rw [List.getElem?_set_self hiσ] at e2
        cases e2
        exact⟨u,r,.inl ⟨hk,by simp⟩⟩
      · rw [List.getElem?_set_ne (Ne.symm hj)] at e2
        obtain⟨u',r',q⟩:=hl j y v' e1 e2 e3
        refine⟨u',r',?_⟩
        rcases q with ⟨k,e⟩ | ⟨k,c,e,z⟩
        · refine .inl ⟨k,?_⟩
          have:y≠x:=fun e=>hj (qHm hN e1 (e ▸ hi))
          simp [this,e]
        · exact .inr ⟨k,c,e,z.sameBut hs (cne y c e)⟩
    · obtain⟨w',z⟩:=I.cell y c e
      exact⟨w',z.sameBut hs (cne y c e)⟩
    · obtain⟨e,n,ne,nf,d⟩:=I.pin p hp
      exact⟨(hs.2 p.1 ne).trans e,n,ne,nf,d⟩
  · have hfn:X.fn x=true:=by
      rcases hf with z | z
      · exact z
      · rw [z] at hk;cases hk
    obtain⟨c,hc⟩:=I.ok.has x (.inl hk)
    obtain⟨w',z⟩:=I.cell x c hc
    refine wpAny_storeName_cell I.ok.kind hk hc z (fun h' hc' hs=>?_)
    obtain⟨oc,hoc,hocd⟩:=id z
    refine h { s with heap:=h' } ⟨I.ok,I.os,I.bare,⟨fun b o e n hb hx=>?_,fun b o e n hb hx=>?_,I.base.free,fun b o e hx=>?_,I.base.tups,I.base.frzs,I.base.tbls⟩,⟨m,hn.sameBut hs (Ne.symm (cne x c hc)),fun j y v' e1 e2 e3=>?_⟩,fun y c' e=>?_,I.free,I.freeC,fun p hp=>?_,tracked ⟨oc,hoc,I.freeC x c hc⟩ hs,by simpa using I.len⟩ ⟨c,hs,.inr hc⟩
    · exact (hs.2 b (Nat.ne_of_lt (Nat.lt_of_lt_of_le (Heap.lt_size e) (I.ok.cab x c hfn hc)))).trans (I.base.keep b o e n hb hx)
    · obtain⟨sl,e1⟩:=I.base.slot b o e n hb hx
      exact⟨sl,(hs.2 b (Nat.ne_of_lt (Nat.lt_of_lt_of_le (Heap.lt_size e) (I.ok.cab x c hfn hc)))).trans e1⟩
    · k_dat 0"r46"
      exact⟨o',(hs.2 b (Nat.ne_of_lt (Nat.lt_of_lt_of_le (Heap.lt_size e) (I.ok.cab x c hfn hc)))).trans e1⟩
    · by_cases hj:j=i
      · subst hj
        rw [hi] at e1;cases e1
        rw [List.getElem?_set_self hiσ] at e2
        cases e2
        exact⟨u,r,.inr ⟨.inl hk,c,hc,hc'⟩⟩
      · rw [List.getElem?_set_ne (Ne.symm hj)] at e2
        obtain⟨u',r',q⟩:=hl j y v' e1 e2 e3
        refine⟨u',r',?_⟩
        rcases q with q | ⟨k,c',e,z'⟩
        · exact .inl q
        · refine .inr ⟨k,c',e,z'.sameBut hs ?_⟩
          rintro rfl
          exact hj (qHm hN e1 (I.ok.inj _ _ _ e hc ▸ hi))
    · by_cases hcc:c'=c
      · subst hcc;exact⟨_,hc'⟩
      · obtain⟨w2,z2⟩:=I.cell y c' e
        exact⟨w2,z2.sameBut hs hcc⟩
    · obtain⟨e,n,ne,nf,d⟩:=I.pin p hp
      refine⟨(hs.2 p.1 ?_).trans e,n,ne,nf,d⟩
      intro q
      rw [q,hoc] at e
      have q':oc=p.2:=Option.some.inj e
      exact d w' (by rw [← q'];exact hocd)
theorem qFt {M:Model} {A:Around} {E:Value→Shared→Prop} {i:Nat} {x:Str} {v:V} {u:Value} {Q:Unit→Shared→Prop} (I:Inv X pins σ H s) (hN:X.N.Nodup) (hi:X.N[i]? = some x) (hx:Loc X.env.scope x) (r:RelV v u)
    (h:∀ s',Inv X pins (σ.set i (some v)) H s'→Q () s') (hf:X.fn x=true∨X.env.scope.names.lookup x=some .local:=by first | exact .inl rfl | exact .inr rfl | assumption):wpAny M A (storeName X.env x u) Q E s :=
  qGQ I hN hi hx r (fun s' I' _=>h s' I') hf
theorem Inv.qRD {s':Shared} {ch:List Addr} (I:Inv X pins σ H s) (ho:s'.os=s.os) (u:Un (frs X.stack) ch H H' s.heap s'.heap) (hok:HOk X.prog X.w H' s'.heap) (hg:AllBare s'.gens)
    (hch:∀ b∈ch,(b∈X.ex∨X.s₀.heap.objs.size≤b)∧b≠X.env.locals∧(∀ x c,X.env.cells.lookup x=some c→c≠b)∧∀ p∈X.pn++pins,p.1≠b):Inv X pins σ H' s':=by
  obtain⟨h',g',d',t',o'⟩:=s'
  have e:o'=s.os:=ho
  subst e
  exact I.call (g':=g') (t':=t') (d':=d') u hok hg hch
end
noncomputable abbrev XK:=Value→Option Addr→Hp→Prop
noncomputable abbrev St:=List (Option V)
noncomputable abbrev VK:=V→Hp→Prop
noncomputable abbrev TE:=St→Hp→VK→Prop
noncomputable abbrev TT:=St→Hp→(Bool→Hp→Prop)→Prop
noncomputable abbrev TA:=St→Hp→(List V→Hp→Prop)→Prop
structure Ends where
  nx:St→Hp→Prop
  rt:VK
  bk:St→Hp→Prop:=fun _ _=>False
  ct:St→Hp→Prop:=fun _ _=>False
noncomputable abbrev TS:=Ends→St→Hp→Prop
def EP (X:Cx) (pins:List (Addr×Obj)) (σ:St) (Q:VK) (u:Value) (s':Shared):Prop:=∃ v H',Inv X pins σ H' s'∧RelV v u∧Q v H'
def TP (X:Cx) (pins:List (Addr×Obj)) (σ:St) (Q:Bool→Hp→Prop) (b:Bool) (s':Shared):Prop:=∃ H',Inv X pins σ H' s'∧Q b H'
def AP (X:Cx) (pins:List (Addr×Obj)) (σ:St) (Q:List V→Hp→Prop) (us:List Value) (s':Shared):Prop:=∃ vs H',Inv X pins σ H' s'∧Vals vs us∧Q vs H'
def SP (X:Cx) (pins:List (Addr×Obj)) (D:Ends) (f:Flow) (s':Shared):Prop :=
  match f with
  | .next=>∃ σ' H',Inv X pins σ' H' s'∧D.nx σ' H'
  | .brk=>∃ σ' H',Inv X pins σ' H' s'∧D.bk σ' H'
  | .cont=>∃ σ' H',Inv X pins σ' H' s'∧D.ct σ' H'
  | .ret u=>∃ v σ' H',Inv X pins σ' H' s'∧RelV v u∧D.rt v H'
def PE (X:Cx) (e:Expr) (t:TE):Prop :=
  ∀ (pins:List (Addr×Obj)) (s:Shared) (σ:St) (H:Hp) (Q:VK),Inv X pins σ H s→t σ H Q→wpAny (model X.prog X.w) X.A (eval e X.env) (EP X pins σ Q) X.xe s
def PT (X:Cx) (e:Expr) (t:TT):Prop :=
  ∀ (pins:List (Addr×Obj)) (s:Shared) (σ:St) (H:Hp) (Q:Bool→Hp→Prop),Inv X pins σ H s→t σ H Q→wpAny (model X.prog X.w) X.A (isTrue e X.env (eval e X.env)) (TP X pins σ Q) X.xe s
def PW (X:Cx) (e:Expr) (t:TT):Prop :=
  ∀ (whole:Sem Value) (pins:List (Addr×Obj)) (s:Shared) (σ:St) (H:Hp) (Q:Bool→Hp→Prop),Inv X pins σ H s→t σ H Q→wpAny (model X.prog X.w) X.A (isTrue e X.env whole) (TP X pins σ Q) X.xe s
def PA (X:Cx) (es:List Expr) (t:TA):Prop :=
  ∀ (pos:Pos) (pins:List (Addr×Obj)) (s:Shared) (σ:St) (H:Hp) (Q:List V→Hp→Prop),Inv X pins σ H s→t σ H Q→wpAny (model X.prog X.w) X.A (spliced (backTo pos (starEach es X.env))) (AP X pins σ Q) X.xe s
def PS (X:Cx) (st:Stmt) (t:TS):Prop :=
  ∀ (pins:List (Addr×Obj)) (s:Shared) (σ:St) (H:Hp) (D:Ends),Inv X pins σ H s→t D σ H→wpAny (model X.prog X.w) X.A (exec st X.env) (SP X pins D) X.xe s
def PSs (X:Cx) (st:List Stmt) (t:TS):Prop :=
  ∀ (pins:List (Addr×Obj)) (s:Shared) (σ:St) (H:Hp) (D:Ends),Inv X pins σ H s→t D σ H→wpAny (model X.prog X.w) X.A (execs st X.env) (SP X pins D) X.xe s
theorem thn {α:Type} {t:Sem α} {Q Q':α→Shared→Prop} {M:Model} {A:Around} {E:Value→Shared→Prop} {s:Shared} (h:wpAny M A t Q E s) (hQ:∀ a s,Q a s→Q' a s):wpAny M A t Q' E s:=wpAny_mono h hQ fun _ _ x=>x
end L2
namespace L2
open PySem PySem.Spec PyProof.Rows
section
variable {X:Cx}
noncomputable def qSq (i:Nat):TE:=fun σ H Q=>∃ v,σ[i]? = some (some v)∧Q v H
noncomputable def tC (v:V):TE:=fun _ H Q=>Q v H
theorem qPL {i:Nat} {x:Str} {pos:Pos} (hN:X.N[i]? = some x) (hv:Vis X.env.scope x) (hd:(x==("__debug__" : Str))=false:=by decide) (hcd:(x==("__classdict__" : Str))=false:=by decide):PE X (.Name x pos) (qSq i):=by
  k_dat 0"r1"
  obtain⟨v,e,h⟩:=h
  obtain⟨m,hn,hl⟩:=I.loc
  obtain⟨u,r,l⟩:=hl i x v hN e hv
  have fin:EP X pins σ Q u s:=⟨v,H,I,r,h⟩
  rcases l with ⟨hk,hm⟩ | ⟨hk,c,hc,hcell⟩
  · exact wpAny_Name (wpAny_loadName_local I.ok.kind hk hn hm fin) hd
  · rcases hk with hk | hk
    · exact wpAny_Name (wpAny_loadName_cell I.ok.kind hk hc hcell fin) hd
    · exact wpAny_Name (wpAny_loadName_free I.ok.kind hk hc hcell fin hcd) hd
theorem qPe {i j pos}:PE X (.Constant (.int i) j pos) (tC (.int i)):=fun _ _ _ H _ I h=>wpAny_Constant_int ⟨.int i,H,I.tok _,⟨_,rfl⟩,h⟩
theorem qRC {b j pos}:PE X (.Constant (.bool b) j pos) (tC (.bl b)):=fun _ _ _ H _ I h=>Constant_bool ⟨.bl b,H,I,rfl,h⟩
theorem qQT {j pos}:PE X (.Constant .none j pos) (tC .non):=fun _ _ _ H _ I h=>Constant_none ⟨.non,H,I,rfl,h⟩
theorem qQd {x j pos}:PE X (.Constant (.str x) j pos) (tC (.str x)):=fun _ _ _ H _ I h=>Calls.Constant_str ⟨.str x,H,I.tok _,⟨_,rfl⟩,h⟩
def Gl (X:Cx) (x:Str):Prop:=X.env.kindOf x=some .globalImplicit
theorem qDp {E:Value→Shared→Prop} {pins:List (Addr×Obj)} {s:Shared} {σ:St} {H:Hp} {x:Str} {u:Value} {pos:Pos} {Q:Value→Shared→Prop} (I:Inv X pins σ H s) (hg:Gl X x) (hm:X.mg x=some u) (h:Q u s)
    (hd:(x==("__debug__" : Str))=false:=by decide):wpAny (model X.prog X.w) X.A (eval (.Name x pos) X.env) Q E s :=
  Calls.Name_function_global I.ok.kind hg (Calls.loadGlobal_global (by rw [I.ok.glob];exact I.mod.glob.keeps I.bk) hm h) hd
theorem qDP {E:Value→Shared→Prop} {pins:List (Addr×Obj)} {s:Shared} {σ:St} {H:Hp} {x:Str} {u:Value} {pos:Pos} {Q:Value→Shared→Prop} (I:Inv X pins σ H s) (hg:Gl X x) (hm:X.mg x=none) (hv:bootBuiltins x=some u) (h:Q u s)
    (hn:x ≠ "__name__":=by decide) (hd:(x==("__debug__" : Str))=false:=by decide):wpAny (model X.prog X.w) X.A (eval (.Name x pos) X.env) Q E s:=by
  obtain⟨mb,h1,h2⟩:=I.mod.blt
  exact Calls.Name_function_global I.ok.kind hg (Calls.loadGlobal_builtin (by rw [I.ok.glob];exact I.mod.glob.keeps I.bk) hm (by rw [I.ok.blt];exact h1.keeps I.bk) ((h2 x hn).trans hv) h) hd
theorem qM8 {x:Str} {v:V} {u:Value} {pos:Pos} (hg:Gl X x) (hm:X.mg x=some u) (r:RelV v u) (hd:(x==("__debug__" : Str))=false:=by decide):PE X (.Name x pos) (tC v) :=
  fun _ _ _ H _ I h=>qDp I hg hm ⟨v,H,I,r,h⟩ hd
theorem qN7 {x:Str} {v:V} {u:Value} {pos:Pos} (hg:Gl X x) (hm:X.mg x=none) (hv:bootBuiltins x=some u) (r:RelV v u) (hn:x ≠ "__name__":=by decide) (hd:(x==("__debug__" : Str))=false:=by decide):PE X (.Name x pos) (tC v) :=
  fun _ _ _ H _ I h=>qDP I hg hm hv ⟨v,H,I,r,h⟩ hn hd
variable {a b:Expr} {ta tb:TE} {pos:Pos}
def PC (X:Cx) (op:CmpOp) (a b:Expr) (t:TE):Prop :=
  ∀ (pins:List (Addr×Obj)) (s:Shared) (σ:St) (H:Hp) (Q:VK),Inv X pins σ H s→t σ H Q →
    wpAny (model X.prog X.w) X.A (eval a X.env) (fun v s₁=>wpAny (model X.prog X.w) X.A (eval b X.env) (fun u s₂=>wpAny (model X.prog X.w) X.A (compareOp op v u) (EP X pins σ Q) X.xe s₂) X.xe s₁) X.xe s
theorem qLU (b:Expr) {op:CmpOp} (h:op≠.In) (h2:op≠.NotIn):behindInMarks op b=false:=by
  have e1:(op==CmpOp.In)=false:=by cases op<;>first | rfl | exact absurd rfl h
  have e2:(op==CmpOp.NotIn)=false:=by cases op<;>first | rfl | exact absurd rfl h2
  cases b<;>simp [behindInMarks,e1,e2]
noncomputable def tB (t:TE):TT:=fun σ H Q=>t σ H fun x H1=>∃ c,x = .bl c∧Q c H1
theorem qPD {op:CmpOp} {t:TE} (h:PC X op a b t) (h1:behindInMarks op b=false:=by first | exact qLU _ (by decide) (by decide) | rfl):PT X (.Compare a [op] [b] pos) (tB t):=by
  intro pins s σ H Q I hw
  refine wpAny_isTrue_Compare1 (thn (h pins s σ H _ I hw) fun v s1 h1=>thn h1 fun u s2 h2=>thn h2 fun c s3 ⟨x,H1,I1,r1,q1⟩=>?_) h1
  obtain⟨d,rfl,q⟩:=q1
  cases r1
  exact wpAny_truthy_bool ⟨H1,I1,q⟩
theorem qQr {e:Expr} {t:TE} (h:PE X e t) (he:∀ whole,isTrue e X.env whole=(do let v ← whole;standAt e.pos;holding [v] (truthy v)):=by intro _;rfl):PT X e (tB t):=by
  intro pins s σ H Q I hw
  refine isTrue_plain (thn (h pins s σ H _ I hw) fun v s1 ⟨x,H1,I1,r1,q1⟩=>?_) (he _)
  obtain⟨d,rfl,q⟩:=q1
  cases r1
  exact wpAny_truthy_bool ⟨H1,I1,q⟩
variable {tA tB':TT} {rest:List Expr}
noncomputable def qSi (t u:TT):TT:=fun σ H Q=>t σ H fun c H1=>if c=true then u σ H1 Q else Q false H1
noncomputable def qSI (t:TT):TT:=fun σ H Q=>t σ H fun c H1=>Q (!c) H1
theorem qNe (ha:PT X a tA):PW X (.BoolOp .And [a] pos) tA:=by
  intro wh pins s σ H Q I h
  refine isTrue_and (thn (ha pins s σ H Q I h) fun c s1 e=>?_)
  cases c with
  | true=>exact isTrue_and_nil e
  | false=>exact e
theorem qQb (ha:PT X a tA) (hb:PW X (.BoolOp .And (b::rest) pos) tB'):PW X (.BoolOp .And (a::b::rest) pos) (qSi tA tB'):=by
  intro wh pins s σ H Q I h
  refine isTrue_and (thn (ha pins s σ H _ I h) fun c s1 ⟨H1,I1,q1⟩=>?_)
  cases c with
  | true=>exact hb wh pins s1 σ H1 Q I1 q1
  | false=>exact⟨H1,I1,q1⟩
theorem qPF (ha:PT X a tA):PT X (.UnaryOp .Not a pos) (qSI tA):=by
  k_dat 0"r1"
  exact isTrue_not (ha pins s σ H (fun c H1=>Q (!c) H1) I h)
noncomputable def qRJ (ta tb:TE):TE:=fun σ H Q=>ta σ H fun x H1=>∃ c,x = .bl c∧if c=true then tb σ H1 Q else Q (.bl false) H1
theorem qPl {op} {t:TE} (h:PE X a t):PE X (.BoolOp op [a] pos) t:=fun pins s σ H Q I hw=>BoolOp_one (h pins s σ H Q I hw)
theorem qOg (ha:PE X a ta) (hb:PE X (.BoolOp .And (b::rest) pos) tb):PE X (.BoolOp .And (a::b::rest) pos) (qRJ ta tb):=by
  k_dat 0"r1"
  refine BoolOp_and (thn (ha pins s σ H _ I h) fun v s1 ⟨x,H1,I1,r1,q1⟩=>?_)
  obtain⟨c,rfl,q1⟩:=q1
  cases r1
  refine wpAny_truthy_bool ?_
  cases c with
  | true=>exact hb pins s1 σ H1 Q I1 q1
  | false=>exact⟨.bl false,H1,I1,rfl,q1⟩
noncomputable def tIf (t:TT) (ta tb:TE):TE:=fun σ H Q=>t σ H fun c H1=>if c=true then ta σ H1 Q else tb σ H1 Q
theorem qMj {c:Expr} (hc:PT X c tA) (ha:PE X a ta) (hb:PE X b tb):PE X (.IfExp c a b pos) (tIf tA ta tb):=by
  k_dat 0"r1"
  refine wpAny_IfExp (thn (hc pins s σ H _ I h) fun d s1 ⟨H1,I1,q1⟩=>?_)
  cases d with
  | true=>exact ha pins s1 σ H1 Q I1 q1
  | false=>exact hb pins s1 σ H1 Q I1 q1
end
end L2
namespace L2
open PySem PySem.Spec PyProof.Rows
def SqL (K:W.Frag) (H:Hp) (a:Addr) (xs:List V):Prop :=
  Rd H a (.lst xs) ∨
    ∃ (o:Obj) (its:Array Value) (n:Nat),K.lookup a=some o∧o.cls = .type "list" ∧ o.dict=none∧o.data = .seq its n∧its.size≤sizeLine∧Vals xs its.toList
def SqT (K:W.Frag) (H:Hp) (a:Addr) (xs:List V):Prop :=
  Rd H a (.tup xs) ∨
    ∃ (o:Obj) (its:Array Value) (n:Nat),K.lookup a=some o∧o.cls = .type "tuple" ∧ o.data = .seq its n∧its.size≤sizeLine∧Vals xs its.toList
noncomputable def qSf:Value→Option V
  | .none=>some .non
  | .bool b=>some (.bl b)
  | .int i _=>some (.int i)
  | .str x _=>some (.str x)
  | .bytes b _=>some (.byt b)
  | .float b _=>some (.flt b)
  | .ref a=>some (.ref a)
  | .type n=>some (.ty n)
  | _=>none
theorem RelV.abs {x:V} {u:Value} (r:RelV x u):qSf u=some x:=by
  cases x with
  | non=>cases r;rfl
  | bl _=>cases r;rfl
  | int _=>obtain⟨t,rfl⟩:=r;rfl
  | str _=>obtain⟨t,rfl⟩:=r;rfl
  | byt _=>obtain⟨t,rfl⟩:=r;rfl
  | flt _=>obtain⟨t,rfl⟩:=r;rfl
  | ref _=>cases r;rfl
  | ty _=>cases r;rfl
theorem RelV.inj {x y:V} {u:Value} (r:RelV x u) (q:RelV y u):x=y:=Option.some.inj (r.abs.symm.trans q.abs)
theorem Vals.inj:∀ {xs ys:List V} {us:List Value},Vals xs us→Vals ys us→xs=ys
  | _,_,_,.nil,.nil=>rfl
  | _,_,_,.cons r t,.cons r' t'=>by rw [r.inj r',Vals.inj t t']
section
variable {X:Cx} {pins:List (Addr×Obj)} {σ:St} {H:Hp} {s:Shared} {a:Addr} {xs ys:List V}
theorem SqL.of {K:W.Frag} (h:H a=some (.lst xs)):SqL K H a xs:=.inl (.inl h)
theorem SqT.of {K:W.Frag} (h:H a=some (.tup xs)):SqT K H a xs:=.inl (.inl h)
theorem Inv.list (I:Inv X pins σ H s) (h:SqL X.K H a xs):∃ its:List Value,Vals xs its∧PlainL s.heap a its.toArray∧xs.length≤sizeLine:=by
  rcases h with h | ⟨o,its,n,hk,hc,hd,hs,hz,r⟩
  · obtain⟨z,its,n,r,e⟩:=h.ok I.hok
    exact⟨its,r,⟨_,n,e,rfl,rfl,rfl⟩,z⟩
  · refine⟨its.toList,r,⟨o,n,I.kIn a o hk,hc,hd,by simpa using hs⟩,?_⟩
    have e:=r.length
    simp only [Array.length_toList] at e
    omega
theorem Inv.tuple (I:Inv X pins σ H s) (h:SqT X.K H a xs):∃ its:List Value,Vals xs its∧IsTup s.heap a its.toArray∧xs.length≤sizeLine:=by
  rcases h with h | ⟨o,its,n,hk,hc,hs,hz,r⟩
  · obtain⟨z,its,r,p⟩:=h.ok I.hok
    exact⟨its,r,p,z⟩
  · refine⟨its.toList,r,⟨o,I.kIn a o hk,hc,n,by simpa using hs⟩,?_⟩
    have e:=r.length
    simp only [Array.length_toList] at e
    omega
theorem Inv.qIG (I:Inv X pins σ H s) (h:SqL X.K H a xs) (h':SqL X.K H a ys):xs=ys:=by
  obtain⟨its,r,⟨o,n,e,_,_,d⟩,_⟩:=I.list h
  obtain⟨its',r',⟨o',n',e',_,_,d'⟩,_⟩:=I.list h'
  rw [e] at e';cases e'
  rw [d] at d'
  injection d' with d1 _
  have:its=its':=by simpa using congrArg Array.toList d1
  subst this
  exact r.inj r'
theorem Inv.qBY (I:Inv X pins σ H s) (h:SqT X.K H a xs) (h':SqT X.K H a ys):xs=ys:=by
  obtain⟨its,r,⟨o,e,_,n,d⟩,_⟩:=I.tuple h
  obtain⟨its',r',⟨o',e',_,n',d'⟩,_⟩:=I.tuple h'
  rw [e] at e';cases e'
  rw [d] at d'
  injection d' with d1 _
  have:its=its':=by simpa using congrArg Array.toList d1
  subst this
  exact r.inj r'
end
noncomputable abbrev Cx.qF6 (X:Cx) (E:Value→Shared→Prop):Cx:={ X with xe:=E }
noncomputable abbrev Cx.nox (X:Cx):Cx:=X.qF6 fun _ _=>False
theorem Cx.Ok.qF6 {X:Cx} (ok:X.Ok) (E:Value→Shared→Prop):(X.qF6 E).Ok :=
  ⟨ok.mod,ok.kind,ok.glob,ok.blt,ok.above,ok.inj,ok.has,ok.cab,ok.hd,ok.frames,ok.stk,ok.exf,ok.bs,ok.bsz,ok.noex,ok.exfs,ok.qD5,ok.frf⟩
theorem Cx.Ok.qCc {X:Cx} {E:Value→Shared→Prop} (ok:(X.qF6 E).Ok):X.Ok :=
  ⟨ok.mod,ok.kind,ok.glob,ok.blt,ok.above,ok.inj,ok.has,ok.cab,ok.hd,ok.frames,ok.stk,ok.exf,ok.bs,ok.bsz,ok.noex,ok.exfs,ok.qD5,ok.frf⟩
section
variable {X:Cx} {pins:List (Addr×Obj)} {σ:St} {H:Hp} {s:Shared} {E:Value→Shared→Prop}
theorem Inv.qF6 (I:Inv X pins σ H s) (E:Value→Shared→Prop):Inv (X.qF6 E) pins σ H s:=⟨I.ok.qF6 E,I.os,I.bare,I.base,I.loc,I.cell,I.free,I.freeC,I.pin,I.hok,I.len⟩
theorem Inv.qCc (I:Inv (X.qF6 E) pins σ H s):Inv X pins σ H s:=⟨I.ok.qCc,I.os,I.bare,I.base,I.loc,I.cell,I.free,I.freeC,I.pin,I.hok,I.len⟩
theorem SP.qCc {D:Ends} {f:Flow} {s':Shared} (h:SP (X.qF6 E) pins D f s'):SP X pins D f s':=by
  cases f with
  | next=>obtain⟨σ',H',I,q⟩:=h;exact⟨σ',H',I.qCc,q⟩
  | brk=>obtain⟨σ',H',I,q⟩:=h;exact⟨σ',H',I.qCc,q⟩
  | cont=>obtain⟨σ',H',I,q⟩:=h;exact⟨σ',H',I.qCc,q⟩
  | ret u=>obtain⟨v,σ',H',I,r,q⟩:=h;exact⟨v,σ',H',I.qCc,r,q⟩
theorem PSs.nox {st:List Stmt} {t:TS} (h:PSs X.nox st t):PSs X st t:=fun pins s σ H D I hw =>
  wpAny_mono (h pins s σ H D (I.qF6 _) hw) (fun _ _ q=>q.qCc) fun _ _ z=>False.elim z
end
section
variable {X:Cx} {st:Stmt} {rest:List Stmt} {t u:TS} {e:Expr} {te:TE} {pos:Pos}
noncomputable def qSC:TS:=fun D σ H=>D.nx σ H
noncomputable def qSO (t u:TS):TS:=fun D σ H=>t { D with nx:=u D } σ H
theorem qM2:PSs X [] qSC:=fun _ _ σ H _ I h=>wpAny_execs_nil ⟨σ,H,I,h⟩
theorem qLK (h1:PS X st t) (h2:PSs X rest u):PSs X (st::rest) (qSO t u):=by
  k_dat 0"r13"
  refine wpAny_execs_cons (thn (h1 pins s σ H { D with nx:=u D } I h) fun f s1 q=>?_)
  cases f with
  | next =>
    obtain⟨σ',H',I',q⟩:=q
    exact h2 pins s1 σ' H' D I' q
  | ret v=>exact q
  | brk=>exact q
  | cont=>exact q
theorem Inv.quiet {pins:List (Addr×Obj)} {σ:St} {H:Hp} {s:Shared} (I:Inv X pins σ H s):interactive X.env=false:=by simp [interactive,I.ok.kind]
noncomputable def qRA (te:TE):TS:=fun D σ H=>te σ H fun _ H1=>D.nx σ H1
theorem qNG (he:PE X e te) (hs:swapsWith e none pos.line X.env=pure false:=by rfl):PS X (.Expr e pos) (qRA te):=by
  k_dat 0"r13"
  exact wpAny_Expr_any (thn (he pins s σ H _ I h) fun v s1 ⟨x,H1,I1,r1,q1⟩=>⟨σ,H1,I1,q1⟩) I.quiet hs
noncomputable def qSl (te:TE):TS:=fun D σ H=>te σ H D.rt
theorem qQP (he:PE X e te):PS X (.Return (some e) pos) (qSl te):=by
  k_dat 0"r13"
  exact wpAny_Return_some (thn (he pins s σ H _ I h) fun v s1 ⟨x,H1,I1,r1,q1⟩=>⟨x,σ,H1,I1,r1,q1⟩)
noncomputable def qSM (c:TT) (t u:TS):TS:=fun D σ H=>c σ H fun b H1=>if b=true then t D σ H1 else u D σ H1
theorem qQ3 {c:Expr} {a b:List Stmt} {tc:TT} (hc:PT X c tc) (ha:PSs X a t) (hb:PSs X b u):PS X (.If c a b pos) (qSM tc t u):=by
  k_dat 0"r13"
  refine wpAny_If (thn (hc pins s σ H _ I h) fun d s1 ⟨H1,I1,q1⟩=>?_)
  cases d with
  | true=>exact ha pins s1 σ H1 D I1 q1
  | false=>exact hb pins s1 σ H1 D I1 q1
end
noncomputable abbrev TG:=V→St→Hp→(St→Hp→Prop)→Prop
noncomputable abbrev TGs:=List V→St→Hp→(St→Hp→Prop)→Prop
def PG (X:Cx) (target:Expr) (t:TG):Prop :=
  ∀ (pins:List (Addr×Obj)) (s:Shared) (σ:St) (H:Hp) (v:V) (u:Value) (Q:St→Hp→Prop),Inv X pins σ H s→RelV v u→t v σ H Q →
    wpAny (model X.prog X.w) X.A (assign target X.env u) (fun _ s'=>∃ σ' H',Inv X pins σ' H' s'∧Q σ' H') X.xe s
def PGs (X:Cx) (ts:List Expr) (t:TGs):Prop :=
  ∀ (pins:List (Addr×Obj)) (s:Shared) (σ:St) (H:Hp) (vs:List V) (us:List Value) (Q:St→Hp→Prop),Inv X pins σ H s→Vals vs us→t vs σ H Q →
    wpAny (model X.prog X.w) X.A (assignInOrder ((assignEach ts X.env).map (·.2)) us) (fun _ s'=>∃ σ' H',Inv X pins σ' H' s'∧Q σ' H') X.xe s
noncomputable abbrev qPC:=V→V→V→Hp→(Hp→Prop)→Prop
def qRf (X:Cx) (t:qPC):Prop :=
  ∀ (pins:List (Addr×Obj)) (s:Shared) (σ:St) (H:Hp) (o i v:V) (ov iv u:Value) (Q:Hp→Prop),Inv X pins σ H s→RelV o ov→RelV i iv→RelV v u→t o i v H Q →
    wpAny (model X.prog X.w) X.A (setItem ov iv u) (fun _ s'=>∃ H',Inv X pins σ H' s'∧Q H') X.xe s
noncomputable abbrev TIp:=V→V→Hp→VK→Prop
def PIp (X:Cx) (op:Operator) (t:TIp):Prop :=
  ∀ (pins:List (Addr×Obj)) (s:Shared) (σ:St) (H:Hp) (x y:V) (v u:Value) (Q:VK),Inv X pins σ H s→RelV x v→RelV y u→t x y H Q →
    wpAny (model X.prog X.w) X.A (inplaceOp op v u) (EP X pins σ Q) X.xe s
section
variable {X:Cx} {pos:Pos}
noncomputable def qFm (i:Nat):TG:=fun v σ H Q=>Q (σ.set i (some v)) H
theorem qHJ {i:Nat} {x:Str} (hN:X.N.Nodup) (hi:X.N[i]? = some x) (hx:Loc X.env.scope x) (hf:X.fn x=true∨X.env.scope.names.lookup x=some .local:=by first | exact .inl rfl | exact .inr rfl | assumption):PG X (.Name x pos) (qFm i):=by
  intro pins s σ H v u Q I r h
  exact wpAny_assign_Name (qFt I hN hi hx r (fun s' I'=>⟨_,H,I',h⟩) hf)
noncomputable def qSd:TGs:=fun vs σ H Q=>vs=[]∧Q σ H
noncomputable def qRz (t:TG) (u:TGs):TGs:=fun vs σ H Q=>∃ v r,vs=v::r∧t v σ H fun σ' H'=>u r σ' H' Q
theorem qM1:PGs X [] qSd:=by
  intro pins s σ H vs us Q I r h
  obtain⟨e,h⟩:=h
  subst e
  cases r
  exact assignInOrder_nil ⟨σ,H,I,h⟩
theorem qMl {e:Expr} {es:List Expr} {t:TG} {u:TGs} (h1:PG X e t) (h2:PGs X es u)
    (hs:(assignEach (e::es) X.env).map (·.2)=assign e X.env::(assignEach es X.env).map (·.2):=by rfl):PGs X (e::es) (qRz t u):=by
  intro pins s σ H vs us Q I r h
  obtain⟨v,vr,e1,h⟩:=h
  subst e1
  cases r with
  | cons r rr =>
    rw [hs]
    refine assignInOrder_cons (thn (h1 pins s σ H _ _ _ I r h) fun _ s1 ⟨σ1,H1,I1,q1⟩=>?_)
    exact h2 pins s1 σ1 H1 _ _ Q I1 rr q1
noncomputable def qSu (to ti:TE) (t:qPC):TG:=fun v σ H Q=>to σ H fun o H1=>ti σ H1 fun i H2=>t o i v H2 fun H3=>Q σ H3
theorem qPf {o i:Expr} {to ti:TE} {t:qPC} (ho:PE X o to) (hi:PE X i ti) (hs:qRf X t)
    (ha:∀ v,assign (.Subscript o i pos) X.env v=(do
      let ov ← holding [v] (eval o X.env)
      let iv ← holding [v,ov] (eval i X.env)
      standAt pos
      holding [v,ov,iv] (setItem ov iv v)
      release [v,ov,iv] []):=by intro _;rfl):PG X (.Subscript o i pos) (qSu to ti t):=by
  intro pins s σ H v u Q I r h
  rw [ha]
  refine wpAny_bind (wpAny_holding (thn (ho pins s σ H _ I h) fun ov s1 ⟨x,H1,I1,r1,q1⟩=>?_))
  refine wpAny_bind (wpAny_holding (thn (hi pins s1 σ H1 _ I1 q1) fun iv s2 ⟨y,H2,I2,r2,q2⟩=>?_))
  refine wpAny_bind (wpAny_standAt (wpAny_bind (wpAny_holding (thn (hs pins s2 σ H2 x y v ov iv u _ I2 r1 r2 r q2) fun _ s3 ⟨H3,I3,q3⟩=>?_))))
  exact wpAny_release ⟨σ,H3,I3,q3⟩
noncomputable def qNk (te:TE) (g:TG):TS:=fun D σ H=>te σ H fun x H1=>g x σ H1 D.nx
theorem qPT {tg e:Expr} {te:TE} {g:TG} (he:PE X e te) (hg:PG X tg g) (hs:swapsWithSole [tg] e pos.line X.env=pure false:=by rfl) (hw:swappedStores [tg] e X.env=pure none:=by rfl)
    (h1:(assignEach [tg] X.env).map (·.2)=[assign tg X.env]:=by rfl):PS X (.Assign [tg] e pos) (qNk te g):=by
  k_dat 0"r13"
  refine wpAny_Assign_stores (thn (he pins s σ H _ I h) fun v s1 ⟨x,H1,I1,r1,q1⟩=>?_) hs hw
  rw [h1]
  exact thn (hg pins s1 σ H1 x v _ I1 r1 q1) fun _ s2 q=>q
theorem qO8 {i:Nat} {x:Str} {e:Expr} {te:TE} {pos':Pos} (hN:X.N.Nodup) (hi:X.N[i]? = some x) (hx:Loc X.env.scope x) (he:PE X e te) (hs:swapsWith e (some (.Name x pos')) pos.line X.env=pure false:=by rfl) (hf:X.fn x=true∨X.env.scope.names.lookup x=some .local:=by first | exact .inl rfl | exact .inr rfl | assumption) :
    PS X (.Assign [.Name x pos'] e pos) (qNk te (qFm i)):=by
  k_dat 0"r13"
  refine wpAny_Assign_Name (thn (he pins s σ H _ I h) fun v s1 ⟨y,H1,I1,r1,q1⟩=>?_) hs
  exact qFt I1 hN hi hx r1 (fun s2 I2=>⟨_,H1,I2,q1⟩) hf
noncomputable def qSW (i:Nat) (te:TE) (ti:TIp):TS:=fun D σ H=>∃ x,σ[i]? = some (some x)∧te σ H fun y H1=>ti x y H1 fun z H2=>D.nx (σ.set i (some z)) H2
theorem qOc {i:Nat} {x:Str} {e:Expr} {te:TE} {op:Operator} {ti:TIp} {pos':Pos} (hN:X.N.Nodup) (hi:X.N[i]? = some x) (hx:Loc X.env.scope x) (he:PE X e te) (ho:PIp X op ti) (hf:X.fn x=true∨X.env.scope.names.lookup x=some .local:=by first | exact .inl rfl | exact .inr rfl | assumption) :
    PS X (.AugAssign (.Name x pos') op e pos) (qSW i te ti):=by
  k_dat 0"r13"
  obtain⟨v,e1,h⟩:=h
  obtain⟨m,hn,hl⟩:=I.loc
  have vis:Vis X.env.scope x:=by rcases hx with k | k;exact .inl k;exact .inr (.inl k)
  obtain⟨u,r,l⟩:=hl i x v hi e1 vis
  refine wpAny_AugAssign_Name ?_
  have go:wpAny (model X.prog X.w) X.A (eval e X.env) (fun w s₂=>wpAny (model X.prog X.w) X.A (inplaceOp op u w) (fun r s₃=>wpAny (model X.prog X.w) X.A (storeName X.env x r) (fun _=>SP X pins D .next) X.xe s₃) X.xe s₂) X.xe s:=by
    refine thn (he pins s σ H _ I h) fun w s1 ⟨y,H1,I1,r1,q1⟩=>?_
    refine thn (ho pins s1 σ H1 v y u w _ I1 r r1 q1) fun z s2 ⟨zv,H2,I2,r2,q2⟩=>?_
    exact qFt I2 hN hi hx r2 (fun s3 I3=>⟨_,H2,I3,q2⟩) hf
  rcases l with ⟨hk,hm⟩ | ⟨hk,c,hc,hcell⟩
  · exact wpAny_loadName_local I.ok.kind hk hn hm go
  · rcases hk with hk | hk
    · exact wpAny_loadName_cell I.ok.kind hk hc hcell go
    · rcases hx with k | k
      · have:X.env.scope.names.lookup x=some .free:=hk
        rw [k] at this;cases this
      · have:X.env.scope.names.lookup x=some .free:=hk
        rw [k] at this;cases this
end
structure It where
  go:Nat→Hp→Prop
  yld:Nat→Hp→V→Hp→Prop
  stop:Nat→Hp→Prop
def qFP (X:Cx) (pins:List (Addr×Obj)) (H:Hp) (b:Addr):Prop :=
  H b=none∧b≠X.env.locals∧b ∉ X.fs∧(b∈X.ex∨X.s₀.heap.objs.size≤b)∧(∀ x c,X.env.cells.lookup x=some c→c≠b)∧∀ p∈X.pn++pins,p.1≠b
theorem Inv.qK0 {X:Cx} {pins:List (Addr×Obj)} {σ:St} {H H':Hp} {s:Shared} {b:Addr} (I:Inv X pins σ H s) (hb:s.heap.objs.size≤b) (hn:H' b=none):qFP X pins H' b:=by
  refine⟨hn,Nat.ne_of_gt (Nat.lt_of_lt_of_le I.lt hb),I.qRP hb,.inr (Nat.le_trans I.sz hb),fun x c e z=>?_,fun p hp z=>?_⟩
  · obtain⟨v,q⟩:=I.cell x c e
    exact absurd (Nat.lt_of_lt_of_le q.lt (by rw [z];exact hb)) (Nat.lt_irrefl _)
  · exact absurd (Nat.lt_of_lt_of_le (Heap.lt_size (I.pin p hp).1) (by rw [z];exact hb)) (Nat.lt_irrefl _)
structure Turn (P:Program) (w:World) (K:W.Frag) (tg:Expr) (J:It) (fp:List Addr) (it:Addr) (tn:Nat→Heap→Prop):Prop where
  mem:it∈fp
  obj:∀ i h,tn i h→∀ b∈fp,∃ o,h.get? b=some o∧∀ v,o.data≠.cell v
  keep:∀ i h h',tn i h→(∀ b∈fp,∀ o,h.get? b=some o→h'.get? b=some o)→tn i h'
  item:∀ (X:Cx),X.prog=P→X.w=w→X.K=K→X.calm=true→∀ (i:Nat) (pins:List (Addr×Obj)) (s:Shared) (σ:St) (H:Hp) (E:Value→Shared→Prop),Inv X pins σ H s→(∀ b∈fp,qFP X pins H b)→tn i s.heap→J.go i H →
    wpAny (model P w) X.A (pyNext (.ref it)) (fun r s1=>∃ u,r=some u ∧
      wpAny (model P w) X.A (letOwnedTupleGo tg (.ref it) u) (fun _ s2=>∃ x H',Inv X pins σ H' s2∧RelV x u∧J.yld i H x H'∧tn (i+1) s2.heap∧∀ b∈fp,H' b=none) E s1) E s
  done:∀ (X:Cx),X.prog=P→X.w=w→X.K=K→X.calm=true→∀ (i:Nat) (pins:List (Addr×Obj)) (s:Shared) (σ:St) (H:Hp) (E:Value→Shared→Prop),Inv X pins σ H s→(∀ b∈fp,qFP X pins H b)→tn i s.heap→J.stop i H →
    wpAny (model P w) X.A (pyNext (.ref it)) (fun r s1=>r=none∧Inv X pins σ H s1) E s
  self:∀ (A:Around) (i:Nat) (s:Shared) (Q:Value→Shared→Prop) (E:Value→Shared→Prop),tn i s.heap→Q (.ref it) s→wpAny (model P w) A (pyIter (.ref it)) Q E s
noncomputable abbrev TI:=St→Hp→(It→Hp→Prop)→Prop
def PIE (X:Cx) (pins:List (Addr×Obj)) (σ:St) (tg:Expr) (R:It→Hp→Prop) (itv:Value) (s2:Shared):Prop :=
  ∃ (it:Addr) (fp:List Addr) (tn:Nat→Heap→Prop) (J:It) (H':Hp),itv = .ref it∧Inv X pins σ H' s2∧Turn X.prog X.w X.K tg J fp it tn∧tn 0 s2.heap∧(∀ b∈fp,qFP X pins H' b)∧R J H'
def PI (X:Cx) (tg iter:Expr) (wi:TI):Prop :=
  ∀ (pins:List (Addr×Obj)) (s:Shared) (σ:St) (H:Hp) (R:It→Hp→Prop),Inv X pins σ H s→wi σ H R →
    wpAny (model X.prog X.w) X.A (eval iter X.env) (fun v s1=>wpAny (model X.prog X.w) X.A (pyIter v) (PIE X pins σ tg R) X.xe s1) X.xe s
theorem qLF {M:Model} {A:Around} {E:Value→Shared→Prop} {s:Shared} {tg:Expr} {it:Addr} {u:Value} {o:Obj} {n:String} {vs:Array Value} {Q:Unit→Shared→Prop} (ho:s.heap.get? it=some o) (hc:o.cls = .type n) (hd:o.data = .fields vs)
    (hn:["enumerate", "zip", "dict_itemiterator", "dict_reverseitemiterator", "odict_iterator", "itertools.zip_longest", "itertools.pairwise"].contains n=false) (hQ:Q () s):wpAny M A (letOwnedTupleGo tg (.ref it) u) Q E s:=by
  unfold letOwnedTupleGo
  cases tg <;> first
    | exact wpAny_pure hQ
    | (cases u<;>first
        | exact wpAny_pure hQ
        | (refine wpAny_bind (wpAny_load ho ?_)
           rw [hc,hd]
           show wpAny M A (if (["enumerate", "zip", "dict_itemiterator", "dict_reverseitemiterator", "odict_iterator", "itertools.zip_longest", "itertools.pairwise"].contains n&&vs[0]? == some (rawInt _))=true then _ else _) Q E s
           rw [if_neg (by intro h;rw [hn,Bool.false_and] at h;cases h)]
           exact wpAny_pure hQ))
noncomputable def Itl (K:W.Frag) (a:Addr):It :=
  ⟨fun i H=>∃ xs x,SqL K H a xs∧xs[i]? = some x,fun i H x H'=>H'=H∧∀ xs,SqL K H a xs→xs[i]? = some x,fun i H=>∃ xs,SqL K H a xs∧xs.length≤i⟩
noncomputable def Itt (K:W.Frag) (a:Addr):It :=
  ⟨fun i H=>∃ xs x,SqT K H a xs∧xs[i]? = some x,fun i H x H'=>H'=H∧∀ xs,SqT K H a xs→xs[i]? = some x,fun i H=>∃ xs,SqT K H a xs∧xs.length≤i⟩
noncomputable def Itr (lo:Int) (n:Nat):It:=⟨fun i _=>i<n,fun i H x H'=>H'=H∧x = .int (lo+i),fun i _=>n≤i⟩
theorem qKk {P:Program} {w:World} {K:W.Frag} {tg:Expr} (a it:Addr):Turn P w K tg (Itl K a) [it] it (fun i h=>h.IsListIter it a i) where
  mem:=by simp
  obj:=fun i h st b hb=>by
    have e:b=it:=by simpa using hb
    subst e
    obtain⟨o,e,c,d⟩:=st
    exact⟨o,e,fun v z=>by rw [d] at z;cases z⟩
  keep:=fun i h h' st k=>st.at fun o e=>k it (by simp) o e
  item:=by
    k_dat 0"r7"
    subst hP hw hK
    obtain⟨xs,x,hq,hx⟩:=hg
    obtain⟨its,rv,p,hz⟩:=I.list hq
    k_dat 0"r25"
    k_dat 0"r26"
    refine wpAny_pyNext_list_item st p.isList (x:=u) (by simpa using hu) fun h' st' sb=>?_
    k_dat 0"r91"
    obtain⟨o,e,c,d⟩:=id st'
    exact⟨u,rfl,qLF (s:={ s with heap:=h' }) e c d (by decide) ⟨x,H,I1,ru,⟨rfl,fun ys hy=>by rw [I.qIG hy hq];exact hx⟩,st',fun b hb=>(hf b hb).1⟩⟩
  done:=by
    k_dat 0"r7"
    subst hP hw hK
    obtain⟨xs,hq,hx⟩:=hg
    obtain⟨its,rv,p,hz⟩:=I.list hq
    k_dat 0"r26"
    have hl:=rv.length
    exact wpAny_pyNext_list_end (I.ok.hd hc) st p.isList (by simp;omega) fun h' eb=>⟨rfl,I.turned (t':=s.toks) (fun b o hb e=>eb b o hb e) f0 f1 f3 f4 f5⟩
  self:=fun _ _ _ _ _ st h=>wpAny_pyIter_listiter st h
theorem qJM {P:Program} {w:World} {K:W.Frag} {tg:Expr} (a it:Addr):Turn P w K tg (Itt K a) [it] it (fun i h=>h.IsTupleIter it a i) where
  mem:=by simp
  obj:=fun i h st b hb=>by
    have e:b=it:=by simpa using hb
    subst e
    obtain⟨o,e,c,d⟩:=st
    exact⟨o,e,fun v z=>by rw [d] at z;cases z⟩
  keep:=fun i h h' st k=>st.at fun o e=>k it (by simp) o e
  item:=by
    k_dat 0"r7"
    subst hP hw hK
    obtain⟨xs,x,hq,hx⟩:=hg
    obtain⟨its,rv,p,hz⟩:=I.tuple hq
    k_dat 0"r25"
    k_dat 0"r26"
    refine wpAny_pyNext_tuple_item st (show s.heap.IsTuple a its.toArray from p) (x:=u) (by simpa using hu) fun h' st' sb=>?_
    k_dat 0"r91"
    obtain⟨o,e,c,d⟩:=id st'
    exact⟨u,rfl,qLF (s:={ s with heap:=h' }) e c d (by decide) ⟨x,H,I1,ru,⟨rfl,fun ys hy=>by rw [I.qBY hy hq];exact hx⟩,st',fun b hb=>(hf b hb).1⟩⟩
  done:=by
    k_dat 0"r7"
    subst hP hw hK
    obtain⟨xs,hq,hx⟩:=hg
    obtain⟨its,rv,p,hz⟩:=I.tuple hq
    k_dat 0"r26"
    have hl:=rv.length
    exact wpAny_pyNext_tuple_end (I.ok.hd hc) st (show s.heap.IsTuple a its.toArray from p) (by simp;omega) fun h' eb=>⟨rfl,I.turned (t':=s.toks) (fun b o hb e=>eb b o hb e) f0 f1 f3 f4 f5⟩
  self:=fun _ _ _ _ _ st h=>wpAny_pyIter_tupleiter st h
theorem qJR {P:Program} {w:World} {K:W.Frag} {tg:Expr} (it:Addr) (lo:Int) (n:Nat):Turn P w K tg (Itr lo n) [it] it (fun i h=>IsRangeIter h it (lo+(i:Nat) * 1) ((n:Int) - (i:Nat)) 1) where
  mem:=by simp
  obj :=fun i h st b hb=>by
    have e:b=it:=by simpa using hb
    subst e
    exact⟨_,st,fun v z=>by
      have z':Data.fields _=Data.cell v:=z
      cases z'⟩
  keep:=fun i h h' st k=>k it (by simp) _ st
  item:=by
    k_dat 0"r7"
    subst hP hw hK
    k_dat 0"r26"
    have W:=Walks.range (prog:=X.prog) (w:=X.w) (I.ok.hd hc) it lo 1 n
    refine W.item i s _ _ hg st fun v h' tk hv st' kk=>?_
    obtain⟨t,rfl⟩:=hv
    have I1:Inv X pins σ H { s with heap:=h',toks:=tk }:=I.turned (fun b o hb e=>kk b o (by simpa using hb) e) f0 f1 f3 f4 f5
    refine⟨_,rfl,qLF (s:={ s with heap:=h',toks:=tk }) (n:= "range_iterator") st' rfl rfl (by decide) ⟨.int (lo+i),H,I1,⟨t,?_⟩,⟨rfl,rfl⟩,st',fun b hb=>(hf b hb).1⟩⟩
    rw [Int.mul_one]
  done:=by
    k_dat 0"r7"
    subst hP hw hK
    k_dat 0"r26"
    exact wpAny_pyNext_range_end (I.ok.hd hc) st (by have:n≤i:=hg;omega) fun h' eb=>⟨rfl,I.turned (t':=s.toks) (fun b o hb e=>eb b o hb e) f0 f1 f3 f4 f5⟩
  self:=fun _ _ _ _ _ st h=>wpAny_pyIter_rangeiter st h
end L2
namespace L2
open PySem PySem.Spec PyProof.Rows
section
variable {X:Cx} {tg:Expr}
theorem qIV {pins:List (Addr×Obj)} {σ:St} {H:Hp} {s:Shared} {R:It→Hp→Prop} {E:Value→Shared→Prop} {lo hi:Int} {t u v:Tok} {tk:Nat} (I:Inv X pins σ H s) (h1:-(2 ^ 62)≤lo) (h2:lo<2 ^ 62) (h3:-(2 ^ 62)≤hi) (h4:hi<2 ^ 62)
    (q:R (Itr lo (hi - lo).toNat) H):wpAny (model X.prog X.w) X.A (pyIter (.ref s.heap.objs.size)) (PIE X pins σ tg R) E { s with heap:=s.heap.push { cls:=.type "range",data:=.fields #[.int lo t,.int hi u,.int 1 v] },toks:=tk }:=by
  refine wpAny_pyIter_range (IsRange.new ..) (small_one h1 h2 h3 h4) ?_
  have I1:Inv X pins σ H { s with heap:=s.heap.push { cls:=.type "range",data:=.fields #[.int lo t,.int hi u,.int 1 v] },toks:=tk }:=I.kept fun b o e=>Heap.get?_push_of_some _ e
  refine⟨(s.heap.push { cls:=.type "range",data:=.fields #[.int lo t,.int hi u,.int 1 v] }).objs.size,[(s.heap.push { cls:=.type "range",data:=.fields #[.int lo t,.int hi u,.int 1 v] }).objs.size],_,_,H,rfl,
    I1.kept (t':=tk) fun b o e=>Heap.get?_push_of_some _ e,qJR _ lo (hi - lo).toNat,?_,fun b hb=>?_,q⟩
  · have e1:lo+((0:Nat):Int) * 1=lo:=by simp
    have e2:(((hi - lo).toNat:Nat):Int) - ((0:Nat):Int)=Builtin.Range.rangeSize lo hi 1:=by rw [rangeSize_one];split<;>omega
    show IsRangeIter _ _ (lo+((0:Nat):Int) * 1) ((((hi - lo).toNat:Nat):Int) - ((0:Nat):Int)) 1
    rw [e1,e2]
    exact Heap.get?_push_size _ rfl
  · have e:b=(s.heap.push { cls:=.type "range",data:=.fields #[.int lo t,.int hi u,.int 1 v] }).objs.size:=by simpa using hb
    subst e
    k_dat 0"r74"
noncomputable def qRv (ta:TA):TI:=fun σ H R=>ta σ H fun vs H1=>∃ j:Int,vs=[.int j]∧-(2 ^ 62)≤j∧j<2 ^ 62∧R (Itr 0 j.toNat) H1
noncomputable def qRN (ta:TA):TI:=fun σ H R=>ta σ H fun vs H1=>∃ i j:Int,vs=[.int i,.int j]∧(-(2 ^ 62)≤i∧i<2 ^ 62∧-(2 ^ 62)≤j∧j<2 ^ 62)∧R (Itr i (j - i).toNat) H1
theorem qKK {a:Expr} {ta:TA} {p pos:Pos} (hg:Gl X "range") (hm:X.mg "range" = none) (ha:PA X [a] ta) (hs:starEach [a] X.env=[(false,eval a X.env)]:=by rfl):PI X tg (.Call (.Name "range" p) [a] [] pos) (qRv ta):=by
  intro pins s σ H R I h
  refine Call_ (qDP I hg hm boot_range (PyProof.Rows.callWith_type1 (thn (ha pos pins s σ H _ I h) fun us s1 ⟨vs,H1,I1,r1,q1⟩=>?_) hs rfl))
  obtain⟨j,e,q1,q2,q⟩:=q1
  subst e
  cases r1 with
  | cons r rr =>
    cases rr
    obtain⟨t,rfl⟩:=r
    exact call_range_1 (qIV I1 (by omega) (by omega) q1 q2 (by simpa using q))
theorem qKt {a b:Expr} {ta:TA} {p pos:Pos} (hg:Gl X "range") (hm:X.mg "range" = none) (ha:PA X [a,b] ta) (hs:starEach [a,b] X.env=[(false,eval a X.env),(false,eval b X.env)]:=by rfl) (hs2:starEach [b] X.env=[(false,eval b X.env)]:=by rfl) :
    PI X tg (.Call (.Name "range" p) [a,b] [] pos) (qRN ta):=by
  intro pins s σ H R I h
  refine Call_ (qDP I hg hm boot_range (PyProof.Rows.callWith_type1 (thn (ha pos pins s σ H _ I h) fun us s1 ⟨vs,H1,I1,r1,q1⟩=>?_) (by rw [hs,hs2]) (by rw [hs2];rfl)))
  obtain⟨i,j,e,⟨q1,q2,q3,q4⟩,q⟩:=q1
  subst e
  cases r1 with
  | cons r rr =>
    cases rr with
    | cons r' rr =>
      cases rr
      obtain⟨t,rfl⟩:=r
      obtain⟨t',rfl⟩:=r'
      exact call_range_2 (qIV I1 q1 q2 q3 q4 q)
noncomputable def qSK (wi:TI) (g:TG) (tb:TS):TS:=fun D σ H=>wi σ H fun J H1=>∃ W:Nat→Nat→St→Hp→Prop,(∃ m,W 0 m σ H1)∧∀ i m σ H,W i m σ H →
  (J.stop i H∧D.nx σ H)∨(J.go i H∧∃ N:St→Hp→Prop,(∀ σ' H',N σ' H'→∃ m',m'<m∧W (i+1) m' σ' H')∧∀ x H',J.yld i H x H'→g x σ H' fun σ2 H2=>tb { D with nx:=N,ct:=N,bk:=D.nx } σ2 H2)
noncomputable def qFC (fp:List Addr) (h:Heap):List (Addr×Obj):=fp.filterMap fun b=>(h.get? b).map fun o=>(b,o)
theorem qCR {fp:List Addr} {h:Heap} {b:Addr} {o:Obj} (hb:b∈fp) (e:h.get? b=some o):(b,o)∈qFC fp h:=List.mem_filterMap.mpr ⟨b,hb,by rw [e];rfl⟩
theorem qKo {fp:List Addr} {h:Heap} {p:Addr×Obj} (hp:p∈qFC fp h):p.1∈fp∧h.get? p.1=some p.2:=by
  obtain⟨b,hb,e⟩:=List.mem_filterMap.mp hp
  cases q:h.get? b with
  | none=>rw [q] at e;cases e
  | some o =>
    rw [q] at e
    have e':(b,o)=p:=Option.some.inj e
    subst e'
    exact⟨hb,q⟩
theorem Inv.pinned {pins:List (Addr×Obj)} {σ:St} {H:Hp} {s:Shared} {fp:List Addr} (I:Inv X pins σ H s) (hf:∀ b∈fp,qFP X pins H b) (ho:∀ b∈fp,∃ o,s.heap.get? b=some o∧∀ v,o.data≠.cell v):Inv X (pins++qFC fp s.heap) σ H s :=
  I.qE6 fun p hp=>(List.mem_append.mp hp).elim (fun z=>I.pin p (List.mem_append_right _ z)) fun z=>by
    obtain⟨hb,e⟩:=qKo z
    obtain⟨f0,f1,f2,_⟩:=hf p.1 hb
    obtain⟨o,e',d⟩:=ho p.1 hb
    rw [e] at e';cases e'
    exact⟨e,f0,f1,f2,d⟩
theorem Inv.qDk {pins pl:List (Addr×Obj)} {σ:St} {H:Hp} {s:Shared} (I:Inv X (pins++pl) σ H s):Inv X pins σ H s:=I.qE6 fun p hp=>I.pin p (List.mem_append_right _ (List.mem_append_left _ hp))
theorem qOi {iter:Expr} {body:List Stmt} {wi:TI} {g:TG} {tb:TS} {pos:Pos} (hp:PassesOwn (model X.prog X.w) X.A X.env X.xe) (hc:X.calm=true) (hi:PI X tg iter wi) (hg:PG X tg g) (hb:PSs X body tb)
    (hs:∀ x,foldedSetIterable iter X.env x=pure x:=by intro _;rfl):PS X (.For tg iter body [] pos) (qSK wi g tb):=by
  k_dat 0"r13"
  refine wpAny_For (thn (hi pins s σ H _ I h) fun v s1 h1=>thn h1 fun itv s2 h2=>?_) hs
  obtain⟨it,fp,tn,J,H2,e,I2,T,st2,f2,W,⟨m0,w0⟩,turn⟩:=h2
  subst e
  -- what stays true of the iterator's objects through the loop
  have stat:∀ {H':Hp},(∀ b∈fp,H' b=none)→∀ b∈fp,qFP X pins H' b:=fun hn b hb=>⟨hn b hb,(f2 b hb).2⟩
  refine codeAny_forLoop_any (fun n s'=>∃ i σ' H',Inv X pins σ' H' s'∧tn i s'.heap∧(∀ b∈fp,H' b=none)∧W i n σ' H') ?_ m0 ⟨0,σ,H2,I2,st2,fun b hb=>(f2 b hb).1,w0⟩
  rintro n s3 ⟨i,σ3,H3,I3,st3,fr3,w3⟩
  rcases turn i n σ3 H3 w3 with ⟨stop,qn⟩ | ⟨go,N,hN,step⟩
  · refine wpAny_passesOwn hp (thn (T.done X rfl rfl rfl hc i pins s3 σ3 H3 X.xe I3 (stat fr3) st3 stop) fun r s4 ⟨hr,I4⟩=>?_)
    subst hr
    exact wpAny_execs_nil ⟨σ3,H3,I4,qn⟩
  · refine wpAny_passesOwn hp (thn (T.item X rfl rfl rfl hc i pins s3 σ3 H3 X.xe I3 (stat fr3) st3 go) fun r s4 ⟨u,hr,h4⟩=>?_)
    subst hr
    refine wpAny_passesOwn hp (thn h4 fun _ s5 ⟨x,H5,I5,r5,y5,st5,fr5⟩=>?_)
    have I5':=I5.pinned (stat fr5) (T.obj _ _ st5)
    refine wpAny_passesOwn hp (thn (hg _ s5 σ3 H5 x u _ I5' r5 (step x H5 y5)) fun _ s6 ⟨σ6,H6,I6,q6⟩=>?_)
    refine wpAny_passesOwn hp (thn (hb _ s6 σ6 H6 _ I6 q6) fun f s7 q7=>?_)
    have again:∀ {σ7:St} {H7:Hp},Inv X (pins++qFC fp s5.heap) σ7 H7 s7→N σ7 H7→∃ m,m<n∧∃ i σ' H',Inv X pins σ' H' s7∧tn i s7.heap∧(∀ b∈fp,H' b=none)∧W i m σ' H':=fun {σ7 H7} I7 n7=>by
      obtain⟨m',hm,w7⟩:=hN σ7 H7 n7
      refine⟨m',hm,i+1,σ7,H7,I7.qDk,T.keep _ _ _ st5 fun b hb o e=>(I7.pin (b,o) (List.mem_append_right _ (List.mem_append_right _ (qCR hb e)))).1,fun b hb=>?_,w7⟩
      obtain⟨o,e,d⟩:=T.obj _ _ st5 b hb
      exact (I7.pin (b,o) (List.mem_append_right _ (List.mem_append_right _ (qCR hb e)))).2.1
    cases f with
    | next=>obtain⟨σ7,H7,I7,n7⟩:=q7;exact again I7 n7
    | cont=>obtain⟨σ7,H7,I7,n7⟩:=q7;exact again I7 n7
    | brk=>obtain⟨σ7,H7,I7,q7⟩:=q7;exact⟨σ7,H7,I7.qDk,q7⟩
    | ret v=>obtain⟨x7,σ7,H7,I7,r7,q7⟩:=q7;exact⟨x7,σ7,H7,I7.qDk,r7,q7⟩
end
end L2
namespace L2
open PySem PySem.Spec PyProof.Rows
noncomputable abbrev R2:=V→V→Hp→VK→Prop
def OpR (X:Cx) (f:Value→Value→Sem Value) (r:R2):Prop :=
  ∀ (pins:List (Addr×Obj)) (s:Shared) (σ:St) (H:Hp) (x y:V) (v u:Value) (Q:VK),Inv X pins σ H s→RelV x v→RelV y u→r x y H Q →
    wpAny (model X.prog X.w) X.A (f v u) (EP X pins σ Q) X.xe s
def UnR (X:Cx) (f:Value→Sem Value) (r:V→Hp→VK→Prop):Prop :=
  ∀ (pins:List (Addr×Obj)) (s:Shared) (σ:St) (H:Hp) (x:V) (v:Value) (Q:VK),Inv X pins σ H s→RelV x v→r x H Q →
    wpAny (model X.prog X.w) X.A (f v) (EP X pins σ Q) X.xe s
def qFf (X:Cx) (f:Value) (r:List V→Hp→VK→Prop):Prop :=
  ∀ (pins:List (Addr×Obj)) (s:Shared) (σ:St) (H:Hp) (xs:List V) (us:List Value) (Q:VK),Inv X pins σ H s→Vals xs us→r xs H Q →
    wpAny (model X.prog X.w) X.A (call f us) (EP X pins σ Q) X.xe s
noncomputable def tOp (r:R2) (ta tb:TE):TE:=fun σ H Q=>ta σ H fun x H1=>tb σ H1 fun y H2=>r x y H2 Q
noncomputable def tUn (r:V→Hp→VK→Prop) (ta:TE):TE:=fun σ H Q=>ta σ H fun x H1=>r x H1 Q
noncomputable def rI (C:Int→Int→Prop) (g:Int→Int→V):R2:=fun x y H Q=>∃ i j,x = .int i∧y = .int j∧C i j∧Q (g i j) H
noncomputable def rI0 (g:Int→Int→V):R2:=fun x y H Q=>∃ i j,x = .int i∧y = .int j∧Q (g i j) H
noncomputable def rU (g:Int→V):V→Hp→VK→Prop:=fun x H Q=>∃ i,x = .int i∧Q (g i) H
section
variable {X:Cx} {a b c:Expr} {ta tb tc:TE} {pos:Pos}
theorem qO1 (ha:PE X a ta) (hb:PE X b tb) {pins:List (Addr×Obj)} {s:Shared} {σ:St} {H:Hp} {R:V→V→Hp→Prop} (I:Inv X pins σ H s)
    (h:ta σ H fun x H1=>tb σ H1 fun y H2=>R x y H2) {Q:Value→Shared→Prop} {f:Value→Value→Sem Value}
    (hf:∀ v u s2 x y H2,Inv X pins σ H2 s2→RelV x v→RelV y u→R x y H2→wpAny (model X.prog X.w) X.A (f v u) Q X.xe s2) :
    wpAny (model X.prog X.w) X.A (eval a X.env) (fun v s₁=>wpAny (model X.prog X.w) X.A (eval b X.env) (fun u s₂=>wpAny (model X.prog X.w) X.A (f v u) Q X.xe s₂) X.xe s₁) X.xe s:=by
  refine thn (ha pins s σ H _ I h) fun v s1 ⟨x,H1,I1,r1,q1⟩=>?_
  refine thn (hb pins s1 σ H1 _ I1 q1) fun u s2 ⟨y,H2,I2,r2,q2⟩=>?_
  exact hf v u s2 x y H2 I2 r1 r2 q2
theorem qRw {op:Operator} {r:R2} (ho:OpR X (binaryOp op) r) (ha:PE X a ta) (hb:PE X b tb):PE X (.BinOp a op b pos) (tOp r ta tb):=by
  k_dat 0"r1"
  exact wpAny_BinOp (qO1 ha hb I h fun v u s2 x y H2 I2 rx ry q=>ho pins s2 σ H2 x y v u Q I2 rx ry q)
theorem qRF {op:UnaryOp} {r:V→Hp→VK→Prop} (ho:UnR X (unaryOp op) r) (ha:PE X a ta):PE X (.UnaryOp op a pos) (tUn r ta):=by
  k_dat 0"r1"
  exact UnaryOp_ (thn (ha pins s σ H _ I h) fun v s1 ⟨x,H1,I1,r1,q1⟩=>ho pins s1 σ H1 x v Q I1 r1 q1)
theorem qSX {op:Operator} {r:R2} (ho:OpR X (inplaceOp op) r) {pins:List (Addr×Obj)} {s:Shared} {σ:St} {H:Hp} {x y:V} {v u:Value} {Q:VK} (I:Inv X pins σ H s)
    (rx:RelV x v) (ry:RelV y u) (q:r x y H Q):wpAny (model X.prog X.w) X.A (inplaceOp op v u) (EP X pins σ Q) X.xe s:=ho pins s σ H x y v u Q I rx ry q
theorem opI {f:Value→Value→Sem Value} {C:Int→Int→Prop} {g:Int→Int→Int}
    (rule:∀ (i j:Int) (t u:Tok) (s:Shared) (Q:Value→Shared→Prop) (E:Value→Shared→Prop),C i j→Q (.int (g i j) s.toks) { s with toks:=s.toks+1 }→wpAny (model X.prog X.w) X.A (f (.int i t) (.int j u)) Q E s) :
    OpR X f (rI C fun i j=>.int (g i j)):=by
  k_dat 0"r8"
  obtain⟨i,j,rfl,rfl,hc,q⟩:=h
  obtain⟨t,rfl⟩:=rx
  k_dat 0"r17"
  exact rule i j t t' s _ _ hc ⟨.int (g i j),H,I.tok _,⟨_,rfl⟩,q⟩
theorem qNO {f:Value→Value→Sem Value} {g:Int→Int→Int}
    (rule:∀ (i j:Int) (t u:Tok) (s:Shared) (Q:Value→Shared→Prop) (E:Value→Shared→Prop),Q (.int (g i j) s.toks) { s with toks:=s.toks+1 }→wpAny (model X.prog X.w) X.A (f (.int i t) (.int j u)) Q E s) :
    OpR X f (rI0 fun i j=>.int (g i j)):=by
  k_dat 0"r8"
  obtain⟨i,j,rfl,rfl,q⟩:=h
  obtain⟨t,rfl⟩:=rx
  k_dat 0"r17"
  exact rule i j t t' s _ _ ⟨.int (g i j),H,I.tok _,⟨_,rfl⟩,q⟩
theorem qMy {f:Value→Value→Sem Value} {g:Int→Int→Bool}
    (rule:∀ (i j:Int) (t u:Tok) (s:Shared) (Q:Value→Shared→Prop) (E:Value→Shared→Prop),Q (.bool (g i j)) s→wpAny (model X.prog X.w) X.A (f (.int i t) (.int j u)) Q E s) :
    OpR X f (rI0 fun i j=>.bl (g i j)):=by
  k_dat 0"r8"
  obtain⟨i,j,rfl,rfl,q⟩:=h
  obtain⟨t,rfl⟩:=rx
  k_dat 0"r17"
  exact rule i j t t' s _ _ ⟨.bl (g i j),H,I,rfl,q⟩
def qK7 (i j:Int):Prop:=0<j∧j<1073741824
def qQ4 (i j:Int):Prop:=0≤j∧j≤1000000∧i.natAbs<2 ^ 64
def qKQ (i j:Int):Prop:=(-(2 ^ 64)<i∧i<2 ^ 64)∨(-(2 ^ 64)<j∧j<2 ^ 64)
theorem qKQ.ok {i j:Int} (h:qKQ i j):IntMulOk i j:=by
  rcases h with ⟨h1,h2⟩ | ⟨h1,h2⟩
  · exact .of_left (intBits_le_64 h1 h2)
  · exact .of_right (intBits_le_64 h1 h2)
theorem qJD (k:Nat):(0:Int)≤2 ^ k:=by
  rw [two_pow_cast]
  exact Int.natCast_nonneg _
theorem qOv:OpR X (binaryOp .Add) (rI0 fun i j=>.int (i+j)):=qNO fun _ _ _ _ _ _ _ q=>add_int q
theorem qPs:OpR X (binaryOp .Sub) (rI0 fun i j=>.int (i - j)):=qNO fun _ _ _ _ _ _ _ q=>sub_int q
theorem qPa:OpR X (binaryOp .Mult) (rI qKQ fun i j=>.int (i * j)):=opI fun _ _ _ _ _ _ _ hc q=>mul_int q hc.ok
theorem qMu:OpR X (binaryOp .FloorDiv) (rI qK7 fun i j=>.int (i / j)):=opI fun i j _ _ _ _ _ hc q=>by
  have h1:(0:Int)<j:=hc.1
  have h2:j<1073741824:=hc.2
  exact floordiv_int (by omega) (by rw [Int.fdiv_eq_ediv_of_nonneg i (by omega)];exact q) (.inl (PyProof.noPylong_small (by omega)))
theorem qQC:OpR X (binaryOp .Mod) (rI (fun _ j=>0<j) fun i j=>.int (i%j)):=opI fun i j _ _ _ _ _ hc q=>by
  have h1:(0:Int)<j:=hc
  exact mod_int' (by omega) (by rw [Int.fmod_eq_emod_of_nonneg i (by omega)];exact q)
theorem qPA:OpR X (binaryOp .LShift) (rI qQ4 fun i j=>.int (i * 2 ^ j.toNat)):=opI fun _ _ _ _ _ _ _ hc q=>lshift_int_small hc.1 hc.2.1 hc.2.2 q
theorem qQB:OpR X (binaryOp .RShift) (rI (fun _ j=>0≤j) fun i j=>.int (i / 2 ^ j.toNat)):=opI fun i j _ _ _ _ _ hc q =>
  rshift_int hc (by rw [Int.fdiv_eq_ediv_of_nonneg i (qJD _)];exact q)
theorem qOa:OpR X (binaryOp .BitAnd) (rI0 fun i j=>.int (Builtin.bitAnd i j)):=qNO fun _ _ _ _ _ _ _ q=>and_int q
theorem qNJ:OpR X (inplaceOp .Add) (rI0 fun i j=>.int (i+j)):=qNO fun _ _ _ _ _ _ _ q=>iadd_int q
theorem unI {f:Value→Sem Value} {g:Int→Int}
    (rule:∀ (i:Int) (t:Tok) (s:Shared) (Q:Value→Shared→Prop) (E:Value→Shared→Prop),Q (.int (g i) s.toks) { s with toks:=s.toks+1 }→wpAny (model X.prog X.w) X.A (f (.int i t)) Q E s) :
    UnR X f (rU fun i=>.int (g i)):=by
  intro pins s σ H x v Q I rx h
  obtain⟨i,rfl,q⟩:=h
  obtain⟨t,rfl⟩:=rx
  exact rule i t s _ _ ⟨.int (g i),H,I.tok _,⟨_,rfl⟩,q⟩
theorem qQS:UnR X (unaryOp .USub) (rU fun i=>.int (-i)):=unI fun _ _ _ _ _ q=>neg_int q
end
section
variable {X:Cx} {a b c:Expr} {ta tb tc:TE} {pos:Pos}
theorem qJL {pins:List (Addr×Obj)} {σ:St} {H:Hp} {s:Shared} {Q:VK} {k k':Bool} (I:Inv X pins σ H s) (q:Q (.bl k) H) (e:k=k'):EP X pins σ Q (.bool k') s:=by
  subst e
  exact⟨.bl k,H,I,rfl,q⟩
theorem qOK:OpR X (compareOp .Lt) (rI0 fun i j=>.bl (decide (i<j))):=qMy fun _ _ _ _ _ _ _ q=>lt_int q
theorem qRX:OpR X (compareOp .LtE) (rI0 fun i j=>.bl (decide (i≤j))):=qMy fun _ _ _ _ _ _ _ q=>le_int q
theorem qRy:OpR X (compareOp .Gt) (rI0 fun i j=>.bl (decide (j<i))):=qMy fun _ _ _ _ _ _ _ q=>gt_int q
theorem qRO:OpR X (compareOp .GtE) (rI0 fun i j=>.bl (decide (j≤i))):=qMy fun _ _ _ _ _ _ _ q=>ge_int q
theorem qKL:OpR X (compareOp .In) (fun x y H Q=>∃ i j,x = .str i∧y = .str j∧Q (.bl (!(Builtin.Str.occurrences j i 0 j.length 1).isEmpty)) H):=by
  k_dat 0"r8"
  obtain⟨i,j,rfl,rfl,q⟩:=h
  obtain⟨t,rfl⟩:=rx
  k_dat 0"r17"
  exact in_str (qJL I q rfl)
theorem qK4:OpR X (compareOp .Is) (fun x y H Q=>y = .non∧Q (.bl (decide (x = .non))) H):=by
  k_dat 0"r8"
  obtain⟨rfl,q⟩:=h
  cases ry
  refine is_none_gen (qJL I q ?_)
  cases x<;>first
    | (cases rx;rfl)
    | (obtain⟨t,rfl⟩:=rx;rfl)
theorem qJU:OpR X (compareOp .IsNot) (fun x y H Q=>y = .non∧Q (.bl (!decide (x = .non))) H):=by
  k_dat 0"r8"
  obtain⟨rfl,q⟩:=h
  cases ry
  refine isnot_none_gen (qJL I q ?_)
  cases x<;>first
    | (cases rx;rfl)
    | (obtain⟨t,rfl⟩:=rx;rfl)
theorem qIg (b:Expr) {op:CmpOp} (h:op≠.In:=by decide) (h2:op≠.NotIn:=by decide):behindInMarks op b=false:=by
  have e1:(op==CmpOp.In)=false:=by cases op<;>first | rfl | exact absurd rfl h
  have e2:(op==CmpOp.NotIn)=false:=by cases op<;>first | rfl | exact absurd rfl h2
  cases b<;>simp [behindInMarks,e1,e2]
theorem qN0 {op:CmpOp} {r:R2} (ho:OpR X (compareOp op) r) (ha:PE X a ta) (hb:PE X b tb) (hm:behindInMarks op b=false):PE X (.Compare a [op] [b] pos) (tOp r ta tb):=by
  k_dat 0"r1"
  exact wpAny_Compare1 (qO1 ha hb I h fun v u s2 x y H2 I2 rx ry q=>ho pins s2 σ H2 x y v u Q I2 rx ry q) hm
noncomputable def qOH (t:TE):TT:=fun σ H Q=>t σ H fun x H'=>∃ k,x = .bl k∧Q k H'
theorem qM5 {op:CmpOp} {r:R2} (ho:OpR X (compareOp op) r) (ha:PE X a ta) (hb:PE X b tb) (hm:behindInMarks op b=false):PT X (.Compare a [op] [b] pos) (qOH (tOp r ta tb)):=by
  k_dat 0"r1"
  refine wpAny_isTrue_Compare1 (thn (ha pins s σ H _ I h) fun v s1 ⟨x,H1,I1,r1,q1⟩=>thn (hb pins s1 σ H1 _ I1 q1) fun u s2 ⟨y,H2,I2,r2,q2⟩ =>
    thn (ho pins s2 σ H2 x y v u _ I2 r1 r2 q2) fun c s3 ⟨z,H3,I3,r3,k,e,q3⟩=>?_) hm
  subst e
  cases r3
  exact wpAny_truthy_bool ⟨H3,I3,q3⟩
noncomputable def qLb (r r':R2) (ta tb tc:TE):TE:=fun σ H Q=>ta σ H fun x H1=>tb σ H1 fun y H2=>r x y H2 fun z H3=>∃ k,z = .bl k ∧
  (if k=true then tc σ H3 fun w' H4=>r' y w' H4 Q else Q (.bl false) H3)
theorem qL9 {op op':CmpOp} {r r':R2} (ho:OpR X (compareOp op) r) (ho':OpR X (compareOp op') r') (ha:PE X a ta) (hb:PE X b tb) (hc:PE X c tc)
    (hm:lastMarks [op,op'] [b,c]=false:=by with_unfolding_all rfl):PT X (.Compare a [op,op'] [b,c] pos) (qOH (qLb r r' ta tb tc)):=by
  k_dat 0"r1"
  refine isTrue_chain (thn (ha pins s σ H _ I h) fun v s1 ⟨x,H1,I1,r1,q1⟩=>test_link (thn (hb pins s1 σ H1 _ I1 q1) fun u s2 ⟨y,H2,I2,r2,q2⟩ =>
    thn (ho pins s2 σ H2 x y v u _ I2 r1 r2 q2) fun d s3 ⟨z,H3,I3,r3,k,e,q3⟩=>?_)) hm
  subst e
  cases r3
  refine wpAny_truthy_bool ?_
  cases k with
  | false =>
    obtain⟨k',e',q'⟩:=q3
    cases e'
    exact ite_ff ⟨H3,I3,q'⟩
  | true =>
    refine ite_tt (test_last (thn (hc pins s3 σ H3 _ I3 q3) fun w' s4 ⟨z',H4,I4,r4,q4⟩=>thn (ho' pins s4 σ H4 y z' u w' _ I4 r2 r4 q4) fun d' s5 ⟨z2,H5,I5,r5,k2,e2,q5⟩=>?_))
    subst e2
    cases r5
    exact wpAny_truthy_bool ⟨H5,I5,q5⟩
theorem qDw:(sizeLine:Nat)<2 ^ 63:=by rw [sizeLine_eq];decide
theorem qJE:OpR X (binaryOp .Add) (fun x y H Q=>∃ i j,x = .str i∧y = .str j∧i.length+j.length≤sizeLine∧Q (.str (i++j)) H):=by
  k_dat 0"r8"
  obtain⟨i,j,rfl,rfl,hz,q⟩:=h
  obtain⟨t,rfl⟩:=rx
  k_dat 0"r17"
  exact add_str (fun t' tk=>⟨.str (i++j),H,I.tok _,⟨_,rfl⟩,q⟩) hz
theorem vals1 {x:V} {us:List Value} (r:Vals [x] us):∃ u,us=[u]∧RelV x u:=by
  cases r with
  | cons r1 r2=>cases r2;exact⟨_,rfl,r1⟩
theorem vals2 {x y:V} {us:List Value} (r:Vals [x,y] us):∃ u w',us=[u,w']∧RelV x u∧RelV y w':=by
  cases r with
  | cons r1 r2 =>
    cases r2 with
    | cons r3 r4=>cases r4;exact⟨_,_,rfl,r1,r3⟩
theorem qGm:qFf X (.type "int") (fun xs H Q=>(∃ i,xs=[.int i]∧Q (.int i) H)∨∃ k,xs=[.bl k]∧Q (.int (if k then 1 else 0)) H):=by
  intro pins s σ H xs us Q I r h
  rcases h with ⟨i,rfl,q⟩ | ⟨k,rfl,q⟩
  · obtain⟨u,rfl,t,rfl⟩:=vals1 r
    exact call_int_int ⟨.int i,H,I,⟨_,rfl⟩,q⟩
  · obtain⟨u,rfl,r1⟩:=vals1 r
    cases r1
    exact call_int_bool ⟨.int (if k then 1 else 0),H,I.tok _,⟨_,rfl⟩,q⟩
end
end L2
namespace L2
open PySem PySem.Spec PyProof.Rows
structure qIk (h:Heap) (x dx C:Addr) (mA:Str→Option Value):Prop where
  obj:h.get? x=some (W.instObj C dx)
  ns:h.Ns1 dx mA
  ne:dx≠x
theorem qKA {h:Heap} {dx:Addr} {mA:Str→Option Value} (n:h.Ns1 dx mA):∃ od,h.get? dx=some od∧∀ name,W.lookIn name od=some (mA name):=by
  obtain⟨o,es,ep,ho,hd,hk,_,hm⟩:=n
  refine⟨o,ho,fun name=>?_⟩
  have e:=hm name
  unfold nsFind findBy at e
  rw [← Array.find?_toList] at e
  unfold W.lookIn
  rw [hd]
  dsimp only
  split
  · rename_i y q
    rw [q] at e
    exact congrArg some e
  · rename_i q
    rw [q] at e
    have a:es.toList.any (·.refKey)=false:=by
      rw [List.any_eq_false]
      intro y hy
      obtain⟨z,t,hkey⟩:=hk y (Array.mem_toList_iff.mp hy)
      simp [DictEntry.refKey,hkey]
    have a':¬ es.toList.any (·.refKey)=true:=by rw [a];exact Bool.false_ne_true
    rw [if_neg a']
    exact congrArg some e
theorem qIk.look {h:Heap} {x dx C:Addr} {mA:Str→Option Value} (I:qIk h x dx C mA):∃ od,W.InstAt h x (W.instObj C dx) C (some od)∧∀ name,W.lookIn name od=some (mA name) :=
  let ⟨od,ho,hl⟩:=qKA I.ns
  ⟨od,⟨I.obj,rfl,rfl,ho⟩,hl⟩
section
variable {prog:Program} {w:World} {A:Around} {E:Value→Shared→Prop} {s:Shared} {K:W.Frag} {x dx C f:Addr} {mA:Str→Option Value} {name:Str} {v:Value}
theorem get_map {expr:Bool} {Q:Value→Shared→Prop} (X:K.In s.heap) (I:qIk s.heap x dx C mA) (hg:W.plainGet K C name=true) (hh:W.hasDictIn K C=true)
    (ha:W.findIn K (.ref C) name=some none) (hv:mA name=some v) (hv':W.handedIn v=true) (h:Q v { s with toks:=s.toks+1 }) :
    wpAny (model prog w) A (getAttr (.ref x) name expr) Q E s:=by
  obtain⟨od,J,hl⟩:=I.look
  exact W.get_value X J (W.plainGet_of hg).1 (W.findObj_own hh ha rfl (by rw [hl,hv])) hv' h
theorem qL0 {pl:Sem Bool} {Q:Value×List Value→Shared→Prop} (X:K.In s.heap) (I:qIk s.heap x dx C mA) (hg:W.plainGet K C name=true)
    (hf:W.findIn K (.ref C) name=some (some (.ref f))) (ht:W.isFn K (.ref f)=true) (hv:mA name=none) (h:Q (.ref f,[.ref x]) s) :
    wpAny (model prog w) A (getMethod (.ref x) name pl) Q E s:=by
  obtain⟨od,J,hl⟩:=I.look
  exact W.method_fn X J (W.plainGet_of hg).1 (W.plainGet_of hg).2 hf (beq_iff_eq.mp ht) (by show (W.lookIn name od).map (·.isSome)=some false;rw [hl,hv];rfl) h
theorem qNj {ns:List Str} {Q:Unit→Shared→Prop} (X:K.In s.heap) (I:qIk s.heap x dx C mA)
    (hs:W.findIn K (.ref C) "__setattr__" = some (some (.builtin "object.__setattr__"))) (hp:W.plainOver K C=true) (ht:W.takerIn K C name=some none) (hh:W.hasDictIn K C=true)
    (hw:PySem.Within mA ns) (hsz:ns.length≤sizeLine)
    (h:∀ h',qIk h' x dx C (fun y=>if y=name then some v else mA y)→Heap.SameBut dx s.heap h'→Q () { s with heap:=h',toks:=s.toks+2 }) :
    wpAny (model prog w) A (setAttr (.ref x) name v) Q E s:=by
  obtain⟨od,J,hl⟩:=I.look
  refine W.set_plain X J hs (W.osa_open (s:={ s with toks:=s.toks+1 }) (r:=none) X J hp ht fun b=>?_)
  obtain⟨cd,hc,hd'⟩:=W.any_some hh
  have hx:s.heap.get? x=some ⟨.ref C,some dx,.plain,#[]⟩:=I.obj
  refine wpAny_bind (wpAny_pure (wpAny_bind (wpAny_bind (wpAny_loadPart hx (wpAny_bind (W.Looks.here (s:={ s with toks:=s.toks+1 }) (W.looks_clsIn X hc) ?_))))))
  rw [hd']
  refine wpAny_pure (a:=some dx) (wpAny_bind (wpAny_pure (wpAny_bind ?_)))
  refine wpAny_nsSet1 (s:={ s with toks:=s.toks+1 }) I.ns fun h' hn2 hs2=>?_
  obtain⟨oD,esD,epD,hoD,hdD,hcD⟩:=hn2.count (PySem.Within.cons name v hw)
  refine wpAny_bind (wpAny_lookBehind hoD (by rw [hdD];exact pastItsLine_dict (Nat.le_trans hcD (by rw [List.length_cons];omega))) ?_)
  exact wpAny_pure (h _ ⟨(hs2.2 _ (Ne.symm I.ne)).trans I.obj,hn2,I.ne⟩ hs2)
theorem qLE {R:Result→Shared→Prop} {vs:List Value} {kw:List (Str×Value)} (X:K.In s.heap) (hm:W.makesIn K C=true)
    (hi:W.findIn K (.ref C) "__init__" = some (some (.ref f))) (hf:W.typeIn K (.ref f)=some (.type "function"))
    (h:codeAny (model prog w) (A.under (.builtin "type.__call__" ⟨.ref C::vs,kw⟩)) (.call (.ref f) ⟨.ref (s.heap.objs.size+1)::vs,kw⟩) (W.InitBack (s.heap.objs.size+1) R)
      { s with heap:=(s.heap.push W.emptyDict).push (W.instObj C s.heap.objs.size) }) :
    codeAny (model prog w) A (.call (.ref C) ⟨vs,kw⟩) R s:=by
  obtain⟨hh,g,d,t,os⟩:=s
  exact W.make_core (W.makes_of X hm) (W.looks_findIn X hi) (fun self=>W.bind_fn X self hf) (.inl rfl) h
end
noncomputable def qCb (f:Str) (v:V):List (Str×V)→List (Str×V)
  | []=>[(f,v)]
  | (g,x)::r=>if g=f then (g,v)::r else (g,x)::qCb f v r
theorem qEV (f g:Str) (v:V):∀ fs:List (Str×V),(qCb f v fs).lookup g=if g=f then some v else fs.lookup g
  | []=>by
    show List.lookup g [(f,v)]=_
    by_cases h:g=f
    · have hb:(g==f)=true:=beq_iff_eq.mpr h
      simp only [List.lookup,hb,if_pos h]
    · have hb:(g==f)=false:=beq_eq_false_iff_ne.mpr h
      simp only [List.lookup,hb,if_neg h]
  | (k, x)::r=>by
    have ih:=qEV f g v r
    k_dat 0"r75"
    by_cases hk:k=f
    · rw [if_pos hk]
      by_cases h:g=k
      · have hb:(g==k)=true:=beq_iff_eq.mpr h
        simp only [List.lookup,hb,if_pos (h.trans hk)]
      · have hb:(g==k)=false:=beq_eq_false_iff_ne.mpr h
        simp only [List.lookup,hb,if_neg (fun e:g=f=>h (e.trans hk.symm))]
    · rw [if_neg hk]
      by_cases h:g=k
      · have hb:(g==k)=true:=beq_iff_eq.mpr h
        simp only [List.lookup,hb,if_neg (fun e:g=f=>hk (h.symm.trans e))]
      · have hb:(g==k)=false:=beq_eq_false_iff_ne.mpr h
        simp only [List.lookup,hb]
        exact ih
theorem qER (f:Str) (v:V):∀ fs:List (Str×V),f∈(qCb f v fs).map (·.1)∧∀ g,g∈fs.map (·.1)→g∈(qCb f v fs).map (·.1)
  | []=>⟨by simp [qCb],fun g h=>by simp at h⟩
  | (k, x)::r=>by
    obtain⟨i1,i2⟩:=qER f v r
    k_dat 0"r75"
    by_cases hk:k=f
    · rw [if_pos hk]
      subst hk
      exact⟨by simp,fun g h=>by simpa using h⟩
    · rw [if_neg hk]
      refine⟨?_,fun g h=>?_⟩
      · rw [List.map_cons]
        exact List.mem_cons_of_mem _ i1
      · rw [List.map_cons] at h ⊢
        rcases List.mem_cons.mp h with e | e
        · exact List.mem_cons.mpr (.inl e)
        · exact List.mem_cons_of_mem _ (i2 g e)
theorem qEX (f:Str) (v:V):∀ fs:List (Str×V),(qCb f v fs).length≤fs.length+1
  | []=>by simp [qCb]
  | (k,x)::r=>by
    have ih:=qEX f v r
    k_dat 0"r75"
    by_cases hk:k=f
    · rw [if_pos hk,List.length_cons,List.length_cons];omega
    · rw [if_neg hk,List.length_cons,List.length_cons];omega
theorem qC6.some_of {v:V} {o:Option Value} (r:qC6 (some v) o):∃ u,o=some u∧RelV v u:=by
  cases o with
  | none=>exact (show False from r).elim
  | some u=>exact⟨u,rfl,r⟩
theorem qC6.none_of {o:Option Value} (r:qC6 none o):o=none:=by
  cases o with
  | none=>rfl
  | some u=>exact (show False from r).elim
theorem qKj {v:V} {u:Value} (r:RelV v u):W.handedIn u=true:=by
  cases v with
  | non=>cases (show u=Value.none from r);rfl
  | bl b=>cases (show u=Value.bool b from r);rfl
  | int i=>obtain⟨t,e⟩:=(show ∃ t,u=Value.int i t from r);cases e;rfl
  | str x=>obtain⟨t,e⟩:=(show ∃ t,u=Value.str x t from r);cases e;rfl
  | byt b=>obtain⟨t,e⟩:=(show ∃ t,u=Value.bytes b t from r);cases e;rfl
  | flt b=>obtain⟨t,e⟩:=(show ∃ t,u=Value.float b t from r);cases e;rfl
  | ref a=>cases (show u=Value.ref a from r);rfl
  | ty n=>cases (show u=Value.type n from r);rfl
section
variable {P:Program} {w:World} {H H':Hp} {h h':Heap} {a C dx:Addr} {fs fs':List (Str×V)}
theorem qGv (hok:HOk P w H h) (e:H a=some (.ins C dx fs)):∃ mA,qIk h a dx C mA∧(∀ f,qC6 (fs.lookup f) (mA f))∧PySem.Within mA (fs.map (·.1))∧fs.length≤1000∧H dx=some (.own a):=by
  obtain⟨d,z,ne,ob,mA,n,r,q⟩:=(show qAl P w H h a (.ins C dx fs) from hok a _ e)
  exact⟨mA,⟨ob,n,ne⟩,r,q,z,d⟩
end
structure Cls (K:W.Frag) (C:Addr):Prop where
  pg:W.plainGet K C Str.empty=true
  hd:W.hasDictIn K C=true
  po:W.plainOver K C=true
  sa:W.findIn K (.ref C) "__setattr__" = some (some (.builtin "object.__setattr__"))
theorem Cls.get {K:W.Frag} {C:Addr} (c:Cls K C) (f:Str):W.plainGet K C f=true:=c.pg
def qDL (K:W.Frag) (C:Addr) (f:Str):Prop:=W.findIn K (.ref C) f=some none
theorem qDL.qRp {K:W.Frag} {C:Addr} {f:Str} (n:qDL K C f):W.takerIn K C f=some none:=by
  unfold W.takerIn
  rw [show W.findIn K (.ref C) f=some none from n]
  rfl
structure Meth (K:W.Frag) (C:Addr) (m:Str) (f:Addr):Prop where
  at_:W.findIn K (.ref C) m=some (some (.ref f))
  fn:W.isFn K (.ref f)=true
  kp:W.keepIn K (.ref f)=true
section
variable {X:Cx} {pins:List (Addr×Obj)} {σ:St} {H:Hp} {s:Shared} {a C dx:Addr} {fs:List (Str×V)} {f:Str} {v:V} {A:Around} {E:Value→Shared→Prop}
theorem qJB {b:Bool} {Q:Value→Shared→Prop} (I:Inv X pins σ H s) (e:H a=some (.ins C dx fs)) (c:Cls X.K C) (n:qDL X.K C f) (l:fs.lookup f=some v)
    (h:∀ u s',Inv X pins σ H s'→RelV v u→Q u s'):wpAny (model X.prog X.w) A (getAttr (.ref a) f b) Q E s:=by
  obtain⟨mA,O,r,_,_,_⟩:=qGv I.hok e
  obtain⟨u,hu,ru⟩:=qC6.some_of (v:=v) (o:=mA f) (by rw [← l];exact r f)
  exact get_map I.kIn O (c.get f) c.hd n hu (qKj ru) (h u _ (I.tok _) ru)
theorem qIc {m:Str} {g:Addr} {pl:Sem Bool} {Q:Value×List Value→Shared→Prop} (I:Inv X pins σ H s) (e:H a=some (.ins C dx fs)) (c:Cls X.K C) (k:Meth X.K C m g) (l:fs.lookup m=none)
    (h:Q (.ref g,[.ref a]) s):wpAny (model X.prog X.w) A (getMethod (.ref a) m pl) Q E s:=by
  obtain⟨mA,O,r,_,_,_⟩:=qGv I.hok e
  have hn:mA m=none:=qC6.none_of (by rw [← l];exact r m)
  exact qL0 I.kIn O (c.get m) k.at_ k.fn hn h
theorem qJP {y:V} {u:Value} {Q:Unit→Shared→Prop} (I:Inv X pins σ H s) (e:H a=some (.ins C dx fs)) (c:Cls X.K C) (n:qDL X.K C f) (hl:fs.length<1000) (ry:RelV y u)
    (h:∀ s',Inv X pins σ (upd H a (.ins C dx (qCb f y fs))) s'→Q () s'):wpAny (model X.prog X.w) A (setAttr (.ref a) f u) Q E s:=by
  obtain⟨mA,O,r,wi,_,ho⟩:=qGv I.hok e
  have hz:(fs.map (·.1)).length≤sizeLine:=by rw [List.length_map,sizeLine_eq];omega
  refine qNj I.kIn O c.sa c.po n.qRp c.hd wi hz fun h' O' sb=>h _ ?_
  have hd:∃ o,h'.get? dx=some o:=let ⟨o,_,_,e',_⟩:=O'.ns;⟨o,e'⟩
  refine I.write (x:=a) (e:=dx) (by rw [e];exact True.intro) (.inr ho) (fun b q hb z=>(sb.2 b hb).trans z) hd ?_
  refine⟨by rw [qM O.ne];exact ho,?_,O.ne,O'.obj,_,O'.ns,fun g=>?_,fun g hg=>?_⟩
  · have:=qEX f y fs;omega
  · show qC6 ((qCb f y fs).lookup g) (if g=f then some u else mA g)
    rw [qEV]
    by_cases q:g=f
    · rw [if_pos q,if_pos q];exact ry
    · rw [if_neg q,if_neg q];exact r g
  · by_cases q:g=f
    · rw [q];exact (qER f y fs).1
    · refine (qER f y fs).2 g (wi g fun z=>hg ?_)
      show (if g=f then some u else mA g)=none
      rw [if_neg q];exact z
theorem Inv.made (I:Inv X pins σ H s):Inv X pins σ (upd (upd H s.heap.objs.size (.own (s.heap.objs.size+1))) (s.heap.objs.size+1) (.ins C s.heap.objs.size []))
    { s with heap:=(s.heap.push W.emptyDict).push (W.instObj C s.heap.objs.size) }:=by
  have e1:(s.heap.push W.emptyDict).get? s.heap.objs.size=some W.emptyDict:=Heap.get?_push_size s.heap rfl
  have e2:((s.heap.push W.emptyDict).push (W.instObj C s.heap.objs.size)).get? (s.heap.objs.size+1)=some (W.instObj C s.heap.objs.size):=by
    have:=Heap.get?_push_size (s.heap.push W.emptyDict) (o:=W.instObj C s.heap.objs.size) rfl
    rwa [Heap.size_push] at this
  have e3:(s.heap.push W.emptyDict).Ns s.heap.objs.size (fun _=>none):=⟨W.emptyDict,#[],_,e1,rfl,(fun e he=>absurd he (by simp)),fun _=>rfl⟩
  have I1:=I.laid (a:=s.heap.objs.size) (o:=.own (s.heap.objs.size+1)) (h':=s.heap.push W.emptyDict) (t':=s.toks) (fun b u q=>Heap.get?_push_of_some _ q) (Nat.le_refl _) ⟨_,e1⟩
  refine I1.laid (a:=s.heap.objs.size+1) (o:=.ins C s.heap.objs.size []) (t':=s.toks) (fun b u q=>Heap.get?_push_of_some _ q) (Nat.le_of_eq (Heap.size_push _ _)) ?_
  have ne:s.heap.objs.size≠s.heap.objs.size+1:=Nat.ne_of_lt (Nat.lt_succ_self _)
  refine⟨by rw [qM ne,qY],Nat.zero_le _,ne,e2,fun _=>none,(Heap.Ns1.of_empty e3).at fun o q=>Heap.get?_push_of_some _ q,fun _=>True.intro,fun y hy=>absurd rfl hy⟩
theorem qN2 {prog:Program} {w:World} {env:Env} {e:Expr} {f:Str} {pos:Pos} {s:Shared} {Q:Value→Shared→Prop} (hb:attributeBase e f env (eval e env)=eval e env)
    (h:wpAny (model prog w) A (eval e env) (fun o s₁=>wpAny (model prog w) A (getAttr o f true) Q E s₁) E s):wpAny (model prog w) A (eval (.Attribute e f pos) env) Q E s :=
  Attribute_any_ h (by rw [arm_eval_Attribute,hb])
end
noncomputable def qSw (K:W.Frag) (ta:TE) (f:Str):TE:=fun σ H Q=>ta σ H fun x H1=>∃ a C dx fs v,x = .ref a∧H1 a=some (.ins C dx fs)∧Cls K C∧qDL K C f∧fs.lookup f=some v∧Q v H1
noncomputable def qSk (K:W.Frag) (ta tv:TE) (f:Str):TS:=fun D σ H=>tv σ H fun y H1=>ta σ H1 fun x H2=>∃ a C dx fs,x = .ref a∧H2 a=some (.ins C dx fs)∧Cls K C∧qDL K C f∧fs.length<1000 ∧
  D.nx σ (upd H2 a (.ins C dx (qCb f y fs)))
section
variable {X:Cx} {o e value:Expr} {f:Str} {pos pos' tpos:Pos} {ta tv:TE}
theorem qQg (he:PE X e ta) (hb:attributeBase e f X.env (eval e X.env)=eval e X.env):PE X (.Attribute e f pos) (qSw X.K ta f):=by
  k_dat 0"r1"
  refine qN2 hb (thn (he pins s σ H _ I h) fun u s1 ⟨x,H1,I1,rx,a,C,dx,fs,v,ex,ea,c,n,l,q⟩=>?_)
  subst ex
  obtain rfl:u=Value.ref a:=rx
  exact qJB I1 ea c n l fun u' s2 I2 ru=>⟨v,H1,I2,ru,q⟩
theorem qQu (ha:PE X o ta) (hv:PE X value tv) (hs:swapsWith value (some (.Attribute o f pos')) pos.line X.env=pure false):PS X (.Assign [.Attribute o f pos'] value pos) (qSk X.K ta tv f):=by
  k_dat 0"r13"
  refine plainObj_wpAny_Assign_Attribute (thn (hv pins s σ H _ I h) fun u s1 ⟨y,H1,I1,ry,q⟩=>thn (ha pins s1 σ H1 _ I1 q) fun ov s2 ⟨x,H2,I2,rx,a,C,dx,fs,ex,ea,c,n,l,q2⟩=>?_) hs
  subst ex
  obtain rfl:ov=Value.ref a:=rx
  exact qJP I2 ea c n l ry fun s3 I3=>⟨σ,_,I3,q2⟩
end
end L2
namespace L2
open PySem PySem.Spec PyProof.Rows
structure qAd (k:Nat) (A:Around):Prop where
  hd:A.handled=none
  dp:A.depth+3 * k+5<recursionLimit
  un:A.units+16 * k+200<cLine
theorem qAd.mono {j k:Nat} {A:Around} (r:qAd k A) (h:j≤k):qAd j A:=⟨r.hd,by have:=r.dp;omega,by have:=r.un;omega⟩
theorem qAd.deeper {k:Nat} {A:Around} (r:qAd (k+1) A) (env:Env):qAd k (A.deeper env) :=
  ⟨r.hd,by have:=r.dp;show A.depth+1+3 * k+5<_;omega,by have:=r.un;show A.units+3+16 * k+200<_;omega⟩
theorem qAd.in1 {k:Nat} {A:Around} (r:qAd (k+1) A):qAd k A.in1 :=
  ⟨r.hd,by have:=r.dp;show A.depth+3 * k+5<_;omega,by have:=r.un;show A.units+1+16 * k+200<_;omega⟩
theorem qIq {A:Around} {C:Addr} {us:List Value} {kw:List (Str×Value)}:(A.under (.builtin "type.__call__" ⟨.ref C::us,kw⟩)).depth=A.depth+1:=by
  first | rfl | simp [Around.under,Code.weight,Code.isCreation,Code.isGuard,Code.isCaller,Code.frames,Code.isFrame,guardIds]
theorem qIh {A:Around} {C:Addr} {us:List Value} {kw:List (Str×Value)}:(A.under (.builtin "type.__call__" ⟨.ref C::us,kw⟩)).units=A.units+1:=by
  first | rfl | simp [Around.under,Code.cUnits,Code.frames,Code.isFrame]
theorem qAd.make {k:Nat} {A:Around} (r:qAd (k+1) A) (C:Addr) (us:List Value) (kw:List (Str×Value)):qAd k (A.under (.builtin "type.__call__" ⟨.ref C::us,kw⟩)) :=
  ⟨r.hd,by have:=r.dp;rw [qIq];omega,by have:=r.un;rw [qIh];omega⟩
theorem qAd.depth {k:Nat} {A:Around} (r:qAd k A):A.depth<recursionLimit:=by have:=r.dp;omega
theorem qAd.units {k:Nat} {A:Around} (r:qAd k A):A.units+64<cLine:=by have:=r.un;omega
noncomputable def qRq:TA:=fun _ H Q=>Q [] H
noncomputable def qOF (ta:TE) (tr:TA):TA:=fun σ H Q=>ta σ H fun x H1=>tr σ H1 fun xs H2=>Q (x::xs) H2
section
variable {X:Cx} {e:Expr} {es:List Expr} {te:TE} {t:TA} {pos:Pos}
theorem qQY:PA X [] qRq:=fun _ _ _ _ H Q I h=>Calls.spliced_nil ⟨[],H,I,.nil,h⟩
theorem qNP (ha:PE X e te) (hr:PA X es t) (hs:starEach (e::es) X.env=(false,eval e X.env)::starEach es X.env:=by rfl):PA X (e::es) (qOF te t):=by
  intro pos pins s σ H Q I h
  rw [hs]
  show wpAny _ _ (spliced ((false,eval e X.env)::backTo pos (starEach es X.env))) _ _ s
  refine Calls.spliced_cons (thn (ha pins s σ H _ I h) fun u s1 ⟨x,H1,I1,r1,q1⟩=>?_)
  k_dat 0"r92"
noncomputable def qSg (t:TA):TE:=fun σ H Q=>t σ H fun xs H1=>xs.length≤sizeLine∧∀ p,H1 p=none→Q (.ref p) (upd H1 p (.tup xs))
noncomputable def qSp (t:TA):TE:=fun σ H Q=>t σ H fun xs H1=>xs.length≤sizeLine∧∀ p,H1 p=none→Q (.ref p) (upd H1 p (.lst xs))
theorem qOy {x1} (h:PA X es t):PE X (.Tuple es x1 pos) (qSg t):=by
  intro pins s σ H Q I hq
  refine wpAny_Tuple_spliced (thn (h pos pins s σ H _ I hq) fun us s1 ⟨xs,H1,I1,r,z,q⟩=>⟨by rw [← r.length];exact z,?_⟩)
  have hf:H1 s1.heap.objs.size=none:=I1.hok.fresh (Nat.le_refl _)
  refine⟨.ref s1.heap.objs.size,upd H1 s1.heap.objs.size (.tup xs),I1.laid (t':=s1.toks) (fun b u e=>Heap.get?_push_of_some _ e) (Nat.le_refl _) ?_,rfl,q _ hf⟩
  exact⟨z,us,r,⟨_,Heap.get?_push_size _ rfl,rfl,_,rfl⟩⟩
theorem qOk (h:PA X es t):PE X (.List es pos) (qSp t):=by
  intro pins s σ H Q I hq
  refine wpAny_List_spliced (thn (h pos pins s σ H _ I hq) fun us s1 ⟨xs,H1,I1,r,z,q⟩=>⟨by rw [← r.length];exact z,?_⟩)
  have hf:H1 s1.heap.objs.size=none:=I1.hok.fresh (Nat.le_refl _)
  refine⟨.ref s1.heap.objs.size,upd H1 s1.heap.objs.size (.lst xs),I1.laid (t':=s1.toks) (fun b u e=>Heap.get?_push_of_some _ e) (Nat.le_refl _) ?_,rfl,q _ hf⟩
  exact⟨z,us,0,r,Heap.get?_push_size _ rfl⟩
end
noncomputable abbrev Sp:=List V→Hp→VK→XK→Prop
noncomputable abbrev CXT:=List Env→Hp→Shared→XK→Value→Shared→Prop
structure qF9 (P:Program) (w:World) (K:W.Frag) (mg:Str→Option Value) (base:Heap) (A:Around) (outer:List Env) (s:Shared) (H:Hp):Prop where
  frames:A.frames=some outer
  mod:Mod K mg base
  bs:∀ b o,base.get? b=some o→s.heap.get? b=some o∧H b=none
  bsz:base.objs.size≤s.heap.objs.size
  qD5:s.heap.FunFrames base outer
  frf:∀ b∈frs outer,H b=none
  hok:HOk P w H s.heap
  bare:AllBare s.gens
def CE (outer:List Env) (P:Program) (w:World) (H:Hp) (s:Shared) (Q:VK) (u:Value) (s':Shared):Prop :=
  ∃ v H',s'.os=s.os∧AllBare s'.gens∧Un (frs outer) [] H H' s.heap s'.heap∧HOk P w H' s'.heap∧RelV v u∧Q v H'
def CR (CX:CXT) (outer:List Env) (P:Program) (w:World) (H:Hp) (s:Shared) (Q:VK) (E:XK) (r:Result) (s':Shared):Prop :=
  match r with
  | .ok (.ret u)=>CE outer P w H s Q u s'
  | .ok _=>False
  | .error e=>CX outer H s E e s'
structure qx (P:Program) (w:World) (K:W.Frag) (mg:Str→Option Value) (base:Heap) (CX:CXT) (k:Nat) (f:Addr) (fd:FuncData) (ps:List Str) (sp:Sp):Prop where
  len:∀ vs H Q E,sp vs H Q E→vs.length=ps.length
  run:∀ (A:Around) (outer:List Env) (s:Shared) (H:Hp) (args:Args) (us:List Value) (vs:List V) (Q:VK) (E:XK),qAd k A→qF9 P w K mg base A outer s H→BindsTo s fd args (ps.zip us)→Vals vs us→sp vs H Q E →
    codeAny (model P w) A (.call (.ref f) args) (CR CX outer P w H s Q E) s
theorem qF9.make {P:Program} {w:World} {K:W.Frag} {mg:Str→Option Value} {base:Heap} {A:Around} {outer:List Env} {s:Shared} {H:Hp} (e:qF9 P w K mg base A outer s H) (C:Addr) (us:List Value) (kw:List (Str×Value)) :
    qF9 P w K mg base (A.under (.builtin "type.__call__" ⟨.ref C::us,kw⟩)) outer s H:=⟨by first | exact e.frames | (simpa [Around.under,Code.envs,Code.isFrame,pushEnvs] using e.frames),e.mod,e.bs,e.bsz,e.qD5,e.frf,e.hok,e.bare⟩
theorem qF9.in1 {P:Program} {w:World} {K:W.Frag} {mg:Str→Option Value} {base:Heap} {A:Around} {outer:List Env} {s:Shared} {H:Hp} (e:qF9 P w K mg base A outer s H) :
    qF9 P w K mg base A.in1 outer s H:=⟨e.frames,e.mod,e.bs,e.bsz,e.qD5,e.frf,e.hok,e.bare⟩
section
variable {X:Cx} {pins:List (Addr×Obj)} {σ:St} {H:Hp} {s s':Shared}
theorem Inv.qSB (I:Inv X pins σ H s):qF9 X.prog X.w X.K X.mg X.base X.A X.stack s H :=
  ⟨I.ok.frames,I.ok.mod,I.bs,Nat.le_trans I.ok.bsz I.sz,I.stack,I.qJo,I.hok,I.bare⟩
theorem Inv.after {Q:VK} {u:Value} (I:Inv X pins σ H s) (h:CE X.stack X.prog X.w H s Q u s'):EP X pins σ Q u s':=by
  obtain⟨v,H',os,bare,un,hok,r,q⟩:=h
  obtain⟨hh,g,d,t,os'⟩:=s'
  obtain rfl:os'=s.os:=os
  exact⟨v,H',I.call (h':=hh) (g':=g) (d':=d) (t':=t) (ch:=[]) un hok bare (fun b z=>absurd z (by simp)),r,q⟩
end
noncomputable def qRB (sp:Sp) (dvs:List V) (E:XK) (t:TA):TE:=fun σ H Q=>t σ H fun vs H1=>sp (vs++dvs) H1 Q E
noncomputable def qOL (C:Addr) (m:Str) (sp:Sp) (dvs:List V) (E:XK) (ta:TE) (t:TA):TE:=fun σ H Q=>ta σ H fun x H1=>∃ a dx fs,x = .ref a∧H1 a=some (.ins C dx fs)∧fs.lookup m=none ∧
  t σ H1 fun vs H2=>sp (x::(vs++dvs)) H2 Q E
noncomputable def qOC (K:W.Frag) (C:Addr) (sp:Sp) (dvs:List V) (E:XK) (t:TA):TE:=fun σ H Q=>t σ H fun vs H1=>∀ x dx,H1 x=none→H1 dx=none→dx≠x→K.lookup x=none →
  sp (.ref x::(vs++dvs)) (upd (upd H1 dx (.own x)) x (.ins C dx [])) (fun v H2=>v = .non∧Q (.ref x) H2) E
def Binds (K:W.Frag) (fd:FuncData) (ps:List Str) (ds:List Value):Prop :=
  ∀ (s:Shared) (us:List Value),K.In s.heap→(us++ds).length=ps.length→BindsTo s fd ⟨us,[]⟩ (ps.zip (us++ds))
theorem Binds.all {K:W.Frag} {fd:FuncData} {ps:List Str} (h:∀ us:List Value,us.length=ps.length→bindArgs fd ⟨us,[]⟩=pure (ps.zip us)):Binds K fd ps []:=fun s us _ hl=>by
  rw [List.append_nil] at hl ⊢
  exact .of_eq (h us hl)
def Passes (CX:CXT) (X:Cx) (E:XK):Prop:=∀ (pins:List (Addr×Obj)) (σ:St) (H:Hp) (s:Shared) (e:Value) (s':Shared),Inv X pins σ H s→CX X.stack H s E e s'→X.xe e s'
section
variable {X:Cx} {CX:CXT} {k:Nat} {f C:Addr} {fd:FuncData} {ps:List Str} {sp:Sp} {dvs:List V} {ds:List Value} {E:XK} {x m:Str} {p pos apos:Pos} {e o:Expr} {es:List Expr} {ta:TE} {t:TA}
theorem qME {pins:List (Addr×Obj)} {σ:St} {H:Hp} {s:Shared} {Q:VK} {us:List Value} {vs:List V} (F:qx X.prog X.w X.K X.mg X.base CX k f fd ps sp) (hr:qAd k X.A) (hb:Binds X.K fd ps ds) (hd:Vals dvs ds) (hx:Passes CX X E)
    (I:Inv X pins σ H s) (r:Vals vs us) (h:sp (vs++dvs) H Q E):wpAny (model X.prog X.w) X.A (call (.ref f) us) (EP X pins σ Q) X.xe s:=by
  have r2:Vals (vs++dvs) (us++ds):=r.append hd
  have hl:(us++ds).length=ps.length:=by rw [← r2.length];exact F.len _ _ _ _ h
  refine wpAny_call (codeAny_mono (F.run X.A X.stack s H ⟨us,[]⟩ (us++ds) (vs++dvs) Q E hr I.qSB (hb s us I.kIn hl) r2 h) fun r s' hq=>?_)
  cases r with
  | error e=>exact hx pins σ H s e s' I hq
  | ok fl =>
    cases fl with
    | ret u=>exact I.after hq
    | next=>exact False.elim hq
    | brk=>exact False.elim hq
    | cont=>exact False.elim hq
theorem qNB (F:qx X.prog X.w X.K X.mg X.base CX k f fd ps sp) (hr:qAd k X.A) (hg:Gl X x) (hm:X.mg x=some (.ref f)) (hk:W.keepIn X.K (.ref f)=true) (hb:Binds X.K fd ps ds) (hd:Vals dvs ds) (hx:Passes CX X E)
    (ha:PA X (e::es) t) (hdb:(x==("__debug__" : Str))=false:=by decide) (he:starEach (e::es) X.env=(false,eval e X.env)::starEach es X.env:=by rfl) (hpl:(backTo pos (starEach es X.env)).any (·.1)=false:=by rfl) :
    PE X (.Call (.Name x p) (e::es) [] pos) (qRB sp dvs E t):=by
  k_dat 0"r1"
  refine wpAny_Call_Name_kw (qDp I hg hm ?_ hdb)
  refine W.callWith_K (h₀:=X.base) I.ok.mod.kin hk (thn (ha pos pins s σ H _ I h) fun us s1 ⟨vs,H1,I1,r,q⟩=>⟨I1.kIn,?_⟩) he hpl
  exact qME F hr hb hd hx I1 r q
theorem qNN {pl:Sem Bool} (he:PE X o ta) (c:Cls X.K C) (hm:Meth X.K C m f) (F:qx X.prog X.w X.K X.mg X.base CX k f fd ps sp) (hr:qAd k X.A) (hb:Binds X.K fd ps ds) (hd:Vals dvs ds) (hx:Passes CX X E) (ha:PA X (e::es) t)
    (hst:starEach (e::es) X.env=(false,eval e X.env)::starEach es X.env:=by rfl) (hpl:(backTo pos (starEach es X.env)).any (·.1)=false:=by rfl)
    (ht:eval (.Call (.Attribute o m apos) (e::es) [] pos) X.env=(do
      let ov ← eval o X.env
      standAt apos.atName
      let (f,first) ← holding [ov] (getMethod ov m pl)
      callWith pos f first (backTo pos (starEach (e::es) X.env)) (backToKw pos (keywordEach [] X.env))):=by rfl) :
    PE X (.Call (.Attribute o m apos) (e::es) [] pos) (qOL C m sp dvs E ta t):=by
  k_dat 0"r1"
  refine W.methodCall_KW (pl:=pl) (thn (he pins s σ H _ I h) fun u s1 ⟨x,H1,I1,rx,a,dx,fs,ex,ea,l,q⟩=>?_) ht
  subst ex
  obtain rfl:u=Value.ref a:=rx
  refine qIc I1 ea c hm l ?_
  refine W.callWith_K (first:=[.ref a]) (h₀:=X.base) I.ok.mod.kin hm.kp (thn (ha pos pins s1 σ H1 _ I1 q) fun us s2 ⟨vs,H2,I2,r,q2⟩=>⟨I2.kIn,?_⟩) hst hpl
  exact qME (us:=.ref a::us) (vs:=.ref a::vs) F hr hb hd hx I2 (.cons rfl r) q2
structure Mk (K:W.Frag) (C f:Addr):Prop where
  makes:W.makesIn K C=true
  init:W.findIn K (.ref C) "__init__" = some (some (.ref f))
  fn:W.isFn K (.ref f)=true
  kp:W.keepIn K (.ref C)=true
theorem qLV {pins:List (Addr×Obj)} {σ:St} {H:Hp} {s:Shared} {Q:VK} {us:List Value} {vs:List V} (M:Mk X.K C f) (F:qx X.prog X.w X.K X.mg X.base CX k f fd ps sp) (hr:qAd (k+1) X.A) (hb:Binds X.K fd ps ds) (hd:Vals dvs ds)
    (hx:Passes CX X E) (I:Inv X pins σ H s) (r:Vals vs us)
    (h:∀ x dx,H x=none→H dx=none→dx≠x→X.K.lookup x=none→sp (.ref x::(vs++dvs)) (upd (upd H dx (.own x)) x (.ins C dx [])) (fun v H2=>v = .non∧Q (.ref x) H2) E) :
    wpAny (model X.prog X.w) X.A (call (.ref C) us) (EP X pins σ Q) X.xe s:=by
  have hq:=h (s.heap.objs.size+1) s.heap.objs.size (I.hok.fresh (Nat.le_succ _)) (I.hok.fresh (Nat.le_refl _)) (Nat.ne_of_lt (Nat.lt_succ_self _)) (by cases e:X.K.lookup (s.heap.objs.size+1) with | none=>rfl | some o=>exact absurd (Heap.lt_size (I.kIn _ o e)) (Nat.not_lt.mpr (Nat.le_succ _)))
  have I2:=Inv.made (C:=C) I
  have r2:Vals (V.ref (s.heap.objs.size+1)::(vs++dvs)) (Value.ref (s.heap.objs.size+1)::(us++ds)):=.cons rfl (r.append hd)
  have hl:(Value.ref (s.heap.objs.size+1)::us++ds).length=ps.length:=by
    have e:=r2.length
    rw [F.len _ _ _ _ hq] at e
    exact e.symm
  refine wpAny_call (qLE (f:=f) I.kIn M.makes M.init (beq_iff_eq.mp M.fn) (codeAny_mono (F.run _ X.stack _ _ ⟨Value.ref (s.heap.objs.size+1)::us,[]⟩ (Value.ref (s.heap.objs.size+1)::(us++ds)) _ _ E (hr.make C us [])
    (I2.qSB.make C us []) (hb _ (Value.ref (s.heap.objs.size+1)::us) I2.kIn hl) r2 hq) fun r s' hq'=>?_))
  cases r with
  | error e=>exact hx pins σ _ _ e s' I2 hq'
  | ok fl =>
    cases fl with
    | ret u =>
      obtain⟨v,H',I3,rv,ev,q3⟩:=I2.after hq'
      subst ev
      exact⟨rv,⟨V.ref (s.heap.objs.size+1),H',I3,rfl,q3⟩⟩
    | next=>exact False.elim hq'
    | brk=>exact False.elim hq'
    | cont=>exact False.elim hq'
theorem qOA (M:Mk X.K C f) (F:qx X.prog X.w X.K X.mg X.base CX k f fd ps sp) (hr:qAd (k+1) X.A) (hg:Gl X x) (hm:X.mg x=some (.ref C)) (hb:Binds X.K fd ps ds) (hd:Vals dvs ds) (hx:Passes CX X E)
    (ha:PA X (e::es) t) (hdb:(x==("__debug__" : Str))=false:=by decide) (he:starEach (e::es) X.env=(false,eval e X.env)::starEach es X.env:=by rfl) (hpl:(backTo pos (starEach es X.env)).any (·.1)=false:=by rfl) :
    PE X (.Call (.Name x p) (e::es) [] pos) (qOC X.K C sp dvs E t):=by
  k_dat 0"r1"
  refine wpAny_Call_Name_kw (qDp I hg hm ?_ hdb)
  refine W.callWith_K (h₀:=X.base) I.ok.mod.kin M.kp (thn (ha pos pins s σ H _ I h) fun us s1 ⟨vs,H1,I1,r,q⟩=>⟨I1.kIn,?_⟩) he hpl
  exact qLV M F hr hb hd hx I1 r q
end
def PK (X:Cx) (kws:List Keyword) (t:TA):Prop :=
  ∀ (pos:Pos) (pins:List (Addr×Obj)) (s:Shared) (σ:St) (H:Hp) (Q:List V→Hp→Prop),Inv X pins σ H s→t σ H Q→wpAny (model X.prog X.w) X.A (evalAll ((backToKw pos (keywordEach kws X.env)).map (·.2))) (AP X pins σ Q) X.xe s
section
variable {X:Cx} {CX:CXT} {k:Nat} {f C:Addr} {fd:FuncData} {ps ks:List Str} {sp:Sp} {E:XK} {x m:Str} {p pos apos kpos:Pos} {e o:Expr} {es:List Expr} {kws:List Keyword} {te ta:TE} {t tk:TA} {nm:Option Str}
theorem qPK:PK X [] qRq:=fun _ _ _ _ H Q I h=>wpAny_evalAll_nil ⟨[],H,I,.nil,h⟩
theorem qNL (ha:PE X e te) (hr:PK X kws t):PK X (⟨nm,e,kpos⟩::kws) (qOF te t):=by
  intro pos pins s σ H Q I h
  show wpAny _ _ (evalAll ((do let v ← eval e X.env;standAt pos;pure v)::(backToKw pos (keywordEach kws X.env)).map (·.2))) _ _ s
  refine wpAny_evalAll_cons (wpAny_bind (thn (ha pins s σ H _ I h) fun u s1 ⟨x,H1,I1,r1,q1⟩=>wpAny_bind (wpAny_standAt (wpAny_pure ?_))))
  k_dat 0"r92"
variable {g:List Value→List Value→List Value} {gV:List V→List V→List V}
end
structure qR (N P:List Str) (sc:Scope):Prop where
  kind:sc.kind = .function
  co:sc.isCoroutine=false
  gen:sc.isGenerator=false
  nd:N.Nodup
  pre:N.take P.length=P
  par:∀ x∈P,sc.names.lookup x=some .local∨sc.names.lookup x=some .cell
  nofree:∀ y∈sc.names,y.2≠.free
theorem qGO {kindOf:Str→Option NameKind} {x:Str}:∀ {binds:List (Str×Value)} {m:Str→Option Value},(∀ v,(x,v) ∉ binds)→bindL kindOf binds m x=m x
  | [],_,_=>rfl
  | (n,v)::r,m,h=>by
    unfold bindL
    rw [qGO fun w hw=>h w (List.mem_cons_of_mem _ hw)]
    split
    · have:x≠n:=by rintro rfl;exact h v List.mem_cons_self
      simp [this]
    · rfl
theorem qGl {kindOf:Str→Option NameKind} {x:Str}:∀ {binds:List (Str×Value)} {m:Str→Option Value},(∀ v,(x,v) ∉ binds)→bindC kindOf binds m x=m x
  | [],_,_=>rfl
  | (n,v)::r,m,h=>by
    unfold bindC
    rw [qGl fun w hw=>h w (List.mem_cons_of_mem _ hw)]
    split
    · rfl
    · have:x≠n:=by rintro rfl;exact h v List.mem_cons_self
      simp [this]
theorem qGi {kindOf:Str→Option NameKind} {x:Str} {v:Value}:∀ {P:List Str} {vs:List Value} {i:Nat} {m:Str→Option Value},P.Nodup→P[i]? = some x→vs[i]? = some v→kindOf x=some .local →
    bindL kindOf (P.zip vs) m x=some v
  | [],_,_,_,_,h,_,_=>by simp at h
  | _::_,[],_,_,_,_,h,_=>by simp at h
  | p::P,w::vs,0,m,nd,h1,h2,hk=>by
    simp at h1 h2;subst h1;subst h2
    show bindL kindOf ((p,w)::P.zip vs) m p=_
    unfold bindL
    rw [qGO fun v hv=>(List.nodup_cons.mp nd).1 (List.of_mem_zip hv).1,if_pos hk]
    simp
  | p::P,w::vs,i+1,m,nd,h1,h2,hk=>by
    show bindL kindOf ((p,w)::P.zip vs) m x=_
    unfold bindL
    exact qGi (i:=i) (List.nodup_cons.mp nd).2 (by simpa using h1) (by simpa using h2) hk
theorem qGP {kindOf:Str→Option NameKind} {x:Str} {v:Value}:∀ {P:List Str} {vs:List Value} {i:Nat} {m:Str→Option Value},P.Nodup→P[i]? = some x→vs[i]? = some v→kindOf x≠some .local →
    bindC kindOf (P.zip vs) m x=some v
  | [],_,_,_,_,h,_,_=>by simp at h
  | _::_,[],_,_,_,_,h,_=>by simp at h
  | p::P,w::vs,0,m,nd,h1,h2,hk=>by
    simp at h1 h2;subst h1;subst h2
    show bindC kindOf ((p,w)::P.zip vs) m p=_
    unfold bindC
    rw [qGl fun v hv=>(List.nodup_cons.mp nd).1 (List.of_mem_zip hv).1,if_neg hk]
    simp
  | p::P,w::vs,i+1,m,nd,h1,h2,hk=>by
    show bindC kindOf ((p,w)::P.zip vs) m x=_
    unfold bindC
    exact qGP (i:=i) (List.nodup_cons.mp nd).2 (by simpa using h1) (by simpa using h2) hk
noncomputable def start (N:List Str) (vs:List V):St:=vs.map some++List.replicate (N.length - vs.length) none
noncomputable def qJO (CX:CXT) (P:Program) (w:World) (K:W.Frag) (mg:Str→Option Value) (base:Heap) (N:List Str) (qual:Str) (scope:Scope) (f:Addr) (cd:Value) (A:Around) (outer:List Env) (s:Shared) (H:Hp) (E:XK):Cx where
  prog:=P
  w:=w
  K:=K
  mg:=mg
  base:=base
  A:=A.deeper (envOfC qual scope s.heap.objs.size f cd)
  N:=N
  s₀:=s
  H₀:=H
  env:=envOfC qual scope s.heap.objs.size f cd
  outer:=outer
  stack:=envOfC qual scope s.heap.objs.size f cd::outer
  ex:=[]
  calm:=true
  fn:=fun _=>true
  pn:=[]
  xe:=fun e s'=>wpAny (model P w) (A.deeper (envOfC qual scope s.heap.objs.size f cd)) (leaving (envOfC qual scope s.heap.objs.size f cd) e) (fun _ s''=>CX outer H s E e s'') (fun e' s''=>CX outer H s E e' s'') s'
theorem qHh {sc:Scope} {n:Nat} {x:Str} (h:sc.names.lookup x=some .cell):∃ c,(cellsFrom n sc.names []).lookup x=some c:=by
  have q:=W.cellsFrom_some sc.names n [] (.inl h)
  exact Option.isSome_iff_exists.mp q
theorem qKC {CX:CXT} {P:Program} {w:World} {K:W.Frag} {mg:Str→Option Value} {base:Heap} {N ps:List Str} {qual:Str} {scope:Scope} {f:Addr} {cd:Value} {A:Around} {outer:List Env} {s s1:Shared} {H:Hp} {E:XK} {us:List Value} {vs:List V}
    (S:qR N ps scope) (hd:A.handled=none) (e0:qF9 P w K mg base A outer s H) (hl:vs.length=ps.length) (r:Vals vs us)
    (x:InCallC s s.heap.objs.size (bindL (envOfC qual scope s.heap.objs.size f cd).kindOf (ps.zip us) fun _=>none) (cellsFrom (s.heap.objs.size+1) scope.names []) (bindC (envOfC qual scope s.heap.objs.size f cd).kindOf (ps.zip us) fun _=>none) s1) :
    Inv (qJO CX P w K mg base N qual scope f cd A outer s H E) [] (start N vs) H s1:=by
  have hpl:ps.length≤N.length:=by have:=congrArg List.length S.pre;rw [List.length_take] at this;omega
  obtain⟨h1,tk,rfl,hk⟩:=x.done
  have noA:∀ b:Addr,b ∉ (qJO CX P w K mg base N qual scope f cd A outer s H E).ex:=fun b z=>absurd (show b∈([]:List Addr) from z) (by simp)
  refine⟨⟨e0.mod,S.kind,rfl,rfl,Nat.le_refl _,fun y z c h1 h2=>?_,fun y hy=>?_,fun y c _ h=>?_,fun _=>hd,Around.frames_deeper e0.frames,.inr ⟨rfl,rfl⟩,fun b z=>absurd z (noA b),e0.bs,e0.bsz,fun b _ _=>noA b,fun b z=>absurd z (noA b),e0.qD5,e0.frf⟩,
    rfl,e0.bare,Un.kept hk,⟨_,x.toInCall.ns,fun i y v h1 h2 h3=>?_⟩,fun y c h=>⟨_,x.cell y c h⟩,e0.hok.fresh (Nat.le_refl _),fun y c h=>?_,fun p hp=>absurd (show p∈([]:List (Addr×Obj)) from hp) (by simp),e0.hok.kept hk,?_⟩
  · exact name_of_addr x.apart (PySem.mem_of_lookup h1) (PySem.mem_of_lookup h2)
  · have hy:scope.names.lookup y=some .cell∨scope.names.lookup y=some .free:=hy
    rcases hy with hy | hy
    · exact qHh hy
    · exact absurd rfl (S.nofree _ (PySem.mem_of_lookup hy))
  · exact Nat.le_of_lt (x.above y c (PySem.mem_of_lookup h))
  · have hi:i<vs.length:=by
      unfold start at h2
      by_cases hi:i<vs.length
      · exact hi
      · rw [List.getElem?_append_right (by simpa using hi)] at h2
        rw [List.getElem?_replicate] at h2
        split at h2<;>cases h2
    have ha:vs[i]? = some v:=by
      unfold start at h2
      rw [List.getElem?_append_left (by simpa using hi),List.getElem?_map] at h2
      cases e:vs[i]? with
      | none=>rw [e] at h2;cases h2
      | some a=>rw [e] at h2;cases h2;rfl
    obtain⟨u,hu,rv⟩:=r.get ha
    have hp:ps[i]? = some y:=by
      rw [← S.pre,List.getElem?_take_of_lt (by omega)];exact h1
    have ndP:ps.Nodup:=by rw [← S.pre];exact S.nd.sublist (List.take_sublist _ _)
    refine⟨u,rv,?_⟩
    rcases S.par y (List.mem_of_getElem? hp) with k | k
    · exact .inl ⟨k,qGi ndP hp hu k⟩
    · obtain⟨c,e⟩:=qHh (n:=s.heap.objs.size+1) k
      refine .inr ⟨.inl k,c,e,?_⟩
      have q:=x.cell y c e
      rw [qGP ndP hp hu (by show scope.names.lookup y≠_;rw [k];decide)] at q
      exact q
  · exact e0.hok.fresh (Nat.le_of_lt (x.above y c (PySem.mem_of_lookup h)))
  · unfold start
    show _=N.length
    rw [List.length_append,List.length_map,List.length_replicate]
    omega
theorem qR1 {CX:CXT} {P:Program} {w:World} {K:W.Frag} {mg:Str→Option Value} {base:Heap} {k:Nat} {f:Addr} {name qual:Str} {params:Arguments} {body:List Stmt} {scope:Scope} {dV kV doc pm cdv ct oc:Value} {an od:Option Addr}
    {osl:Array (Option Value)} {N ps:List Str} {sp:Sp} (lk:K.lookup f=some ⟨oc,od,.func (W.fnOf name qual params body scope dV kV doc pm an cdv ct),osl⟩) (hcd:W.codeIn K cdv qual=true) (S:qR N ps scope)
    (len:∀ vs H Q E,sp vs H Q E→vs.length=ps.length)
    (hbody:∀ (A:Around) (outer:List Env) (s:Shared) (H:Hp) (vs:List V) (Q:VK) (E:XK),qAd k (A.deeper (envOfC qual scope s.heap.objs.size f cdv))→sp vs H Q E →
      ∃ t,PSs (qJO CX P w K mg base N qual scope f cdv A outer s H E) body t∧t { nx:=fun _ H'=>Q .non H',rt:=Q } (start N vs) H) :
    qx P w K mg base CX (k+1) f (W.fnOf name qual params body scope dV kV doc pm an cdv ct) ps sp:=by
  refine⟨len,fun A outer s H args us vs Q E hr e0 hb r hsp=>?_⟩
  have hl:=len _ _ _ _ hsp
  have KX:K.In s.heap:=e0.mod.kin.keeps fun b o e=>(e0.bs b o e).1
  have lim:s.heap.NoLimit:=e0.mod.nolimit.keeps fun b o e=>(e0.bs b o e).1
  have hkind:∀ y∈ps.zip us,scope.names.lookup y.1=some .local∨(scope.names.lookup y.1=some .cell∧((cellsFrom (s.heap.objs.size+1) scope.names []).lookup y.1).isSome=true):=fun ⟨n,v⟩ hy=>by
    rcases S.par n (List.of_mem_zip hy).1 with q | q
    · exact .inl q
    · exact .inr ⟨q,W.cellsFrom_some _ _ _ (.inl q)⟩
  refine codeAny_call_function hr.depth (KX _ _ lk) rfl S.co S.gen rfl (W.codeRec_of KX hcd) (hb _ _ _ _ ?_)
  refine wpAny_newFunctionEnv_cells S.kind hkind fun env he s1 x=>?_
  subst he
  refine⟨lim.keeps x.toInCall.keep,codeAny_func ?_⟩
  obtain⟨t,ht,hq⟩:=hbody A outer s H vs Q E (hr.deeper _) hsp
  have I:Inv (qJO CX P w K mg base N qual scope f cdv A outer s H E) [] (start N vs) H s1:=qKC S hr.hd e0 hl r x
  refine wpAny_mono (ht [] s1 (start N vs) H _ I hq) (fun fl s' hs=>?_) fun e s' hs=>hs
  have fin:∀ {σ':St} {H':Hp} {v:V} {u:Value},Inv (qJO CX P w K mg base N qual scope f cdv A outer s H E) [] σ' H' s'→RelV v u→Q v H'→CE outer P w H s Q u s' :=
    fun {σ' H' v u} J rv q=>⟨v,H',J.os,J.bare,J.base,J.hok,rv,q⟩
  cases fl with
  | ret u =>
    obtain⟨v,σ',H',J,rv,q⟩:=hs
    exact fin J rv q
  | next =>
    obtain⟨σ',H',J,q⟩:=hs
    exact fin (v:=V.non) (u:=Value.none) J rfl q
  | brk =>
    obtain⟨_,_,_,q⟩:=hs
    exact False.elim q
  | cont =>
    obtain⟨_,_,_,q⟩:=hs
    exact False.elim q
end L2
namespace L2
open PySem PySem.Spec PyProof.Rows
section
variable {X:Cx} {x:Str} {p pos:Pos} {e:Expr} {es:List Expr} {t:TA} {id T:String} {r:List V→Hp→VK→Prop}
noncomputable def tCB (r:List V→Hp→VK→Prop) (t:TA):TE:=fun σ H Q=>t σ H fun vs H1=>r vs H1 Q
theorem qLw (hc:qFf X (.builtin id) r) (hg:Gl X x) (hm:X.mg x=none) (hv:bootBuiltins x=some (.builtin id)) (ha:PA X (e::es) t) (hn:x ≠ "__name__":=by decide) (hdb:(x==("__debug__" : Str))=false:=by decide)
    (he:starEach (e::es) X.env=(false,eval e X.env)::starEach es X.env:=by rfl) (hpl:(backTo pos (starEach es X.env)).any (·.1)=false:=by rfl):PE X (.Call (.Name x p) (e::es) [] pos) (tCB r t):=by
  k_dat 0"r1"
  refine wpAny_Call_Name_kw (qDP I hg hm hv ?_ hn hdb)
  exact PyProof.Rows.callWith_builtin1 (thn (ha pos pins s σ H _ I h) fun us s1 ⟨vs,H1,I1,r1,q1⟩=>hc pins s1 σ H1 vs us Q I1 r1 q1) he hpl
theorem qJ7 (hc:qFf X (.type T) r) (hg:Gl X x) (hm:X.mg x=none) (hv:bootBuiltins x=some (.type T)) (ha:PA X (e::es) t) (hn:x ≠ "__name__":=by decide) (hdb:(x==("__debug__" : Str))=false:=by decide)
    (he:starEach (e::es) X.env=(false,eval e X.env)::starEach es X.env:=by rfl) (hpl:(backTo pos (starEach es X.env)).any (·.1)=false:=by rfl):PE X (.Call (.Name x p) (e::es) [] pos) (tCB r t):=by
  k_dat 0"r1"
  refine wpAny_Call_Name_kw (qDP I hg hm hv ?_ hn hdb)
  exact PyProof.Rows.callWith_type1 (thn (ha pos pins s σ H _ I h) fun us s1 ⟨vs,H1,I1,r1,q1⟩=>hc pins s1 σ H1 vs us Q I1 r1 q1) he hpl
end
end L2
namespace HT
open PySem PyProof.Rows
section
variable {prog:Program} {w:World} {A:Around} {E:Value→Shared→Prop} {s:Shared}
theorem qNc {t b:Addr} {vs ws:List Value} {Q:Value→Shared→Prop} (ht:IsTup s.heap t vs.toArray) (hb:IsTup s.heap b ws.toArray) (hv:vs≠[])
    (h1:ws=[]→Q (.ref t) s) (h2:ws≠[]→Q (.ref s.heap.objs.size) { s with heap:=s.heap.push { cls:=.type "tuple",data:=.seq (vs++ws).toArray } })
    (hsz:vs.length+ws.length≤sizeLine):wpAny (model prog w) A (binaryOp .Add (.ref t) (.ref b)) Q E s:=by
  obtain⟨⟨cls,dd,data,sl⟩,ho,hc,n,hd⟩:=id ht
  obtain⟨⟨cls2,dd2,data2,sl2⟩,ho2,hc2,n2,hd2⟩:=id hb
  simp only at hc hd hc2 hd2
  subst hc hd hc2 hd2
  have e:vs.toArray++ws.toArray=(vs++ws).toArray:=by simp
  by_cases hw:ws=[]
  · exact concat_meets ⟨_,ho,rfl⟩ ⟨_,ho2,rfl⟩ noFill_tuple_add seq_tuple_add PySem.F.slot_tuple_add PySem.F.entry_tuple_add (PySem.F.args_tuple_add_2 _ _)
      (tuple_addW1 t b vs.toArray ws.toArray n n2 dd dd2 sl sl2 (by simpa using hv) (by simp [hw])) ⟨ho,ho2,h1 hw⟩
  · refine concat_meets ⟨_,ho,rfl⟩ ⟨_,ho2,rfl⟩ noFill_tuple_add seq_tuple_add PySem.F.slot_tuple_add PySem.F.entry_tuple_add (PySem.F.args_tuple_add_2 _ _)
      (tuple_addW2 t b vs.toArray ws.toArray n n2 dd dd2 sl sl2 (by simpa using hv) (by simpa using hw) (by rw [List.size_toArray,List.size_toArray];exact hsz)) ⟨ho,ho2,?_⟩
    rw [e]
    exact h2 hw
noncomputable def sIx (n d:Nat):Option Int→Nat
  | none=>d
  | some v=>if v<0 then (v+(n:Int)).toNat else min v.toNat n
theorem qFU (n d:Nat):sIx n d none=d:=rfl
theorem qCL (n d k:Nat):sIx n d (some (k:Int))=min k n:=by
  show (if (k:Int)<0 then ((k:Int)+(n:Int)).toNat else min (k:Int).toNat n)=min k n
  rw [if_neg (by omega),Int.toNat_natCast]
theorem qQZ (n d:Nat) (hd:d≤n) (o:Option Int):sIx n d o≤n:=by
  cases o with
  | none=>exact hd
  | some v =>
    show (if v<0 then (v+(n:Int)).toNat else min v.toNat n)≤n
    by_cases hv:v<0
    · rw [if_pos hv];omega
    · rw [if_neg hv];exact Nat.min_le_right _ _
theorem qJr (v:Int) (n d:Nat):(if v<0 then max (v+(n:Int)) 0 else min v (n:Int))=((sIx n d (some v):Nat):Int):=by
  show (if v<0 then max (v+(n:Int)) 0 else min v (n:Int))=(((if v<0 then (v+(n:Int)).toNat else min v.toNat n):Nat):Int)
  by_cases hv:v<0
  · simp only [if_pos hv];omega
  · simp only [if_neg hv];omega
theorem qI4 (lo hi:Option Int) (n:Nat):Builtin.Slice.sliceAdjust lo hi 1 (n:Int)=(((sIx n 0 lo:Nat):Int),((sIx n n hi:Nat):Int)):=by
  have h1:¬ ((1:Int)<0):=by omega
  unfold Builtin.Slice.sliceAdjust
  simp only [h1,if_false]
  refine Prod.ext ?_ ?_
  · cases lo with
    | none=>rfl
    | some v=>exact qJr v n 0
  · cases hi with
    | none=>rfl
    | some v=>exact qJr v n n
theorem qIe (i j:Nat):Builtin.Slice.slicePlaces (i:Int) (j:Int) 1=j - i:=by
  unfold Builtin.Slice.slicePlaces
  have h1:(1:Int) > 0:=by omega
  simp only [h1,if_true,Int.ediv_one]
  split<;>omega
theorem qFc {v:Value} {o:Option Int} {Q:Option Int→Shared→Prop} (p:IsPart v o) (h:Q o s):wpAny (model prog w) A (Builtin.Slice.slicePartIndex v) Q E s:=by
  cases p with
  | none=>exact slicePart_none h
  | int i t=>exact slicePart_int h
theorem qB5 {sl:Addr} {vl vu:Value} {lo hi:Option Int} {n:Nat} {Q:Int×Int×Nat→Shared→Prop} (hs:s.heap.IsSliceOf sl vl vu .none) (pl:IsPart vl lo) (pu:IsPart vu hi)
    (h:Q (((sIx n 0 lo:Nat):Int),1,sIx n n hi - sIx n 0 lo) s):wpAny (model prog w) A (Builtin.Slice.sliceApplied (.ref sl) (pure (n:Int))) Q E s:=by
  obtain⟨os,hos,hcs,hds⟩:=id hs
  unfold Builtin.Slice.sliceApplied Builtin.Slice.sliceFields
  refine wpAny_bind (wpAny_bind (wpAny_field hos hds (x:=vl) rfl (wpAny_bind (wpAny_field hos hds (x:=vu) rfl (wpAny_bind (wpAny_field hos hds (x:=.none) rfl (wpAny_pure ?_)))))))
  refine wpAny_bind (slicePart_none ?_)
  show wpAny _ _ (if ((1:Int)==0)=true then _ else _) _ _ s
  rw [if_neg (by decide)]
  refine wpAny_bind (qFc pl (wpAny_bind (qFc pu (wpAny_bind (wpAny_pure ?_)))))
  show wpAny _ _ (match Builtin.Slice.sliceAdjust lo hi 1 (n:Int) with | (lo,hi)=>pure (lo,(1:Int),Builtin.Slice.slicePlaces lo hi 1)) _ _ s
  rw [qI4 lo hi n]
  show wpAny _ _ (pure (((sIx n 0 lo:Nat):Int),(1:Int),Builtin.Slice.slicePlaces ((sIx n 0 lo:Nat):Int) ((sIx n n hi:Nat):Int) 1)) _ _ s
  rw [qIe]
  exact wpAny_pure h
theorem qK8 (xs:Array Value) (i k:Nat):((List.range k).filterMap fun (m:Nat)=>xs[((i:Int)+(m:Int) * 1).toNat]?).toArray=((xs.toList.drop i).take k).toArray:=by
  have e:(fun (m:Nat)=>xs[((i:Int)+(m:Int) * 1).toNat]?)=fun m=>xs[i+m]?:=by
    funext m
    have:((i:Int)+(m:Int) * 1).toNat=i+m:=by omega
    rw [this]
  rw [e]
  have:=pick_run xs i k
  rw [List.filterMap_map] at this
  have e2:((fun x=>xs[x]?) ∘ fun x=>i+x)=fun m=>xs[i+m]?:=rfl
  rw [e2] at this
  rw [this]
theorem qDV {t sl:Addr} {items:Array Value} {vl vu:Value} {lo hi:Option Int} {Q:Value→Shared→Prop} (ht:IsTup s.heap t items) (hs:s.heap.IsSliceOf sl vl vu .none) (pl:IsPart vl lo) (pu:IsPart vu hi)
    (hw:¬ (sIx items.size 0 lo=0∧sIx items.size items.size hi=items.size))
    (h:Q (.ref s.heap.objs.size) { s with heap:=s.heap.push { cls:=.type "tuple",data:=.seq ((items.toList.drop (sIx items.size 0 lo)).take (sIx items.size items.size hi - sIx items.size 0 lo)).toArray } })
    (hsz:items.size≤sizeLine):wpAny (model prog w) A (getItem (.ref t) (.ref sl)) Q E s:=by
  have htake:sizeOk (.seq ((items.toList.drop (sIx items.size 0 lo)).take (sIx items.size items.size hi - sIx items.size 0 lo)).toArray):=by
    show ((items.toList.drop (sIx items.size 0 lo)).take (sIx items.size items.size hi - sIx items.size 0 lo)).toArray.size≤sizeLine
    rw [List.size_toArray,List.length_take,List.length_drop,Array.length_toList]
    omega
  have hj:sIx items.size items.size hi≤items.size:=qQZ _ _ (Nat.le_refl _) hi
  obtain⟨os,hos,hcs,hds⟩:=id hs
  have hTs:s.TypeIs (.ref sl) "slice":=⟨os,hos,hcs⟩
  unfold getItem
  try with_reducible refine wpAny_holding ?_
  first | refine wpAny_bind (wpAny_pure ?_) | skip
  refine wpAny_bind (wpAny_sequenceKey ht.typeIs (by decide) ?_)
  refine wpAny_bind (wpAny_callSpecial?_slot (name:=Str.ofString "__getitem__") ht.typeIs PyProof.Rows.slot_tuple_getitem
    (wpAny_call_entry PyProof.Rows.slot_tuple_getitem ht.typeIs entry_tuple_getitem ?_ (args_tuple_getitem _ _)))
  show wpAny _ _ (Builtin.Tuple.tupleItemsOf (.ref t) >>= _) _ _ s
  refine wpAny_bind (tupleItemsOf_ ht ?_)
  refine wpAny_bind (wpAny_typeOf hTs ?_)
  rw [if_pos (by decide)]
  refine wpAny_bind (qB5 hs pl pu ?_)
  have hno:¬ ((((sIx items.size 0 lo:Nat):Int)==0&&(1:Int)==1&&(sIx items.size items.size hi - sIx items.size 0 lo)==items.size)=true):=by
    intro q
    rw [Bool.and_eq_true,Bool.and_eq_true] at q
    have q1:((sIx items.size 0 lo:Nat):Int)=0:=eq_of_beq q.1.1
    have q2:sIx items.size items.size hi - sIx items.size 0 lo=items.size:=eq_of_beq q.2
    exact hw ⟨by omega,by omega⟩
  k_dat 0"r93"
  rw [if_neg hno,qK8]
  first
    | exact wpAny_bind (m:=Builtin.Tuple.tupleExact _) (wpAny_newObj_type (wpAny_pure ⟨_,rfl,wpAny_pure h⟩) htake)
    | exact wpAny_bind (m:=Builtin.Tuple.tupleExact _) (wpAny_newObj_type (wpAny_bind (wpAny_pure (wpAny_pure ⟨_,rfl,wpAny_pure h⟩))) htake)
    | exact wpAny_bind (wpAny_bind (m:=Builtin.Tuple.tupleExact _) (wpAny_newObj_type (wpAny_pure (wpAny_pure ⟨_,rfl,wpAny_pure h⟩)) htake))
    | exact wpAny_bind (wpAny_bind (m:=Builtin.Tuple.tupleExact _) (wpAny_newObj_type (wpAny_pure ⟨_,rfl,wpAny_pure h⟩) htake))
end
end HT
namespace L2
open PySem PySem.Spec PyProof.Rows
noncomputable abbrev TO:=St→Hp→(Option Int→Hp→Prop)→Prop
def PO (X:Cx) (e:Option Expr) (t:TO):Prop :=
  ∀ (pins:List (Addr×Obj)) (s:Shared) (σ:St) (H:Hp) (Q:Option Int→Hp→Prop),Inv X pins σ H s→t σ H Q →
    wpAny (model X.prog X.w) X.A (evalPart e X.env) (fun u s'=>∃ o H',Inv X pins σ H' s'∧IsPart u o∧Q o H') X.xe s
noncomputable def qN9:TO:=fun _ H Q=>Q none H
noncomputable def qRu (t:TE):TO:=fun σ H Q=>t σ H fun x H1=>∃ i,x = .int i∧Q (some i) H1
section
variable {X:Cx} {e:Expr} {te:TE} {lo hi:Option Expr} {tl th:TO} {pos p2:Pos}
theorem qNa:PO X none qN9:=by
  k_dat 0"r1"
  rw [evalPart_none]
  exact wpAny_pure ⟨none,H,I,.none,h⟩
theorem qMw (h:PE X e te):PO X (some e) (qRu te):=by
  intro pins s σ H Q I hw
  rw [evalPart_some]
  refine thn (h pins s σ H _ I hw) fun u s1 ⟨x,H1,I1,r1,q1⟩=>?_
  obtain⟨i,rfl,q⟩:=q1
  obtain⟨t,rfl⟩:=r1
  exact⟨some i,H1,I1,.int i t,q⟩
def SlR (X:Cx) (r:V→Option Int→Option Int→Hp→VK→Prop):Prop :=
  ∀ (pins:List (Addr×Obj)) (s:Shared) (σ:St) (H:Hp) (x:V) (v vl vu:Value) (lo hi:Option Int) (sl:Addr) (Q:VK),Inv X pins σ H s→RelV x v→s.heap.IsSliceOf sl vl vu .none→IsPart vl lo→IsPart vu hi→r x lo hi H Q →
    ∃ T id,typeLookup (.type T) "__getitem__" = pure (some (.builtin id))∧s.TypeIs v T∧wpAny (model X.prog X.w) X.A (getItem v (.ref sl)) (EP X pins σ Q) X.xe s
theorem SlR.or {r r':V→Option Int→Option Int→Hp→VK→Prop} (h:SlR X r) (h':SlR X r'):SlR X (fun x lo hi H Q=>r x lo hi H Q∨r' x lo hi H Q):=by
  intro pins s σ H x v vl vu lo hi sl Q I rx hs pl pu q
  rcases q with q | q
  · exact h pins s σ H x v vl vu lo hi sl Q I rx hs pl pu q
  · exact h' pins s σ H x v vl vu lo hi sl Q I rx hs pl pu q
noncomputable def tSl (r:V→Option Int→Option Int→Hp→VK→Prop) (te:TE) (tl th:TO):TE:=fun σ H Q=>te σ H fun x H1=>tl σ H1 fun l H2=>th σ H2 fun u H3=>r x l u H3 Q
theorem qIH {r:V→Option Int→Option Int→Hp→VK→Prop} (hr:SlR X r) (he:PE X e te) (hl:PO X lo tl) (hu:PO X hi th):PE X (.Subscript e (.Slice lo hi none p2) pos) (tSl r te tl th):=by
  k_dat 0"r1"
  refine Subscript_ (thn (he pins s σ H _ I h) fun v s1 ⟨x,H1,I1,r1,q1⟩=>?_)
  refine wpAny_Slice (thn (hl pins s1 σ H1 _ I1 q1) fun vl s2 ⟨l,H2,I2,pl,q2⟩=>thn (hu pins s2 σ H2 _ I2 q2) fun vu s3 ⟨u,H3,I3,pu,q3⟩=>?_)
  rw [evalPart_none]
  refine wpAny_pure ?_
  have I4:Inv X pins σ H3 { s3 with heap:=s3.heap.push { cls:=.type "slice",data:=.fields #[vl,vu,.none] } }:=I3.kept (t':=s3.toks) fun b ob q=>Heap.get?_push_of_some _ q
  obtain⟨T,id,hT,ht,hg⟩:=hr pins { s3 with heap:=s3.heap.push { cls:=.type "slice",data:=.fields #[vl,vu,.none] } } σ H3 x v vl vu l u s3.heap.objs.size Q I4 r1 (Heap.IsSliceOf.new ..) pl pu q3
  show wpAny (model X.prog X.w) X.A (subscriptTail e (.Slice lo hi none p2) v (.ref s3.heap.objs.size)) (EP X pins σ Q) X.xe { s3 with heap:=s3.heap.push { cls:=.type "slice",data:=.fields #[vl,vu,.none] } }
  exact tail_any (ops:=[.ref s3.heap.objs.size,v]) ht hT hg (by with_unfolding_all rfl)
noncomputable def qEo (xs:List V) (lo hi:Option Int):List V:=(xs.drop (HT.sIx xs.length 0 lo)).take (HT.sIx xs.length xs.length hi - HT.sIx xs.length 0 lo)
theorem qEd (xs:List V) (lo hi:Option Int):(qEo xs lo hi).length≤xs.length:=by
  unfold qEo
  rw [List.length_take,List.length_drop]
  omega
noncomputable def qST (K:W.Frag):V→Option Int→Option Int→Hp→VK→Prop:=fun x lo hi H Q=>∃ a xs,x = .ref a∧SqT K H a xs ∧
  ¬ (HT.sIx xs.length 0 lo=0∧HT.sIx xs.length xs.length hi=xs.length)∧∀ p,H p=none→Q (.ref p) (upd H p (.tup (qEo xs lo hi)))
theorem qLc:SlR X (qST X.K):=by
  k_dat 0"r76"
  obtain⟨a,xs,rfl,hx,hw,q⟩:=h
  cases rx
  obtain⟨its,r,ht,hz⟩:=I.tuple hx
  have hlen:its.toArray.size=xs.length:=by rw [List.size_toArray];exact r.length.symm
  refine⟨"tuple",_,PyProof.Rows.slot_tuple_getitem.lookup,ht.typeIs,?_⟩
  refine HT.qDV ht hs pl pu (by rw [hlen];exact hw) ?_ (by rw [hlen];exact hz)
  rw [hlen]
  refine⟨.ref s.heap.objs.size,_,I.laid (t':=s.toks) (o:=.tup (qEo xs lo hi)) (fun b ob q=>Heap.get?_push_of_some _ q) (Nat.le_refl _) ?_,rfl,q _ (I.hok.fresh (Nat.le_refl _))⟩
  exact⟨Nat.le_trans (qEd xs lo hi) hz,_,(r.drop (HT.sIx xs.length 0 lo)).take (HT.sIx xs.length xs.length hi - HT.sIx xs.length 0 lo),IsTup.new _ _⟩
theorem Vals.qDr {xs:List V} {us:List Value} (r:Vals xs us):us=[]↔xs=[]:=by
  cases r with
  | nil=>simp
  | cons _ _=>simp
end
end L2
namespace L2
open PySem PySem.Spec PyProof.Rows
noncomputable def ixN (n:Nat) (i:Int):Option Nat:=if 0≤i then (if i<n then some i.toNat else none) else if -(n:Int)≤i then some (i+n).toNat else none
noncomputable def atI {α:Type} (xs:List α) (i:Int):Option α:=(ixN xs.length i).bind fun j=>xs[j]?
theorem qJg {n:Nat} {i:Int} {j:Nat} (h:ixN n i=some j):seqIndex? i n=some j∧j<n∧-(n:Int)≤i∧i<n:=by
  unfold ixN at h
  by_cases h0:0≤i
  · rw [if_pos h0] at h
    by_cases h1:i<n
    · rw [if_pos h1] at h
      have e:i.toNat=j:=Option.some.inj h
      exact⟨by rw [seqIndex_of h0 h1,e],by omega,by omega,h1⟩
    · rw [if_neg h1] at h;cases h
  · rw [if_neg h0] at h
    by_cases h1:-(n:Int)≤i
    · rw [if_pos h1] at h
      have e:(i+n).toNat=j:=Option.some.inj h
      exact⟨by rw [seqIndex_neg (by omega) h1,e],by omega,h1,by omega⟩
    · rw [if_neg h1] at h;cases h
theorem qG1 {α:Type} {xs:List α} {i:Int} {v:α} (h:atI xs i=some v):∃ j,seqIndex? i xs.length=some j∧xs[j]? = some v∧j<xs.length∧-(xs.length:Int)≤i∧i<xs.length:=by
  unfold atI at h
  cases e:ixN xs.length i with
  | none=>rw [e] at h;cases h
  | some j =>
    rw [e] at h
    obtain⟨h1,h2,h3,h4⟩:=qJg e
    exact⟨j,h1,h,h2,h3,h4⟩
theorem qAB {α:Type} {xs:List α} {j:Nat} {v:α} (h:xs[j]? = some v):atI xs (j:Int)=some v:=by
  have hj:j<xs.length:=(List.getElem?_eq_some_iff.mp h).1
  have e:ixN xs.length (j:Int)=some j:=by
    unfold ixN
    rw [if_pos (by omega),if_pos (by omega)];simp
  unfold atI;rw [e];exact h
theorem qLj {α:Type} (xs:List α) (v:α):atI (xs++[v]) (-1)=some v:=by
  have hl:(xs++[v]).length=xs.length+1:=by simp
  have e:ixN (xs++[v]).length (-1)=some xs.length:=by
    unfold ixN
    rw [hl,if_neg (by decide),if_pos (by omega)]
    congr 1
    omega
  unfold atI
  rw [e]
  show (xs++[v])[xs.length]? = some v
  simp
def qJ1 (b:Expr):Prop:=∀ o i,subscripted b false o i=operate [o,i] (getItem o i)
def IxR (X:Cx) (r:R2):Prop :=
  ∀ (value slice:Expr) (pins:List (Addr×Obj)) (s:Shared) (σ:St) (H:Hp) (x y:V) (v u:Value) (Q:VK),Inv X pins σ H s→RelV x v→RelV y u→r x y H Q →
    subscripted slice false v u=operate [v,u] (getItem v u)→wpAny (model X.prog X.w) X.A (subscriptTail value slice v u) (EP X pins σ Q) X.xe s
def MtR (X:Cx) (id:String) (r:V→List V→Hp→VK→Prop):Prop :=
  ∀ (pins:List (Addr×Obj)) (s:Shared) (σ:St) (H:Hp) (x:V) (xs:List V) (v:Value) (us:List Value) (Q:VK),Inv X pins σ H s→RelV x v→Vals xs us→r x xs H Q →
    wpAny (model X.prog X.w) X.A (call (.builtin id) (v::us)) (EP X pins σ Q) X.xe s
section
variable {X:Cx} {a b:Expr} {ta tb:TE} {pos:Pos}
theorem IxR.or {r r':R2} (h:IxR X r) (h':IxR X r'):IxR X (fun x y H Q=>r x y H Q∨r' x y H Q):=by
  intro value slice pins s σ H x y v u Q I rx ry q hs
  rcases q with q | q
  · exact h value slice pins s σ H x y v u Q I rx ry q hs
  · exact h' value slice pins s σ H x y v u Q I rx ry q hs
theorem qQ7 {r:R2} (hr:IxR X r) (ha:PE X a ta) (hb:PE X b tb) (hs:qJ1 b):PE X (.Subscript a b pos) (tOp r ta tb):=by
  k_dat 0"r1"
  exact Subscript_ (qO1 ha hb I h fun v u s2 x y H2 I2 rx ry q=>hr a b pins s2 σ H2 x y v u Q I2 rx ry q (hs _ _))
noncomputable def qRk (K:W.Frag):R2:=fun x y H Q=>∃ p xs i v,x = .ref p∧y = .int i∧SqL K H p xs∧atI xs i=some v∧Q v H
noncomputable def qRt (K:W.Frag):R2:=fun x y H Q=>∃ p xs i v,x = .ref p∧y = .int i∧SqT K H p xs∧atI xs i=some v∧Q v H
noncomputable def qRr:R2:=fun x y H Q=>∃ z i c,x = .str z∧y = .int i∧z.length≤sizeLine∧atI z.cps.toList i=some c∧Q (.str ⟨#[c]⟩) H
theorem qNh:IxR X (qRk X.K):=by
  k_dat 0"r77"
  obtain⟨p,xs,i,z,rfl,rfl,hq,he,q⟩:=h
  cases rx
  obtain⟨t,rfl⟩:=ry
  obtain⟨its,r,pl,hz⟩:=I.list hq
  obtain⟨j,h1,h2,h3,h4,h5⟩:=qG1 he
  obtain⟨w,ew,rw'⟩:=r.get h2
  have hl:=r.length
  have hn:=qDw
  have fin:EP X pins σ Q w s:=⟨z,H,I,rw',q⟩
  by_cases h0:0≤i
  · have hj:i.toNat=j:=by
      rw [seqIndex_of h0 h5] at h1
      exact Option.some.inj h1
    exact item_listR pl.isList h0 (by omega) (by rw [hj];simpa using ew) fin hs
  · have hj:(i+(its.toArray.size:Int)).toNat=j:=by
      rw [seqIndex_neg (by omega) h4] at h1
      rw [List.size_toArray,← hl]
      exact Option.some.inj h1
    exact subscriptTail_builtinR (x:=w) pl.isList.typeIs slot_list_getitem.lookup
      (wpAny_getItem_list_neg (Q:=fun r s'=>r=w∧EP X pins σ Q r s') pl.isList (by omega) (by rw [List.size_toArray]<;>omega) (by omega) (by rw [hj];simpa using ew) ⟨rfl,fin⟩) hs
theorem qPQ:IxR X (qRt X.K):=by
  k_dat 0"r77"
  obtain⟨p,xs,i,z,rfl,rfl,hq,he,q⟩:=h
  cases rx
  obtain⟨t,rfl⟩:=ry
  obtain⟨its,r,pl,hz⟩:=I.tuple hq
  obtain⟨j,h1,h2,h3,h4,h5⟩:=qG1 he
  obtain⟨w,ew,rw'⟩:=r.get h2
  have hl:=r.length
  have hn:=qDw
  have fin:EP X pins σ Q w s:=⟨z,H,I,rw',q⟩
  exact subscriptTail_builtinR (x:=w) pl.typeIs slot_tuple_getitem.lookup
    (getItem_tuple (j:=j) (Q:=fun r s'=>r=w∧EP X pins σ Q r s') pl (by omega) (by omega) (by rw [List.size_toArray,← hl];exact h1) (by simpa using ew) ⟨rfl,fin⟩) hs
theorem qQE:IxR X qRr:=by
  k_dat 0"r77"
  obtain⟨z,i,c,rfl,rfl,hz,he,q⟩:=h
  obtain⟨t,rfl⟩:=rx
  k_dat 0"r17"
  obtain⟨j,h1,h2,h3,h4,h5⟩:=qG1 he
  have hl:z.cps.toList.length=z.length:=by simp [Str.length]
  rw [hl] at h1 h4 h5
  have hn:=qDw
  exact tail_any (typeIs_str s z t) slot_str_getitem.lookup (getItem_str (c:=c) (by
    have e1:decide (i < -(2 ^ 63:Int))=false:=decide_eq_false (by omega)
    have e2:decide (i ≥ 2 ^ 63)=false:=decide_eq_false (by omega)
    rw [e1,e2,Bool.or_false]) (by rw [h1];simpa using h2) ⟨.str ⟨#[c]⟩,H,I.tok _,⟨_,rfl⟩,q⟩) hs
noncomputable def rIx (K:W.Frag):R2:=fun x y H Q=>qRk K x y H Q∨qRt K x y H Q∨qRr x y H Q
theorem qMp:IxR X (rIx X.K):=qNh.or (qPQ.or qQE)
theorem qI8 (its:List Value) (n j:Nat) (u:Value):Obj.mapSeq (·.setIfInBounds j u) { cls:=.type "list",data:=.seq its.toArray n }={ cls:=.type "list",data:=.seq (its.set j u).toArray n }:=by
  simp [Obj.mapSeq]
theorem Inv.lst {pins:List (Addr×Obj)} {σ:St} {H:Hp} {s:Shared} {p:Addr} {xs:List V} (I:Inv X pins σ H s) (h:H p=some (.lst xs)) :
    ∃ (its:List Value) (n:Nat),Vals xs its∧s.heap.get? p=some { cls:=.type "list",data:=.seq its.toArray n }∧xs.length≤sizeLine:=by
  obtain⟨z,its,n,r,e⟩:=I.hok p _ h
  exact⟨its,n,r,e,z⟩
theorem Inv.qOm {pins:List (Addr×Obj)} {σ:St} {H:Hp} {s:Shared} {p:Addr} {xs ys:List V} {its its':List Value} {n n':Nat} {f:Obj→Obj} (I:Inv X pins σ H s) (h:H p=some (.lst xs))
    (ho:s.heap.get? p=some { cls:=.type "list",data:=.seq its.toArray n }) (hf:f { cls:=.type "list",data:=.seq its.toArray n }={ cls:=.type "list",data:=.seq its'.toArray n' }) (r:Vals ys its') (hz:ys.length≤sizeLine) (t:Nat) :
    Inv X pins σ (upd H p (.lst ys)) { s with heap:=s.heap.update p f,toks:=t }:=by
  have e:(s.heap.update p f).get? p=some { cls:=.type "list",data:=.seq its'.toArray n' }:=by
    rw [Heap.get?_update_self f ho (by rw [hf]<;>rfl),hf]
  refine I.write (x:=p) (e:=p) (by rw [h];trivial) (.inl rfl) (fun b u hb q=>(Heap.get?_update_other _ _ (Ne.symm hb)).trans q) ⟨_,e⟩ ?_
  exact⟨hz,its',n',r,e⟩
noncomputable def qRK:V→V→V→Hp→(Hp→Prop)→Prop:=fun o i v H Q=>∃ p xs k j,o = .ref p∧i = .int k∧H p=some (.lst xs)∧ixN xs.length k=some j∧Q (upd H p (.lst (xs.set j v)))
theorem set_list:qRf X qRK:=by
  intro pins s σ H o i v ov iv u Q I ro ri rv h
  obtain⟨p,xs,k,j,rfl,rfl,hp,hj,q⟩:=h
  cases ro
  obtain⟨t,rfl⟩:=ri
  obtain⟨its,n,r,ho,hz⟩:=I.lst hp
  obtain⟨h1,h2,h3,h4⟩:=qJg hj
  have hl:=r.length
  have hn:=qDw
  have I':Inv X pins σ (upd H p (.lst (xs.set j v))) { s with heap:=s.heap.update p (Obj.mapSeq (·.setIfInBounds j u)) } :=
    I.qOm hp ho (qI8 its n j u) (r.set rv j) (by rw [List.length_set];exact hz) s.toks
  by_cases h0:0≤k
  · have hk:k.toNat=j:=by
      rw [seqIndex_of h0 h4] at h1
      exact Option.some.inj h1
    exact W.ki_setAt ho h0 (by omega) (by rw [List.size_toArray,← hl];exact h4) (by rw [hk];exact⟨_,I',q⟩)
  · have hk:(k+(its.toArray.size:Int)).toNat=j:=by
      rw [seqIndex_neg (by omega) h3] at h1
      rw [List.size_toArray,← hl]
      exact Option.some.inj h1
    exact W.ki_setBack ho (by omega) (by rw [List.size_toArray,← hl];exact h3) (by omega) (by rw [hk];exact⟨_,I',q⟩)
theorem qHF (lo hi:Option Int) (n:Nat):(sliceBounds lo hi none n).1=((HT.sIx n 0 lo:Nat):Int)∧(sliceBounds lo hi none n).2.1=((HT.sIx n n hi:Nat):Int)∧(sliceBounds lo hi none n).2.2=1:=by
  refine⟨?_,?_,rfl⟩
  · cases lo with
    | none=>simp [sliceBounds,HT.sIx]
    | some i =>
      simp only [sliceBounds,HT.sIx,Option.getD_none,show (1:Int) > 0 by decide,if_true]
      by_cases h:i<0
      · simp only [h,if_true]<;>omega
      · simp only [h,if_false]<;>omega
  · cases hi with
    | none=>simp [sliceBounds,HT.sIx]
    | some i =>
      simp only [sliceBounds,HT.sIx,Option.getD_none,show (1:Int) > 0 by decide,if_true]
      by_cases h:i<0
      · simp only [h,if_true]<;>omega
      · simp only [h,if_false]<;>omega
theorem qGD (its:List Value) (lo hi:Option Int):slicePick its.toArray lo hi none=((its.drop (HT.sIx its.length 0 lo)).take (HT.sIx its.length its.length hi - HT.sIx its.length 0 lo)).toArray:=by
  obtain⟨h1,h2,h3⟩:=qHF lo hi its.toArray.size
  unfold slicePick
  rw [h1,h2,h3]
  simp only [sliceRange_one,pick_run,List.size_toArray]<;>rfl
noncomputable def qSx (K:W.Frag):V→Option Int→Option Int→Hp→VK→Prop:=fun x lo hi H Q=>∃ a xs,x = .ref a∧SqL K H a xs∧∀ p,H p=none→Q (.ref p) (upd H p (.lst (qEo xs lo hi)))
theorem qJe:SlR X (qSx X.K):=by
  k_dat 0"r76"
  obtain⟨a,xs,rfl,hx,q⟩:=h
  cases rx
  obtain⟨its,r,ht,hz⟩:=I.list hx
  have hlen:=r.length
  refine⟨"list",_,slot_list_getitem.lookup,ht.isList.typeIs,?_⟩
  refine wpAny_getItem_list_slice ht.isList hs pl pu .none (by simp) ?_ (by rw [List.size_toArray]<;>omega)
  rw [qGD,← hlen]
  refine⟨.ref s.heap.objs.size,_,I.laid (t':=s.toks) (o:=.lst (qEo xs lo hi)) (fun b ob q=>Heap.get?_push_of_some _ q) (Nat.le_refl _) ?_,rfl,q _ (I.hok.fresh (Nat.le_refl _))⟩
  exact⟨Nat.le_trans (qEd xs lo hi) hz,_,0,(r.drop (HT.sIx xs.length 0 lo)).take (HT.sIx xs.length xs.length hi - HT.sIx xs.length 0 lo),Heap.get?_push_size _ rfl⟩
noncomputable def qDG:V→Bool
  | .non=>true
  | .bl _=>true
  | .int _=>true
  | .str _=>true
  | _=>false
noncomputable def eqV:V→V→Bool
  | .non,.non=>true
  | .bl a,.bl b=>a==b
  | .bl a,.int b=>(if a then 1 else 0)==b
  | .int a,.bl b=>a==(if b then 1 else 0)
  | .int a,.int b=>a==b
  | .str a,.str b=>a==b
  | _,_=>false
theorem qOY {A:Around} {s:Shared} {y x:V} {u v:Value} (ry:RelV y u) (rx:RelV x v) (fy:qDG y=true) (fx:qDG x=true):SeqAt.EqAt A s u v (eqV y x):=by
  cases y with
  | non =>
    cases ry
    cases x with
    | non=>cases rx;exact SeqAt.EqAt.same _
    | bl b=>cases rx;exact SeqAt.EqAt.none_bool b
    | int b=>obtain⟨t,rfl⟩:=rx;exact SeqAt.EqAt.none_int b t
    | str b=>obtain⟨t,rfl⟩:=rx;exact SeqAt.EqAt.none_str b t
    | _=>exact absurd (show false=true from fx) Bool.false_ne_true
  | bl a =>
    cases ry
    cases x with
    | non=>cases rx;exact SeqAt.EqAt.bool_none a
    | bl b=>cases rx;exact SeqAt.EqAt.bool_bool a b
    | int b=>obtain⟨t,rfl⟩:=rx;exact SeqAt.EqAt.bool_int a b t
    | str b=>obtain⟨t,rfl⟩:=rx;exact SeqAt.EqAt.bool_str a b t
    | _=>exact absurd (show false=true from fx) Bool.false_ne_true
  | int a =>
    k_dat 0"r17"
    cases x with
    | non=>cases rx;exact SeqAt.EqAt.int_none a t'
    | bl b=>cases rx;exact SeqAt.EqAt.int_bool a t' b
    | int b=>obtain⟨t,rfl⟩:=rx;exact SeqAt.EqAt.int_int a t' b t
    | str b=>obtain⟨t,rfl⟩:=rx;exact SeqAt.EqAt.int_str a t' b t
    | _=>exact absurd (show false=true from fx) Bool.false_ne_true
  | str a =>
    k_dat 0"r17"
    cases x with
    | non=>cases rx;exact SeqAt.EqAt.str_none a t'
    | bl b=>cases rx;exact SeqAt.EqAt.str_bool a t' b
    | int b=>obtain⟨t,rfl⟩:=rx;exact SeqAt.EqAt.str_int a t' b t
    | str b=>obtain⟨t,rfl⟩:=rx;exact SeqAt.EqAt.str_str a t' b t
    | _=>exact absurd (show false=true from fx) Bool.false_ne_true
  | _=>exact absurd (show false=true from fy) Bool.false_ne_true
noncomputable def eqU (x:V) (u:Value):Bool:=match u with
  | .none=>eqV .non x
  | .bool b=>eqV (.bl b) x
  | .int i _=>eqV (.int i) x
  | .str z _=>eqV (.str z) x
  | _=>false
theorem qLo {x y:V} {u:Value} (r:RelV y u) (f:qDG y=true):eqU x u=eqV y x:=by
  cases y with
  | non=>cases r;rfl
  | bl b=>cases r;rfl
  | int i=>obtain⟨t,rfl⟩:=r;rfl
  | str z=>obtain⟨t,rfl⟩:=r;rfl
  | _=>exact absurd (show false=true from f) Bool.false_ne_true
theorem qDf {x:V}:∀ {xs:List V} {us:List Value},Vals xs us→xs.all qDG=true→us.any (eqU x)=xs.any fun y=>eqV y x
  | _,_,.nil,_=>rfl
  | y::xs,u::us,.cons r t,f=>by
    rw [List.all_cons,Bool.and_eq_true] at f
    rw [List.any_cons,List.any_cons,qLo r f.1,qDf t f.2]
theorem qCr {A:Around} {s:Shared} {x:V} {v:Value} (rx:RelV x v) (fx:qDG x=true):∀ {xs:List V} {us:List Value},Vals xs us→xs.all qDG=true→∀ u∈us,SeqAt.EqAt A s u v (eqU x u)
  | _,_,.nil,_=>fun u hu=>by cases hu
  | y::xs,u::us,.cons r t,f=>fun u' hu=>by
    rw [List.all_cons,Bool.and_eq_true] at f
    rcases List.mem_cons.mp hu with rfl | hu
    · rw [qLo r f.1];exact qOY r rx f.1 fx
    · exact qCr rx fx t f.2 u' hu
noncomputable def inV (x:V) (xs:List V):Bool:=xs.any fun y=>eqV y x
noncomputable def rIn (K:W.Frag) (neg:Bool):R2:=fun x y H Q=>∃ p xs,y = .ref p∧(SqL K H p xs∨SqT K H p xs)∧qDG x=true∧xs.all qDG=true∧Q (.bl (if neg then !inV x xs else inV x xs)) H
theorem qKa:OpR X (compareOp .In) (rIn X.K false):=by
  k_dat 0"r8"
  obtain⟨p,xs,rfl,hq,fx,fs,q⟩:=h
  cases ry
  rcases hq with hq | hq
  · obtain⟨its,r,pl,hz⟩:=I.list hq
    refine SeqAt.in_listAt (eqU x) pl.isList (fun w hw=>qCr rx fx r fs w (by simpa using hw)) ⟨.bl _,H,I,rfl,?_⟩
    k_dat 0"r47"
    exact q
  · obtain⟨its,r,pl,hz⟩:=I.tuple hq
    refine SeqAt.in_tupleAt (eqU x) pl (fun w hw=>qCr rx fx r fs w (by simpa using hw)) ⟨.bl _,H,I,rfl,?_⟩
    k_dat 0"r47"
    exact q
theorem qGu:OpR X (compareOp .NotIn) (rIn X.K true):=by
  k_dat 0"r8"
  obtain⟨p,xs,rfl,hq,fx,fs,q⟩:=h
  cases ry
  rcases hq with hq | hq
  · obtain⟨its,r,pl,hz⟩:=I.list hq
    refine SeqAt.notIn_listAt (eqU x) pl.isList (fun w hw=>qCr rx fx r fs w (by simpa using hw)) ⟨.bl _,H,I,rfl,?_⟩
    k_dat 0"r47"
    exact q
  · obtain⟨its,r,pl,hz⟩:=I.tuple hq
    refine SeqAt.notIn_tupleAt (eqU x) pl (fun w hw=>qCr rx fx r fs w (by simpa using hw)) ⟨.bl _,H,I,rfl,?_⟩
    k_dat 0"r47"
    exact q
theorem qHU:OpR X (compareOp .NotIn) (fun x y H Q=>∃ i j,x = .str i∧y = .str j∧Q (.bl (!(!(Builtin.Str.occurrences j i 0 j.length 1).isEmpty))) H):=by
  k_dat 0"r8"
  obtain⟨i,j,rfl,rfl,q⟩:=h
  obtain⟨t,rfl⟩:=rx
  k_dat 0"r17"
  exact notIn_str ⟨.bl _,H,I,rfl,q⟩
theorem qGq:qFf X (.builtin "len") (fun xs H Q=>∃ p ys,xs=[.ref p]∧(SqL X.K H p ys∨SqT X.K H p ys)∧Q (.int ys.length) H):=by
  intro pins s σ H xs us Q I r h
  obtain⟨p,ys,rfl,hq,q⟩:=h
  obtain⟨u,rfl,rx⟩:=vals1 r
  cases rx
  have hn:=qDw
  rcases hq with hq | hq
  · obtain⟨its,r',pl,hz⟩:=I.list hq
    have hlen:=r'.length
    exact Calls.call_len_list pl.isList (by simp only [List.size_toArray]<;>omega) ⟨.int ys.length,H,I.tok _,⟨s.toks+1,by rw [List.size_toArray,hlen]⟩,q⟩
  · obtain⟨its,r',pl,hz⟩:=I.tuple hq
    have hlen:=r'.length
    exact len_tuple pl (by simp only [List.size_toArray]<;>omega) ⟨.int ys.length,H,I.tok _,⟨s.toks+1,by rw [List.size_toArray,hlen]⟩,q⟩
theorem qHI:qFf X (.builtin "len") (fun xs H Q=>∃ z,xs=[.str z]∧z.length≤sizeLine∧Q (.int z.length) H):=by
  intro pins s σ H xs us Q I r h
  obtain⟨z,rfl,hz,q⟩:=h
  obtain⟨u,rfl,t,rfl⟩:=vals1 r
  have hn:=qDw
  exact len_str (by omega) ⟨.int z.length,H,I.tok _,⟨_,rfl⟩,q⟩
theorem qF2:qFf X (.type "tuple") (fun xs H Q=>∃ p ys,xs=[.ref p]∧((SqL X.K H p ys∧∀ l,H l=none→Q (.ref l) (upd H l (.tup ys)))∨(SqT X.K H p ys∧Q (.ref p) H))):=by
  intro pins s σ H xs us Q I r h
  obtain⟨p,ys,rfl,h⟩:=h
  obtain⟨u,rfl,rx⟩:=vals1 r
  cases rx
  rcases h with ⟨hq,q⟩ | ⟨hq,q⟩
  · obtain⟨its,r',pl,hz⟩:=I.list hq
    have hlen:=r'.length
    refine call_tuple_list pl.isList (fun h' kp=>?_) (by simp only [List.size_toArray]<;>omega)
    have I1:Inv X pins σ H { s with heap:=h' }:=I.kept (t':=s.toks) kp
    have I2:Inv X pins σ (upd H h'.objs.size (.tup ys)) { s with heap:=h'.push { cls:=.type "tuple",data:=.seq its.toArray } } :=
      I1.laid (t':=s.toks) (fun b o e=>Heap.get?_push_of_some _ e) (Nat.le_refl _) (show qAl X.prog X.w _ _ _ (.tup ys) from⟨hz,its,r',IsTup.new _ _⟩)
    exact⟨.ref h'.objs.size,_,I2,rfl,q _ (I1.hok.fresh (Nat.le_refl _))⟩
  · obtain⟨its,r',pl,hz⟩:=I.tuple hq
    exact call_tuple_same pl ⟨.ref p,H,I,rfl,q⟩
def tyV (K:W.Frag) (T:String) (x:V) (H:Hp):Prop:=match x with
  | .str _=>T = "str"
  | .int _=>T = "int"
  | .ref p=>(T = "list" ∧ ∃ xs,SqL K H p xs)∨(T = "tuple" ∧ ∃ o,K.lookup p=some o∧o.cls = .type "tuple" ∧ o.dict=none) ∨
      (T = "dict" ∧ ((∃ kvs,H p=some (.dK kvs))∨∃ kvs,H p=some (.dT kvs)))∨(T = "set" ∧ ∃ S n,H p=some (.set S n))
  | _=>False
theorem qOx {pins:List (Addr×Obj)} {σ:St} {H:Hp} {s:Shared} {T:String} {x:V} {v:Value} (I:Inv X pins σ H s) (r:RelV x v) (ty:tyV X.K T x H) :
    s.TypeIs v T∧∀ a,v = .ref a→∃ ob,s.heap.get? a=some ob∧ob.dict=none:=by
  cases x with
  | str z =>
    obtain⟨t,rfl⟩:=r
    cases (show T = "str" from ty)
    exact⟨typeIs_str s z t,fun _ e=>nomatch e⟩
  | int i =>
    obtain⟨t,rfl⟩:=r
    cases (show T = "int" from ty)
    exact⟨typeIs_int s i t,fun _ e=>nomatch e⟩
  | ref p =>
    cases r
    rcases ty with ⟨rfl,xs,hq⟩ | ⟨rfl,o,hk,hc,hd⟩ | ⟨rfl,hk⟩ | ⟨rfl,S,n,hk⟩
    · obtain⟨its,_,pl,_⟩:=I.list hq
      refine⟨pl.isList.typeIs,fun a e=>?_⟩
      cases e
      obtain⟨o,n,e,c,hd,_⟩:=pl
      exact⟨o,e,hd⟩
    · refine⟨⟨o,I.kIn p o hk,hc⟩,fun a e=>?_⟩
      cases e
      exact⟨o,I.kIn _ o hk,hd⟩
    · have z:∃ o,s.heap.get? p=some o∧o.ExactDict:=by
        rcases hk with ⟨kvs,hk⟩ | ⟨kvs,hk⟩
        · obtain⟨_,_,_,_,o,_,_,e,ex,_⟩:=I.hok p _ hk
          exact⟨o,e,ex⟩
        · obtain⟨_,_,_,_,o,_,_,e,ex,_⟩:=I.hok p _ hk
          exact⟨o,e,ex⟩
      obtain⟨o,e,ex⟩:=z
      refine⟨⟨o,e,ex.1⟩,fun a e2=>?_⟩
      cases e2
      exact⟨o,e,ex.2.1⟩
    · obtain⟨o,_,_,_,e,ex,_⟩:=I.hok p _ hk
      refine⟨⟨o,e,ex.1⟩,fun a e2=>?_⟩
      cases e2
      exact⟨o,e,ex.2.1⟩
  | _=>exact False.elim ty
noncomputable def tBM (K:W.Frag) (T:String) (r:V→List V→Hp→VK→Prop) (to:TE) (t:TA):TE:=fun σ H Q=>to σ H fun x H1=>tyV K T x H1∧t σ H1 fun xs H2=>r x xs H2 Q
variable {o e:Expr} {es:List Expr} {to:TE} {t:TA} {name:Str} {apos cpos:Pos} {T id:String} {r:V→List V→Hp→VK→Prop}
theorem qON (pa:PlainAttrs T) (slot:Slot T name id) (hty:typeOf (.builtin id)=pure (.type "method_descriptor")) (hm:MtR X id r) (ho:PE X o to) (ha:PA X (e::es) t)
    (hbase:attributeBase o name X.env (eval o X.env)=eval o X.env:=by rfl)
    (hfew:((backTo cpos (starEach (e::es) X.env)).all (fun x=>!x.1)&&(backToKw cpos (keywordEach [] X.env)).all (fun x=>x.1.isSome)
      && decide ((e::es).length+([]:List Keyword).length+(if ([]:List Keyword).isEmpty then 0 else 1)<30))=true:=by rfl)
    (hline:(apos.endLine==cpos.line)=true:=by rfl) (hs:starEach (e::es) X.env=(false,eval e X.env)::starEach es X.env:=by rfl) (hplain:(backTo cpos (starEach es X.env)).any (·.1)=false:=by rfl) :
    PE X (.Call (.Attribute o name apos) (e::es) [] cpos) (tBM X.K T r to t):=by
  k_dat 0"r1"
  refine wpAny_Call_method_late hbase hfew hline rfl (thn (ho pins s σ H _ I h) fun v s1 ⟨x,H1,I1,r1,ty,q1⟩=>?_)
  obtain⟨h1,h2⟩:=qOx I1 r1 ty
  refine⟨T,id,pa,slot,hty,h1,h2,?_⟩
  have hA:=ha cpos pins s1 σ H1 _ I1 q1
  rw [hs] at hA ⊢
  refine Calls.callWith_builtin (by show (false || (backTo cpos (starEach es X.env)).any (·.1))=false;rw [hplain]<;>rfl) (Calls.evalArgs_plain ?_)
  exact thn hA fun us s2 ⟨vs,H2,I2,r2,q2⟩=>hm pins s2 σ H2 x vs v us Q I2 r1 r2 q2
end
end L2
namespace L2
open PySem PySem.Spec PyProof.Rows
def MtM (X:Cx) (id:String) (r:V→List V→Hp→VK→Prop):Prop :=
  ∀ (pins:List (Addr×Obj)) (s:Shared) (σ:St) (H:Hp) (x:V) (xs:List V) (v:Value) (us:List Value) (Q:VK),Inv X pins σ H s→RelV x v→Vals xs us→r x xs H Q →
    wpAny (model X.prog X.w) X.A (call (.builtin id) (v::us)) (EP X pins σ Q) X.xe s
theorem Vals.one:∀ {x:V} {us:List Value},Vals [x] us→∃ u,us=[u]∧RelV x u
  | _,_,.cons r .nil=>⟨_,rfl,r⟩
theorem Vals.zero:∀ {us:List Value},Vals [] us→us=[]
  | _,.nil=>rfl
theorem Vals.rep {xs:List V} {us:List Value} (h:Vals xs us):∀ k:Nat,Vals (List.replicate k xs).flatten (List.replicate k us).flatten
  | 0=>.nil
  | k+1=>by
    rw [List.replicate_succ,List.replicate_succ,List.flatten_cons,List.flatten_cons]
    exact Vals.append h (Vals.rep h k)
theorem foldl_rep (its:List Value):∀ (k:Nat) (acc:List Value),
    List.foldl (fun x1 x2=>x1++x2) acc.toArray (List.replicate k its.toArray)=(acc++(List.replicate k its).flatten).toArray
  | 0,acc=>by simp
  | k + 1,acc=>by
    have e:acc.toArray++its.toArray=(acc++its).toArray:=by simp
    have e2:(acc++its)++(List.replicate k its).flatten=acc++(List.replicate (k+1) its).flatten:=by
      rw [List.replicate_succ,List.flatten_cons,List.append_assoc]
    rw [← e2,← foldl_rep its k (acc++its),← e,List.replicate_succ,List.foldl_cons]
section
variable {X:Cx} {pins:List (Addr×Obj)} {σ:St} {H:Hp} {s:Shared} {l b:Addr} {xs ys zs:List V}
theorem Inv.qRl {its its':List Value} {n:Nat} {f:Array Value→Array Value} {t':Nat} (I:Inv X pins σ H s) (hH:H l=some (.lst xs))
    (e:s.heap.get? l=some { cls:=.type "list",data:=.seq its.toArray n }) (hf:f its.toArray=its'.toArray) (hv:Vals ys its') (hz:ys.length≤sizeLine) :
    Inv X pins σ (upd H l (.lst ys)) { s with heap:=s.heap.update l (Obj.mapSeq f),toks:=t' }:=by
  have q:=PySem.IsL.update e f
  rw [hf] at q
  refine I.write (x:=l) (e:=l) (by rw [hH];exact trivial) (.inl rfl) (fun b' u hb hu=>(Heap.get?_update_other s.heap (Obj.mapSeq f) (Ne.symm hb)).trans hu) ⟨_,q⟩ ?_
  exact⟨hz,its',_,hv,q⟩
theorem Inv.qR4 {its:List Value} {t':Nat} (I:Inv X pins σ H s) (hv:Vals ys its) (hz:ys.length≤sizeLine) :
    Inv X pins σ (upd H s.heap.objs.size (.lst ys)) { s with heap:=s.heap.push { cls:=.type "list",data:=.seq its.toArray },toks:=t' } :=
  I.laid (fun _ _ q=>Heap.get?_push_of_some _ q) (Nat.le_refl _) ⟨hz,its,0,hv,Heap.get?_push_size _ rfl⟩
theorem Inv.fresh (I:Inv X pins σ H s):H s.heap.objs.size=none:=I.hok.fresh (Nat.le_refl _)
theorem Inv.qLP (I:Inv X pins σ H s) (hH:H l=some (.lst xs)):xs.length≤sizeLine∧∃ (its:List Value) (n:Nat),Vals xs its∧xs.length=its.length∧s.heap.get? l=some { cls:=.type "list",data:=.seq its.toArray n }:=by
  obtain⟨z,its,n,r,e⟩:=I.hok l _ hH
  exact⟨z,its,n,r,r.length,e⟩
theorem qHw {n:Nat} (h:n≤sizeLine):Builtin.List.listTooLong n=false:=by
  unfold Builtin.List.listTooLong
  exact decide_eq_false (by omega)
end
section
variable {X:Cx}
noncomputable def qNw:V→List V→Hp→VK→Prop:=fun x vs H Q=>∃ l xs y,x = .ref l∧vs=[y]∧H l=some (.lst xs)∧xs.length<sizeLine∧Q .non (upd H l (.lst (xs++[y])))
theorem qK2:MtM X "list.append" qNw:=by
  intro pins s σ H x vs v us Q I rx rv h
  obtain⟨l,xs,y,rfl,rfl,hH,hz,q⟩:=h
  cases rx
  obtain⟨u,rfl,ru⟩:=rv.one
  obtain⟨z,its,n,r,hl,e⟩:=I.qLP hH
  refine call_meets F.slot_list_append ⟨_,e,rfl⟩ F.entry_list_append (F.args_list_append_2 _ _) (PySem.list_append l its.toArray n u (by rw [List.size_toArray];omega)) ⟨e,?_⟩
  refine⟨.non,_,I.qRl (its':=its++[u]) hH e (by simp) (r.append (.cons ru .nil)) ?_,rfl,q⟩
  rw [List.length_append,List.length_singleton]
  omega
noncomputable def qSb:R2:=fun x y H Q=>∃ l b xs zs,x = .ref l∧y = .ref b∧H l=some (.lst xs)∧H b=some (.lst zs)∧xs.length+zs.length≤sizeLine∧∀ p,H p=none→Q (.ref p) (upd H p (.lst (xs++zs)))
theorem qPj:OpR X (binaryOp .Add) qSb:=by
  k_dat 0"r8"
  obtain⟨l,b,xs,zs,rfl,rfl,hH,hB,hz,q⟩:=h
  cases rx
  cases ry
  obtain⟨z,its,n,r,hl,e⟩:=I.qLP hH
  obtain⟨z2,its2,n2,r2,hl2,e2⟩:=I.qLP hB
  refine PySem.P.add_list e e2 ?_ (by rw [List.size_toArray,List.size_toArray];omega)
  have ea:its.toArray++its2.toArray=(its++its2).toArray:=by simp
  rw [ea]
  exact⟨.ref _,_,I.qR4 (t':=s.toks) (r.append r2) (by rw [List.length_append];omega),rfl,q _ I.fresh⟩
noncomputable def qSQ:R2:=fun x y H Q=>∃ l k xs,x = .ref l∧y = .int k∧H l=some (.lst xs)∧-(2 ^ 63)≤k∧k<2 ^ 63∧xs.length * k.toNat≤sizeLine ∧
  ∀ p,H p=none→Q (.ref p) (upd H p (.lst (List.replicate k.toNat xs).flatten))
theorem len_rep {α:Type} (xs:List α) (k:Nat):(List.replicate k xs).flatten.length=k * xs.length:=by
  induction k with
  | zero=>simp
  | succ k ih=>rw [List.replicate_succ,List.flatten_cons,List.length_append,ih,Nat.succ_mul,Nat.add_comm]
theorem qOV:OpR X (binaryOp .Mult) qSQ:=by
  k_dat 0"r8"
  obtain⟨l,k,xs,rfl,rfl,hH,h1,h2,hz,q⟩:=h
  cases rx
  obtain⟨t,rfl⟩:=ry
  obtain⟨z,its,n,r,hl,e⟩:=I.qLP hH
  have hlen:its.toArray.size * k.toNat≤sizeLine:=by rw [List.size_toArray,← hl];exact hz
  have hcap:¬ its.toArray.size * k.toNat > (2 ^ 63 - 1) / 8:=by
    have:(sizeLine:Nat)≤(2 ^ 63 - 1) / 8:=by decide
    omega
  have hfit:¬ (!Builtin.List.listFitsIndex k)=true:=by
    rw [fitsIndex_both h1 h2]
    exact Bool.false_ne_true
  have hlong:¬ Builtin.List.listTooLong (its.toArray.size * k.toNat)=true:=by
    rw [qHw hlen]
    exact Bool.false_ne_true
  have hnew:List.foldl (fun x1 x2=>x1++x2) #[] (List.replicate (if its.toArray.isEmpty=true then 0 else k.toNat) its.toArray)=(List.replicate k.toNat its).flatten.toArray:=by
    have f0:∀ m:Nat,List.foldl (fun x1 x2=>x1++x2) #[] (List.replicate m its.toArray)=(List.replicate m its).flatten.toArray:=fun m=>by
      have:=foldl_rep its m []
      rw [List.nil_append] at this
      exact this
    rw [f0]
    cases its with
    | nil=>simp
    | cons a r'=>rw [if_neg (by simp)]
  refine wpAny_binaryOp_repeat_ref (T:= "list") (U:= "int") (by decide) ⟨_,e,rfl⟩ (fun s'=>typeIs_int s' k t) noFill_list_mul F.fills_int_mul F.slot_int_rmul repeat_list F.slot_int_index.lookup
    (call_meets F.slot_int_rmul (typeIs_int s k t) F.entry_int_rmul (F.args_int_rmul_2 _ _) (int___rmul___int_list k t l its.toArray n)
      ⟨e,rfl,⟨_,e,rfl⟩,call_meets F.slot_list_mul ⟨_,e,rfl⟩ F.entry_list_mul (F.args_list_mul_2 _ _) (AutoListH.list___mul___list_int_3 l its.toArray n k t hfit hcap hlong) ⟨e,?_⟩⟩)
  rw [hnew]
  exact⟨.ref _,_,I.qR4 (t':=s.toks) (r.rep k.toNat) (by rw [len_rep,Nat.mul_comm];exact hz),rfl,q _ I.fresh⟩
end
end L2
namespace Att
open PySem PySem.W PySem.Calls PyProof.Rows
theorem qEh {P:Params} {h:Heap}:∀ (ns:List Int) (vs:List Value),WellAll P h vs (ns.map WData.int)→IntsAre vs ns:=by
  intro ns
  induction ns with
  | nil =>
    intro vs w
    rw [List.map_nil] at w
    cases w
    exact .nil
  | cons n ns ih =>
    intro vs w
    rw [List.map_cons] at w
    cases w with
    | cons a b =>
      cases a
      exact .cons _ _ (ih _ b)
theorem qKE {l:OpenLaw} {n:Nat} (hn:l.most=some n) {P:Params} {h:Heap} {args:List WData} {vals:List Value}
    (hpre:l.row.toRowW.claim.pre args=true) (hwl:WellAll P h vals args) :
    ∃ a vs ns,vals=[Value.ref a]∧args=[WData.list (ns.map WData.int)]∧h.get? a=some { cls:=.type "list",data:=.seq vs.toArray }∧IntsAre vs ns∧ns.length≤n:=by
  have hsh:WShape.hasAll [] args [.list .int]=true:=(pre_splitW hpre).1
  have hc:l.pre.holds [] { args:=args }=true:=(pre_splitW hpre).2
  obtain⟨d,r,rfl,h1,h2⟩:=hasAllW_cons hsh
  obtain rfl:=hasAllW_nil h2
  obtain⟨xs,rfl,h3⟩:=hasW_list h1
  obtain⟨ns,rfl⟩:=items_int h3
  have hlen:ns.length≤n:=by
    unfold OpenLaw.pre at hc
    have h4:(WTm.not (.lt (.lit (.int (n:Int))) (.len (.arg 0)))).holds [] { args:=[.list (ns.map .int)] }=true:=by
      have h4:=(holds_andW hc).1
      rw [hn] at h4
      exact h4
    have h5:=condW_of h4 (w_not (w_lt w_lit (w_len_list (w_arg rfl))))
    rw [List.length_map] at h5
    refine Nat.le_of_not_lt fun q=>?_
    have q':(n:Int)<((ns.length:Nat):Int):=by omega
    first
      | (rw [decide_eq_true q'] at h5;exact absurd h5 (by decide))
      | (simp at h5;omega)
  cases hwl with
  | cons w1 w2 =>
    cases w2
    cases w1 with
    | list ho hall=>exact⟨_,_,ns,rfl,rfl,ho,qEh ns _ hall,hlen⟩
theorem qKI (l:OpenLaw) (args:List WData):l.row.toRowW.claim.post args (.bool true) args=true :=
  postW_of (r:=l.row.toRowW) (X:=(true==true))
    (show WShape.has [] (.bool true) .bool=true by first | rfl | decide | simp [WShape.has,WShape.arms,WShape.armsAll])
    (show (WTm.eq .res (.lit (.bool true))).value [] { args:=args,res:=some (.bool true),after:=args }=some (.bool (true==true)) from w_eq_bool (w_res rfl) w_lit) rfl
theorem qIF {l:OpenLaw} {n:Nat} {q:Program} {loose:List Str} {XP:(Str→Option Value)→Heap→Prop} {YP:World→Heap→Prop} {d:DefRec}
    (hn:l.most=some n) (hdf:d.params.defaults=[])
    (call:∀ (w:World) (s₀ s₁:Shared) (mg mb:Str→Option Value) (fa:Addr) (o:Obj) (pm cd doc:Value) (a:Addr) (vs:List Value) (ns:List Int),
      Ground q loose [] XP w s₀ mg mb s₁.heap→YP w s₁.heap →
      s₁.heap.get? fa=some o→o.data = .func (docDef d.name d.params d.body d.scope pm cd doc)→s₁.heap.CodeRec cd d.name→mg d.name=some (.ref fa) →
      s₁.heap.get? a=some { cls:=.type "list",data:=.seq vs.toArray }→IntsAre vs ns→ns.length≤n→s₁.gens=#[] →
      codeAny (model l.prog w) callerA (.call (.ref fa) ⟨[.ref a],[]⟩) (fun r s'=>r = .ok (.ret (.bool true))∧OldK s₁.heap s'.heap∧s'.os=s₁.os∧AllBare s'.gens) s₁) :
    WalkO q loose XP YP l.row.toRowW d [] (fun f vs=>PySem.call f vs):=by
  intro w s₀ s₁ mg mb G Y fa o pm cd doc dV kV ho hd hcd hD hmg hg args vals as hpre hlay hrd hwl hlo
  obtain rfl:dV = .none:=Dflts.none hD hdf
  obtain rfl:kV = .none:=Dflts.noKw hD
  obtain⟨a,vs,ns,rfl,rfl,hobj,hints,hlen⟩:=qKE hn hpre hwl
  refine enter_call (codeAny_mono (call w s₀ s₁ mg mb fa o pm cd doc a vs ns G Y ho (fd_plain hd) hcd hmg hobj hints hlen hg) fun r s' hq=>?_)
  obtain⟨rfl,h2,h3,h4⟩:=hq
  exact⟨.inl ⟨.bool true,.bool true,[],rfl,fun _=>rfl,.bool true,qKI l _,fun _=>⟨List.Pairwise.nil,fun _ hm=>(nomatch hm)⟩⟩,h2,h3,h4⟩
end Att
namespace L2
open PySem PySem.Spec PyProof.Rows
theorem qGR:∀ {vs:List Value} {ns:List Int},IntsAre vs ns→Vals (ns.map V.int) vs
  | _,_,.nil=>.nil
  | _,_,.cons n t h=>.cons ⟨t,rfl⟩ (qGR h)
def qP2 (H:Hp):Prop:=∀ b,H b=none∨∃ o xs,H b=some (.frz o (.lst xs))
theorem qL3 {P:Program} {w:World} {K:W.Frag} {mg mb:Str→Option Value} {CX:CXT} {k:Nat} {fa a:Addr} {fd:FuncData} {x:Str} {sp:Sp} {s₁:Shared} {vs:List Value} {ns:List Int}
    (KX:K.In s₁.heap) (hns:s₁.heap.Ns mainGlobals mg) (hb:s₁.heap.Ns builtinsNs mb) (hbb:∀ x:Str,x ≠ "__name__" → mb x=bootBuiltins x) (hlim:s₁.heap.NoLimit) (hg:s₁.gens=#[])
    (ha:s₁.heap.get? a=some { cls:=.type "list",data:=.seq vs.toArray }) (hi:IntsAre vs ns) (hl:ns.length≤sizeLine) (hr:qAd k callerA)
    (F:∀ base:Heap,K.In base→base.Ns mainGlobals mg→qx P w K mg base CX k fa fd [x] sp) (hbind:∀ (s:Shared) (u:Value),BindsTo s fd ⟨[u],[]⟩ [(x,u)])
    (hsp:∀ H:Hp,qP2 H→SqL K H a (ns.map V.int)→sp [.ref a] H (fun v _=>v = .bl true) fun _ _ _=>False)
    (hCX:∀ H e s',CX [] H s₁ (fun _ _ _=>False) e s'→False) :
    codeAny (model P w) callerA (.call (.ref fa) ⟨[.ref a],[]⟩) (fun r s'=>r = .ok (.ret (.bool true))∧OldK s₁.heap s'.heap∧s'.os=s₁.os∧AllBare s'.gens) s₁:=by
  have rv:=qGR hi
  have lenV:=hi.length
  -- from an abstract heap in which nothing but the script may be tracked
  have core : ∀ H:Hp,qP2 H→SqL K H a (ns.map V.int)→HOk P w H s₁.heap→(∀ b,H b≠none→b=a)→(H a≠none→K.lookup a=none) →
      codeAny (model P w) callerA (.call (.ref fa) ⟨[.ref a],[]⟩) (fun r s'=>r = .ok (.ret (.bool true))∧OldK s₁.heap s'.heap∧s'.os=s₁.os∧AllBare s'.gens) s₁:=by
    intro H hO hS hok hA hK
    have base_of:∀ {b:Addr} {o:Obj},s₁.heap.get? b=some o→H b=none→(qGp s₁.heap H).get? b=some o:=fun e n=>qLx e n
    have noA:∀ {b:Addr} {o:Obj} {es:Array DictEntry} {ep:Nat},s₁.heap.get? b=some o→o.data = .dict es ep→H b=none:=fun {b o es ep} e d=>by
      cases q:H b with
      | none=>rfl
      | some u =>
        have e':b=a:=hA b (by rw [q];simp)
        subst e'
        rw [ha] at e;cases e
        have d':Data.seq vs.toArray _=Data.dict es ep:=d
        cases d'
    have nsK:∀ {b:Addr} {m:Str→Option Value},s₁.heap.Ns b m→(qGp s₁.heap H).Ns b m:=fun {b m} ⟨o,es,ep,e,d,r⟩=>⟨o,es,ep,base_of e (noA e d),d,r⟩
    have hKb:K.In (qGp s₁.heap H):=fun b o e=>base_of (KX b o e) (by
      cases q:H b with
      | none=>rfl
      | some u =>
        have e':b=a:=hA b (by rw [q];simp)
        subst e'
        rw [hK (by rw [q];simp)] at e;cases e)
    have hM:Mod K mg (qGp s₁.heap H):=⟨hKb,nsK hns,⟨mb,nsK hb,hbb⟩,let ⟨mc,h1,h2⟩:=hlim;⟨mc,nsK h1,h2⟩⟩
    have e0:qF9 P w K mg (qGp s₁.heap H) callerA [] s₁ H:=⟨rfl,hM,fun b o e=>qNb e,Nat.le_of_eq (qKV _ _),trivial,fun b hb=>absurd (show b∈([]:List Addr) from hb) (by simp),hok,.of_eq hg⟩
    refine codeAny_mono ((F _ hKb (nsK hns)).run callerA [] s₁ H ⟨[.ref a],[]⟩ [.ref a] [.ref a] _ _ hr e0 (hbind s₁ (.ref a)) (.cons rfl .nil) (hsp H hO hS)) fun r s' h=>?_
    cases r with
    | error e=>exact (hCX H e s' h).elim
    | ok fl =>
      cases fl with
      | next=>exact False.elim h
      | brk=>exact False.elim h
      | cont=>exact False.elim h
      | ret u =>
        obtain⟨v,H',os,bare,un,hok',r',q⟩:=h
        have q':v = .bl true:=q
        subst q'
        obtain rfl:u=Value.bool true:=r'
        refine⟨rfl,OldK.of_keep fun b o e=>?_,os,bare⟩
        cases q:H b with
        | none=>exact un.keep b o e q (by intro z;exact absurd (show b∈([]:List Addr) from z) (by simp)) (by simp)
        | some u =>
          rcases hO b with z | ⟨ob,xs,z⟩
          · rw [q] at z;cases z
          · have z2:=un.frzs b ob _ z
            obtain⟨e1,_⟩:=hok b _ z
            obtain⟨e2,_⟩:=hok' b _ z2
            rw [e] at e1;cases e1
            exact e2
  cases hk:K.lookup a with
  | some o =>
    -- the script is one of the module's own objects
    have e:=KX a o hk
    rw [ha] at e
    cases e
    refine core (fun _=>none) (fun _=>.inl rfl) (.inr ⟨_,vs.toArray,_,hk,rfl,rfl,rfl,by rw [List.size_toArray,lenV];exact hl,by simpa using rv⟩) (fun b u z=>by have z':(none:Option HO)=some u:=z;cases z') (fun b z=>absurd rfl z) fun z=>absurd rfl z
  | none =>
    refine core (fun b=>if b=a then some (.frz { cls:=.type "list",data:=.seq vs.toArray } (.lst (ns.map V.int))) else none) (fun b=>?_) (.inl (.inr ⟨{ cls:=.type "list",data:=.seq vs.toArray },if_pos rfl⟩)) (fun b u z=>?_) (fun b z=>?_) fun _=>hk
    · by_cases hb:b=a
      · exact .inr ⟨_,_,if_pos hb⟩
      · exact .inl (if_neg hb)
    · by_cases hb:b=a
      · have z':=(if_pos hb).symm.trans z
        cases z'
        subst hb
        exact⟨ha,by rw [List.length_map];exact hl,vs,_,rv,ha⟩
      · have z':=(if_neg hb).symm.trans z
        cases z'
    · by_cases hb:b=a
      · exact hb
      · exact absurd (if_neg hb) z
end L2
namespace L2
open PySem PySem.Spec PyProof.Rows
theorem qM0 {l:W.OpenLaw} {n k:Nat} {q:Program} {loose:List Str} {XP:(Str→Option Value)→Heap→Prop} {YP:World→Heap→Prop} {d:DefRec} {K:Params→W.Frag} {CX:World→CXT} {sp:World→Sp} {x:Str}
    (hn:l.most=some n) (hn2:n≤sizeLine) (hdf:d.params.defaults=[]) (hr:qAd k callerA)
    (hY:∀ (w:World) (h:Heap),YP w h→(K w.params).In h)
    (F:∀ (w:World) (mg:Str→Option Value) (fa:Addr) (h:Heap),(K w.params).In h→h.Ns mainGlobals mg→mg d.name=some (.ref fa) →
      ∃ fd:FuncData,(∀ (s:Shared) (u:Value),BindsTo s fd ⟨[u],[]⟩ [(x,u)]) ∧
        ∀ base:Heap,(K w.params).In base→base.Ns mainGlobals mg→qx l.prog w (K w.params) mg base (CX w) k fa fd [x] (sp w))
    (hsp:∀ (w:World) (H:Hp) (a:Addr) (ns:List Int),ns.length≤n→qP2 H→SqL (K w.params) H a (ns.map V.int)→sp w [.ref a] H (fun v _=>v = .bl true) fun _ _ _=>False)
    (hCX:∀ (w:World) (H:Hp) (s:Shared) (e:Value) (s':Shared),CX w [] H s (fun _ _ _=>False) e s'→False) :
    W.WalkO q loose XP YP l.row.toRowW d [] (fun f vs=>PySem.call f vs):=by
  refine Att.qIF hn hdf fun w s₀ s₁ mg mb fa o pm cd doc a vs ns G Y ho hd hcd hmg hobj hints hlen hg=>?_
  have KX:=hY w _ Y
  obtain⟨fd,hb,hF⟩:=F w mg fa _ KX G.T.g hmg
  exact qL3 KX G.T.g G.T.b G.T.builtins G.T.nolimit hg hobj hints (Nat.le_trans hlen hn2) hr hF hb (fun H hO hS=>hsp w H a ns hlen hO hS) fun H e s'=>hCX w H s₁ e s'
end L2
namespace L2
open PySem PySem.Spec PyProof.Rows
noncomputable def inClass (s:Stmt) (j:Nat):Stmt:=match s with
  | .ClassDef _ _ _ body _ _ _ _ _ _ _=>body.getD j (.Pass ⟨0,0,0,0⟩)
  | _=>.Pass ⟨0,0,0,0⟩
noncomputable def qAg (s:Stmt):Arguments:=match s with
  | .FunctionDef _ a _ _ _ _ _ _ _ _=>a
  | _=>{ posonlyargs:=[],args:=[],vararg:=none,kwonlyargs:=[],kw_defaults:=[],kwarg:=none,defaults:=[] }
noncomputable def qAX (s:Stmt):List Stmt:=match s with
  | .FunctionDef _ _ b _ _ _ _ _ _ _=>b
  | _=>[]
noncomputable def qL (s:Stmt):Scope:=match s with
  | .FunctionDef _ _ _ _ _ _ sc _ _ _=>sc
  | _=>{ kind:=.function,names:=[],isGenerator:=false,isCoroutine:=false }
noncomputable abbrev CX0:CXT:=fun _ _ _ _ _ _=>False
noncomputable abbrev E0:XK:=fun _ _ _=>False
theorem qMO {X:Cx}:Passes CX0 X E0:=fun _ _ _ _ _ _ _ h=>h.elim
structure Fun (K:W.Frag) (x qual:Str) (st:Stmt) (f:Addr) (fd:FuncData):Prop where
  ex:∃ (oc:Value) (od:Option Addr) (kV doc pm:Value) (an:Option Addr) (cdv ct:Value) (osl:Array (Option Value)),
    fd=W.fnOf x qual (qAg st) (qAX st) (qL st) .none kV doc pm an cdv ct∧K.lookup f=some ⟨oc,od,.func fd,osl⟩∧W.codeIn K cdv qual=true
  kp:W.keepIn K (.ref f)=true
section
variable {P:Program} {w:World} {K:W.Frag} {mg:Str→Option Value} {base:Heap}
theorem Fun.ok {x qual:Str} {st:Stmt} {f:Addr} {fd:FuncData} {N ps:List Str} {k:Nat} {sp:Sp} (F:Fun K x qual st f fd) (S:qR N ps (qL st)) (len:∀ vs H Q E,sp vs H Q E→vs.length=ps.length)
    (hbody:∀ (cdv:Value) (A:Around) (outer:List Env) (s:Shared) (H:Hp) (vs:List V) (Q:VK) (E:XK),qAd k (A.deeper (envOfC qual (qL st) s.heap.objs.size f cdv))→sp vs H Q E →
      ∃ t,PSs (qJO CX0 P w K mg base N qual (qL st) f cdv A outer s H E).nox (qAX st) t∧t { nx:=fun _ H'=>Q .non H',rt:=Q } (start N vs) H):qx P w K mg base CX0 (k+1) f fd ps sp:=by
  obtain⟨oc,od,kV,doc,pm,an,cdv,ct,osl,rfl,lk,hcd⟩:=F.ex
  refine qR1 lk hcd S len fun A outer s H vs Q E hr hsp=>?_
  obtain⟨t,h,q⟩:=hbody cdv A outer s H vs Q E hr hsp
  exact⟨t,h.nox,q⟩
theorem Fun.binds {x qual:Str} {st:Stmt} {f:Addr} {fd:FuncData} {ps:List Str} (F:Fun K x qual st f fd)
    (h:∀ (kV doc pm:Value) (an:Option Addr) (cdv ct:Value) (us:List Value),us.length=ps.length→bindArgs (W.fnOf x qual (qAg st) (qAX st) (qL st) .none kV doc pm an cdv ct) ⟨us,[]⟩=pure (ps.zip us)):Binds K fd ps []:=by
  obtain⟨oc,od,kV,doc,pm,an,cdv,ct,osl,rfl,lk,hcd⟩:=F.ex
  exact .all (h kV doc pm an cdv ct)
theorem qMr {x qual:Str} {st:Stmt} {f:Addr} {oc:Value} {od an:Option Addr} {osl:Array (Option Value)} {kV doc pm cdv ct:Value} (l:K.lookup f=some ⟨oc,od,.func (W.fnOf x qual (qAg st) (qAX st) (qL st) .none kV doc pm an cdv ct),osl⟩)
    (c:W.codeIn K cdv qual=true) (k:W.keepIn K (.ref f)=true):Fun K x qual st f (W.fnOf x qual (qAg st) (qAX st) (qL st) .none kV doc pm an cdv ct):=⟨⟨oc,od,kV,doc,pm,an,cdv,ct,osl,rfl,l,c⟩,k⟩
end
theorem qBT {A B:Prop} (h:B):if false=true then A else B:=by
  rw [if_neg Bool.false_ne_true]
  exact h
theorem qAy {A B:Prop} (h:A):if true=true then A else B:=by
  rw [if_pos rfl]
  exact h
def qQz (H H':Hp):Prop:=∀ b o,H b=some o→H' b=some o
theorem qQz.free {H H':Hp} (e:qQz H H') {l:Addr} (h:H' l=Option.none):H l=Option.none:=by
  cases q:H l with
  | none=>rfl
  | some o =>
    rw [e l o q] at h
    cases h
end L2
namespace L2
open PySem PySem.Spec PyProof.Rows
section
variable {κ:Type} [DecidableEq κ]
noncomputable def qB7 (kvs:List (κ×V)) (k:κ):Option V:=(kvs.find? fun kv=>decide (kv.1=k)).map (·.2)
noncomputable def putK (kvs:List (κ×V)) (k:κ) (v:V):List (κ×V) :=
  if (kvs.any fun kv=>decide (kv.1=k))=true then kvs.map (fun kv=>if kv.1=k then (kv.1,v) else kv) else kvs++[(k,v)]
theorem qE8 {p:κ×V} {r:List (κ×V)} {k:κ} (e:p.1=k):qB7 (p::r) k=some p.2:=by simp [qB7,List.find?_cons,e]
theorem qFN {p:κ×V} {r:List (κ×V)} {k:κ} (e:¬ p.1=k):qB7 (p::r) k=qB7 r k:=by simp [qB7,List.find?_cons,e]
theorem qH7 (k:κ):∀ kvs:List (κ×V),(kvs.any fun kv=>decide (kv.1=k))=(qB7 kvs k).isSome
  | []=>rfl
  | p::r=>by
    rw [List.any_cons]
    by_cases e:p.1=k
    · simp only [qE8 e,decide_eq_true e,Bool.true_or,Option.isSome_some]
    · rw [qFN e,decide_eq_false e,Bool.false_or];exact qH7 k r
theorem qEZ (kvs:List (κ×V)) (k:κ) (v:V):(putK kvs k v).length≤kvs.length+1:=by
  unfold putK
  split
  · rw [List.length_map];omega
  · rw [List.length_append,List.length_cons,List.length_nil];omega
theorem qC6.qKx {o:Option V} {u:Option Value} (r:qC6 o u):o.isSome=u.isSome:=by
  cases o with
  | none=>cases u with
    | none=>rfl
    | some _=>exact (show False from r).elim
  | some _=>cases u with
    | none=>exact (show False from r).elim
    | some _=>rfl
theorem qC6.getD {o:Option V} {u:Option Value} {d:V} {d':Value} (r:qC6 o u) (rd:RelV d d'):RelV (o.getD d) (u.getD d'):=by
  cases o with
  | none=>cases u with
    | none=>exact rd
    | some _=>exact (show False from r).elim
  | some _=>cases u with
    | none=>exact (show False from r).elim
    | some _=>exact r
theorem KV.val {kvs:List (κ×V)} {vs:List (κ×Value)} (r:KV kvs vs) (k:κ):qC6 (qB7 kvs k) (valueAt vs k):=by
  unfold KV at r
  induction r with
  | nil=>exact True.intro
  | @cons p q ps qs h t ih =>
    obtain⟨h1,h2⟩:=h
    by_cases e:p.1=k
    · have e':q.1=k:=h1.symm.trans e
      have b:valueAt (q::qs) k=some q.2:=by simp [valueAt,List.find?_cons,e']
      rw [qE8 e,b];exact h2
    · have e':¬ q.1=k:=fun z=>e (h1.trans z)
      have b:valueAt (q::qs) k=valueAt qs k:=by simp [valueAt,List.find?_cons,e']
      rw [qFN e,b];exact ih
theorem KV.any {kvs:List (κ×V)} {vs:List (κ×Value)} (r:KV kvs vs) (k:κ):(kvs.any fun kv=>decide (kv.1=k))=vs.any fun kv=>decide (kv.1=k):=by
  unfold KV at r
  induction r with
  | nil=>rfl
  | cons h t ih=>rw [List.any_cons,List.any_cons,ih,h.1]
theorem KV.repl {kvs:List (κ×V)} {vs:List (κ×Value)} (r:KV kvs vs) (k:κ) {y:V} {u:Value} (ry:RelV y u) :
    KV (kvs.map fun kv=>if kv.1=k then (kv.1,y) else kv) (vs.map fun kv=>if kv.1=k then (kv.1,u) else kv):=by
  unfold KV at r ⊢
  induction r with
  | nil=>exact .nil
  | @cons p q ps qs h t ih =>
    rw [List.map_cons,List.map_cons]
    refine .cons ?_ ih
    obtain⟨h1,h2⟩:=h
    by_cases e:p.1=k
    · rw [if_pos e,if_pos (h1.symm.trans e)];exact⟨h1,ry⟩
    · rw [if_neg e,if_neg (fun z=>e (h1.trans z))];exact⟨h1,h2⟩
theorem KV.put {kvs:List (κ×V)} {vs:List (κ×Value)} (r:KV kvs vs) (k:κ) {y:V} {u:Value} (ry:RelV y u):KV (putK kvs k y) (stored vs k u):=by
  unfold putK stored
  rw [r.any k]
  by_cases e:(vs.any fun kv=>decide (kv.1=k))=true
  · rw [if_pos e,if_pos e];exact r.repl k ry
  · rw [if_neg e,if_neg e];exact Paired.snoc r ⟨rfl,ry⟩
theorem KV.length {kvs:List (κ×V)} {vs:List (κ×Value)} (r:KV kvs vs):kvs.length=vs.length:=Paired.length r
end
theorem qMJ {P:Program} {w:World} {k:Key} {u:Value} (r:RelV (kV k) u):(qAV P w).is k u=true:=by
  cases k with
  | inl i=>obtain⟨t,e⟩:=(show ∃ t,u=Value.int i t from r);subst e;exact qIM P w i t
  | inr x=>obtain⟨t,e⟩:=(show ∃ t,u=Value.str x t from r);subst e;exact qHj P w x t
theorem qGU {P:Program} {w:World}:∀ {ks:List Key} {us:List Value},Vals (ks.map kV) us→ItemsAre (qAV P w) ks us
  | [],_,r=>by rw [List.map_nil] at r;cases r;exact .nil
  | k::ks,_,r=>by
    rw [List.map_cons] at r
    cases r with
    | cons h t=>exact .cons (qMJ h) (qGU t)
noncomputable abbrev KT (H:Hp):List (List Key×V)→List (List Key×Addr×Value)→Prop:=Paired fun p q=>p.1=q.1∧H q.2.1=some (.tup (p.1.map kV))∧RelV p.2 q.2.2
theorem KT.val {H:Hp} {kvs:List (List Key×V)} {xs:List (List Key×Addr×Value)} (r:KT H kvs xs) (k:List Key):qC6 (qB7 kvs k) ((atKey xs k).map (·.2)):=by
  induction r with
  | nil=>exact True.intro
  | @cons p q ps qs h t ih =>
    obtain⟨h1,_,h2⟩:=h
    by_cases e:p.1=k
    · have e':q.1=k:=h1.symm.trans e
      have b:atKey (q::qs) k=some q.2:=by simp [atKey,List.find?_cons,e']
      rw [qE8 e,b];exact h2
    · have e':¬ q.1=k:=fun z=>e (h1.trans z)
      have b:atKey (q::qs) k=atKey qs k:=by simp [atKey,List.find?_cons,e']
      rw [qFN e,b];exact ih
theorem KT.repl {H:Hp} {kvs:List (List Key×V)} {xs:List (List Key×Addr×Value)} (r:KT H kvs xs) (k:List Key) {y:V} {u:Value} (ry:RelV y u) :
    KT H (kvs.map fun kv=>if kv.1=k then (kv.1,y) else kv) (xs.map (putAt k u)):=by
  induction r with
  | nil=>exact .nil
  | @cons p q ps qs h t ih =>
    rw [List.map_cons,List.map_cons]
    refine .cons ?_ ih
    obtain⟨h1,h2,h3⟩:=h
    unfold putAt
    by_cases e:p.1=k
    · rw [if_pos e,if_pos (h1.symm.trans e)];exact⟨h1,h2,ry⟩
    · rw [if_neg e,if_neg (fun z=>e (h1.trans z))];exact⟨h1,h2,h3⟩
theorem KT.put {H:Hp} {kvs:List (List Key×V)} {xs:List (List Key×Addr×Value)} (r:KT H kvs xs) (k:List Key) {b:Addr} {y:V} {u:Value} (hb:H b=some (.tup (k.map kV))) (ry:RelV y u) :
    KT H (putK kvs k y) (storedH xs k b u):=by
  have e:(kvs.any fun kv=>decide (kv.1=k))=(atKey xs k).isSome:=by
    rw [qH7,(r.val k).qKx,Option.isSome_map]
  unfold putK storedH
  rw [e]
  by_cases q:(atKey xs k).isSome=true
  · rw [if_pos q,if_pos q];exact r.repl k ry
  · rw [if_neg q,if_neg q];exact Paired.snoc r ⟨rfl,hb,ry⟩
theorem KT.keeps {H H':Hp} {kvs:List (List Key×V)} {xs:List (List Key×Addr×Value)} (r:KT H kvs xs) (ht:∀ b ys,H b=some (.tup ys)→H' b=some (.tup ys)):KT H' kvs xs :=
  Paired.qQa r fun _ _ z=>⟨z.1,ht _ _ z.2.1,z.2.2⟩
section
variable {P:Program} {w:World} {H:Hp} {h:Heap} {a:Addr}
theorem qOD {u:HO} (ok:HOk P w H h) (e:Rd H a u):qAl P w H h a u:=e.ok ok
theorem qMR {kvs:List (Key×V)} (ok:HOk P w H h) (e:Rd H a (.dK kvs)):kvs.length≤sizeLine∧(a==sysModules)=false∧∃ vs,KV kvs vs∧h.DictOf (qAV P w) a vs :=
  show qAl P w H h a (.dK kvs) from qOD ok e
theorem qSA {kvs:List (Key×V)} (ok:HOk P w H h) (e:H a=some (.dK kvs)):kvs.length≤sizeLine∧(a==sysModules)=false∧∃ vs,KV kvs vs∧h.DictOf (qAV P w) a vs:=qMR ok (.inl e)
theorem qEL {ks:List Key} (ok:HOk P w H h) (e:H a=some (.tup (ks.map kV))):(tupleKind (qAV P w)).is h ks a:=by
  obtain⟨_,its,r,o,h1,h2,n,h3⟩:=(show qAl P w H h a (.tup (ks.map kV)) from ok a _ e)
  exact⟨o,its.toArray,n,h1,h2,h3,by simpa using qGU r⟩
theorem qLT {kvs:List (List Key×V)} (ok:HOk P w H h) (e:Rd H a (.dT kvs)):kvs.length≤sizeLine∧(a==sysModules)=false ∧
    ∃ xs,KT H kvs xs∧h.DictOfH (tupleKind (qAV P w)) a xs:=by
  obtain⟨z,y,xs,r,o,es,ep,h1,h2,h3,h4,h5⟩:=(show qAl P w H h a (.dT kvs) from qOD ok e)
  refine⟨z,y,xs,r,o,es,ep,h1,h2,h3,h4,fun x hx=>?_,h5⟩
  have all:∀ {l:List (List Key×V)} {m:List (List Key×Addr×Value)},KT H l m→∀ x∈m,(tupleKind (qAV P w)).is h x.1 x.2.1:=by
    intro l m q
    induction q with
    | nil=>intro x hx;exact nomatch hx
    | @cons p q ps qs hq t ih =>
      intro x hx
      rcases List.mem_cons.mp hx with e | hx
      · subst e
        exact qEL ok (by rw [← hq.1];exact hq.2.1)
      · exact ih x hx
  exact all r x hx
theorem qK5 {kvs:List (List Key×V)} (ok:HOk P w H h) (e:H a=some (.dT kvs)):kvs.length≤sizeLine∧(a==sysModules)=false ∧
    ∃ xs,KT H kvs xs∧h.DictOfH (tupleKind (qAV P w)) a xs:=qLT ok (.inl e)
end
def qIL (H:Hp) (a:Addr) (y:V) (r:Option V):Prop :=
  (∃ kvs k,Rd H a (.dK kvs)∧y=kV k∧r=qB7 kvs k)∨∃ kvs k b,Rd H a (.dT kvs)∧y = .ref b∧H b=some (.tup (k.map kV))∧r=qB7 kvs k
def qId (H:Hp) (a:Addr) (y v:V) (H':Hp):Prop :=
  (∃ kvs k,H a=some (.dK kvs)∧y=kV k∧kvs.length<sizeLine∧H'=upd H a (.dK (putK kvs k v))) ∨
  ∃ kvs k b,H a=some (.dT kvs)∧y = .ref b∧H b=some (.tup (k.map kV))∧kvs.length<sizeLine∧H'=upd H a (.dT (putK kvs k v))
theorem qIL.k {H:Hp} {a:Addr} {kvs:List (Key×V)} {k:Key} (e:H a=some (.dK kvs)):qIL H a (kV k) (qB7 kvs k):=.inl ⟨kvs,k,.inl e,rfl,rfl⟩
theorem qIL.t {H:Hp} {a b:Addr} {kvs:List (List Key×V)} {k:List Key} (e:H a=some (.dT kvs)) (eb:H b=some (.tup (k.map kV))):qIL H a (.ref b) (qB7 kvs k):=.inr ⟨kvs,k,b,.inl e,rfl,eb,rfl⟩
theorem qId.k {H:Hp} {a:Addr} {kvs:List (Key×V)} {k:Key} {v:V} (e:H a=some (.dK kvs)) (hl:kvs.length<sizeLine):qId H a (kV k) v (upd H a (.dK (putK kvs k v))):=.inl ⟨kvs,k,e,rfl,hl,rfl⟩
theorem qId.t {H:Hp} {a b:Addr} {kvs:List (List Key×V)} {k:List Key} {v:V} (e:H a=some (.dT kvs)) (eb:H b=some (.tup (k.map kV))) (hl:kvs.length<sizeLine) :
    qId H a (.ref b) v (upd H a (.dT (putK kvs k v))):=.inr ⟨kvs,k,b,e,rfl,eb,hl,rfl⟩
section
variable {X:Cx} {pins:List (Addr×Obj)} {σ:St} {H:Hp} {s:Shared} {a:Addr} {y v:V} {u r:Value} {o:Option V} {A:Around} {E:Value→Shared→Prop}
theorem Inv.big (I:Inv X pins σ H s):sysModules<s.heap.objs.size:=by
  have h:mainGlobals<s.heap.objs.size:=(I.mod.glob.keeps I.bk).lt
  exact Nat.lt_trans (by decide) h
theorem qJv {h':Heap} {t':Nat} {ob:HO} (I:Inv X pins σ H s) (mu:Mut (H a)) (hs:Heap.SameBut a s.heap h') (he:∃ q,h'.get? a=some q) (new:qAl X.prog X.w (upd H a ob) h' a ob) :
    Inv X pins σ (upd H a ob) { s with heap:=h',toks:=t' } :=
  I.write (x:=a) (e:=a) mu (.inl rfl) (fun b q hb z=>(hs.2 b hb).trans z) he new
theorem qQl {P:Program} {w:World} {H':Hp} {h':Heap} {kvs:List (Key×V)} {vs:List (Key×Value)} (z:kvs.length≤sizeLine) (hd:(a==sysModules)=false) (rel:KV kvs vs) (dd:h'.DictOf (qAV P w) a vs) :
    qAl P w H' h' a (.dK kvs):=⟨z,hd,vs,rel,dd⟩
theorem qKW {H':Hp} {Q:Unit→Shared→Prop} (hu:A.units+1<cLine) (I:Inv X pins σ H s) (g:qId H a y v H') (ry:RelV y u) (rv:RelV v r) (h:∀ s',Inv X pins σ H' s'→Q () s') :
    wpAny (model X.prog X.w) A (setItem (.ref a) u r) Q E s:=by
  rcases g with ⟨kvs,k,e,ey,l,eH⟩ | ⟨kvs,k,b,e,ey,eb,l,eH⟩
  · subst ey eH
    obtain⟨z,hd,vs,rel,dd⟩:=qSA I.hok e
    have hz:vs.length≤sizeLine:=by rw [← rel.length];exact z
    have hl:(putK kvs k v).length≤sizeLine:=by have:=qEZ kvs k v;omega
    refine wpAny_setItem_pairs (hsz:=hz) (qMJ ry) dd fun h' dd' hs=>h _ ?_
    have he:∃ q,h'.get? a=some q:=let ⟨q,_,_,hq,_⟩:=dd';⟨q,hq⟩
    exact qJv I (by rw [e];exact True.intro) hs he (qQl hl hd (rel.put k rv) dd')
  · subst ey eH
    cases (show u=Value.ref b from ry)
    obtain⟨z,hd,xs,rel,dd⟩:=qK5 I.hok e
    have hz:xs.length≤sizeLine:=by rw [← Paired.length rel];exact z
    have hl:(putK kvs k v).length≤sizeLine:=by have:=qEZ kvs k v;omega
    refine wpAny_setItem_heap (hsz:=hz) (tupleKind_room_in1 hu) (qEL I.hok eb) dd fun h' dd' hs=>h _ ?_
    obtain⟨q,es,ep,hq,h2,h3,h4,_,h5⟩:=dd'
    refine qJv I (by rw [e];exact True.intro) hs ⟨q,hq⟩ ⟨hl,hd,_,(rel.put k eb rv).keeps fun c ys ec=>?_,q,es,ep,hq,h2,h3,h4,h5⟩
    rw [qM (qGJ ec e (fun z=>nomatch z))]
    exact ec
end
def qR6 (i:Expr):Prop:=∀ ov iv,subscripted i false ov iv=operate [ov,iv] (getItem ov iv)
theorem qNi {prog:Program} {w:World} {A:Around} {E:Value→Shared→Prop} {s:Shared} {env:Env} {value slice:Expr} {pos:Pos} {T id:String} {Q:Value→Shared→Prop}
    (hl:typeLookup (.type T) "__getitem__" = pure (some (.builtin id))) (hs:qR6 slice)
    (h:wpAny (model prog w) A (eval value env) (fun o s₁=>wpAny (model prog w) A (eval slice env) (fun i s₂=>s₂.TypeIs o T∧wpAny (model prog w) A (getItem o i) Q E s₂) E s₁) E s) :
    wpAny (model prog w) A (eval (.Subscript value slice pos) env) Q E s:=by
  refine Subscript_ (wpAny_mono h (fun o s₁ h₁=>wpAny_mono h₁ (fun i s₂ h₂=>?_) fun _ _ x=>x) fun _ _ x=>x)
  obtain⟨hT,h₂⟩:=h₂
  unfold subscriptTail
  refine wpAny_bind ?_
  rw [getitemInPython_of_ne hT.not_modules]
  refine wpAny_bind (wpAny_specialOf hT hl ?_)
  have fin:wpAny (model prog w) A (subscripted slice false o i) (fun r s₃=>wpAny (model prog w) A (letTemporaryGo value o r >>= fun _=>pure r) Q E s₃) E s₂:=by
    rw [hs o i]
    exact wpAny_operating (wpAny_mono h₂ (fun r s₃ h₃=>wpAny_bind (wpAny_letTemporaryGo (wpAny_pure h₃))) fun _ _ x=>x)
  first
    | exact wpAny_pure (wpAny_bind fin)
    | exact wpAny_bind (wpAny_pure (wpAny_bind fin))
    | exact wpAny_bind fin
noncomputable def qRS (td ty tv:TE):TS:=fun D σ H=>tv σ H fun v H1=>td σ H1 fun x H2=>ty σ H2 fun y H3=>∃ a H4,x = .ref a∧qId H3 a y v H4∧D.nx σ H4
section
variable {X:Cx} {o i e value:Expr} {pos pos' tpos:Pos} {td ty tv:TE}
theorem qNF (hu:X.A.units+1<cLine) (ho:PE X o td) (hi:PE X i ty) (hv:PE X value tv) (hs:swapsWith value (some (.Subscript o i pos')) pos.line X.env=pure false) :
    PS X (.Assign [.Subscript o i pos'] value pos) (qRS td ty tv):=by
  k_dat 0"r13"
  refine wpAny_Assign_Subscript (thn (hv pins s σ H _ I h) fun r s1 ⟨v,H1,I1,rv,q1⟩=>thn (ho pins s1 σ H1 _ I1 q1) fun u s2 ⟨x,H2,I2,rx,q2⟩=>thn (hi pins s2 σ H2 _ I2 q2) fun iv s3 ⟨y,H3,I3,ry,a,H4,ex,g,q3⟩=>?_) hs
  subst ex
  obtain rfl:u=Value.ref a:=rx
  exact qKW hu I3 g ry rv fun s4 I4=>⟨σ,H4,I4,q3⟩
end
theorem qK3 {P:Program} {w:World} {H:Hp} (h:Heap) (hb:sysModules<h.objs.size):qAl P w H (h.push { cls:=.type "dict",data:=.dict #[] }) h.objs.size (.dK []) :=
  ⟨Nat.zero_le _,beq_eq_false_iff_ne.mpr (Ne.symm (Nat.ne_of_lt hb)),[],.nil,Heap.DictOf.new h⟩
noncomputable def qPg (K:W.Frag):TE:=fun _ H Q=>∀ p,H p=none→K.lookup p=none→Q (.ref p) (upd H p (.dK []))
section
variable {X:Cx} {pos:Pos}
theorem qMN:PE X (.Dict [] [] pos) (qPg X.K):=fun pins s σ H Q I h =>
  wpAny_Dict_empty ⟨.ref s.heap.objs.size,_,I.laid (a:=s.heap.objs.size) (o:=.dK []) (t':=s.toks) (fun _ _ q=>Heap.get?_push_of_some _ q) (Nat.le_refl _) (qK3 s.heap I.big),rfl,h _ (I.hok.fresh (Nat.le_refl _)) (by cases e:X.K.lookup s.heap.objs.size with | none=>rfl | some o=>exact absurd (Heap.lt_size (I.kIn _ o e)) (Nat.lt_irrefl _))⟩
end
structure M2 (X:Cx) (o:Expr) (m:Str) (apos:Pos) (e f:Expr) (cpos:Pos):Prop where
  base:attributeBase o m X.env (eval o X.env)=eval o X.env
  few:((backTo cpos (starEach [e,f] X.env)).all (fun x=>!x.1)&&(backToKw cpos (keywordEach [] X.env)).all (fun x=>x.1.isSome)
    && decide (([e,f]:List Expr).length+([]:List Keyword).length+(if ([]:List Keyword).isEmpty then 0 else 1)<30))=true
  line:(apos.endLine==cpos.line)=true
  trees:backTo cpos (starEach [e,f] X.env)=[(false,eval e X.env),(false,eval f X.env)]
def IsD (H:Hp) (a:Addr):Prop:=(∃ kvs,Rd H a (.dK kvs))∨∃ kvs,Rd H a (.dT kvs)
theorem qQX {X:Cx} {pins:List (Addr×Obj)} {σ:St} {H:Hp} {s:Shared} {a:Addr} (I:Inv X pins σ H s) (d:IsD H a) :
    s.TypeIs (.ref a) "dict" ∧ (∀ b,Value.ref a = .ref b→∃ ob,s.heap.get? b=some ob∧ob.dict=none)∧(a==sysModules)=false:=by
  rcases d with ⟨kvs,e⟩ | ⟨kvs,e⟩
  · obtain⟨_,hd,vs,_,dd⟩:=qMR I.hok e
    refine⟨dd.typeIs,fun b q=>?_,hd⟩
    cases q
    obtain⟨ob,_,_,h1,h2,_⟩:=dd
    exact⟨ob,h1,h2.2.1⟩
  · obtain⟨_,hd,xs,_,dd⟩:=qLT I.hok e
    refine⟨dd.typeIs,fun b q=>?_,hd⟩
    cases q
    obtain⟨ob,_,_,h1,h2,_⟩:=dd
    exact⟨ob,h1,h2.2.1⟩
section
variable {X:Cx} {pins:List (Addr×Obj)} {σ:St} {H:Hp} {s:Shared} {a:Addr} {y d:V} {u r:Value} {o:Option V} {A:Around} {E:Value→Shared→Prop}
theorem qOX {Q:Value→Shared→Prop} (hu:A.units+1<cLine) (I:Inv X pins σ H s) (g:qIL H a y o) (ry:RelV y u) (rd:RelV d r) (h:∀ w' s',Inv X pins σ H s'→RelV (o.getD d) w'→Q w' s') :
    wpAny (model X.prog X.w) A (call (.builtin "dict.get") [.ref a,u,r]) Q E s:=by
  rcases g with ⟨kvs,k,e,ey,l⟩ | ⟨kvs,k,b,e,ey,eb,l⟩
  · subst ey
    obtain⟨z,hd,vs,rel,dd⟩:=qMR I.hok e
    refine call_meetsIn PySem.F.slot_dict_get dd.typeIs PySem.F.entry_dict_get (PySem.F.args_dict_get_3 _ _ _) (meets_dict_get_default (qAV X.prog X.w) a (qMJ ry) hd r) ⟨_,dd.mapOf,h _ _ (I.tok _) ?_⟩
    rw [l]
    exact (rel.val k).getD rd
  · subst ey
    cases (show u=Value.ref b from ry)
    obtain⟨z,hd,xs,rel,dd⟩:=qLT I.hok e
    refine call_meetsIn PySem.F.slot_dict_get dd.typeIs PySem.F.entry_dict_get (PySem.F.args_dict_get_3 _ _ _) (meetsH_dict_get_default (tupleKind (qAV X.prog X.w)) a b hd r) ⟨tupleKind_room_in1 hu,k,xs,qEL I.hok eb,dd,h _ _ (I.tok _) ?_⟩
    rw [l]
    exact (rel.val k).getD rd
end
noncomputable def qOt (td ty tx:TE):TE:=fun σ H Q=>td σ H fun x H1=>∃ a,x = .ref a∧IsD H1 a∧ty σ H1 fun y H2=>tx σ H2 fun z H3=>∃ o,qIL H3 a y o∧Q (o.getD z) H3
section
variable {X:Cx} {o e f:Expr} {apos cpos:Pos} {td ty tx:TE}
theorem qMX (hu:X.A.units+1<cLine) (ho:PE X o td) (he:PE X e ty) (hf:PE X f tx) (m:M2 X o "get" apos e f cpos):PE X (.Call (.Attribute o "get" apos) [e,f] [] cpos) (qOt td ty tx):=by
  k_dat 0"r1"
  refine wpAny_Call_method m.base m.few m.line PySem.F.plainAttrs_dict PySem.F.slot_dict_get PySem.F.type_dict_get (thn (ho pins s σ H _ I h) fun u s1 ⟨x,H1,I1,rx,a,ex,d,q1⟩=>?_)
  subst ex
  obtain rfl:u=Value.ref a:=rx
  obtain⟨t1,t2,_⟩:=qQX I1 d
  refine⟨t1,t2,?_⟩
  rw [m.trees]
  refine Calls.callWith_builtin rfl (Calls.evalArgs_plain (Calls.spliced_cons (thn (he pins s1 σ H1 _ I1 q1) fun iv s2 ⟨y,H2,I2,ry,q2⟩ =>
    Calls.spliced_cons (thn (hf pins s2 σ H2 _ I2 q2) fun fv s3 ⟨z,H3,I3,rz,ov,g,q3⟩=>Calls.spliced_nil ?_))))
  exact qOX hu I3 g ry rz fun w' s4 I4 rw'=>⟨_,H3,I4,rw',q3⟩
end
end L2
set_option maxHeartbeats 4000000
namespace L2
open PySem PySem.Spec PyProof.Rows
noncomputable def qDz (cells:List (Str×Addr)):List (Str×NameKind)→List (Str×Addr)→List (Str×Addr)
  | [],acc=>acc
  | (n,k)::r,acc=>qDz cells r (if k = .free then (n,(cells.lookup n).getD 0)::acc else acc)
theorem qFY {env:Env} {f:(Str×NameKind)→List (Str×Addr)→Sem (ForInStep (List (Str×Addr)))}
    (h1:∀ n k acc,k≠.free→f (n,k) acc=pure (.yield acc)) (h2:∀ n acc c,env.cells.lookup n=some c→f (n,.free) acc=pure (.yield ((n,c)::acc))) :
    ∀ (names:List (Str×NameKind)) (acc:List (Str×Addr)),(∀ x∈names,x.2 = .free→∃ c,env.cells.lookup x.1=some c)→forIn names acc f=(pure (qDz env.cells names acc):Sem (List (Str×Addr)))
  | [],acc,_=>by simp [qDz]
  | (n,k)::r,acc,h=>by
    rw [List.forIn_cons]
    by_cases hk:k = .free
    · subst hk
      obtain⟨c,hc⟩:=h (n,.free) List.mem_cons_self rfl
      rw [h2 n acc c hc,pure_bind]
      show forIn r ((n,c)::acc) f=_
      rw [qFY h1 h2 r ((n,c)::acc) fun x hx=>h x (List.mem_cons_of_mem _ hx)]
      show _=pure (qDz env.cells r (if NameKind.free = .free then (n,(env.cells.lookup n).getD 0)::acc else acc))
      rw [if_pos rfl,hc]
      rfl
    · rw [h1 n k acc hk,pure_bind]
      show forIn r acc f=_
      rw [qFY h1 h2 r acc fun x hx=>h x (List.mem_cons_of_mem _ hx)]
      show _=pure (qDz env.cells r (if k = .free then (n,(env.cells.lookup n).getD 0)::acc else acc))
      rw [if_neg hk]
theorem qJw {env:Env} {sc:Scope} (h:∀ x∈sc.names,x.2 = .free→∃ c,env.cells.lookup x.1=some c):closureFor sc env=pure (qDz env.cells sc.names []):=by
  simp only [closureFor]
  rw [qFY (env:=env) ?h1 ?h2 sc.names [] h,pure_bind]
  case h1 =>
    intro n k acc hk
    have:(k==NameKind.free)=false:=by simpa using hk
    simp only [this,Bool.false_eq_true,if_false]
  case h2 =>
    intro n acc c hc
    simp only [beq_self_eq_true,if_true,cellOf,hc]
    rfl
theorem qHv {cells:List (Str×Addr)} {x:Str} {c:Addr}:∀ (names:List (Str×NameKind)) (acc:List (Str×Addr)),(∀ y∈names,y.2 = .free→∃ c,cells.lookup y.1=some c)→(qDz cells names acc).lookup x=some c→acc.lookup x=some c∨cells.lookup x=some c
  | [],acc,_,h=>.inl h
  | (n, k)::r,acc,hf,h=>by
    rcases qHv r _ (fun y hy=>hf y (List.mem_cons_of_mem _ hy)) h with h | h
    · by_cases hk:k = .free
      · rw [if_pos hk] at h
        obtain⟨c',hc'⟩:=hf (n,k) List.mem_cons_self hk
        have hc2:cells.lookup n=some c':=hc'
        rw [hc2] at h
        by_cases e:x=n
        · subst e
          simp at h
          subst h
          exact .inr hc2
        · have:(x==n)=false:=by simpa using e
          rw [List.lookup_cons,this] at h
          exact .inl h
      · rw [if_neg hk] at h
        exact .inl h
    · exact .inr h
theorem qD8 {cells:List (Str×Addr)} {x:Str}:∀ (names:List (Str×NameKind)) (acc:List (Str×Addr)),((∃ c,acc.lookup x=some c)∨(x,NameKind.free)∈names)→∃ c,(qDz cells names acc).lookup x=some c
  | [],acc,h=>by
    rcases h with h | h
    · exact h
    · cases h
  | (n, k)::r,acc,h=>by
    refine qD8 r _ ?_
    rcases h with ⟨c,h⟩ | h
    · refine .inl ?_
      by_cases hk:k = .free
      · rw [if_pos hk,List.lookup_cons]
        by_cases e:(x==n)=true
        · rw [e];exact⟨_,rfl⟩
        · have e':(x==n)=false:=by simpa using e
          rw [e'];exact⟨c,h⟩
      · rw [if_neg hk];exact⟨c,h⟩
    · rcases List.mem_cons.mp h with e | h
      · injection e with e1 e2
        subst e1;subst e2
        refine .inl ?_
        rw [if_pos rfl,List.lookup_cons]
        simp
      · exact .inr h
theorem qCl {α:Type}:∀ {l:List (Str×α)} {x:Str} {k:α},l.lookup x=some k→(x,k)∈l
  | [],_,_,h=>by simp at h
  | (n,a)::r,x,k,h=>by
    rw [List.lookup_cons] at h
    by_cases e:x=n
    · subst e
      simp at h
      subst h
      exact List.mem_cons_self
    · have:(x==n)=false:=by simpa using e
      rw [this] at h
      exact List.mem_cons_of_mem _ (qCl h)
theorem qCI {env:Env}:∀ {names:List (Str×NameKind)} {x:Str} {k:NameKind},
    (names.map fun (n,k)=>if (k==NameKind.free&&env.scope.kind == .function&&env.kindOf n==some .cell) then (n,NameKind.cell) else (n,k)).lookup x=some k →
    ∃ k0,names.lookup x=some k0∧(k=k0∨k0 = .free)
  | [],_,_,h=>by simp at h
  | (n, k0)::r,x,k,h=>by
    rw [List.map_cons] at h
    by_cases e:x=n
    · subst e
      refine⟨k0,by simp,?_⟩
      by_cases hc:(k0==NameKind.free&&env.scope.kind == .function&&env.kindOf x==some .cell)=true
      · right
        simp at hc
        exact hc.1.1
      · left
        dsimp only at h
        rw [if_neg hc] at h
        simp at h
        exact h.symm
    · have e':(x==n)=false:=by simpa using e
      rw [List.lookup_cons,e']
      dsimp only at h
      split at h
      · rw [List.lookup_cons,e'] at h
        exact qCI h
      · rw [List.lookup_cons,e'] at h
        exact qCI h
theorem qCH {env:Env} (hk:env.scope.kind = .function):∀ {names:List (Str×NameKind)} {x:Str},names.lookup x=some .free→env.kindOf x=some .cell →
    (names.map fun (n,k)=>if (k==NameKind.free&&env.scope.kind == .function&&env.kindOf n==some .cell) then (n,NameKind.cell) else (n,k)).lookup x=some .cell
  | [],_,h,_=>by simp at h
  | (n,k0)::r,x,h,hx=>by
    rw [List.map_cons]
    by_cases e:x=n
    · subst e
      simp at h
      subst h
      have hc:(NameKind.free==NameKind.free&&env.scope.kind == .function&&env.kindOf x==some .cell)=true:=by simp [hk,hx]
      dsimp only
      rw [if_pos hc]
      simp
    · have e':(x==n)=false:=by simpa using e
      rw [List.lookup_cons,e'] at h
      dsimp only
      split
      · rw [List.lookup_cons,e'];exact qCH hk h hx
      · rw [List.lookup_cons,e'];exact qCH hk h hx
structure qAN (so:Scope) (N:List Str) (caps:List (Nat×Str)) (sc:Scope):Prop where
  kind:sc.kind = .function
  nocell:∀ y∈sc.names,y.2≠.cell
  names:∀ y∈sc.names,y.2 = .local→sc.names.lookup y.1=some .local
  free:∀ y∈sc.names,y.2 = .free→so.names.lookup y.1=some .cell
  caps:∀ p∈caps,N[p.1]? = some p.2∧so.names.lookup p.2=some .cell∧sc.names.lookup p.2=some .free
noncomputable def qGr (caps:List (Nat×Str)) (σ:St):St:=caps.map fun p=>(σ[p.1]?).join
noncomputable abbrev qAF (X:Cx) (L:List Str) (caps:List (Nat×Str)) (sc:Scope) (C:Addr) (s:Shared) (H:Hp) (fp:List Addr):Cx :=
  { X with N:=L++caps.map (·.2),s₀:=s,H₀:=H,env:=compEnvC sc (qDz X.env.cells sc.names []) C X.env,outer:=X.stack,stack:=X.stack,ex:=fp,fn:=fun _=>false,pn:=[],xe:=fun _ _=>False }
theorem qA1 {a b:Addr} {n:Nat} (h:a<n) (h2:n≤b):a≠b:=Nat.ne_of_lt (Nat.lt_of_lt_of_le h h2)
section
variable {X:Cx} {pins:List (Addr×Obj)} {σ:St} {H:Hp} {s:Shared} {L:List Str} {caps:List (Nat×Str)} {sc:Scope} {C D:Addr} {fp:List Addr}
theorem Inv.qIo (I:Inv X pins σ H s) (S:qAN X.env.scope X.N caps sc):∀ x∈sc.names,x.2 = .free→∃ c,X.env.cells.lookup x.1=some c:=fun x hx hf =>
  I.ok.has x.1 (.inl (S.free x hx hf))
theorem Inv.qEc (I:Inv X pins σ H s) (S:qAN X.env.scope X.N caps sc) {x:Str} {c:Addr} (h:(qDz X.env.cells sc.names []).lookup x=some c):X.env.cells.lookup x=some c:=by
  rcases qHv sc.names [] (I.qIo S) h with h | h
  · simp at h
  · exact h
theorem qI7 {h₁:Heap} {tk:Nat} {m:Str→Option Value} {oD:Obj} (I:Inv X pins σ H s) (S:qAN X.env.scope X.N caps sc) (hfp:∀ b∈fp,qFP X pins H b) (hfo:∀ b∈fp,∃ o,s.heap.get? b=some o)
    (hC:s.heap.objs.size≤C) (hn:h₁.Ns C m) (old:∀ b o,s.heap.get? b=some o→h₁.get? b=some o) (hD:s.heap.objs.size≤D) (hDC:D≠C) (eD:h₁.get? D=some oD) (dD:∀ v,oD.data≠.cell v) :
    Inv (qAF X L caps sc C s H fp) [(D,oD)] (List.replicate L.length none++qGr caps σ) H { s with heap:=h₁,toks:=tk }:=by
  have hcells:∀ x c,(qDz X.env.cells sc.names []).lookup x=some c→∃ v,s.heap.IsCell c v:=fun x c e=>I.cell x c (I.qEc S e)
  refine⟨⟨I.ok.mod,S.kind,I.ok.glob,I.ok.blt,hC,fun x y c h1 h2=>I.ok.inj x y c (I.qEc S h1) (I.qEc S h2),fun x hx=>?_,fun _ _ h=>(Bool.false_ne_true h).elim,I.ok.hd,I.ok.frames,.inl rfl,fun b hb=>⟨?_,fun x c e=>(hfp b hb).2.2.2.2.1 x c (I.qEc S e)⟩,I.bs,Nat.le_trans I.ok.bsz I.sz,fun b o e hb=>?_,fun b hb hz=>?_,I.stack,I.qJo⟩,
    rfl,I.bare,Un.kept old,⟨m,hn,fun i x v e1 e2 e3=>?_⟩,fun x c e=>?_,I.hok.fresh hC,fun x c e=>I.freeC x c (I.qEc S e),fun p hp=>?_,I.hok.kept old,?_⟩
  · -- has
    have key:∀ k,(relabel sc X.env).names.lookup x=some k→(k = .cell∨k = .free)→(x,NameKind.free)∈sc.names:=fun k e hk=>by
      obtain⟨k0,e0,h0⟩:=qCI e
      have hm:=qCl e0
      rcases h0 with h0 | h0
      · subst h0
        rcases hk with hk | hk
        · exact absurd hk (S.nocell _ hm)
        · rw [hk] at hm;exact hm
      · rw [h0] at hm;exact hm
    have hm:(x,NameKind.free)∈sc.names:=by
      rcases hx with hx | hx
      · exact key _ hx (.inl rfl)
      · exact key _ hx (.inr rfl)
    exact qD8 sc.names [] (.inr hm)
  · obtain⟨o,e⟩:=hfo b hb
    exact Nat.ne_of_lt (Nat.lt_of_lt_of_le (Heap.lt_size e) hC)
  · rcases (hfp b hb).2.2.2.1 with z | z
    · exact I.ok.noex b o e z
    · exact absurd (Nat.lt_of_lt_of_le (Heap.lt_size e) (Nat.le_trans I.ok.bsz z)) (Nat.lt_irrefl _)
  · rcases List.mem_cons.mp (I.qGx b hz) with z | z
    · exact (hfp b hb).2.1 z
    · exact (hfp b hb).2.2.1 z
  · -- loc
    have e1':(L++caps.map (·.2))[i]? = some x:=e1
    by_cases hi:i<L.length
    · rw [List.getElem?_append_left (by simpa using hi),List.getElem?_replicate] at e2
      split at e2<;>cases e2
    · rw [List.getElem?_append_right (by simpa using Nat.not_lt.mp hi),List.length_replicate] at e2
      rw [List.getElem?_append_right (Nat.not_lt.mp hi)] at e1'
      unfold qGr at e2
      rw [List.getElem?_map] at e1' e2
      cases hp:caps[i - L.length]? with
      | none=>rw [hp] at e1';cases e1'
      | some p =>
        rw [hp] at e1' e2
        have ex:p.2=x:=Option.some.inj e1'
        have ev:(σ[p.1]?).join=some v:=Option.some.inj e2
        have ev':σ[p.1]? = some (some v):=by
          cases q:σ[p.1]? with
          | none=>rw [q] at ev;cases ev
          | some o=>rw [q] at ev;exact congrArg some ev
        obtain⟨c1,c2,c3⟩:=S.caps p (List.mem_of_getElem? hp)
        obtain⟨m0,hn0,hl⟩:=I.loc
        rw [ex] at c1 c2 c3
        obtain⟨u,r,l⟩:=hl p.1 x v c1 ev' (.inr (.inl c2))
        refine⟨u,r,.inr ⟨.inl (qCH I.ok.kind c3 c2),?_⟩⟩
        rcases l with ⟨hk,_⟩ | ⟨_,c,hc,hcell⟩
        · have:X.env.scope.names.lookup x=some .local:=hk
          rw [c2] at this;cases this
        · obtain⟨c',hc'⟩:=qD8 (cells:=X.env.cells) sc.names [] (.inr (qCl c3))
          have:=I.qEc S hc'
          rw [hc] at this
          cases this
          obtain⟨o,ho,hd⟩:=hcell
          exact⟨c,hc',o,old _ _ ho,hd⟩
  · obtain⟨v,o,ho,hd⟩:=hcells x c e
    exact⟨v,o,old _ _ ho,hd⟩
  · have:p∈[(D,oD)]:=hp
    have ep:p=(D,oD):=by simpa using this
    subst ep
    refine⟨eD,I.hok.fresh hD,hDC,fun z=>?_,dD⟩
    have zz:H D=none:=I.hok.fresh hD
    obtain⟨_,o,ho,_⟩:=(I.stack).mem z
    exact absurd (Nat.lt_of_lt_of_le (Heap.lt_size ho) hD) (Nat.lt_irrefl _)
  · show (List.replicate L.length none++qGr caps σ).length=(L++caps.map (·.2)).length
    unfold qGr
    simp
def PIf (X:Cx) (ifs:List Expr) (t:TT):Prop :=
  ∀ (pins:List (Addr×Obj)) (s:Shared) (σ:St) (H:Hp) (Q:Bool→Hp→Prop),Inv X pins σ H s→t σ H Q →
    wpAny (model X.prog X.w) X.A (forIn ifs true fun c r=>if r=true then do let ok ← isTrue c X.env (eval c X.env);pure (ForInStep.yield ok) else pure (ForInStep.yield r)) (TP X pins σ Q) X.xe s
theorem qNf:PIf X [] (fun _ H Q=>Q true H):=fun pins s σ H Q I h=>wpAny_tests_nil ⟨H,I,h⟩
theorem qNs {c:Expr} {t:TT} (h:PT X c t):PIf X [c] t:=fun pins s σ H Q I hq=>wpAny_tests_one (h pins s σ H Q I hq)
theorem qG6 {prog:Program} {w:World} {A:Around} {R:Result→Shared→Prop} {s:Shared} {elt target iter:Expr} {ifs:List Expr} {scope:Scope} {pos:Pos} {it acc:Value} {env:Env} (I:Nat→Shared→Prop)
    (turn : ∀ n s,I n s→wpAny (model prog w) A (pyNext it) (fun r s₁=>match r with
      | none=>R (.ok .next) s₁
      | some v=>wpAny (model prog w) A (letOwnedTupleGo target it v) (fun _ s1'=>wpAny (model prog w) A (assign target env v) (fun _ s₂ =>
          wpAny (model prog w) A (forIn ifs true fun c r=>if r=true then do let ok ← isTrue c env (eval c env);pure (ForInStep.yield ok) else pure (ForInStep.yield r)) (fun ok s₃ =>
            if ok=true then wpAny (model prog w) A (eval elt env) (fun x s₄ =>
              wpAny (model prog w) A (call (.builtin "list.append") [acc,x]) (fun _ s₅=>∃ m,m<n∧I m s₅) (fun _ _=>False) s₄) (fun _ _=>False) s₃
            else ∃ m,m<n∧I m s₃) (fun _ _=>False) s₂) (fun _ _=>False) s1') (fun _ _=>False) s₁) (fun _ _=>False) s)
    (n:Nat) (h:I n s):codeAny (model prog w) A (.compLoop (.ListComp elt [⟨target,iter,ifs,0⟩] scope pos) 0 it acc env) R s:=by
  refine codeAny_loop rfl I (fun n s hI=>?_) n h
  show wpAny _ A ((compTurn (.ListComp elt [⟨target,iter,ifs,0⟩] scope pos) 0 it acc env).onRaise (fun x=>do noteFrame x env;theTreesLotGoes x)) _ _ s
  refine wpAny_noted ?_
  rw [compTurn_list]
  refine wpAny_bind (wpAny_standAt (wpAny_bind (wpAny_mono (turn n s hI) (fun r s₁ h₁=>?_) fun _ _ h'=>h'.elim)))
  cases r with
  | none=>exact wpAny_pure h₁
  | some v =>
    refine wpAny_bind (wpAny_mono h₁ (fun _ s1' h1'=>?_) fun _ _ h'=>h'.elim)
    refine wpAny_bind (wpAny_mono h1' (fun _ s₂ h₂=>wpAny_bind (wpAny_mono h₂ (fun ok s₃ h₃=>?_) fun _ _ h'=>h'.elim)) fun _ _ h'=>h'.elim)
    cases ok with
    | false=>exact wpAny_pure ⟨rfl,h₃⟩
    | true =>
      exact wpAny_bind (wpAny_bind (wpAny_mono h₃ (fun x s₄ h₄=>wpAny_bind (wpAny_mono h₄ (fun _ s₅ h₅=>wpAny_pure (wpAny_pure ⟨rfl,h₅⟩)) fun _ _ h'=>h'.elim)) fun _ _ h'=>h'.elim))
def qJZ (J:It) (g:TG) (tc:TT) (te:TE) (σ0:St) (H1:Hp) (Fin:List V→Hp→Prop):Prop :=
  ∃ W : Nat→Nat→St→List V→Hp→Prop,(∃ m,W 0 m σ0 [] H1)∧∀ i m σ ys H,W i m σ ys H →
    (J.stop i H∧Fin ys H)∨(J.go i H∧ys.length<sizeLine∧∀ x H',J.yld i H x H'→g x σ H' fun σ2 H2=>tc σ2 H2 fun b H3 =>
      if b=true then te σ2 H3 fun y H4=>∃ m',m'<m∧W (i+1) m' σ2 (ys++[y]) H4 else ∃ m',m'<m∧W (i+1) m' σ2 ys H3)
theorem qFp {elt iter tg:Expr} {ifs:List Expr} {pos:Pos} {g:TG} {tc:TT} {te:TE} {J:It} {it:Addr} {tn:Nat→Heap→Prop} {Fin:List V→Hp→Prop} {RR:Value→Addr→Result→Shared→Prop} {E:Value→Shared→Prop} {s₂:Shared}
    (hc:X.calm=true) (S:qAN X.env.scope X.N caps sc) (I:Inv X pins σ H s₂) (T:Turn X.prog X.w X.K tg J fp it tn) (st:tn 0 s₂.heap) (hfp:∀ b∈fp,qFP X pins H b)
    (hg:∀ C,PG (qAF X L caps sc C s₂ H fp) tg g) (hif:∀ C,PIf (qAF X L caps sc C s₂ H fp) ifs tc) (he:∀ C,PE (qAF X L caps sc C s₂ H fp) elt te)
    (hW:qJZ J g tc te (List.replicate L.length none++qGr caps σ) H Fin)
    (hRR:∀ C D s' m ys H',Inv X pins σ (upd H' D (.lst ys)) s'→s'.heap.Ns C m→qFP X pins (upd H' D (.lst ys)) C→H' D=none→Fin ys H'→RR (.ref D) C (.ok .next) s') :
    wpAny (model X.prog X.w) X.A (newList []) (fun acc s₃=>wpAny (model X.prog X.w) X.A (newFunctionEnv sc X.env.globals (qDz X.env.cells sc.names []) [] X.env.qual none .none (some X.env)) (fun cenv s₄ =>
      codeAny (model X.prog X.w) X.A (.compStart (.ListComp elt [⟨tg,iter,ifs,0⟩] sc pos) 0 (.ref it) acc { cenv with scope:=relabel sc X.env }) (RR acc cenv.locals) s₄) E s₃) E s₂:=by
  refine wpAny_newObj_type (wpAny_newFunctionEnv S.nocell (by intro y hy;simp at hy) (fun h₁ hns₁ hsb₁=>?_) S.kind)
  dsimp only at hns₁ hsb₁ ⊢
  generalize hH2:s₂.heap.push { cls:=.type "list",dict:=none,data:=.seq ([]:List Value).toArray }=H2 at hns₁ hsb₁ ⊢
  have hCs:H2.objs.size=s₂.heap.objs.size+1:=by rw [← hH2,Heap.size_push]
  have hDC:s₂.heap.objs.size≠H2.objs.size:=by rw [hCs];exact Nat.ne_of_lt (Nat.lt_succ_self _)
  have hCle:s₂.heap.objs.size≤H2.objs.size:=by rw [hCs];exact Nat.le_succ _
  have below:∀ b,b<s₂.heap.objs.size→b≠H2.objs.size∧b≠s₂.heap.objs.size:=fun b hb=>⟨by rw [hCs];exact Nat.ne_of_lt (Nat.lt_succ_of_lt hb),Nat.ne_of_lt hb⟩
  have old:∀ b o,s₂.heap.get? b=some o→h₁.get? b=some o:=fun b o e=>hsb₁.extBut b o (below b (Heap.lt_size e)).1 (Heap.get?_push_of_some _ (hH2 ▸ Heap.get?_push_of_some _ e))
  have hacc:h₁.get? s₂.heap.objs.size=some { cls:=.type "list",data:=.seq ([]:List Value).toArray }:=hsb₁.extBut _ _ hDC (Heap.get?_push_of_some _ (hH2 ▸ Heap.get?_push_size _ rfl))
  generalize hCn:H2.objs.size=C at hns₁ hsb₁ hDC hCle below ⊢
  generalize hDn:s₂.heap.objs.size=D at hacc hDC ⊢
  have hDle:s₂.heap.objs.size≤D:=Nat.le_of_eq hDn
  have fo:∀ b∈fp,∃ o,s₂.heap.get? b=some o:=fun b hb=>let ⟨o,e,_⟩:=T.obj 0 _ st b hb;⟨o,e⟩
  have bD:∀ b∈fp,D≠b:=fun b hb z=>by
    obtain⟨o,e⟩:=fo b hb
    exact qA1 (Heap.lt_size e) hDle z.symm
  have cD:∀ x c,X.env.cells.lookup x=some c→c≠D:=fun x c e=>by
    obtain⟨v,o,ho,_⟩:=I.cell x c e
    exact qA1 (Heap.lt_size ho) hDle
  have cC:∀ x c,X.env.cells.lookup x=some c→c≠C:=fun x c e=>by
    obtain⟨v,o,ho,_⟩:=I.cell x c e
    exact qA1 (Heap.lt_size ho) hCle
  have start:=fun tk=>qI7 (L:=L) (fp:=fp) (tk:=tk) I S hfp fo hCle hns₁ old hDle hDC hacc (fun v z=>by
    have z':Data.seq _ _=Data.cell v:=z
    cases z')
  obtain⟨W,⟨m0,w0⟩,turn⟩:=hW
  -- the static facts of the iterator's records in the block
  have stat:∀ {pl:List (Addr×Obj)} {H':Hp},(∀ b∈fp,H' b=none)→(∀ p∈pl,p.1=D)→∀ b∈fp,qFP (qAF X L caps sc C s₂ H fp) pl H' b:=fun {pl H'} hn hpl b hb=>by
    obtain⟨f0,f1,f2,f3,f4,f5⟩:=hfp b hb
    obtain⟨o,e⟩:=fo b hb
    refine⟨hn b hb,(below b (Heap.lt_size e)).1,fun z=>?_,.inl hb,fun x c e'=>f4 x c (I.qEc S e'),fun p hp z=>?_⟩
    · rcases List.mem_cons.mp (I.qGx b z) with z | z
      · exact f1 z
      · exact f2 z
    · have hp':p∈pl:=hp
      exact bD b hb ((hpl p hp').symm.trans z)
  have fin:∀ (s':Shared) (σ':St) (H':Hp) (ys:List V) (its:List Value) (n:Nat),Inv (qAF X L caps sc C s₂ H fp) [(D,{ cls:=.type "list",data:=.seq its.toArray n })] σ' H' s'→Vals ys its→ys.length≤sizeLine→Fin ys H'→RR (.ref D) C (.ok .next) s':=fun s' σ' H' ys its n I' rv hz hF=>by
    obtain⟨m,hm,_⟩:=I'.loc
    obtain⟨eD,hDn',_,_,_⟩:=I'.pin (D,{ cls:=.type "list",data:=.seq its.toArray n }) (by simp)
    have eD':s'.heap.get? D=some { cls:=.type "list",data:=.seq its.toArray n }:=eD
    have hDnone:H' D=none:=hDn'
    have hCnone:H' C=none:=I'.free
    have neD:∀ b o,s₂.heap.get? b=some o→b≠D:=fun b o e=>qA1 (Heap.lt_size e) hDle
    have neH:∀ b u,H b=some u→b≠D:=fun b u e=>qA1 (I.hok.lt e) hDle
    have ub:=I'.base
    have hok:HOk X.prog X.w (upd H' D (.lst ys)) s'.heap:=fun b u e=>by
      by_cases hb:b=D
      · subst hb
        rw [qY] at e
        cases e
        exact⟨hz,its,n,rv,eD'⟩
      · rw [qM hb] at e
        exact (I'.hok b u e).stay (fun c v _ q=>q) (fun c q=>by rw [qM (qN q hDnone)];exact q) fun c xs q=>by rw [qM (qN q hDnone)];exact q
    have un:Un (frs X.stack) fp H (upd H' D (.lst ys)) s₂.heap s'.heap:=⟨ub.keep,ub.slot,fun b o e n hx=>by rw [qM (neD b o e)];exact ub.free b o e n hx,ub.there,fun b xs e=>by rw [qM (neH b _ e)];exact ub.tups b xs e,
      fun b o u e=>by rw [qM (neH b _ e)];exact ub.frzs b o u e,fun b ps e=>by rw [qM (neH b _ e)];exact ub.tbls b ps e⟩
    have IX:Inv X pins σ (upd H' D (.lst ys)) s':=I.qRD (ch:=fp) I'.os un hok I'.bare fun b hb=>by
      obtain⟨f0,f1,f2,f3,f4,f5⟩:=hfp b hb
      exact⟨f3,f1,f4,f5⟩
    refine hRR C D s' m ys H' IX hm ⟨by rw [qM (Ne.symm hDC)];exact hCnone,?_,?_,.inr (Nat.le_trans I.sz hCle),cC,fun p hp=>?_⟩ hDnone hF
    · exact Ne.symm (qA1 I.lt hCle)
    · exact I.qRP hCle
    · exact qA1 (Heap.lt_size (I.pin p hp).1) hCle
  have loop:∀ s₃:Shared,s₃={ s₂ with heap:=h₁,toks:=s₂.toks+([]:List (Str×Value)).length } →
      codeAny (model X.prog X.w) X.A (.compLoop (.ListComp elt [⟨tg,iter,ifs,0⟩] sc pos) 0 (.ref it) (.ref D) (compEnvC sc (qDz X.env.cells sc.names []) C X.env)) (RR (.ref D) C) s₃:=by
    rintro s₃ rfl
    refine qG6 (fun k s'=>∃ i σ' H' ys its n,Inv (qAF X L caps sc C s₂ H fp) [(D,{ cls:=.type "list",data:=.seq its.toArray n })] σ' H' s'∧tn i s'.heap∧(∀ b∈fp,H' b=none)∧Vals ys its∧ys.length≤sizeLine∧W i k σ' ys H') ?_ m0
      ⟨0,_,H,[],[],0,start _,T.keep 0 _ _ st (fun b hb o e=>old b o e),fun b hb=>(hfp b hb).1,.nil,Nat.zero_le _,w0⟩
    rintro k s' ⟨i,σ',H',ys,its,n,I',st',fr',rv,hz,w'⟩
    have hpl:∀ p∈[(D,({ cls:=.type "list",data:=.seq its.toArray n }:Obj))],p.1=D:=fun p hp=>by
      rcases List.mem_cons.mp hp with e | e
      · rw [e]
      · cases e
    rcases turn i k σ' ys H' w' with ⟨stop,hF⟩ | ⟨go,hlen,step⟩
    · refine thn (T.done (qAF X L caps sc C s₂ H fp) rfl rfl rfl hc i _ s' σ' H' _ I' (stat fr' hpl) st' stop) fun r s4 ⟨hr,I4⟩=>?_
      subst hr
      exact fin s4 σ' H' ys its n I4 rv hz hF
    · refine thn (T.item (qAF X L caps sc C s₂ H fp) rfl rfl rfl hc i _ s' σ' H' _ I' (stat fr' hpl) st' go) fun r s4 ⟨u,hr,h4⟩=>?_
      subst hr
      refine thn h4 fun _ s5 ⟨x,H5,I5,r5,y5,st5,fr5⟩=>?_
      have I5':=I5.pinned (stat fr5 hpl) (T.obj _ _ st5)
      refine thn (hg C _ s5 σ' H5 x u _ I5' r5 (step x H5 y5)) fun _ s6 ⟨σ6,H6,I6,q6⟩=>?_
      refine thn (hif C _ s6 σ6 H6 _ I6 q6) fun ok s7 ⟨H7,I7,q7⟩=>?_
      have back:∀ {σ8:St} {H8:Hp} {s8:Shared},Inv (qAF X L caps sc C s₂ H fp) ([(D,{ cls:=.type "list",data:=.seq its.toArray n })]++qFC fp s5.heap) σ8 H8 s8 →
          tn (i+1) s8.heap∧∀ b∈fp,H8 b=none:=fun {σ8 H8 s8} I8=>by
        refine⟨T.keep _ _ _ st5 fun b hb o e=>(I8.pin (b,o) (List.mem_append_right _ (List.mem_append_right _ (qCR hb e)))).1,fun b hb=>?_⟩
        obtain⟨o,e,d⟩:=T.obj _ _ st5 b hb
        exact (I8.pin (b,o) (List.mem_append_right _ (List.mem_append_right _ (qCR hb e)))).2.1
      cases ok with
      | false =>
        rw [if_neg Bool.false_ne_true] at q7
        rw [if_neg Bool.false_ne_true]
        obtain⟨m',hm',w7⟩:=q7
        obtain⟨b1,b2⟩:=back I7
        exact⟨m',hm',i+1,σ6,H7,ys,its,n,I7.qDk,b1,b2,rv,hz,w7⟩
      | true =>
        rw [if_pos rfl] at q7
        rw [if_pos rfl]
        refine thn (he C _ s7 σ6 H7 _ I7 q7) fun yv s8 ⟨y,H8,I8,r8,m',hm',w8⟩=>?_
        obtain⟨b1,b2⟩:=back I8
        obtain⟨eD,hDn8,neL8,nf8,_⟩:=I8.pin (D,{ cls:=.type "list",data:=.seq its.toArray n }) (by simp)
        have hl:=rv.length
        refine append_at (s:=s8) eD (fun h9 sb e9=>?_) (by simp only [List.size_toArray];omega)
        have I8':Inv (qAF X L caps sc C s₂ H fp) [] σ6 H8 s8:=I8.qE6 fun p hp=>nomatch hp
        have I9:Inv (qAF X L caps sc C s₂ H fp) [] σ6 H8 { s8 with heap:=h9 }:=I8'.turned (t':=s8.toks) (it:=D) (fun b o hb e=>(sb.2 b hb).trans e) hDn8 neL8 (.inr hDle) (fun x c e=>cD x c (I.qEc S e)) fun p hp=>nomatch (show p∈([]:List (Addr×Obj)) from hp)
        have ep:its.toArray.push yv=(its++[yv]).toArray:=by simp
        rw [ep] at e9
        refine⟨m',hm',i+1,σ6,H8,ys++[y],its++[yv],n+1,I9.qE6 fun p hp=>?_,T.keep _ _ _ b1 fun b hb o e=>(sb.2 b (Ne.symm (bD b hb))).trans e,b2,Vals.append rv (.cons r8 .nil),by rw [List.length_append];exact hlen,w8⟩
        obtain rfl:p=(D,({ cls:=.type "list",data:=.seq (its++[yv]).toArray (n+1) }:Obj)):=by
          rcases List.mem_cons.mp hp with e | e
          · exact e
          · cases e
        exact⟨e9,hDn8,neL8,nf8,fun v z=>by
          have z':Data.seq _ _=Data.cell v:=z
          cases z'⟩
  exact codeAny_compStart_list (loop _ rfl) (T.self X.A 0 _ _ _ (T.keep 0 _ _ st fun b hb o e=>old b o e) (loop _ rfl))
noncomputable def qJy (wi:TI) (g:TG) (tc:TT) (te:TE) (nL:Nat) (caps:List (Nat×Str)):TE:=fun σ H Q=>wi σ H fun J H1 =>
  qJZ J g tc te (List.replicate nL none++qGr caps σ) H1 fun ys H2=>∀ p,H2 p=none→Q (.ref p) (upd H2 p (.lst ys))
theorem qJh {elt iter tg:Expr} {ifs:List Expr} {pos:Pos} {wi:TI} {g:TG} {tc:TT} {te:TE} (L:List Str) (caps:List (Nat×Str)) (hc:X.calm=true) (S:qAN X.env.scope X.N caps sc) (hi:PI X tg iter wi)
    (hg:∀ C s H fp,PG (qAF X L caps sc C s H fp) tg g) (hif:∀ C s H fp,PIf (qAF X L caps sc C s H fp) ifs tc) (he:∀ C s H fp,PE (qAF X L caps sc C s H fp) elt te)
    (hs:∀ x,foldedSetIterable iter X.env x=pure x:=by intro _;rfl):PE X (.ListComp elt [⟨tg,iter,ifs,0⟩] sc pos) (qJy wi g tc te L.length caps):=by
  k_dat 0"r1"
  rw [eval_ListComp]
  refine wpAny_comprehension_free (use:=none) rfl hs (qJw (I.qIo S)) S.kind S.names (thn (hi pins s σ H _ I h) fun v s1 h1=>thn h1 fun itv s2 h2=>?_)
  obtain⟨it,fp,tn,J,H2,e,I2,T,st2,f2,hW⟩:=h2
  subst e
  refine qFp (L:=L) (RR:=fun acc C=>compPost (model X.prog X.w) X.A X.xe none (EP X pins σ Q) acc C) hc S I2 T st2 f2 (fun C=>hg C _ _ _) (fun C=>hif C _ _ _) (fun C=>he C _ _ _) hW ?_
  intro C D s' m ys H' I' hn hC hDn hF
  refine⟨m,hn,fun h' sb=>?_⟩
  obtain⟨f0,f1,f2,f3,f4,f5⟩:=hC
  exact⟨.ref D,_,I'.turned (t':=s'.toks) (it:=C) (fun b o hb e=>(sb.2 b hb).trans e) f0 f1 f3 f4 f5,rfl,hF D hDn⟩
theorem qN5 {elt iter tg:Expr} {ifs:List Expr} {pos py spos:Pos} {wi:TI} {g:TG} {tc:TT} {te:TE} {i:Nat} {y:Str} (L:List Str) (caps:List (Nat×Str)) (hc:X.calm=true) (hN:X.N.Nodup) (hy:X.N[i]? = some y) (hyl:X.env.scope.names.lookup y=some .local)
    (S:qAN X.env.scope X.N caps sc) (hi:PI X tg iter wi)
    (hg:∀ C s H fp,PG (qAF X L caps sc C s H fp) tg g) (hif:∀ C s H fp,PIf (qAF X L caps sc C s H fp) ifs tc) (he:∀ C s H fp,PE (qAF X L caps sc C s H fp) elt te)
    (hsw:swapsWith (.ListComp elt [⟨tg,iter,ifs,0⟩] sc pos) (some (.Name y py)) spos.line X.env=pure true:=by rfl)
    (hs:∀ x,foldedSetIterable iter X.env x=pure x:=by intro _;rfl):PS X (.Assign [.Name y py] (.ListComp elt [⟨tg,iter,ifs,0⟩] sc pos) spos) (qNk (qJy wi g tc te L.length caps) (qFm i)):=by
  k_dat 0"r13"
  rw [exec_Assign_Name_used _ _ _ _ hsw]
  refine wpAny_bind (wpAny_standAt (wpAny_bind ?_))
  show wpAny _ X.A (do let _ ← comprehension (.ListComp elt [⟨tg,iter,ifs,0⟩] sc pos) sc X.env _ (newList []) false (eval iter X.env) (some (assign (.Name y py) X.env))) _ _ s
  refine wpAny_bind (wpAny_mono (wpAny_comprehension_free (use:=some (assign (.Name y py) X.env)) (Q:=fun _ s'=>SP X pins D .next s') rfl hs (qJw (I.qIo S)) S.kind S.names
    (thn (hi pins s σ H _ I h) fun v s1 h1=>thn h1 fun itv s2 h2=>?_)) (fun _ s' hq=>wpAny_pure (wpAny_pure hq)) fun _ _ e=>e)
  obtain⟨it,fp,tn,J,H2,e,I2,T,st2,f2,hW⟩:=h2
  subst e
  refine qFp (L:=L) (RR:=fun acc C=>compPost (model X.prog X.w) X.A X.xe (some (assign (.Name y py) X.env)) (fun _ s'=>SP X pins D .next s') acc C) hc S I2 T st2 f2 (fun C=>hg C _ _ _) (fun C=>hif C _ _ _) (fun C=>he C _ _ _) hW ?_
  intro C Dd s' m ys H' I' hn hC hDn hF
  obtain⟨f0,f1,f2,f3,f4,f5⟩:=hC
  show wpAny _ X.A (assign (.Name y py) X.env (.ref Dd)) _ _ _
  refine wpAny_assign_Name (qGQ (v:=.ref Dd) I' hN hy (.inl hyl) rfl (fun s'' I'' hsb=>?_) (.inr hyl))
  obtain⟨a,hsb,ha⟩:=hsb
  have hL:a≠C:=by
    rcases ha with z | z
    · rw [z];exact Ne.symm f1
    · exact f4 y a z
  refine⟨m,hn.sameBut hsb (Ne.symm hL),fun h' sb=>?_⟩
  exact⟨_,_,I''.turned (t':=s''.toks) (it:=C) (fun b o hb e=>(sb.2 b hb).trans e) f0 f1 f3 f4 f5,hF Dd hDn⟩
end
end L2
namespace L3
open PySem PySem.Spec PyProof.Rows L2
inductive Dt where
  | non | bl (b:Bool) | int (i:Int) | str (x:Str) | tup (xs:List Dt) | lst (n:Nat) | ty (n:String) | dic (n:Nat) | ins (n:Nat)
inductive SO where
  | ro (xs:List Dt) | rw (xs:List Dt) | dc (kvs:List (Key×Dt)) | ob (C:Str) (fs:List (Str×Dt))
noncomputable def SO.items:SO→List Dt
  | .ro xs=>xs
  | .rw xs=>xs
  | .dc _=>[]
  | .ob _ _=>[]
def IsL (K:W.Frag) (H:Hp) (a:Addr):Prop:=∃ vs,SqL K H a vs
def IsD (H:Hp) (a:Addr):Prop:=∃ kvs,H a=some (.dK kvs)
def IsO (H:Hp) (a:Addr):Prop:=∃ C dx fs,H a=some (.ins C dx fs)
noncomputable abbrev Sto:=List SO
noncomputable abbrev Rho:=List (Option Dt)
mutual
noncomputable def D (K:W.Frag) (φ:Nat→Addr) (N:Nat) (H:Hp):Dt→V→Prop
  | .non,v=>v = .non
  | .bl b,v=>v = .bl b
  | .int i,v=>v = .int i
  | .str x,v=>v = .str x
  | .ty n,v=>v = .ty n
  | .tup ds,v=>∃ a vs,v = .ref a∧SqT K H a vs∧DL K φ N H ds vs
  | .lst n,v=>n<N∧v = .ref (φ n)∧IsL K H (φ n)
  | .dic n,v=>n<N∧v = .ref (φ n)∧IsD H (φ n)
  | .ins n,v=>n<N∧v = .ref (φ n)∧IsO H (φ n)
noncomputable def DL (K:W.Frag) (φ:Nat→Addr) (N:Nat) (H:Hp):List Dt→List V→Prop
  | [],vs=>vs=[]
  | d::ds,vs=>∃ v r,vs=v::r∧D K φ N H d v∧DL K φ N H ds r
end
structure Evo (K:W.Frag) (φ:Nat→Addr) (N:Nat) (H:Hp) (φ':Nat→Addr) (N':Nat) (H':Hp):Prop where
  le:N≤N'
  ext:∀ i,i<N→φ' i=φ i
  tup:∀ a vs,SqT K H a vs→SqT K H' a vs
  lst:∀ i,i<N→IsL K H (φ i)→IsL K H' (φ i)
  dic:∀ i,i<N→IsD H (φ i)→IsD H' (φ i)
  ins:∀ i,i<N→IsO H (φ i)→IsO H' (φ i)
section
variable {K:W.Frag} {φ φ' φ1 φ2:Nat→Addr} {N N' N1 N2:Nat} {H H' H1 H2:Hp}
theorem Evo.refl:Evo K φ N H φ N H:=⟨Nat.le_refl _,fun _ _=>rfl,fun _ _ h=>h,fun _ _ h=>h,fun _ _ h=>h,fun _ _ h=>h⟩
theorem Evo.trans (a:Evo K φ N H φ1 N1 H1) (b:Evo K φ1 N1 H1 φ2 N2 H2):Evo K φ N H φ2 N2 H2 :=
  ⟨Nat.le_trans a.le b.le,fun i hi=>(b.ext i (Nat.lt_of_lt_of_le hi a.le)).trans (a.ext i hi),fun x vs h=>b.tup x vs (a.tup x vs h), 
    fun i hi h=>(fun q:IsL K H1 (φ1 i)→IsL K H2 (φ1 i)=>a.ext i hi ▸ q (a.ext i hi ▸ a.lst i hi h)) (b.lst i (Nat.lt_of_lt_of_le hi a.le)),
    fun i hi h=>(fun q:IsD H1 (φ1 i)→IsD H2 (φ1 i)=>a.ext i hi ▸ q (a.ext i hi ▸ a.dic i hi h)) (b.dic i (Nat.lt_of_lt_of_le hi a.le)),
    fun i hi h=>(fun q:IsO H1 (φ1 i)→IsO H2 (φ1 i)=>a.ext i hi ▸ q (a.ext i hi ▸ a.ins i hi h)) (b.ins i (Nat.lt_of_lt_of_le hi a.le))⟩
mutual
theorem D.evo (e:Evo K φ N H φ' N' H'):∀ {d:Dt} {v:V},D K φ N H d v→D K φ' N' H' d v
  | .non,_,h=>by simpa [D] using h
  | .bl _,_,h=>by simpa [D] using h
  | .int _,_,h=>by simpa [D] using h
  | .str _,_,h=>by simpa [D] using h
  | .ty _,_,h=>by simpa [D] using h
  | .tup ds,v,h=>by
    simp only [D] at h ⊢
    obtain⟨a,vs,h1,h2,h3⟩:=h
    exact⟨a,vs,h1,e.tup a vs h2,DL.evo e h3⟩
  | .lst n,v,h=>by
    simp only [D] at h ⊢
    obtain⟨h1,h2,h3⟩:=h
    exact⟨Nat.lt_of_lt_of_le h1 e.le,by rw [e.ext n h1];exact h2,by rw [e.ext n h1];exact e.lst n h1 h3⟩
  | .dic n,v,h=>by
    simp only [D] at h ⊢
    obtain⟨h1,h2,h3⟩:=h
    exact⟨Nat.lt_of_lt_of_le h1 e.le,by rw [e.ext n h1];exact h2,by rw [e.ext n h1];exact e.dic n h1 h3⟩
  | .ins n,v,h=>by
    simp only [D] at h ⊢
    obtain⟨h1,h2,h3⟩:=h
    exact⟨Nat.lt_of_lt_of_le h1 e.le,by rw [e.ext n h1];exact h2,by rw [e.ext n h1];exact e.ins n h1 h3⟩
theorem DL.evo (e:Evo K φ N H φ' N' H'):∀ {ds:List Dt} {vs:List V},DL K φ N H ds vs→DL K φ' N' H' ds vs
  | [],vs,h=>by simpa [DL] using h
  | d::ds,vs,h=>by
    simp only [DL] at h ⊢
    obtain⟨v,r,h1,h2,h3⟩:=h
    exact⟨v,r,h1,D.evo e h2,DL.evo e h3⟩
end
theorem DL.length:∀ {ds:List Dt} {vs:List V},DL K φ N H ds vs→ds.length=vs.length
  | [],vs,h=>by simp only [DL] at h;rw [h];rfl
  | d::ds,vs,h=>by
    k_dat 0"r10"
    obtain⟨v,r,h1,_,h3⟩:=h
    rw [h1,List.length_cons,List.length_cons,DL.length h3]
theorem DL.get:∀ {ds:List Dt} {vs:List V} {i:Nat} {d:Dt},DL K φ N H ds vs→ds[i]? = some d→∃ v,vs[i]? = some v∧D K φ N H d v
  | [],_,_,_,_,e=>by simp at e
  | d::ds,vs,0,d',h,e=>by
    k_dat 0"r10"
    obtain⟨v,r,h1,h2,_⟩:=h
    simp at e
    subst e;subst h1
    exact⟨v,rfl,h2⟩
  | d::ds,vs,i+1,d',h,e=>by
    k_dat 0"r10"
    obtain⟨v,r,h1,_,h3⟩:=h
    subst h1
    obtain⟨w,e1,e2⟩:=DL.get (i:=i) h3 (by simpa using e)
    exact⟨w,by simpa using e1,e2⟩
theorem DL.nil:DL K φ N H [] []:=by simp [DL]
theorem DL.cons {d:Dt} {v:V} {ds:List Dt} {vs:List V} (h:D K φ N H d v) (t:DL K φ N H ds vs):DL K φ N H (d::ds) (v::vs):=by
  simp only [DL];exact⟨v,vs,rfl,h,t⟩
theorem DL.qBw {d:Dt} {v:V} {ds:List Dt} {vs:List V} (h:DL K φ N H (d::ds) (v::vs)):D K φ N H d v∧DL K φ N H ds vs:=by
  k_dat 0"r10"
  obtain⟨v',r,h1,h2,h3⟩:=h
  cases h1
  exact⟨h2,h3⟩
theorem DL.append:∀ {ds es:List Dt} {vs ws:List V},DL K φ N H ds vs→DL K φ N H es ws→DL K φ N H (ds++es) (vs++ws)
  | [],_,vs,_,h,h'=>by simp only [DL] at h;rw [h];exact h'
  | d::ds,es,vs,ws,h,h'=>by
    k_dat 0"r10"
    obtain⟨v,r,h1,h2,h3⟩:=h
    subst h1
    exact DL.cons h2 (DL.append h3 h')
theorem DL.drop:∀ {ds:List Dt} {vs:List V} (n:Nat),DL K φ N H ds vs→DL K φ N H (ds.drop n) (vs.drop n)
  | ds,vs,0,h=>h
  | [],vs,n+1,h=>by simp only [DL] at h;rw [h];simpa using DL.nil
  | d::ds,vs,n+1,h=>by
    k_dat 0"r10"
    obtain⟨v,r,h1,h2,h3⟩:=h
    subst h1
    exact DL.drop n h3
theorem DL.take:∀ {ds:List Dt} {vs:List V} (n:Nat),DL K φ N H ds vs→DL K φ N H (ds.take n) (vs.take n)
  | ds,vs,0,h=>by simpa using DL.nil
  | [],vs,n+1,h=>by simp only [DL] at h;rw [h];simpa using DL.nil
  | d::ds,vs,n+1,h=>by
    k_dat 0"r10"
    obtain⟨v,r,h1,h2,h3⟩:=h
    subst h1
    exact DL.cons h2 (DL.take n h3)
theorem DL.set {d:Dt} {v:V} (hd:D K φ N H d v):∀ {ds:List Dt} {vs:List V} (n:Nat),DL K φ N H ds vs→DL K φ N H (ds.set n d) (vs.set n v)
  | [],vs,n,h=>by simp only [DL] at h;rw [h];simpa using DL.nil
  | e::ds,vs,0,h=>by
    k_dat 0"r10"
    obtain⟨w,r,h1,h2,h3⟩:=h
    subst h1
    exact DL.cons hd h3
  | e::ds,vs,n+1,h=>by
    k_dat 0"r10"
    obtain⟨w,r,h1,h2,h3⟩:=h
    subst h1
    exact DL.cons h2 (DL.set hd n h3)
theorem DL.one {d:Dt} {vs:List V} (h:DL K φ N H [d] vs):∃ v,vs=[v]∧D K φ N H d v:=by
  k_dat 0"r10"
  obtain⟨v,r,h1,h2,h3⟩:=h
  subst h3
  exact⟨v,h1,h2⟩
theorem DL.two {d e:Dt} {vs:List V} (h:DL K φ N H [d,e] vs):∃ v w,vs=[v,w]∧D K φ N H d v∧D K φ N H e w:=by
  k_dat 0"r10"
  obtain⟨v,r,h1,h2,w,r',h3,h4,h5⟩:=h
  subst h5;subst h3
  exact⟨v,w,h1,h2,h4⟩
theorem D.int {i:Int} {v:V} (h:D K φ N H (.int i) v):v = .int i:=by simpa [D] using h
theorem D.bl {i:Bool} {v:V} (h:D K φ N H (.bl i) v):v = .bl i:=by simpa [D] using h
theorem D.str {i:Str} {v:V} (h:D K φ N H (.str i) v):v = .str i:=by simpa [D] using h
theorem D.non {v:V} (h:D K φ N H .non v):v = .non:=by simpa [D] using h
theorem D.ty {n:String} {v:V} (h:D K φ N H (.ty n) v):v = .ty n:=by simpa [D] using h
theorem D.tup {ds:List Dt} {v:V} (h:D K φ N H (.tup ds) v):∃ a vs,v = .ref a∧SqT K H a vs∧DL K φ N H ds vs:=by simpa [D] using h
theorem D.lst {n:Nat} {v:V} (h:D K φ N H (.lst n) v):n<N∧v = .ref (φ n):=by simp only [D] at h;exact⟨h.1,h.2.1⟩
theorem D.isL {n:Nat} {v:V} (h:D K φ N H (.lst n) v):IsL K H (φ n):=by simp only [D] at h;exact h.2.2
theorem D.dic {n:Nat} {v:V} (h:D K φ N H (.dic n) v):n<N∧v = .ref (φ n):=by simp only [D] at h;exact⟨h.1,h.2.1⟩
theorem D.isD {n:Nat} {v:V} (h:D K φ N H (.dic n) v):IsD H (φ n):=by simp only [D] at h;exact h.2.2
theorem D.ins {n:Nat} {v:V} (h:D K φ N H (.ins n) v):n<N∧v = .ref (φ n):=by simp only [D] at h;exact⟨h.1,h.2.1⟩
theorem D.mkInt {i:Int}:D K φ N H (.int i) (.int i):=by simp [D]
theorem D.qDA {i:Bool}:D K φ N H (.bl i) (.bl i):=by simp [D]
theorem D.mkStr {i:Str}:D K φ N H (.str i) (.str i):=by simp [D]
theorem D.qJX:D K φ N H .non .non:=by simp [D]
theorem D.qSP {n:String}:D K φ N H (.ty n) (.ty n):=by simp [D]
theorem D.qBs {ds:List Dt} {a:Addr} {vs:List V} (h:SqT K H a vs) (t:DL K φ N H ds vs):D K φ N H (.tup ds) (.ref a):=by simp only [D];exact⟨a,vs,rfl,h,t⟩
theorem D.qOQ {n:Nat} (h:n<N) (hl:IsL K H (φ n)):D K φ N H (.lst n) (.ref (φ n)):=by simp only [D];exact⟨h,trivial,hl⟩
theorem D.qRG {n:Nat} (h:n<N) (hl:IsD H (φ n)):D K φ N H (.dic n) (.ref (φ n)):=by simp only [D];exact⟨h,trivial,hl⟩
theorem D.qR8 {n:Nat} (h:n<N) (hl:IsO H (φ n)):D K φ N H (.ins n) (.ref (φ n)):=by simp only [D];exact⟨h,trivial,hl⟩
end
def SqR (K:W.Frag) (H:Hp) (a:Addr) (xs:List V):Prop :=
  (∃ o,H a=some (.frz o (.lst xs))) ∨
    ∃ (o:Obj) (its:Array Value) (n:Nat),K.lookup a=some o∧o.cls = .type "list" ∧ o.dict=none∧o.data = .seq its n∧its.size≤sizeLine∧Vals xs its.toList
theorem SqR.sq {K:W.Frag} {H:Hp} {a:Addr} {xs:List V} (h:SqR K H a xs):SqL K H a xs:=by
  rcases h with h | h
  · exact .inl (.inr h)
  · exact .inr h
noncomputable def Holds (K:W.Frag) (φ:Nat→Addr) (N:Nat) (H:Hp):SO→Addr→Prop
  | .ro xs,a=>∃ vs,SqR K H a vs∧DL K φ N H xs vs
  | .rw xs,a=>∃ vs,H a=some (.lst vs)∧DL K φ N H xs vs
  | .dc kvs,a=>∃ vs:List (Key×V),H a=some (.dK vs)∧K.lookup a=none∧kvs.map (·.1)=vs.map (·.1)∧DL K φ N H (kvs.map (·.2)) (vs.map (·.2))
  | .ob C fs,a=>∃ (c dx:Addr) (vs:List (Str×V)),H a=some (.ins c dx vs)∧K.lookup a=none∧W.nsIn K mainGlobals C=some (some (.ref c))∧fs.map (·.1)=vs.map (·.1)∧DL K φ N H (fs.map (·.2)) (vs.map (·.2))
noncomputable def SO.wr:SO→Bool
  | .ro _=>false
  | _=>true
structure Rep (K:W.Frag) (φ:Nat→Addr) (st:Sto) (H:Hp):Prop where
  injA:∀ (i j:Nat) a b,st[i]? = some a→st[j]? = some b→a.wr=true→b.wr=true→φ i=φ j→i=j
  all:∀ (i:Nat) o,st[i]? = some o→Holds K φ st.length H o (φ i)
section
variable {K:W.Frag} {φ φ':Nat→Addr} {N N':Nat} {st:Sto} {H H':Hp} {p:Addr}
theorem Rep.ro (R:Rep K φ st H):∀ (i:Nat) xs,st[i]? = some (.ro xs)→∃ vs,SqR K H (φ i) vs∧DL K φ st.length H xs vs:=fun i _ e=>R.all i _ e
theorem Rep.rw (R:Rep K φ st H):∀ (i:Nat) xs,st[i]? = some (.rw xs)→∃ vs,H (φ i)=some (.lst vs)∧DL K φ st.length H xs vs:=fun i _ e=>R.all i _ e
theorem Rep.seq (R:Rep K φ st H) {i:Nat} {o:SO} (e:st[i]? = some o) (hl:IsL K H (φ i)):∃ vs,SqL K H (φ i) vs∧DL K φ st.length H o.items vs:=by
  have no:∀ {u:HO},H (φ i)=some u→K.lookup (φ i)=none→(∀ vs,u≠.lst vs)→(∀ ob vs,u≠.frz ob vs)→False:=by
    intro u h hk h1 h2
    obtain⟨vs,(h3 | ⟨ob,h3⟩) | ⟨ob,_,_,h3,_⟩⟩:=hl
    · rw [h] at h3;exact h1 _ (Option.some.inj h3)
    · rw [h] at h3;exact h2 _ _ (Option.some.inj h3)
    · rw [hk] at h3;cases h3
  cases o with
  | ro xs =>
    obtain⟨vs,h1,h2⟩:=R.ro i xs e
    exact⟨vs,h1.sq,h2⟩
  | rw xs =>
    obtain⟨vs,h1,h2⟩:=R.rw i xs e
    exact⟨vs,SqL.of h1,h2⟩
  | dc kvs =>
    obtain⟨vs,h1,h2,_⟩:=R.all i _ e
    exact (no h1 h2 (fun _ z=>by cases z) (fun _ _ z=>by cases z)).elim
  | ob C fs =>
    obtain⟨c,dx,vs,h1,h2,_⟩:=R.all i _ e
    exact (no h1 h2 (fun _ z=>by cases z) (fun _ _ z=>by cases z)).elim
theorem qJl {a:Addr} {vs:List V} {o:HO} (h:SqT K H a vs) (hp:H p=none):SqT K (upd H p o) a vs:=by
  rcases h with (h | ⟨ob,h⟩) | h
  · exact .inl (.inl (by rw [qM (qN h hp)];exact h))
  · exact .inl (.inr ⟨ob,by rw [qM (qN h hp)];exact h⟩)
  · exact .inr h
theorem qJY {a:Addr} {vs:List V} {o:HO} (h:SqR K H a vs) (hp:H p=none):SqR K (upd H p o) a vs:=by
  rcases h with ⟨ob,h⟩ | h
  · exact .inl ⟨ob,by rw [qM (qN h hp)];exact h⟩
  · exact .inr h
theorem qLM {a:Addr} {vs ws:List V} {o:HO} (h:SqT K H a vs) (hp:H p=some (.lst ws)):SqT K (upd H p o) a vs:=by
  rcases h with (h | ⟨ob,h⟩) | h
  · exact .inl (.inl (by rw [qM (qGJ h hp (by intro z;cases z))];exact h))
  · exact .inl (.inr ⟨ob,by rw [qM (qGJ h hp (by intro z;cases z))];exact h⟩)
  · exact .inr h
theorem qN1 {a:Addr} {vs:List V} {o:HO} (h:SqL K H a vs) (hp:H p=none):SqL K (upd H p o) a vs:=by
  rcases h with (h | ⟨ob,h⟩) | h
  · exact .inl (.inl (by rw [qM (qN h hp)];exact h))
  · exact .inl (.inr ⟨ob,by rw [qM (qN h hp)];exact h⟩)
  · exact .inr h
theorem qJd {a:Addr} {o:HO} (h:IsL K H a) (hp:H p=none):IsL K (upd H p o) a:=let ⟨vs,h⟩:=h;⟨vs,qN1 h hp⟩
theorem qJi {a:Addr} {o:HO} (h:IsD H a) (hp:H p=none):IsD (upd H p o) a:=let ⟨vs,h⟩:=h;⟨vs,by rw [qM (qN h hp)];exact h⟩
theorem qJs {a:Addr} {o:HO} (h:IsO H a) (hp:H p=none):IsO (upd H p o) a:=let ⟨c,d,f,h⟩:=h;⟨c,d,f,by rw [qM (qN h hp)];exact h⟩
theorem qAh {o:HO} (hp:H p=none):Evo K φ N H φ N (upd H p o):=⟨Nat.le_refl _,fun _ _=>rfl,fun _ _ h=>qJl h hp,fun _ _ h=>qJd h hp,fun _ _ h=>qJi h hp,fun _ _ h=>qJs h hp⟩
theorem Holds.stay {o:SO} {a:Addr} (h:Holds K φ N H o a) (e:Evo K φ N H φ' N' H') (hr:∀ vs,SqR K H a vs→SqR K H' a vs) (hw:o.wr=true→H' a=H a):Holds K φ' N' H' o a:=by
  cases o with
  | ro xs=>obtain⟨vs,h1,h2⟩:=h;exact⟨vs,hr vs h1,h2.evo e⟩
  | rw xs=>obtain⟨vs,h1,h2⟩:=h;exact⟨vs,by rw [hw rfl];exact h1,h2.evo e⟩
  | dc kvs=>obtain⟨vs,h1,h2,h3,h4⟩:=h;exact⟨vs,by rw [hw rfl];exact h1,h2,h3,h4.evo e⟩
  | ob C fs=>obtain⟨c,dx,vs,h1,h2,h3,h4,h5⟩:=h;exact⟨c,dx,vs,by rw [hw rfl];exact h1,h2,h3,h4,h5.evo e⟩
theorem Holds.qOI {o:SO} {a:Addr} (h:Holds K φ N H o a) (hw:o.wr=true):∃ u,H a=some u:=by
  cases o with
  | ro xs=>cases hw
  | rw xs=>obtain⟨vs,h1,_⟩:=h;exact⟨_,h1⟩
  | dc kvs=>obtain⟨vs,h1,_⟩:=h;exact⟨_,h1⟩
  | ob C fs=>obtain⟨c,dx,vs,h1,_⟩:=h;exact⟨_,h1⟩
theorem Rep.laid {o:HO} (R:Rep K φ st H) (hp:H p=none):Rep K φ st (upd H p o) :=
  ⟨R.injA,fun i x e=>(R.all i x e).stay (qAh hp) (fun _ h=>qJY h hp) fun w=>by
    obtain⟨u,h⟩:=(R.all i x e).qOI w
    exact qM (qN h hp)⟩
noncomputable def qAZ (φ:Nat→Addr) (n:Nat) (p:Addr):Nat→Addr:=fun i=>if i=n then p else φ i
theorem qCF {n:Nat}:qAZ φ n p n=p:=by unfold qAZ;rw [if_pos rfl]
theorem qEF {n i:Nat} (h:i<n):qAZ φ n p i=φ i:=by unfold qAZ;rw [if_neg (Nat.ne_of_lt h)]
theorem qC0 {o:SO} {u:HO} (hp:H p=none):Evo K φ st.length H (qAZ φ st.length p) (st++[o]).length (upd H p u) :=
  ⟨by rw [List.length_append];exact Nat.le_add_right _ _,fun i hi=>qEF hi,fun _ _ h=>qJl h hp,fun _ _ h=>qJd h hp,fun _ _ h=>qJi h hp,fun _ _ h=>qJs h hp⟩
theorem qM3 {vs:List V} {xs:List Dt} (hp:H p=none):Evo K φ st.length H (qAZ φ st.length p) (st++[SO.rw xs]).length (upd H p (.lst vs)):=qC0 hp
theorem qDh {α:Type} {l:List α} {x y:α} {i:Nat} (e:(l++[x])[i]? = some y):(i<l.length∧l[i]? = some y)∨(i=l.length∧y=x):=by
  by_cases h:i<l.length
  · left
    rw [List.getElem?_append_left h] at e
    exact⟨h,e⟩
  · right
    rw [List.getElem?_append_right (Nat.not_lt.mp h)] at e
    have h0:i - l.length=0:=by
      cases q:i - l.length with
      | zero=>rfl
      | succ n=>rw [q] at e;simp at e
    rw [h0] at e
    have:x=y:=by simpa using e
    exact⟨by omega,this.symm⟩
theorem qAC {α:Type} {l:List α} {y:α} {i:Nat} (e:l[i]? = some y):i<l.length:=(List.getElem?_eq_some_iff.mp e).1
theorem Rep.add {o:SO} {u:HO} (R:Rep K φ st H) (hp:H p=none) (hd:Holds K (qAZ φ st.length p) (st++[o]).length (upd H p u) o p):Rep K (qAZ φ st.length p) (st++[o]) (upd H p u):=by
  have ev:Evo K φ st.length H (qAZ φ st.length p) (st++[o]).length (upd H p u):=qC0 hp
  have notp:∀ (i:Nat) x,st[i]? = some x→x.wr=true→φ i≠p:=fun i x e w z=>by
    obtain⟨v,h⟩:=(R.all i x e).qOI w
    rw [z,hp] at h;cases h
  refine⟨fun i j a b e1 e2 w1 w2 h=>?_,fun i x e=>?_⟩
  · rcases qDh e1 with ⟨l1,e1⟩ | ⟨l1,e1⟩
    · rcases qDh e2 with ⟨l2,e2⟩ | ⟨l2,e2⟩
      · rw [qEF l1,qEF l2] at h
        exact R.injA i j _ _ e1 e2 w1 w2 h
      · rw [qEF l1,l2,qCF] at h
        exact absurd h (notp i _ e1 w1)
    · rcases qDh e2 with ⟨l2,e2⟩ | ⟨l2,e2⟩
      · rw [qEF l2,l1,qCF] at h
        exact absurd h.symm (notp j _ e2 w2)
      · rw [l1,l2]
  · rcases qDh e with ⟨l1,e1⟩ | ⟨l1,e1⟩
    · rw [qEF l1]
      exact (R.all i x e1).stay ev (fun _ h=>qJY h hp) fun w=>qM (notp i x e1 w)
    · rw [l1,qCF,e1];exact hd
theorem Rep.newL {vs:List V} {xs:List Dt} (R:Rep K φ st H) (hp:H p=none) (hd:DL K φ st.length H xs vs):Rep K (qAZ φ st.length p) (st++[.rw xs]) (upd H p (.lst vs)) :=
  R.add hp ⟨vs,qY,hd.evo (qC0 hp)⟩
theorem qLq {a:Addr} {vs:List V} {u w:HO} (h:SqT K H a vs) (hp:H p=some u) (h1:∀ xs,u≠.tup xs) (h2:∀ o x,u≠.frz o x):SqT K (upd H p w) a vs:=by
  rcases h with (h | ⟨ob,h⟩) | h
  · exact .inl (.inl (by rw [qM (qGJ h hp (fun z=>h1 _ z.symm))];exact h))
  · exact .inl (.inr ⟨ob,by rw [qM (qGJ h hp (fun z=>h2 _ _ z.symm))];exact h⟩)
  · exact .inr h
theorem qL5 {a:Addr} {vs:List V} {u w:HO} (h:SqR K H a vs) (hp:H p=some u) (h2:∀ o x,u≠.frz o x):SqR K (upd H p w) a vs:=by
  rcases h with ⟨ob,h⟩ | h
  · exact .inl ⟨ob,by rw [qM (qGJ h hp (fun z=>h2 _ _ z.symm))];exact h⟩
  · exact .inr h
noncomputable def qGV:HO→HO→Prop
  | .lst _,.lst _=>True
  | .dK _,.dK _=>True
  | .ins _ _ _,.ins _ _ _=>True
  | _,_=>False
theorem qHn {a:Addr} {u w:HO} (h:IsL K H a) (hp:H p=some u) (hk:qGV u w):IsL K (upd H p w) a:=by
  by_cases e:a=p
  · subst e
    cases u<;>cases w<;>first | exact hk.elim | skip
    · exact⟨_,SqL.of qY⟩
    · obtain⟨vs,(h | ⟨ob,h⟩) | h⟩:=h
      · rw [hp] at h;cases h
      · rw [hp] at h;cases h
      · exact⟨vs,.inr h⟩
    · obtain⟨vs,(h | ⟨ob,h⟩) | h⟩:=h
      · rw [hp] at h;cases h
      · rw [hp] at h;cases h
      · exact⟨vs,.inr h⟩
  · obtain⟨vs,(h | ⟨ob,h⟩) | h⟩:=h
    · exact⟨vs,.inl (.inl (by rw [qM e];exact h))⟩
    · exact⟨vs,.inl (.inr ⟨ob,by rw [qM e];exact h⟩)⟩
    · exact⟨vs,.inr h⟩
theorem qH8 {a:Addr} {u w:HO} (h:IsD H a) (hp:H p=some u) (hk:qGV u w):IsD (upd H p w) a:=by
  by_cases e:a=p
  · subst e
    obtain⟨vs,h⟩:=h
    rw [hp] at h
    cases h
    cases w<;>first | exact hk.elim | exact⟨_,qY⟩
  · obtain⟨vs,h⟩:=h
    exact⟨vs,by rw [qM e];exact h⟩
theorem qHu {a:Addr} {u w:HO} (h:IsO H a) (hp:H p=some u) (hk:qGV u w):IsO (upd H p w) a:=by
  by_cases e:a=p
  · subst e
    obtain⟨c,d,f,h⟩:=h
    rw [hp] at h
    cases h
    cases w<;>first | exact hk.elim | exact⟨_,_,_,qY⟩
  · obtain⟨c,d,f,h⟩:=h
    exact⟨c,d,f,by rw [qM e];exact h⟩
theorem qFg {u w:HO} (hk:qGV u w):(∀ xs,u≠.tup xs)∧∀ o x,u≠.frz o x:=by
  cases u<;>first | exact hk.elim | exact⟨(fun _ z=>nomatch z),(fun _ _ z=>nomatch z)⟩
theorem qCj {n:Nat} {u w:HO} {o:SO} (hn:n<st.length) (h:H (φ n)=some u) (hk:qGV u w):Evo K φ st.length H φ (st.set n o).length (upd H (φ n) w) :=
  ⟨by rw [List.length_set];exact Nat.le_refl _,fun _ _=>rfl,fun _ _ hh=>qLq hh h (qFg hk).1 (qFg hk).2,fun _ _ hh=>qHn hh h hk,fun _ _ hh=>qH8 hh h hk,fun _ _ hh=>qHu hh h hk⟩
theorem qEx {n:Nat} {vs ws:List V} {o:SO} (h:H (φ n)=some (.lst ws)):Evo K φ st.length H φ (st.set n o).length (upd H (φ n) (.lst vs)) :=
  ⟨by rw [List.length_set];exact Nat.le_refl _,fun _ _=>rfl,fun _ _ hh=>qLM hh h,fun _ _ hh=>qHn hh h trivial,fun _ _ hh=>qH8 hh h trivial,fun _ _ hh=>qHu hh h trivial⟩
theorem Rep.put {n:Nat} {u w:HO} {o q:SO} (R:Rep K φ st H) (hn:st[n]? = some q) (hq:q.wr=true) (ho:o.wr=true) (h:H (φ n)=some u) (hk:qGV u w) (hd:Holds K φ (st.set n o).length (upd H (φ n) w) o (φ n)):Rep K φ (st.set n o) (upd H (φ n) w):=by
  have hlt:=qAC hn
  have ev:Evo K φ st.length H φ (st.set n o).length (upd H (φ n) w):=qCj hlt h hk
  have get:∀ {i:Nat} {x:SO},(st.set n o)[i]? = some x→(i=n∧x=o)∨(i≠n∧st[i]? = some x):=fun {i x} e=>by
    by_cases h:i=n
    · left
      subst h
      rw [List.getElem?_set_self hlt] at e
      exact⟨rfl,(Option.some.inj e).symm⟩
    · right
      rw [List.getElem?_set_ne (Ne.symm h)] at e
      exact⟨h,e⟩
  refine⟨fun i j a b e1 e2 w1 w2 hh=>?_,fun i x e=>?_⟩
  · have g:∀ {i:Nat} {a:SO},(st.set n o)[i]? = some a→a.wr=true→∃ a',st[i]? = some a'∧a'.wr=true:=fun {i a} e w=>by
      rcases get e with ⟨h,_⟩ | ⟨_,h⟩
      · rw [h];exact⟨q,hn,hq⟩
      · exact⟨a,h,w⟩
    obtain⟨z1,g1,y1⟩:=g e1 w1
    obtain⟨z2,g2,y2⟩:=g e2 w2
    exact R.injA i j z1 z2 g1 g2 y1 y2 hh
  · rcases get e with ⟨h1,h2⟩ | ⟨h1,h2⟩
    · rw [h1,h2];exact hd
    · exact (R.all i x h2).stay ev (fun _ hh=>qL5 hh h (qFg hk).2) fun w=>qM fun z=>h1 (R.injA i n x q h2 hn w hq z)
theorem Rep.qOe {n:Nat} {vs:List V} {xs ys:List Dt} (R:Rep K φ st H) (hn:st[n]? = some (.rw ys)) (hd:DL K φ st.length H xs vs):Rep K φ (st.set n (.rw xs)) (upd H (φ n) (.lst vs)):=by
  obtain⟨ws,hw,_⟩:=R.rw n ys hn
  exact R.put hn rfl rfl hw trivial ⟨vs,qY,hd.evo (qEx hw)⟩
end
noncomputable abbrev VD:=Dt→Sto→Prop
noncomputable abbrev TD:=Rho→Sto→VD→Prop
noncomputable abbrev TBD:=Rho→Sto→(Bool→Sto→Prop)→Prop
noncomputable abbrev TAD:=Rho→Sto→(List Dt→Sto→Prop)→Prop
structure qBH where
  nx:Rho→Sto→Prop
  rt:VD
  bk:Rho→Sto→Prop:=fun _ _=>False
  ct:Rho→Sto→Prop:=fun _ _=>False
noncomputable abbrev TSD:=qBH→Rho→Sto→Prop
def DR (K:W.Frag) (φ:Nat→Addr) (N:Nat) (H:Hp) (ρ:Rho) (σ:L2.St):Prop :=
  ρ.length=σ.length∧∀ (i:Nat) d,ρ[i]? = some (some d)→∃ v,σ[i]? = some (some v)∧D K φ N H d v
section
variable {K:W.Frag} {φ φ':Nat→Addr} {N N':Nat} {H H':Hp} {ρ:Rho} {σ:L2.St}
theorem DR.evo (h:DR K φ N H ρ σ) (e:Evo K φ N H φ' N' H'):DR K φ' N' H' ρ σ :=
  ⟨h.1,fun i d q=>let ⟨v,h1,h2⟩:=h.2 i d q;⟨v,h1,h2.evo e⟩⟩
theorem DR.set {d:Dt} {v:V} (h:DR K φ N H ρ σ) (hd:D K φ N H d v) (i:Nat):DR K φ N H (ρ.set i (some d)) (σ.set i (some v)):=by
  refine⟨by rw [List.length_set,List.length_set];exact h.1,fun j e q=>?_⟩
  by_cases hj:j=i
  · subst hj
    have hl:j<ρ.length:=by
      have:=qAC q
      rwa [List.length_set] at this
    rw [List.getElem?_set_self hl] at q
    cases q
    exact⟨v,by rw [List.getElem?_set_self (by rw [← h.1];exact hl)],hd⟩
  · rw [List.getElem?_set_ne (Ne.symm hj)] at q
    rw [List.getElem?_set_ne (Ne.symm hj)]
    exact h.2 j e q
end
def Pre (K:W.Frag) (φ:Nat→Addr) (st:Sto) (H:Hp) (ρ:Rho) (σ:L2.St):Prop:=Rep K φ st H∧DR K φ st.length H ρ σ
def Bhd (K:W.Frag) (φ:Nat→Addr) (st:Sto) (H:Hp) (φ':Nat→Addr) (st':Sto) (H':Hp):Prop:=Rep K φ' st' H'∧Evo K φ st.length H φ' st'.length H'
noncomputable def qAU (K:W.Frag) (t:TD):TE:=fun σ H Q=>∃ φ st ρ P,Pre K φ st H ρ σ∧t ρ st P ∧
  ∀ d st',P d st'→∀ φ' H' v,Bhd K φ st H φ' st' H'→D K φ' st'.length H' d v→Q v H'
noncomputable def liftT (K:W.Frag) (t:TBD):TT:=fun σ H Q=>∃ φ st ρ P,Pre K φ st H ρ σ∧t ρ st P ∧
  ∀ b st',P b st'→∀ φ' H',Bhd K φ st H φ' st' H'→Q b H'
noncomputable def qJu (K:W.Frag) (t:TAD):TA:=fun σ H Q=>∃ φ st ρ P,Pre K φ st H ρ σ∧t ρ st P ∧
  ∀ ds st',P ds st'→∀ φ' H' vs,Bhd K φ st H φ' st' H'→DL K φ' st'.length H' ds vs→Q vs H'
noncomputable def qH1 (K:W.Frag) (t:TSD):TS:=fun E σ H=>∃ φ st ρ P,Pre K φ st H ρ σ∧t P ρ st ∧
  (∀ ρ' st',P.nx ρ' st'→∀ φ' H' σ',Bhd K φ st H φ' st' H'→DR K φ' st'.length H' ρ' σ'→E.nx σ' H') ∧
  (∀ ρ' st',P.bk ρ' st'→∀ φ' H' σ',Bhd K φ st H φ' st' H'→DR K φ' st'.length H' ρ' σ'→E.bk σ' H') ∧
  (∀ ρ' st',P.ct ρ' st'→∀ φ' H' σ',Bhd K φ st H φ' st' H'→DR K φ' st'.length H' ρ' σ'→E.ct σ' H') ∧
  (∀ d st',P.rt d st'→∀ φ' H' v,Bhd K φ st H φ' st' H'→D K φ' st'.length H' d v→E.rt v H')
def DE (X:Cx) (e:Expr) (t:TD):Prop:=PE X e (qAU X.K t)
def DT (X:Cx) (e:Expr) (t:TBD):Prop:=PT X e (liftT X.K t)
def DA (X:Cx) (es:List Expr) (t:TAD):Prop:=PA X es (qJu X.K t)
def DS (X:Cx) (s:Stmt) (t:TSD):Prop:=PS X s (qH1 X.K t)
def DSs (X:Cx) (s:List Stmt) (t:TSD):Prop:=PSs X s (qH1 X.K t)
section
variable {K:W.Frag} {φ φ1 φ2:Nat→Addr} {st st1 st2:Sto} {H H1 H2:Hp} {ρ:Rho} {σ:L2.St}
theorem Bhd.refl (h:Rep K φ st H):Bhd K φ st H φ st H:=⟨h,.refl⟩
theorem Bhd.trans (a:Bhd K φ st H φ1 st1 H1) (b:Bhd K φ1 st1 H1 φ2 st2 H2):Bhd K φ st H φ2 st2 H2:=⟨b.1,a.2.trans b.2⟩
theorem Pre.on (p:Pre K φ st H ρ σ) (b:Bhd K φ st H φ1 st1 H1):Pre K φ1 st1 H1 ρ σ:=⟨b.1,p.2.evo b.2⟩
end
theorem _root_.L2.PE.imp {X:Cx} {e:Expr} {t t':TE} (h:PE X e t) (i:∀ σ H Q,t' σ H Q→t σ H Q):PE X e t':=fun pins s σ H Q I q=>h pins s σ H Q I (i σ H Q q)
theorem _root_.L2.PT.imp {X:Cx} {e:Expr} {t t':TT} (h:PT X e t) (i:∀ σ H Q,t' σ H Q→t σ H Q):PT X e t':=fun pins s σ H Q I q=>h pins s σ H Q I (i σ H Q q)
theorem _root_.L2.PA.imp {X:Cx} {es:List Expr} {t t':TA} (h:PA X es t) (i:∀ σ H Q,t' σ H Q→t σ H Q):PA X es t':=fun pos pins s σ H Q I q=>h pos pins s σ H Q I (i σ H Q q)
theorem _root_.L2.PS.imp {X:Cx} {e:Stmt} {t t':TS} (h:PS X e t) (i:∀ D σ H,t' D σ H→t D σ H):PS X e t':=fun pins s σ H Dn I q=>h pins s σ H Dn I (i Dn σ H q)
theorem _root_.L2.PSs.imp {X:Cx} {e:List Stmt} {t t':TS} (h:PSs X e t) (i:∀ D σ H,t' D σ H→t D σ H):PSs X e t':=fun pins s σ H Dn I q=>h pins s σ H Dn I (i Dn σ H q)
end L3
namespace L3
open PySem PySem.Spec PyProof.Rows L2
open AutoSeq1 (wpAny_loadPart')
section
variable {prog:Program} {w:World} {A:Around} {E:Value→Shared→Prop} {s:Shared}
theorem qLA {t b:Addr} {vs ws:List Value} {Q:Value→Shared→Prop} (ht:IsTup s.heap t vs.toArray) (hb:IsTup s.heap b ws.toArray)
    (h0:vs=[]→Q (.ref b) s) (h1:vs≠[]→ws=[]→Q (.ref t) s) (h2:vs≠[]→ws≠[]→Q (.ref s.heap.objs.size) { s with heap:=s.heap.push { cls:=.type "tuple",data:=.seq (vs++ws).toArray } })
    (hsz:vs.length+ws.length≤sizeLine):wpAny (model prog w) A (binaryOp .Add (.ref t) (.ref b)) Q E s:=by
  by_cases hv:vs=[]
  · obtain⟨⟨cls,dd,data,sl⟩,ho,hc,n,hd⟩:=id ht
    obtain⟨⟨cls2,dd2,data2,sl2⟩,ho2,hc2,n2,hd2⟩:=id hb
    simp only at hc hd hc2 hd2
    subst hc hd hc2 hd2
    exact concat_meets ⟨_,ho,rfl⟩ ⟨_,ho2,rfl⟩ noFill_tuple_add seq_tuple_add PySem.F.slot_tuple_add PySem.F.entry_tuple_add (PySem.F.args_tuple_add_2 _ _)
      (tuple_addW0 t b vs.toArray ws.toArray n n2 dd dd2 sl sl2 (by simp [hv])) ⟨ho,ho2,h0 hv⟩
  · exact HT.qNc ht hb hv (h1 hv) (h2 hv) hsz
end
theorem qEC:fillsNumberSlot (.type "tuple") "mul" = pure false :=
  PySem.fillsNumberSlot_seq (id:= "tuple.__mul__") (r:=some (.builtin "tuple.__rmul__")) F.slot_tuple_mul.lookup (by decide +kernel) F.slot_tuple_rmul.lookup (by decide +kernel)
theorem qG4:seqRepeat? (.type "tuple")=pure (some (.builtin "tuple.__mul__")):=by
  unfold seqRepeat?
  rw [PySem.seqSlot_of (T:= "tuple") (name:= "__mul__") (id:= "tuple.__mul__") F.slot_tuple_mul.lookup (by decide +kernel),PySem.seqSlot_of (T:= "tuple") (name:= "__rmul__") (id:= "tuple.__rmul__") F.slot_tuple_rmul.lookup (by decide +kernel)]
  rfl
theorem qFh (a:Int) (t:Tok) (l:Addr) (items:Array Value) (n:Nat) (d:Option Addr) (sl:Array (Option Value)) :
    Meets (Builtin.«int.__rmul__» ⟨[.int a t,.ref l],[]⟩) (fun _ R s=>s.heap.get? l=some { cls:=.type "tuple",dict:=d,data:=.seq items n,slots:=sl }∧R (.ok (.ret Value.notImplemented)) s) :=
  .of_wp fun prog w A R s h=>by obtain⟨hp,g,d,tk,os⟩:=s;obtain⟨hl,h⟩:=h;wp_walk;exact⟨_,rfl,h⟩
theorem qIu (l:Addr) (items:Array Value) (n:Nat) (d:Option Addr) (sl:Array (Option Value)) (x:Int) (u:Tok) (h0:items.isEmpty=false) (h1:2≤x) (h2:x<2 ^ 20) (h3:items.size * x.toNat≤sizeLine) :
    Meets (Builtin.«tuple.__mul__» ⟨[.ref l,.int x u],[]⟩) (fun _ R s=>s.heap.get? l=some { cls:=.type "tuple",dict:=d,data:=.seq items n,slots:=sl } ∧
      R (.ok (.ret (Value.ref s.heap.objs.size))) { s with heap:=s.heap.push { cls:=Value.type "tuple",data:=Data.seq (List.foldl (fun x1 x2=>x1++x2) #[] (List.replicate x.toNat items)) },toks:=s.toks }) :=
  .of_wp fun prog w A R s h=>by
    obtain⟨hp,g,d,tk,os⟩:=s;obtain⟨hl,h⟩:=h
    have f1:=AutoSeq1.idx_int
    have e1:(decide (x < -(2 ^ 63)) || decide (x ≥ 2 ^ 63))=false:=by
      rw [decide_eq_false (by omega),decide_eq_false (by omega)];rfl
    have e2:(items.isEmpty || x==1)=false:=by
      rw [h0,Bool.false_or];exact beq_eq_false_iff_ne.mpr (by omega)
    have e3:(decide (x≤0) || items.isEmpty)=false:=by
      rw [h0,Bool.or_false];exact decide_eq_false (by omega)
    have e4:¬ ((items.size:Int) * x > (2 ^ 63 - 1) / 8):=by
      have hb:items.size * x.toNat≤16777216:=by rw [← sizeLine_eq];exact h3
      have:(items.size:Int) * x=((items.size * x.toNat:Nat):Int):=by
        rw [Int.natCast_mul,Int.toNat_of_nonneg (by omega)]
      rw [this]
      omega
    wp_walk using wpAny_loadPart' hl
    rw [if_neg (fun q=>Bool.false_ne_true (e1.symm.trans q))]
    wp_walk using wpAny_loadPart' hl
    rw [if_neg (fun q=>Bool.false_ne_true (e2.symm.trans q))]
    wp_walk using wpAny_loadPart' hl
    rw [if_neg (fun q=>Bool.false_ne_true (e3.symm.trans q))]
    wp_walk using wpAny_loadPart' hl
    rw [if_neg e4]
    wp_walk using wpAny_loadPart' hl
    have hx:(items.size:Int) * x=((items.size * x.toNat:Nat):Int):=by
      rw [Int.natCast_mul,Int.toNat_of_nonneg (by omega)]
    have e5:Builtin.Tuple.tupleTooMany ((items.size:Int) * x)=false:=by
      unfold Builtin.Tuple.tupleTooMany
      rw [hx]
      exact decide_eq_false (by omega)
    rw [if_neg (fun q=>Bool.false_ne_true (e5.symm.trans q))]
    have f0:List.foldl (fun x1 x2=>x1++x2) #[] (List.replicate x.toNat items)=(List.replicate x.toNat items.toList).flatten.toArray:=by
      have:=foldl_rep items.toList x.toNat []
      rw [List.nil_append,Array.toArray_toList] at this
      exact this
    have hsz:sizeOk (.seq (List.foldl (fun x1 x2=>x1++x2) #[] (List.replicate x.toNat items))):=by
      show (List.foldl (fun x1 x2=>x1++x2) #[] (List.replicate x.toNat items)).size≤sizeLine
      rw [f0,List.size_toArray,len_rep,Array.length_toList,Nat.mul_comm]
      exact h3
    unfold Builtin.Tuple.tupleExact
    exact wpAny_bind (wpAny_newObj_type (wpAny_pure ⟨_,rfl,h⟩) hsz)
section
variable {X:Cx}
theorem qNl:OpR X (binaryOp .Add) (fun x y H Q=>∃ a b xs ys,x = .ref a∧y = .ref b∧SqT X.K H a xs∧SqT X.K H b ys∧xs.length+ys.length≤sizeLine ∧
    (xs=[]→Q (.ref b) H)∧(xs≠[]→ys=[]→Q (.ref a) H)∧(xs≠[]→ys≠[]→∀ p,H p=none→Q (.ref p) (upd H p (.tup (xs++ys))))):=by
  k_dat 0"r8"
  obtain⟨a,b,xs,ys,rfl,rfl,ha,hb,hz,q0,q1,q2⟩:=h
  cases rx
  cases ry
  obtain⟨its,r1,p1,_⟩:=I.tuple ha
  obtain⟨its2,r2,p2,_⟩:=I.tuple hb
  refine qLA p1 p2 (fun z=>⟨.ref b,H,I,rfl,q0 (r1.qDr.mp z)⟩) (fun z1 z=>⟨.ref a,H,I,rfl,q1 (fun w=>z1 (r1.qDr.mpr w)) (r2.qDr.mp z)⟩) (fun z1 z=>?_) (by rw [← r1.length,← r2.length];exact hz)
  refine⟨.ref s.heap.objs.size,_,I.laid (t':=s.toks) (o:=.tup (xs++ys)) (fun b ob q=>Heap.get?_push_of_some _ q) (Nat.le_refl _) ?_,rfl,q2 (fun w=>z1 (r1.qDr.mpr w)) (fun w=>z (r2.qDr.mpr w)) _ (I.hok.fresh (Nat.le_refl _))⟩
  exact⟨by rw [List.length_append];exact hz,_,r1.append r2,IsTup.new _ _⟩
theorem qN8:OpR X (binaryOp .Mult) (fun x y H Q=>∃ a k xs,x = .ref a∧y = .int k∧SqT X.K H a xs∧xs≠[]∧2≤k∧k<2 ^ 20∧xs.length * k.toNat≤sizeLine ∧
    ∀ p,H p=none→Q (.ref p) (upd H p (.tup (List.replicate k.toNat xs).flatten))):=by
  k_dat 0"r8"
  obtain⟨a,k,xs,rfl,rfl,ha,hne,h2,h3,hz,q⟩:=h
  cases rx
  obtain⟨t,rfl⟩:=ry
  obtain⟨its,r1,p1,_⟩:=I.tuple ha
  have hl:=r1.length
  obtain⟨⟨cls,dd,data,sl⟩,ho,hc,n,hd⟩:=id p1
  simp only at hc hd
  subst hc hd
  have f0:List.foldl (fun x1 x2=>x1++x2) #[] (List.replicate k.toNat its.toArray)=(List.replicate k.toNat its).flatten.toArray:=by
    have:=foldl_rep its k.toNat []
    rw [List.nil_append] at this
    exact this
  have hz':its.toArray.size * k.toNat≤sizeLine:=by rw [List.size_toArray,← hl];exact hz
  have he:its.toArray.isEmpty=false:=by
    cases its with
    | nil=>exact absurd (List.length_eq_zero_iff.mp hl) hne
    | cons _ _=>rfl
  refine wpAny_binaryOp_repeat_ref (T:= "tuple") (U:= "int") (by decide) ⟨_,ho,rfl⟩ (fun s'=>typeIs_int s' k t) qEC F.fills_int_mul F.slot_int_rmul qG4 F.slot_int_index.lookup
    (call_meets F.slot_int_rmul (typeIs_int s k t) F.entry_int_rmul (F.args_int_rmul_2 _ _) (qFh k t a its.toArray n dd sl)
      ⟨ho,rfl,⟨_,ho,rfl⟩,call_meets F.slot_tuple_mul ⟨_,ho,rfl⟩ F.entry_tuple_mul (F.args_tuple_mul_2 _ _) (qIu a its.toArray n dd sl k t he h2 h3 hz') ⟨ho,?_⟩⟩)
  rw [f0]
  refine⟨.ref s.heap.objs.size,_,I.laid (t':=s.toks) (o:=.tup (List.replicate k.toNat xs).flatten) (fun b ob q=>Heap.get?_push_of_some _ q) (Nat.le_refl _) ?_,rfl,q _ (I.hok.fresh (Nat.le_refl _))⟩
  exact⟨by rw [len_rep,Nat.mul_comm];exact hz,_,Vals.rep r1 _,IsTup.new _ _⟩
end
end L3
namespace L3
open PySem PySem.Spec PyProof.Rows L2
noncomputable def okD:Nat→Dt→Bool
  | 0,.tup _=>false
  | n+1,.tup xs=>xs.all (okD n)
  | _,.lst _=>false
  | _,.ty _=>false
  | _,.dic _=>false
  | _,.ins _=>false
  | _,_=>true
noncomputable def eqL (f:Dt→Dt→Bool):List Dt→List Dt→Bool
  | [],[]=>true
  | x::xs,y::ys=>f x y&&eqL f xs ys
  | _,_=>false
noncomputable def eqD:Nat→Dt→Dt→Bool
  | _,.non,.non=>true
  | _,.bl a,.bl b=>a==b
  | _,.bl a,.int b=>(if a then 1 else 0)==b
  | _,.int a,.bl b=>a==(if b then 1 else 0)
  | _,.int a,.int b=>a==b
  | _,.str a,.str b=>a==b
  | n+1,.tup a,.tup b=>eqL (eqD n) a b
  | _,_,_=>false
theorem qHl {f:Dt→Dt→Bool}:∀ {xs:List Dt},(∀ x∈xs,f x x=true)→eqL f xs xs=true
  | [],_=>rfl
  | x::xs,h=>by
    unfold eqL
    rw [h x List.mem_cons_self,qHl fun y hy=>h y (List.mem_cons_of_mem _ hy)]
    rfl
theorem qDY:∀ {n:Nat} {d:Dt},okD n d=true→eqD n d d=true
  | 0,.tup _,h=>by simp [okD] at h
  | n+1,.tup xs,h=>by
    simp only [okD] at h
    simp only [eqD]
    exact qHl fun x hx=>qDY (List.all_eq_true.mp h x hx)
  | n,.non,_=>by cases n<;>rfl
  | n,.bl b,_=>by cases n<;>simp [eqD]
  | n,.int b,_=>by cases n<;>simp [eqD]
  | n,.str b,_=>by cases n<;>simp [eqD]
  | n,.lst _,h=>by cases n<;>simp [okD] at h
  | n,.ty _,h=>by cases n<;>simp [okD] at h
  | n,.dic _,h=>by cases n<;>simp [okD] at h
  | n,.ins _,h=>by cases n<;>simp [okD] at h
theorem qBW {f:Dt→Dt→Bool}:∀ (xs ys:List Dt),eqL f xs ys=((List.range (min xs.length ys.length)).all (fun j=>f (xs.getD j .non) (ys.getD j .non))&&xs.length==ys.length)
  | [],[]=>rfl
  | [],_::_=>by simp [eqL]
  | _::_,[]=>by simp [eqL]
  | x :: xs,y::ys=>by
    unfold eqL
    rw [qBW xs ys]
    have e:min (x::xs).length (y::ys).length=min xs.length ys.length+1:=by simp [Nat.succ_min_succ]
    rw [e,List.range_succ_eq_map,List.all_cons,List.all_map]
    simp only [List.getD_cons_zero,List.length_cons]
    have e2:((xs.length+1==ys.length+1):Bool)=(xs.length==ys.length):=by
      rw [Bool.eq_iff_iff];simp
    rw [e2,Bool.and_assoc]
    rfl
section
variable {X:Cx} {pins:List (Addr×Obj)} {σ:L2.St} {H:Hp} {s:Shared} {φ:Nat→Addr} {N:Nat}
theorem qE1 {xs:List Dt} {j:Nat} {d:Dt} (h:xs[j]? = some d):xs.getD j .non=d:=by simp [List.getD,h]
theorem qHH {f:Dt→Bool} (hf:∀ {d e:Dt} {v:V},f d=true→f e=true→D X.K φ N H d v→D X.K φ N H e v→d=e):∀ {a b:List Dt} {vs:List V},DL X.K φ N H a vs→DL X.K φ N H b vs→a.all f=true→b.all f=true→a=b
  | [],[],_,_,_,_,_=>rfl
  | [],y::b,vs,h1,h2,_,_=>by
    have:=h1.length;have:=h2.length;simp at *;omega
  | x::a,[],vs,h1,h2,_,_=>by
    have:=h1.length;have:=h2.length;simp at *;omega
  | x::a,y::b,vs,h1,h2,o1,o2=>by
    rw [List.all_cons,Bool.and_eq_true] at o1 o2
    simp only [DL] at h1 h2
    obtain⟨v,r,rfl,p1,p2⟩:=h1
    obtain⟨v',r',e,q1,q2⟩:=h2
    cases e
    rw [hf o1.1 o2.1 p1 q1,qHH hf p2 q2 o1.2 o2.2]
theorem qR3 (I:Inv X pins σ H s):∀ (n:Nat) {d e:Dt} {v:V},okD n d=true→okD n e=true→D X.K φ N H d v→D X.K φ N H e v→d=e:=by
  intro n
  induction n with
  | zero =>
    intro d e v o1 o2 h1 h2
    cases d<;>cases e<;>first
      | (exfalso;revert o1;simp [okD];done)
      | (exfalso;revert o2;simp [okD];done)
      | (simp only [D] at h1 h2;subst h1;first | (cases h2;rfl) | (cases h2))
  | succ n ih =>
    intro d e v o1 o2 h1 h2
    cases d<;>cases e<;>first
      | (exfalso;revert o1;simp [okD];done)
      | (exfalso;revert o2;simp [okD];done)
      | (simp only [D] at h1 h2;subst h1;first | (cases h2;rfl) | (cases h2;done) | (obtain⟨_,_,z,_⟩:=h2;cases z))
      | (simp only [D] at h1 h2;subst h2;obtain⟨_,_,z,_⟩:=h1;cases z)
      | (simp only [okD] at o1 o2
         obtain⟨p,vs,e1,hs,hd⟩:=h1.tup
         obtain⟨q,ws,e2,hs2,hd2⟩:=h2.tup
         rw [e1] at e2
         cases e2
         have:=I.qBY hs hs2
         subst this
         rw [qHH (f:=okD n) (fun a b c d=>ih a b c d) hd hd2 o1 o2])
theorem qOu (I:Inv X pins σ H s) {n:Nat} {a b:List Dt} {vs:List V} (h1:DL X.K φ N H a vs) (h2:DL X.K φ N H b vs) (o1:a.all (okD n)=true) (o2:b.all (okD n)=true):a=b :=
  qHH (fun a b c d=>qR3 I n a b c d) h1 h2 o1 o2
theorem qLN (I:Inv X pins σ H s):∀ (n:Nat) {A:Around} {d e:Dt} {v w:V} {u1 u2:Value},A.units+n<cLine→okD n d=true→okD n e=true→D X.K φ N H d v→D X.K φ N H e w→RelV v u1→RelV w u2→SeqAt.EqAt A s u1 u2 (eqD n d e)
  | n,A,.non,.non,v,w,u1,u2,hu,_,_,h1,h2,r1,r2=>by cases h1.non;cases h2.non;cases r1;cases r2;cases n<;>exact SeqAt.EqAt.same _
  | n,A,.non,.bl b,v,w,u1,u2,hu,_,_,h1,h2,r1,r2=>by cases h1.non;cases h2.bl;cases r1;cases r2;cases n<;>exact SeqAt.EqAt.none_bool b
  | n,A,.non,.int b,v,w,u1,u2,hu,_,_,h1,h2,r1,r2=>by cases h1.non;cases h2.int;cases r1;obtain⟨t,rfl⟩:=r2;cases n<;>exact SeqAt.EqAt.none_int b t
  | n,A,.non,.str b,v,w,u1,u2,hu,_,_,h1,h2,r1,r2=>by cases h1.non;cases h2.str;cases r1;obtain⟨t,rfl⟩:=r2;cases n<;>exact SeqAt.EqAt.none_str b t
  | n,A,.bl a,.non,v,w,u1,u2,hu,_,_,h1,h2,r1,r2=>by cases h1.bl;cases h2.non;cases r1;cases r2;cases n<;>exact SeqAt.EqAt.bool_none a
  | n,A,.bl a,.bl b,v,w,u1,u2,hu,_,_,h1,h2,r1,r2=>by cases h1.bl;cases h2.bl;cases r1;cases r2;cases n<;>exact SeqAt.EqAt.bool_bool a b
  | n,A,.bl a,.int b,v,w,u1,u2,hu,_,_,h1,h2,r1,r2=>by cases h1.bl;cases h2.int;cases r1;obtain⟨t,rfl⟩:=r2;cases n<;>exact SeqAt.EqAt.bool_int a b t
  | n,A,.bl a,.str b,v,w,u1,u2,hu,_,_,h1,h2,r1,r2=>by cases h1.bl;cases h2.str;cases r1;obtain⟨t,rfl⟩:=r2;cases n<;>exact SeqAt.EqAt.bool_str a b t
  | n,A,.int a,.non,v,w,u1,u2,hu,_,_,h1,h2,r1,r2=>by cases h1.int;cases h2.non;obtain⟨t,rfl⟩:=r1;cases r2;cases n<;>exact SeqAt.EqAt.int_none a t
  | n,A,.int a,.bl b,v,w,u1,u2,hu,_,_,h1,h2,r1,r2=>by cases h1.int;cases h2.bl;obtain⟨t,rfl⟩:=r1;cases r2;cases n<;>exact SeqAt.EqAt.int_bool a t b
  | n,A,.int a,.int b,v,w,u1,u2,hu,_,_,h1,h2,r1,r2=>by cases h1.int;cases h2.int;obtain⟨t,rfl⟩:=r1;obtain⟨t',rfl⟩:=r2;cases n<;>exact SeqAt.EqAt.int_int a t b t'
  | n,A,.int a,.str b,v,w,u1,u2,hu,_,_,h1,h2,r1,r2=>by cases h1.int;cases h2.str;obtain⟨t,rfl⟩:=r1;obtain⟨t',rfl⟩:=r2;cases n<;>exact SeqAt.EqAt.int_str a t b t'
  | n,A,.str a,.non,v,w,u1,u2,hu,_,_,h1,h2,r1,r2=>by cases h1.str;cases h2.non;obtain⟨t,rfl⟩:=r1;cases r2;cases n<;>exact SeqAt.EqAt.str_none a t
  | n,A,.str a,.bl b,v,w,u1,u2,hu,_,_,h1,h2,r1,r2=>by cases h1.str;cases h2.bl;obtain⟨t,rfl⟩:=r1;cases r2;cases n<;>exact SeqAt.EqAt.str_bool a t b
  | n,A,.str a,.int b,v,w,u1,u2,hu,_,_,h1,h2,r1,r2=>by cases h1.str;cases h2.int;obtain⟨t,rfl⟩:=r1;obtain⟨t',rfl⟩:=r2;cases n<;>exact SeqAt.EqAt.str_int a t b t'
  | n,A,.str a,.str b,v,w,u1,u2,hu,_,_,h1,h2,r1,r2=>by cases h1.str;cases h2.str;obtain⟨t,rfl⟩:=r1;obtain⟨t',rfl⟩:=r2;cases n<;>exact SeqAt.EqAt.str_str a t b t'
  | n,A,.tup a,.non,v,w,u1,u2,hu,_,_,h1,h2,r1,r2=>by
    obtain⟨p,vs,rfl,hs,hd⟩:=h1.tup;cases h2.non;cases r1;cases r2;obtain⟨its,_,ht,_⟩:=I.tuple hs;cases n<;>exact SeqAt.EqAt.tuple_none ht (by omega)
  | n,A,.tup a,.bl b,v,w,u1,u2,hu,_,_,h1,h2,r1,r2=>by
    obtain⟨p,vs,rfl,hs,hd⟩:=h1.tup;cases h2.bl;cases r1;cases r2;obtain⟨its,_,ht,_⟩:=I.tuple hs;cases n<;>exact SeqAt.EqAt.tuple_bool b ht (by omega)
  | n,A,.tup a,.int b,v,w,u1,u2,hu,_,_,h1,h2,r1,r2=>by
    obtain⟨p,vs,rfl,hs,hd⟩:=h1.tup;cases h2.int;cases r1;obtain⟨t',rfl⟩:=r2;obtain⟨its,_,ht,_⟩:=I.tuple hs;cases n<;>exact SeqAt.EqAt.tuple_int b t' ht (by omega)
  | n,A,.tup a,.str b,v,w,u1,u2,hu,_,_,h1,h2,r1,r2=>by
    obtain⟨p,vs,rfl,hs,hd⟩:=h1.tup;cases h2.str;cases r1;obtain⟨t',rfl⟩:=r2;obtain⟨its,_,ht,_⟩:=I.tuple hs;cases n<;>exact SeqAt.EqAt.tuple_str b t' ht (by omega)
  | n,A,.non,.tup b,v,w,u1,u2,hu,_,_,h1,h2,r1,r2=>by
    obtain⟨p,vs,rfl,hs,hd⟩:=h2.tup;cases h1.non;cases r1;cases r2;obtain⟨its,_,ht,_⟩:=I.tuple hs;cases n<;>exact SeqAt.EqAt.none_tuple ht (by omega)
  | n,A,.bl a,.tup b,v,w,u1,u2,hu,_,_,h1,h2,r1,r2=>by
    obtain⟨p,vs,rfl,hs,hd⟩:=h2.tup;cases h1.bl;cases r1;cases r2;obtain⟨its,_,ht,_⟩:=I.tuple hs;cases n<;>exact SeqAt.EqAt.bool_tuple a ht (by omega)
  | n,A,.int a,.tup b,v,w,u1,u2,hu,_,_,h1,h2,r1,r2=>by
    obtain⟨p,vs,rfl,hs,hd⟩:=h2.tup;cases h1.int;obtain⟨t',rfl⟩:=r1;cases r2;obtain⟨its,_,ht,_⟩:=I.tuple hs;cases n<;>exact SeqAt.EqAt.int_tuple a t' ht (by omega)
  | n,A,.str a,.tup b,v,w,u1,u2,hu,_,_,h1,h2,r1,r2=>by
    obtain⟨p,vs,rfl,hs,hd⟩:=h2.tup;cases h1.str;obtain⟨t',rfl⟩:=r1;cases r2;obtain⟨its,_,ht,_⟩:=I.tuple hs;cases n<;>exact SeqAt.EqAt.str_tuple a t' ht (by omega)
  | 0,A,.tup a,.tup b,v,w,u1,u2,hu,o1,_,h1,h2,r1,r2=>by simp [okD] at o1
  | n + 1,A,.tup a,.tup b,v,w,u1,u2,hu,o1,o2,h1,h2,r1,r2=>by
    simp only [okD] at o1 o2
    obtain⟨p,vs,rfl,hs,hd⟩:=h1.tup
    obtain⟨q,ws,rfl,hs2,hd2⟩:=h2.tup
    cases r1;cases r2
    obtain⟨its,rv,ht,_⟩:=I.tuple hs
    obtain⟨its2,rv2,ht2,_⟩:=I.tuple hs2
    k_dat 0"r48"
    k_dat 0"r49"
    have hu':A.in1.units+n<cLine:=by show A.units+1+n<cLine;omega
    have rc:SeqAt.RcAt A s (.ref p) (.ref q) (eqD (n+1) (.tup a) (.tup b)):=by
      have:=SeqAt.RcAt.tuples (A:=A) (s:=s) (e:=fun j=>eqD n (a.getD j .non) (b.getD j .non)) ht ht2 (by omega) (fun j h1 h2=>by
        have hj1:j<a.length:=by rw [← l1];exact h1
        have hj2:j<b.length:=by rw [← l2];exact h2
        have ea:a[j]? = some a[j]:=by simp [hj1]
        have eb:b[j]? = some b[j]:=by simp [hj2]
        obtain⟨x,ex,dx⟩:=hd.get ea
        obtain⟨y,ey,dy⟩:=hd2.get eb
        obtain⟨ux,eux,rx⟩:=rv.get ex
        obtain⟨uy,euy,ry⟩:=rv2.get ey
        have gx:its.toArray[j]=ux:=by
          have:its[j]? = some its[j]:=by simp at h1;simp [h1]
          rw [eux] at this
          k_dat 0"r50"
        have gy:its2.toArray[j]=uy:=by
          have:its2[j]? = some its2[j]:=by simp at h2;simp [h2]
          rw [euy] at this
          k_dat 0"r50"
        rw [gx,gy,qE1 ea,qE1 eb]
        exact qLN I n hu' (List.all_eq_true.mp o1 _ (List.getElem_mem hj1)) (List.all_eq_true.mp o2 _ (List.getElem_mem hj2)) dx dy rx ry)
      rw [l1,l2] at this
      simp only [eqD]
      rw [qBW]
      exact this
    by_cases hpq:p=q
    · subst hpq
      have:eqD (n+1) (.tup a) (.tup b)=true∨eqD (n+1) (.tup a) (.tup b)=false:=by cases eqD (n+1) (.tup a) (.tup b)<;>simp
      have e1:its=its2:=by
        obtain⟨o,e,_,m,d⟩:=ht
        obtain⟨o',e',_,m',d'⟩:=ht2
        rw [e] at e';cases e'
        rw [d] at d'
        injection d' with d1 _
        simpa using congrArg Array.toList d1
      have ev:vs=ws:=by subst e1;exact rv.inj rv2
      have eab:a=b:=by
        subst ev
        exact qOu I hd hd2 o1 o2
      subst eab
      rw [qDY (by simp only [okD];exact o1)]
      exact SeqAt.EqAt.same _
    · exact SeqAt.EqAt.of_refs hpq rc
  | n,A,.lst _,_,v,w,u1,u2,hu,o1,_,h1,h2,r1,r2=>by cases n<;>simp [okD] at o1
  | n,A,.ty _,_,v,w,u1,u2,hu,o1,_,h1,h2,r1,r2=>by cases n<;>simp [okD] at o1
  | n,A,.dic _,_,v,w,u1,u2,hu,o1,_,h1,h2,r1,r2=>by cases n<;>simp [okD] at o1
  | n,A,.ins _,_,v,w,u1,u2,hu,o1,_,h1,h2,r1,r2=>by cases n<;>simp [okD] at o1
  | n,A,.non,.lst _,v,w,u1,u2,hu,_,o1,h1,h2,r1,r2=>by cases n<;>simp [okD] at o1
  | n,A,.non,.ty _,v,w,u1,u2,hu,_,o1,h1,h2,r1,r2=>by cases n<;>simp [okD] at o1
  | n,A,.non,.dic _,v,w,u1,u2,hu,_,o1,h1,h2,r1,r2=>by cases n<;>simp [okD] at o1
  | n,A,.non,.ins _,v,w,u1,u2,hu,_,o1,h1,h2,r1,r2=>by cases n<;>simp [okD] at o1
  | n,A,.bl _,.lst _,v,w,u1,u2,hu,_,o1,h1,h2,r1,r2=>by cases n<;>simp [okD] at o1
  | n,A,.bl _,.ty _,v,w,u1,u2,hu,_,o1,h1,h2,r1,r2=>by cases n<;>simp [okD] at o1
  | n,A,.bl _,.dic _,v,w,u1,u2,hu,_,o1,h1,h2,r1,r2=>by cases n<;>simp [okD] at o1
  | n,A,.bl _,.ins _,v,w,u1,u2,hu,_,o1,h1,h2,r1,r2=>by cases n<;>simp [okD] at o1
  | n,A,.int _,.lst _,v,w,u1,u2,hu,_,o1,h1,h2,r1,r2=>by cases n<;>simp [okD] at o1
  | n,A,.int _,.ty _,v,w,u1,u2,hu,_,o1,h1,h2,r1,r2=>by cases n<;>simp [okD] at o1
  | n,A,.int _,.dic _,v,w,u1,u2,hu,_,o1,h1,h2,r1,r2=>by cases n<;>simp [okD] at o1
  | n,A,.int _,.ins _,v,w,u1,u2,hu,_,o1,h1,h2,r1,r2=>by cases n<;>simp [okD] at o1
  | n,A,.str _,.lst _,v,w,u1,u2,hu,_,o1,h1,h2,r1,r2=>by cases n<;>simp [okD] at o1
  | n,A,.str _,.ty _,v,w,u1,u2,hu,_,o1,h1,h2,r1,r2=>by cases n<;>simp [okD] at o1
  | n,A,.str _,.dic _,v,w,u1,u2,hu,_,o1,h1,h2,r1,r2=>by cases n<;>simp [okD] at o1
  | n,A,.str _,.ins _,v,w,u1,u2,hu,_,o1,h1,h2,r1,r2=>by cases n<;>simp [okD] at o1
  | n,A,.tup _,.lst _,v,w,u1,u2,hu,_,o1,h1,h2,r1,r2=>by cases n<;>simp [okD] at o1
  | n,A,.tup _,.ty _,v,w,u1,u2,hu,_,o1,h1,h2,r1,r2=>by cases n<;>simp [okD] at o1
  | n,A,.tup _,.dic _,v,w,u1,u2,hu,_,o1,h1,h2,r1,r2=>by cases n<;>simp [okD] at o1
  | n,A,.tup _,.ins _,v,w,u1,u2,hu,_,o1,h1,h2,r1,r2=>by cases n<;>simp [okD] at o1
end
end L3
namespace L3
open PySem PySem.Spec PyProof.Rows L2
noncomputable abbrev RD2:=Dt→Dt→Sto→VD→Prop
noncomputable abbrev RDL:=List Dt→Sto→VD→Prop
noncomputable def qL4 (K:W.Frag) (r:RD2):R2:=fun v w H Q=>∃ φ st x y P,Rep K φ st H∧D K φ st.length H x v∧D K φ st.length H y w∧r x y st P ∧
  ∀ d st',P d st'→∀ φ' H' u,Bhd K φ st H φ' st' H'→D K φ' st'.length H' d u→Q u H'
noncomputable def qMd (K:W.Frag) (r:RDL):List V→Hp→VK→Prop:=fun vs H Q=>∃ φ st ds P,Rep K φ st H∧DL K φ st.length H ds vs∧r ds st P ∧
  ∀ d st',P d st'→∀ φ' H' u,Bhd K φ st H φ' st' H'→D K φ' st'.length H' d u→Q u H'
def OpD (X:Cx) (f:Value→Value→Sem Value) (r:RD2):Prop:=OpR X f (qL4 X.K r)
def qGL (X:Cx) (f:Value) (r:RDL):Prop:=qFf X f (qMd X.K r)
def qB (i:Nat):TD:=fun ρ st P=>match ρ[i]? with
  | some (some d)=>P d st
  | _=>False
def qC (d:Dt):TD:=fun _ st P=>P d st
def qD (r:RD2) (ta tb:TD):TD:=fun ρ st P=>ta ρ st fun x st1=>tb ρ st1 fun y st2=>r x y st2 P
def qF (r:RDL) (t:TAD):TD:=fun ρ st P=>t ρ st fun ds st1=>r ds st1 P
section
variable {K:W.Frag} {r:RD2} {ta tb:TD} {σ:L2.St} {H:Hp} {Q:VK} {R:RDL} {t:TAD}
theorem qDl (h:qAU K (qD r ta tb) σ H Q):tOp (qL4 K r) (qAU K ta) (qAU K tb) σ H Q:=by
  k_dat 0"r0"
  k_dat 0"r15"
  refine⟨φ1,st1,ρ,_,pre.on b1,h1,fun y st2 h2 φ2 H2 w b2 dy=>?_⟩
  exact⟨φ2,st2,x,y,P,b2.1,dx.evo b2.2,dy,h2,fun d st' hp φ' H' u b3 du=>hq d st' hp φ' H' u (b1.trans (b2.trans b3)) du⟩
theorem qEQ (h:qAU K (qF R t) σ H Q):tCB (qMd K R) (qJu K t) σ H Q:=by
  k_dat 0"r0"
  refine⟨φ,st,ρ,_,pre,ht,fun ds st1 h1 φ1 H1 vs b1 dx=>?_⟩
  exact⟨φ1,st1,ds,P,b1.1,dx,h1,fun d st' hp φ' H' u b3 du=>hq d st' hp φ' H' u (b1.trans b3) du⟩
end
section
variable {X:Cx} {a b c e:Expr} {es:List Expr} {ta tb tc t:TD} {tas:TAD} {pos:Pos}
theorem qPR (i:Nat) {x:Str} (hN:X.N[i]? = some x:=by rfl) (hv:Vis X.env.scope x:=by first | exact Or.inl rfl | exact Or.inr (Or.inl rfl) | exact Or.inr (Or.inr rfl)) (hd:(x==("__debug__" : Str))=false:=by decide)
    (hcd:(x==("__classdict__" : Str))=false:=by decide):DE X (.Name x pos) (qB i):=(qPL hN hv hd hcd).imp fun σ H Q h=>by
  k_dat 0"r0"
  unfold qB at ht
  split at ht
  · rename_i d e
    obtain⟨v,e1,e2⟩:=pre.2.2 i d e
    exact⟨v,e1,hq d st ht φ H v (.refl pre.1) e2⟩
  · exact ht.elim
theorem qCA {d:Dt} {v:V} {K:W.Frag} (h:∀ φ N H,D K φ N H d v):∀ (σ:L2.St) H Q,qAU K (qC d) σ H Q→tC v σ H Q:=fun σ H Q h'=>by
  obtain⟨φ,st,ρ,P,pre,ht,hq⟩:=h'
  exact hq d st ht φ H v (.refl pre.1) (h _ _ _)
theorem qP5 {i j pos}:DE X (.Constant (.int i) j pos) (qC (.int i)):=(qPe).imp (qCA fun _ _ _=>D.mkInt)
theorem qRQ {i j pos}:DE X (.Constant (.bool i) j pos) (qC (.bl i)):=(qRC).imp (qCA fun _ _ _=>D.qDA)
theorem qQp {j pos}:DE X (.Constant .none j pos) (qC .non):=(qQT).imp (qCA fun _ _ _=>D.qJX)
theorem qP3 {i j pos}:DE X (.Constant (.str i) j pos) (qC (.str i)):=(qQd).imp (qCA fun _ _ _=>D.mkStr)
theorem qQ6 {x:Str} {T:String} (hm:X.mg x=none) (hv:bootBuiltins x=some (.type T)) (hg:Gl X x:=by rfl) (hn:x ≠ "__name__":=by decide) (hd:(x==("__debug__" : Str))=false:=by decide):DE X (.Name x pos) (qC (.ty T)) :=
  (qN7 (v:=.ty T) hg hm hv rfl hn hd).imp (qCA fun _ _ _=>D.qSP)
theorem qNQ {x:Str} {d:Dt} {v:V} {u:Value} (hm:X.mg x=some u) (r:RelV v u) (hD:∀ φ N H,D X.K φ N H d v) (hg:Gl X x:=by rfl) (hd:(x==("__debug__" : Str))=false:=by decide):DE X (.Name x pos) (qC d) :=
  (qM8 hg hm r hd).imp (qCA hD)
theorem qEa {op:Operator} {r:RD2} (ho:OpD X (binaryOp op) r) (ha:DE X a ta) (hb:DE X b tb):DE X (.BinOp a op b pos) (qD r ta tb):=(qRw ho ha hb).imp fun _ _ _=>qDl
theorem qD2 {op:CmpOp} {r:RD2} (ho:OpD X (compareOp op) r) (ha:DE X a ta) (hb:DE X b tb) (hm:behindInMarks op b=false:=by first | exact qIg _ | with_unfolding_all rfl):DE X (.Compare a [op] [b] pos) (qD r ta tb):=(qN0 ho ha hb hm).imp fun _ _ _=>qDl
def qH (t:TD):TBD:=fun ρ st P=>t ρ st fun x st1=>match x with
  | .bl k=>P k st1
  | _=>False
theorem qCz {K:W.Frag} {t:TD} {σ:L2.St} {H:Hp} {Q:Bool→Hp→Prop} (h:liftT K (qH t) σ H Q):qAU K t σ H fun x H'=>∃ k,x = .bl k∧Q k H':=by
  k_dat 0"r0"
  k_dat 0"r34"
  cases d with
  | bl k=>exact⟨k,dx.bl,hq k st1 h1 φ1 H1 b1⟩
  | _=>exact h1.elim
theorem qCi {op:CmpOp} {r:RD2} (ho:OpD X (compareOp op) r) (ha:DE X a ta) (hb:DE X b tb) (hm:behindInMarks op b=false:=by first | exact qIg _ | with_unfolding_all rfl):DT X (.Compare a [op] [b] pos) (qH (qD r ta tb)) :=
  (qM5 ho ha hb hm).imp fun σ H Q h=>qDl (qCz h)
theorem qQL (h:DE X e t) (he:∀ whole,isTrue e X.env whole=(do let v ← whole;standAt e.pos;holding [v] (truthy v)):=by intro _;rfl):DT X e (qH t):=(qQr h he).imp fun σ H Q h=>qCz h
def qDd (t:TBD):TBD:=fun ρ st P=>t ρ st fun k st1=>P (!k) st1
theorem qQG {t:TBD} (h:DT X a t):DT X (.UnaryOp .Not a pos) (qDd t):=(qPF h).imp fun σ H Q h=>by
  k_dat 0"r0"
  exact⟨φ,st,ρ,_,pre,ht,fun k st1 h1 φ1 H1 b1=>hq _ st1 h1 φ1 H1 b1⟩
def DW (X:Cx) (e:Expr) (t:TBD):Prop:=PW X e (liftT X.K t)
theorem PW.imp {X:Cx} {e:Expr} {t t':TT} (h:PW X e t) (i:∀ σ H Q,t' σ H Q→t σ H Q):PW X e t':=fun wh pins s σ H Q I q=>h wh pins s σ H Q I (i σ H Q q)
def qB3 (t u:TBD):TBD:=fun ρ st P=>t ρ st fun k st1=>if k=true then u ρ st1 P else P false st1
def qNt (t u:TBD):TBD:=fun ρ st P=>t ρ st fun k st1=>if k=true then P true st1 else u ρ st1 P
variable {tA tB':TBD} {rest:List Expr}
theorem qNV (h:DT X a tA):DW X (.BoolOp .And [a] pos) tA:=qNe h
theorem qLC (ha:DT X a tA) (hb:DW X (.BoolOp .And (b::rest) pos) tB'):DW X (.BoolOp .And (a::b::rest) pos) (qB3 tA tB'):=PW.imp (qQb ha hb) fun σ H Q h=>by
  k_dat 0"r0"
  k_dat 0"r78"
  cases k with
  | true =>
    rw [if_pos rfl] at h1 ⊢
    exact⟨φ1,st1,ρ,P,pre.on b1,h1,fun k st2 h2 φ2 H2 b2=>hq k st2 h2 φ2 H2 (b1.trans b2)⟩
  | false =>
    rw [if_neg Bool.false_ne_true] at h1 ⊢
    exact hq false st1 h1 φ1 H1 b1
theorem qK5 {tA:TBD} (h:DW X e tA):DT X e tA:=h _
def qCu (t u:TD):TD:=fun ρ st P=>t ρ st fun x st1=>match x with
  | .bl k=>if k=true then u ρ st1 P else P (.bl false) st1
  | _=>False
def qNn (t u:TD):TD:=fun ρ st P=>t ρ st fun x st1=>match x with
  | .bl k=>if k=true then P (.bl true) st1 else u ρ st1 P
  | _=>False
def qJn (t:TD):TD:=fun ρ st P=>t ρ st fun x st1=>match x with
  | .bl k=>P (.bl (!k)) st1
  | _=>False
theorem qQJ {op} (h:DE X a t):DE X (.BoolOp op [a] pos) t:=qPl h
theorem qPB (ha:DE X a ta) (hb:DE X (.BoolOp .And (b::rest) pos) tb):DE X (.BoolOp .And (a::b::rest) pos) (qCu ta tb):=(qOg ha hb).imp fun σ H Q h=>by
  k_dat 0"r0"
  k_dat 0"r34"
  cases d with
  | bl k =>
    refine⟨k,dx.bl,?_⟩
    cases k with
    | true=>exact qAy ⟨φ1,st1,ρ,P,pre.on b1,h1,fun k st2 h2 φ2 H2 v2 b2=>hq k st2 h2 φ2 H2 v2 (b1.trans b2)⟩
    | false=>exact qBT (hq _ st1 h1 φ1 H1 _ b1 D.qDA)
  | _=>exact h1.elim
def qC7 (c:TBD) (t u:TD):TD:=fun ρ st P=>c ρ st fun k st1=>if k=true then t ρ st1 P else u ρ st1 P
theorem qRL {tC:TBD} (hc:DT X c tC) (ha:DE X a ta) (hb:DE X b tb):DE X (.IfExp c a b pos) (qC7 tC ta tb):=(qMj hc ha hb).imp fun σ H Q h=>by
  k_dat 0"r0"
  k_dat 0"r78"
  cases k with
  | true=>exact qAy ⟨φ1,st1,ρ,P,pre.on b1,(by rw [if_pos rfl] at h1;exact h1),fun k st2 h2 φ2 H2 v2 b2=>hq k st2 h2 φ2 H2 v2 (b1.trans b2)⟩
  | false=>exact qBT ⟨φ1,st1,ρ,P,pre.on b1,(by rw [if_neg Bool.false_ne_true] at h1;exact h1),fun k st2 h2 φ2 H2 v2 b2=>hq k st2 h2 φ2 H2 v2 (b1.trans b2)⟩
def qCC (p q:Int→Int→Bool) (ta tb tc:TD):TD:=fun ρ st P=>ta ρ st fun x st1=>tb ρ st1 fun y st2=>match x,y with
  | .int i,.int j=>if p i j=true then tc ρ st2 fun z st3=>(match z with
      | .int k=>P (.bl (q j k)) st3
      | _=>False) else P (.bl false) st2
  | _,_=>False
theorem qIx {K:W.Frag} {p q:Int→Int→Bool} {σ:L2.St} {H:Hp} {Q:VK} (h:qAU K (qCC p q ta tb tc) σ H Q) :
    qLb (rI0 fun i j=>.bl (p i j)) (rI0 fun i j=>.bl (q i j)) (qAU K ta) (qAU K tb) (qAU K tc) σ H Q:=by
  k_dat 0"r0"
  k_dat 0"r15"
  refine⟨φ1,st1,ρ,_,pre.on b1,h1,fun y st2 h2 φ2 H2 w b2 dy=>?_⟩
  cases x with
  | int i =>
    cases y with
    | int j =>
      refine⟨i,j,dx.int,dy.int,p i j,rfl,?_⟩
      have h2':if p i j=true then tc ρ st2 fun z st3=>(match z with
        | .int k=>P (.bl (q j k)) st3
        | _=>False) else P (.bl false) st2:=h2
      cases hp:p i j with
      | true =>
        rw [hp,if_pos rfl] at h2'
        refine qAy ⟨φ2,st2,ρ,_,(pre.on b1).on b2,h2',fun z st3 h3 φ3 H3 w3 b3 dz=>?_⟩
        cases z with
        | int k=>exact⟨j,k,dy.int,dz.int,hq _ st3 h3 φ3 H3 _ (b1.trans (b2.trans b3)) D.qDA⟩
        | _=>exact h3.elim
      | false =>
        rw [hp,if_neg Bool.false_ne_true] at h2'
        exact qBT (hq _ st2 h2' φ2 H2 _ (b1.trans b2) D.qDA)
    | _=>exact h2.elim
  | _=>cases y<;>exact h2.elim
theorem qMK {op op':CmpOp} {p q:Int→Int→Bool} (ho:OpR X (compareOp op) (rI0 fun i j=>.bl (p i j))) (ho':OpR X (compareOp op') (rI0 fun i j=>.bl (q i j))) (ha:DE X a ta) (hb:DE X b tb) (hc:DE X c tc)
    (hm:lastMarks [op,op'] [b,c]=false:=by with_unfolding_all rfl):DT X (.Compare a [op,op'] [b,c] pos) (qH (qCC p q ta tb tc)):=(qL9 ho ho' ha hb hc hm).imp fun σ H Q h=>qIx (qCz h)
noncomputable def qE:TAD:=fun _ st P=>P [] st
noncomputable def qA (t:TD) (u:TAD):TAD:=fun ρ st P=>t ρ st fun x st1=>u ρ st1 fun xs st2=>P (x::xs) st2
theorem qDI:DA X [] qE:=(qQY).imp fun σ H Q h=>by
  k_dat 0"r0"
  exact hq [] st ht φ H [] (.refl pre.1) .nil
theorem qBU (ha:DE X e t) (hr:DA X es tas) (hs:starEach (e::es) X.env=(false,eval e X.env)::starEach es X.env:=by rfl):DA X (e::es) (qA t tas):=(qNP ha hr hs).imp fun σ H Q h=>by
  k_dat 0"r0"
  k_dat 0"r15"
  refine⟨φ1,st1,ρ,_,pre.on b1,h1,fun xs st2 h2 φ2 H2 vs b2 dxs=>?_⟩
  exact hq _ st2 h2 φ2 H2 _ (b1.trans b2) (.cons (dx.evo b2.2) dxs)
def qZ (t:TAD):TD:=fun ρ st P=>t ρ st fun ds st1=>ds.length≤sizeLine∧P (.tup ds) st1
def qz (t:TAD):TD:=fun ρ st P=>t ρ st fun ds st1=>ds.length≤sizeLine∧P (.lst st1.length) (st1++[.rw ds])
theorem qAv {K:W.Frag} {φ:Nat→Addr} {st:Sto} {H:Hp} {p:Addr} {o:HO} (R:Rep K φ st H) (hp:H p=none):Bhd K φ st H φ st (upd H p o):=⟨R.laid hp,qAh hp⟩
theorem qCQ {K:W.Frag} {φ:Nat→Addr} {st:Sto} {H:Hp} {p:Addr} {ds:List Dt} {vs:List V} (R:Rep K φ st H) (hp:H p=none) (hd:DL K φ st.length H ds vs) :
    Bhd K φ st H (qAZ φ st.length p) (st++[.rw ds]) (upd H p (.lst vs)):=⟨R.newL hp hd,qM3 hp⟩
theorem qFH {K:W.Frag} {φ:Nat→Addr} {st:Sto} {H:Hp} {p:Addr} {ds:List Dt} {vs:List V}:D K (qAZ φ st.length p) (st++[SO.rw ds]).length (upd H p (.lst vs)) (.lst st.length) (.ref p):=by
  have:=D.qOQ (K:=K) (φ:=qAZ φ st.length p) (H:=upd H p (.lst vs)) (n:=st.length) (N:=(st++[SO.rw ds]).length) (by simp) (by rw [qCF];exact⟨vs,SqL.of qY⟩)
  rw [qCF] at this
  exact this
theorem qQs {x1} (h:DA X es tas):DE X (.Tuple es x1 pos) (qZ tas):=(qOy h).imp fun σ H Q h=>by
  k_dat 0"r0"
  k_dat 0"r94"
  exact hq _ st1 h1.2 φ1 _ _ (b1.trans (qAv b1.1 hp)) (.qBs (SqT.of qY) (dx.evo (qAh hp)))
theorem qPq (h:DA X es tas):DE X (.List es pos) (qz tas):=(qOk h).imp fun σ H Q h=>by
  k_dat 0"r0"
  k_dat 0"r94"
  exact hq _ _ h1.2 _ _ _ (b1.trans (qCQ b1.1 hp dx)) qFH
end
end L3
namespace L3
open PySem PySem.Spec PyProof.Rows L2
def qm:RD2:=fun x y st P=>match x,y with
  | .int i,.int j=>P (.int (i+j)) st
  | .str i,.str j=>i.length+j.length≤sizeLine∧P (.str (i++j)) st
  | .tup i,.tup j=>i.length+j.length≤sizeLine∧P (.tup (i++j)) st
  | .lst n,.lst m=>match st[n]?,st[m]? with
    | some (.rw xs),some (.rw ys)=>xs.length+ys.length≤sizeLine∧P (.lst st.length) (st++[.rw (xs++ys)])
    | _,_=>False
  | _,_=>False
def qAe:RD2:=fun x y st P=>match x,y with
  | .int i,.int j=>P (.int (i - j)) st
  | _,_=>False
def qAf:RD2:=fun x y st P=>match x,y with
  | .int i,.int j=>qKQ i j∧P (.int (i * j)) st
  | .tup xs,.int k=>xs≠[]∧2≤k∧k<2 ^ 20∧xs.length * k.toNat≤sizeLine∧P (.tup (List.replicate k.toNat xs).flatten) st
  | .lst n,.int k=>match st[n]? with
    | some (.rw xs)=>0≤k∧k<2 ^ 20∧xs.length * k.toNat≤sizeLine∧P (.lst st.length) (st++[.rw (List.replicate k.toNat xs).flatten])
    | _=>False
  | _,_=>False
def qAk:RD2:=fun x y st P=>match x,y with
  | .int i,.int j=>qK7 i j∧P (.int (i / j)) st
  | _,_=>False
def qj:RD2:=fun x y st P=>match x,y with
  | .int i,.int j=>0<j∧P (.int (i%j)) st
  | _,_=>False
def qDC:RD2:=fun x y st P=>match x,y with
  | .int i,.int j=>P (.int (Builtin.bitAnd i j)) st
  | _,_=>False
def qAD (p:Int→Int→Bool):RD2:=fun x y st P=>match x,y with
  | .int i,.int j=>P (.bl (p i j)) st
  | _,_=>False
def qg (neg:Bool):RD2:=fun x y st P=>match x,y with
  | .lst n,.lst m=>match st[n]?,st[m]? with
    | some a,some b=>a.items.all (okD 8)=true∧b.items.all (okD 8)=true∧P (.bl (eqL (eqD 8) a.items b.items != neg)) st
    | _,_=>False
  | x,y=>okD 8 x=true∧okD 8 y=true∧P (.bl (eqD 8 x y != neg)) st
def qES (neg:Bool):RD2:=fun x y st P=>match x,y with
  | .bl a,.bl b=>P (.bl ((a==b) != neg)) st
  | .non,.non=>P (.bl (true != neg)) st
  | .bl _,.non=>P (.bl (false != neg)) st
  | .int _,.non=>P (.bl (false != neg)) st
  | .str _,.non=>P (.bl (false != neg)) st
  | .tup _,.non=>P (.bl (false != neg)) st
  | .lst _,.non=>P (.bl (false != neg)) st
  | _,_=>False
noncomputable def qd (st:Sto):Dt→Option (List Dt)
  | .tup xs=>some xs
  | .lst n=>(st[n]?).map SO.items
  | _=>none
def qB6 (neg:Bool):RD2:=fun x y st P=>match x,y with
  | .str i,.str j=>P (.bl ((!(Builtin.Str.occurrences j i 0 j.length 1).isEmpty) != neg)) st
  | x,y=>match qd st y with
    | some xs=>okD 0 x=true∧xs.all (okD 0)=true∧P (.bl (xs.any (fun z=>eqD 0 z x) != neg)) st
    | none=>False
section
variable {X:Cx} {K:W.Frag} {φ:Nat→Addr} {st:Sto} {H:Hp} {P:VD} {Q:VK} {d:Dt} {v:V}
abbrev Go (K:W.Frag) (φ:Nat→Addr) (st:Sto) (H:Hp) (P:VD) (Q:VK):Prop:=∀ d st',P d st'→∀ φ' H' u,Bhd K φ st H φ' st' H'→D K φ' st'.length H' d u→Q u H'
theorem Go.here (g:Go K φ st H P Q) (R:Rep K φ st H) (hp:P d st) (hd:D K φ st.length H d v):Q v H:=g d st hp φ H v (.refl R) hd
theorem qQI:OpD X (binaryOp .Add) qm:=by
  k_dat 0"r6"
  k_dat 0"r4"
  cases x with
  | int i =>
    cases y with
    | int j=>exact qOv pins s σ H v w u1 u2 Q I r1 r2 ⟨i,j,dx.int,dy.int,Go.here hq R hr D.mkInt⟩
    | _=>exact hr.elim
  | str i =>
    cases y with
    | str j=>exact qJE pins s σ H v w u1 u2 Q I r1 r2 ⟨i,j,dx.str,dy.str,hr.1,Go.here hq R hr.2 D.mkStr⟩
    | _=>exact hr.elim
  | tup i =>
    cases y with
    | tup j =>
      obtain⟨a,vs,e1,s1,d1⟩:=dx.tup
      obtain⟨b,ws,e2,s2,d2⟩:=dy.tup
      have l1:=d1.length
      have l2:=d2.length
      have hr1:i.length+j.length≤sizeLine:=hr.1
      have hr2:P (.tup (i++j)) st:=hr.2
      refine qNl pins s σ H v w u1 u2 Q I r1 r2 ⟨a,b,vs,ws,e1,e2,s1,s2,by omega,fun z=>?_,fun z1 z2=>?_,fun z1 z2 p hp=>?_⟩
      · rw [z] at l1
        have:i=[]:=List.length_eq_zero_iff.mp l1
        rw [this,List.nil_append] at hr2
        exact Go.here hq R hr2 (.qBs s2 d2)
      · rw [z2] at l2
        have:j=[]:=List.length_eq_zero_iff.mp l2
        rw [this,List.append_nil] at hr2
        exact Go.here hq R hr2 (.qBs s1 d1)
      · exact hq _ st hr2 φ _ _ (qAv R hp) (.qBs (SqT.of qY) ((d1.append d2).evo (qAh hp)))
    | _=>exact hr.elim
  | lst n =>
    cases y with
    | lst m =>
      have hr':match st[n]?,st[m]? with
        | some (.rw xs),some (.rw ys)=>xs.length+ys.length≤sizeLine∧P (.lst st.length) (st++[.rw (xs++ys)])
        | _,_=>False:=hr
      split at hr'
      · rename_i xs ys e1 e2
        obtain⟨vs,h1,d1⟩:=R.rw n xs e1
        obtain⟨ws,h2,d2⟩:=R.rw m ys e2
        have l1:=d1.length
        have l2:=d2.length
        have z:=hr'.1
        exact qPj pins s σ H v w u1 u2 Q I r1 r2 ⟨φ n,φ m,vs,ws,dx.lst.2,dy.lst.2,h1,h2,by omega,fun p hp=>hq _ _ hr'.2 _ _ _ (qCQ R hp (d1.append d2)) qFH⟩
      · exact hr'.elim
    | _=>exact hr.elim
  | _=>cases y<;>exact hr.elim
theorem qOq:OpD X (binaryOp .Sub) qAe:=by
  k_dat 0"r6"
  k_dat 0"r4"
  cases x with
  | int i =>
    cases y with
    | int j=>exact qPs pins s σ H v w u1 u2 Q I r1 r2 ⟨i,j,dx.int,dy.int,Go.here hq R hr D.mkInt⟩
    | _=>exact hr.elim
  | _=>cases y<;>exact hr.elim
theorem qPn:OpD X (binaryOp .Mult) qAf:=by
  k_dat 0"r6"
  k_dat 0"r4"
  cases x with
  | int i =>
    cases y with
    | int j=>exact qPa pins s σ H v w u1 u2 Q I r1 r2 ⟨i,j,dx.int,dy.int,hr.1,Go.here hq R hr.2 D.mkInt⟩
    | _=>exact hr.elim
  | tup xs =>
    cases y with
    | int k =>
      obtain⟨a,vs,e1,s1,d1⟩:=dx.tup
      obtain⟨h1,h2,h3,h4,h5⟩:xs≠[]∧2≤k∧k<2 ^ 20∧xs.length * k.toNat≤sizeLine∧P (.tup (List.replicate k.toNat xs).flatten) st:=hr
      have rep:∀ m:Nat,DL X.K φ st.length H (List.replicate m xs).flatten (List.replicate m vs).flatten:=fun m=>by
        induction m with
        | zero=>exact .nil
        | succ m ih=>rw [List.replicate_succ,List.replicate_succ,List.flatten_cons,List.flatten_cons];exact d1.append ih
      refine qN8 pins s σ H v w u1 u2 Q I r1 r2 ⟨a,k,vs,e1,dy.int,s1,fun z=>?_,h2,h3,by rw [← d1.length];exact h4,fun p hp=>?_⟩
      · have:=d1.length
        rw [z] at this
        exact h1 (List.length_eq_zero_iff.mp this)
      · exact hq _ st h5 φ _ _ (qAv R hp) (.qBs (SqT.of qY) ((rep _).evo (qAh hp)))
    | _=>exact hr.elim
  | lst n =>
    cases y with
    | int k =>
      have hr':match st[n]? with
        | some (.rw xs)=>0≤k∧k<2 ^ 20∧xs.length * k.toNat≤sizeLine∧P (.lst st.length) (st++[.rw (List.replicate k.toNat xs).flatten])
        | _=>False:=hr
      split at hr'
      · rename_i xs e1
        obtain⟨vs,h1,d1⟩:=R.rw n xs e1
        obtain⟨g1,g2,g3,g4⟩:=hr'
        have rep:∀ m:Nat,DL X.K φ st.length H (List.replicate m xs).flatten (List.replicate m vs).flatten:=fun m=>by
          induction m with
          | zero=>exact .nil
          | succ m ih=>rw [List.replicate_succ,List.replicate_succ,List.flatten_cons,List.flatten_cons];exact d1.append ih
        exact qOV pins s σ H v w u1 u2 Q I r1 r2 ⟨φ n,k,vs,dx.lst.2,dy.int,h1,by omega,by omega,by rw [← d1.length];exact g3,fun p hp=>hq _ _ g4 _ _ _ (qCQ R hp (rep _)) qFH⟩
      · exact hr'.elim
    | _=>exact hr.elim
  | _=>cases y<;>exact hr.elim
theorem qOW:OpD X (binaryOp .FloorDiv) qAk:=by
  k_dat 0"r6"
  k_dat 0"r4"
  cases x with
  | int i =>
    cases y with
    | int j=>exact qMu pins s σ H v w u1 u2 Q I r1 r2 ⟨i,j,dx.int,dy.int,hr.1,Go.here hq R hr.2 D.mkInt⟩
    | _=>exact hr.elim
  | _=>cases y<;>exact hr.elim
theorem qQo:OpD X (binaryOp .Mod) qj:=by
  k_dat 0"r6"
  k_dat 0"r4"
  cases x with
  | int i =>
    cases y with
    | int j=>exact qQC pins s σ H v w u1 u2 Q I r1 r2 ⟨i,j,dx.int,dy.int,hr.1,Go.here hq R hr.2 D.mkInt⟩
    | _=>exact hr.elim
  | _=>cases y<;>exact hr.elim
theorem qOf:OpD X (binaryOp .BitAnd) qDC:=by
  k_dat 0"r6"
  k_dat 0"r4"
  cases x with
  | int i =>
    cases y with
    | int j=>exact qOa pins s σ H v w u1 u2 Q I r1 r2 ⟨i,j,dx.int,dy.int,Go.here hq R hr D.mkInt⟩
    | _=>exact hr.elim
  | _=>cases y<;>exact hr.elim
theorem qHV {op:CmpOp} {p:Int→Int→Bool} (ho:OpR X (compareOp op) (rI0 fun i j=>.bl (p i j))):OpD X (compareOp op) (qAD p):=by
  k_dat 0"r6"
  k_dat 0"r4"
  cases x with
  | int i =>
    cases y with
    | int j=>exact ho pins s σ H v w u1 u2 Q I r1 r2 ⟨i,j,dx.int,dy.int,Go.here hq R hr D.qDA⟩
    | _=>exact hr.elim
  | _=>cases y<;>exact hr.elim
theorem qOE:OpD X (compareOp .Lt) (qAD fun i j=>decide (i<j)):=qHV qOK
theorem qSF:OpD X (compareOp .Gt) (qAD fun i j=>decide (j<i)):=qHV qRy
theorem qR5:OpD X (compareOp .GtE) (qAD fun i j=>decide (j≤i)):=qHV qRO
theorem qAW (k:Bool):(k != false)=k:=by cases k<;>rfl
theorem qBX (k:Bool):(k != true) = !k:=by cases k<;>rfl
theorem qBG {pins:List (Addr×Obj)} {σ:L2.St} {s:Shared} (I:Inv X pins σ H s) (g:Go X.K φ st H P Q) (R:Rep X.K φ st H) {k k':Bool} (hp:P (.bl k) st) (e:k=k'):EP X pins σ Q (.bool k') s:=by
  subst e
  exact⟨.bl k,H,I,rfl,Go.here g R hp D.qDA⟩
end
section
variable {X:Cx} {pins:List (Addr×Obj)} {σ:L2.St} {H:Hp} {s:Shared} {φ:Nat→Addr} {N:Nat}
theorem qJk (I:Inv X pins σ H s) {n:Nat} {A:Around} {a b:List Dt} {vs ws:List V} {its its2:List Value} (hu:A.units+n+1<cLine) (hd:DL X.K φ N H a vs) (hd2:DL X.K φ N H b ws) (rv:Vals vs its) (rv2:Vals ws its2)
    (o1:a.all (okD n)=true) (o2:b.all (okD n)=true) {j:Nat} (h1:j<its.toArray.size) (h2:j<its2.toArray.size):SeqAt.EqAt A.in1 s its.toArray[j] its2.toArray[j] (eqD n (a.getD j .non) (b.getD j .non)):=by
  k_dat 0"r48"
  k_dat 0"r49"
  have hj1:j<a.length:=by rw [← l1];exact h1
  have hj2:j<b.length:=by rw [← l2];exact h2
  have ea:a[j]? = some a[j]:=by simp [hj1]
  have eb:b[j]? = some b[j]:=by simp [hj2]
  obtain⟨x,ex,dx⟩:=hd.get ea
  obtain⟨y,ey,dy⟩:=hd2.get eb
  obtain⟨ux,eux,rx⟩:=rv.get ex
  obtain⟨uy,euy,ry⟩:=rv2.get ey
  have gx:its.toArray[j]=ux:=by
    have:its[j]? = some its[j]:=by simp at h1;simp [h1]
    rw [eux] at this
    k_dat 0"r50"
  have gy:its2.toArray[j]=uy:=by
    have:its2[j]? = some its2[j]:=by simp at h2;simp [h2]
    rw [euy] at this
    k_dat 0"r50"
  rw [gx,gy,qE1 ea,qE1 eb]
  exact qLN I n (by show A.units+1+n<cLine;omega) (List.all_eq_true.mp o1 _ (List.getElem_mem hj1)) (List.all_eq_true.mp o2 _ (List.getElem_mem hj2)) dx dy rx ry
theorem qQk (I:Inv X pins σ H s) (n:Nat) {A:Around}:∀ {d e:Dt} {v w:V} {u1 u2:Value},A.units+n+1<cLine→okD (n+1) d=true→okD (n+1) e=true→D X.K φ N H d v→D X.K φ N H e w→RelV v u1→RelV w u2→SeqAt.RcAt A s u1 u2 (eqD (n+1) d e)
  | .non,.non,v,w,u1,u2,hu,_,_,h1,h2,r1,r2=>by cases h1.non;cases h2.non;cases r1;cases r2;exact SeqAt.RcAt.none_none
  | .non,.bl b,v,w,u1,u2,hu,_,_,h1,h2,r1,r2=>by cases h1.non;cases h2.bl;cases r1;cases r2;exact SeqAt.RcAt.none_bool b
  | .non,.int b,v,w,u1,u2,hu,_,_,h1,h2,r1,r2=>by cases h1.non;cases h2.int;cases r1;obtain⟨t',rfl⟩:=r2;exact SeqAt.RcAt.none_int b t'
  | .non,.str b,v,w,u1,u2,hu,_,_,h1,h2,r1,r2=>by cases h1.non;cases h2.str;cases r1;obtain⟨t',rfl⟩:=r2;exact SeqAt.RcAt.none_str b t'
  | .bl a,.non,v,w,u1,u2,hu,_,_,h1,h2,r1,r2=>by cases h1.bl;cases h2.non;cases r1;cases r2;exact SeqAt.RcAt.bool_none a
  | .bl a,.bl b,v,w,u1,u2,hu,_,_,h1,h2,r1,r2=>by cases h1.bl;cases h2.bl;cases r1;cases r2;exact SeqAt.RcAt.bool_bool a b
  | .bl a,.int b,v,w,u1,u2,hu,_,_,h1,h2,r1,r2=>by cases h1.bl;cases h2.int;cases r1;obtain⟨t',rfl⟩:=r2;exact SeqAt.RcAt.bool_int a b t'
  | .bl a,.str b,v,w,u1,u2,hu,_,_,h1,h2,r1,r2=>by cases h1.bl;cases h2.str;cases r1;obtain⟨t',rfl⟩:=r2;exact SeqAt.RcAt.bool_str a b t'
  | .int a,.non,v,w,u1,u2,hu,_,_,h1,h2,r1,r2=>by cases h1.int;cases h2.non;obtain⟨t,rfl⟩:=r1;cases r2;exact SeqAt.RcAt.int_none a t
  | .int a,.bl b,v,w,u1,u2,hu,_,_,h1,h2,r1,r2=>by cases h1.int;cases h2.bl;obtain⟨t,rfl⟩:=r1;cases r2;exact SeqAt.RcAt.int_bool a t b
  | .int a,.int b,v,w,u1,u2,hu,_,_,h1,h2,r1,r2=>by cases h1.int;cases h2.int;obtain⟨t,rfl⟩:=r1;obtain⟨t',rfl⟩:=r2;exact SeqAt.RcAt.int_int a t b t'
  | .int a,.str b,v,w,u1,u2,hu,_,_,h1,h2,r1,r2=>by cases h1.int;cases h2.str;obtain⟨t,rfl⟩:=r1;obtain⟨t',rfl⟩:=r2;exact SeqAt.RcAt.int_str a t b t'
  | .str a,.non,v,w,u1,u2,hu,_,_,h1,h2,r1,r2=>by cases h1.str;cases h2.non;obtain⟨t,rfl⟩:=r1;cases r2;exact SeqAt.RcAt.str_none a t
  | .str a,.bl b,v,w,u1,u2,hu,_,_,h1,h2,r1,r2=>by cases h1.str;cases h2.bl;obtain⟨t,rfl⟩:=r1;cases r2;exact SeqAt.RcAt.str_bool a t b
  | .str a,.int b,v,w,u1,u2,hu,_,_,h1,h2,r1,r2=>by cases h1.str;cases h2.int;obtain⟨t,rfl⟩:=r1;obtain⟨t',rfl⟩:=r2;exact SeqAt.RcAt.str_int a t b t'
  | .str a,.str b,v,w,u1,u2,hu,_,_,h1,h2,r1,r2=>by cases h1.str;cases h2.str;obtain⟨t,rfl⟩:=r1;obtain⟨t',rfl⟩:=r2;exact SeqAt.RcAt.str_str a t b t'
  | .tup a,.non,v,w,u1,u2,hu,_,_,h1,h2,r1,r2=>by
    obtain⟨p,vs,rfl,hs,hd⟩:=h1.tup;cases h2.non;cases r1;cases r2;obtain⟨its,_,ht,_⟩:=I.tuple hs;exact SeqAt.RcAt.tuple_none ht (by omega)
  | .non,.tup a,v,w,u1,u2,hu,_,_,h1,h2,r1,r2=>by
    obtain⟨p,vs,rfl,hs,hd⟩:=h2.tup;cases h1.non;cases r2;cases r1;obtain⟨its,_,ht,_⟩:=I.tuple hs;exact SeqAt.RcAt.none_tuple ht (by omega)
  | .tup a,.bl b,v,w,u1,u2,hu,_,_,h1,h2,r1,r2=>by
    obtain⟨p,vs,rfl,hs,hd⟩:=h1.tup;cases h2.bl;cases r1;cases r2;obtain⟨its,_,ht,_⟩:=I.tuple hs;exact SeqAt.RcAt.tuple_bool b ht (by omega)
  | .bl b,.tup a,v,w,u1,u2,hu,_,_,h1,h2,r1,r2=>by
    obtain⟨p,vs,rfl,hs,hd⟩:=h2.tup;cases h1.bl;cases r2;cases r1;obtain⟨its,_,ht,_⟩:=I.tuple hs;exact SeqAt.RcAt.bool_tuple b ht (by omega)
  | .tup a,.int b,v,w,u1,u2,hu,_,_,h1,h2,r1,r2=>by
    obtain⟨p,vs,rfl,hs,hd⟩:=h1.tup;cases h2.int;cases r1;obtain⟨t',rfl⟩:=r2;obtain⟨its,_,ht,_⟩:=I.tuple hs;exact SeqAt.RcAt.tuple_int b t' ht (by omega)
  | .int b,.tup a,v,w,u1,u2,hu,_,_,h1,h2,r1,r2=>by
    obtain⟨p,vs,rfl,hs,hd⟩:=h2.tup;cases h1.int;cases r2;obtain⟨t',rfl⟩:=r1;obtain⟨its,_,ht,_⟩:=I.tuple hs;exact SeqAt.RcAt.int_tuple b t' ht (by omega)
  | .tup a,.str b,v,w,u1,u2,hu,_,_,h1,h2,r1,r2=>by
    obtain⟨p,vs,rfl,hs,hd⟩:=h1.tup;cases h2.str;cases r1;obtain⟨t',rfl⟩:=r2;obtain⟨its,_,ht,_⟩:=I.tuple hs;exact SeqAt.RcAt.tuple_str b t' ht (by omega)
  | .str b,.tup a,v,w,u1,u2,hu,_,_,h1,h2,r1,r2=>by
    obtain⟨p,vs,rfl,hs,hd⟩:=h2.tup;cases h1.str;cases r2;obtain⟨t',rfl⟩:=r1;obtain⟨its,_,ht,_⟩:=I.tuple hs;exact SeqAt.RcAt.str_tuple b t' ht (by omega)
  | .tup a,.tup b,v,w,u1,u2,hu,o1,o2,h1,h2,r1,r2=>by
    simp only [okD] at o1 o2
    obtain⟨p,vs,rfl,hs,hd⟩:=h1.tup
    obtain⟨q,ws,rfl,hs2,hd2⟩:=h2.tup
    cases r1;cases r2
    obtain⟨its,rv,ht,_⟩:=I.tuple hs
    obtain⟨its2,rv2,ht2,_⟩:=I.tuple hs2
    k_dat 0"r48"
    k_dat 0"r49"
    have:=SeqAt.RcAt.tuples (A:=A) (s:=s) (e:=fun j=>eqD n (a.getD j .non) (b.getD j .non)) ht ht2 (by omega) (fun j h1 h2=>qJk I hu hd hd2 rv rv2 o1 o2 h1 h2)
    rw [l1,l2] at this
    simp only [eqD]
    rw [qBW]
    exact this
  | .lst _,_,v,w,u1,u2,hu,o1,_,h1,h2,r1,r2=>by simp [okD] at o1
  | .non,.lst _,v,w,u1,u2,hu,_,o1,h1,h2,r1,r2=>by simp [okD] at o1
  | .bl _,.lst _,v,w,u1,u2,hu,_,o1,h1,h2,r1,r2=>by simp [okD] at o1
  | .int _,.lst _,v,w,u1,u2,hu,_,o1,h1,h2,r1,r2=>by simp [okD] at o1
  | .str _,.lst _,v,w,u1,u2,hu,_,o1,h1,h2,r1,r2=>by simp [okD] at o1
  | .tup _,.lst _,v,w,u1,u2,hu,_,o1,h1,h2,r1,r2=>by simp [okD] at o1
  | .ty _,_,v,w,u1,u2,hu,o1,_,h1,h2,r1,r2=>by simp [okD] at o1
  | .dic _,_,v,w,u1,u2,hu,o1,_,h1,h2,r1,r2=>by simp [okD] at o1
  | .ins _,_,v,w,u1,u2,hu,o1,_,h1,h2,r1,r2=>by simp [okD] at o1
  | .non,.ty _,v,w,u1,u2,hu,_,o1,h1,h2,r1,r2=>by simp [okD] at o1
  | .non,.dic _,v,w,u1,u2,hu,_,o1,h1,h2,r1,r2=>by simp [okD] at o1
  | .non,.ins _,v,w,u1,u2,hu,_,o1,h1,h2,r1,r2=>by simp [okD] at o1
  | .bl _,.ty _,v,w,u1,u2,hu,_,o1,h1,h2,r1,r2=>by simp [okD] at o1
  | .bl _,.dic _,v,w,u1,u2,hu,_,o1,h1,h2,r1,r2=>by simp [okD] at o1
  | .bl _,.ins _,v,w,u1,u2,hu,_,o1,h1,h2,r1,r2=>by simp [okD] at o1
  | .int _,.ty _,v,w,u1,u2,hu,_,o1,h1,h2,r1,r2=>by simp [okD] at o1
  | .int _,.dic _,v,w,u1,u2,hu,_,o1,h1,h2,r1,r2=>by simp [okD] at o1
  | .int _,.ins _,v,w,u1,u2,hu,_,o1,h1,h2,r1,r2=>by simp [okD] at o1
  | .str _,.ty _,v,w,u1,u2,hu,_,o1,h1,h2,r1,r2=>by simp [okD] at o1
  | .str _,.dic _,v,w,u1,u2,hu,_,o1,h1,h2,r1,r2=>by simp [okD] at o1
  | .str _,.ins _,v,w,u1,u2,hu,_,o1,h1,h2,r1,r2=>by simp [okD] at o1
  | .tup _,.ty _,v,w,u1,u2,hu,_,o1,h1,h2,r1,r2=>by simp [okD] at o1
  | .tup _,.dic _,v,w,u1,u2,hu,_,o1,h1,h2,r1,r2=>by simp [okD] at o1
  | .tup _,.ins _,v,w,u1,u2,hu,_,o1,h1,h2,r1,r2=>by simp [okD] at o1
theorem qP1 (I:Inv X pins σ H s) (n:Nat) {A:Around}:∀ {d e:Dt} {v w:V} {u1 u2:Value},A.units+n+1<cLine→okD (n+1) d=true→okD (n+1) e=true→D X.K φ N H d v→D X.K φ N H e w→RelV v u1→RelV w u2→SeqAt.RcNeAt A s u1 u2 (!(eqD (n+1) d e))
  | .non,.non,v,w,u1,u2,hu,_,_,h1,h2,r1,r2=>by cases h1.non;cases h2.non;cases r1;cases r2;exact SeqAt.RcNeAt.none_none
  | .non,.bl b,v,w,u1,u2,hu,_,_,h1,h2,r1,r2=>by cases h1.non;cases h2.bl;cases r1;cases r2;exact SeqAt.RcNeAt.none_bool b
  | .non,.int b,v,w,u1,u2,hu,_,_,h1,h2,r1,r2=>by cases h1.non;cases h2.int;cases r1;obtain⟨t',rfl⟩:=r2;exact SeqAt.RcNeAt.none_int b t'
  | .non,.str b,v,w,u1,u2,hu,_,_,h1,h2,r1,r2=>by cases h1.non;cases h2.str;cases r1;obtain⟨t',rfl⟩:=r2;exact SeqAt.RcNeAt.none_str b t'
  | .bl a,.non,v,w,u1,u2,hu,_,_,h1,h2,r1,r2=>by cases h1.bl;cases h2.non;cases r1;cases r2;exact SeqAt.RcNeAt.bool_none a
  | .bl a,.bl b,v,w,u1,u2,hu,_,_,h1,h2,r1,r2=>by cases h1.bl;cases h2.bl;cases r1;cases r2;exact SeqAt.RcNeAt.bool_bool a b
  | .bl a,.int b,v,w,u1,u2,hu,_,_,h1,h2,r1,r2=>by cases h1.bl;cases h2.int;cases r1;obtain⟨t',rfl⟩:=r2;exact SeqAt.RcNeAt.bool_int a b t'
  | .bl a,.str b,v,w,u1,u2,hu,_,_,h1,h2,r1,r2=>by cases h1.bl;cases h2.str;cases r1;obtain⟨t',rfl⟩:=r2;exact SeqAt.RcNeAt.bool_str a b t'
  | .int a,.non,v,w,u1,u2,hu,_,_,h1,h2,r1,r2=>by cases h1.int;cases h2.non;obtain⟨t,rfl⟩:=r1;cases r2;exact SeqAt.RcNeAt.int_none a t
  | .int a,.bl b,v,w,u1,u2,hu,_,_,h1,h2,r1,r2=>by cases h1.int;cases h2.bl;obtain⟨t,rfl⟩:=r1;cases r2;exact SeqAt.RcNeAt.int_bool a t b
  | .int a,.int b,v,w,u1,u2,hu,_,_,h1,h2,r1,r2=>by cases h1.int;cases h2.int;obtain⟨t,rfl⟩:=r1;obtain⟨t',rfl⟩:=r2;exact SeqAt.RcNeAt.int_int a t b t'
  | .int a,.str b,v,w,u1,u2,hu,_,_,h1,h2,r1,r2=>by cases h1.int;cases h2.str;obtain⟨t,rfl⟩:=r1;obtain⟨t',rfl⟩:=r2;exact SeqAt.RcNeAt.int_str a t b t'
  | .str a,.non,v,w,u1,u2,hu,_,_,h1,h2,r1,r2=>by cases h1.str;cases h2.non;obtain⟨t,rfl⟩:=r1;cases r2;exact SeqAt.RcNeAt.str_none a t
  | .str a,.bl b,v,w,u1,u2,hu,_,_,h1,h2,r1,r2=>by cases h1.str;cases h2.bl;obtain⟨t,rfl⟩:=r1;cases r2;exact SeqAt.RcNeAt.str_bool a t b
  | .str a,.int b,v,w,u1,u2,hu,_,_,h1,h2,r1,r2=>by cases h1.str;cases h2.int;obtain⟨t,rfl⟩:=r1;obtain⟨t',rfl⟩:=r2;exact SeqAt.RcNeAt.str_int a t b t'
  | .str a,.str b,v,w,u1,u2,hu,_,_,h1,h2,r1,r2=>by cases h1.str;cases h2.str;obtain⟨t,rfl⟩:=r1;obtain⟨t',rfl⟩:=r2;exact SeqAt.RcNeAt.str_str a t b t'
  | .tup a,.non,v,w,u1,u2,hu,_,_,h1,h2,r1,r2=>by
    obtain⟨p,vs,rfl,hs,hd⟩:=h1.tup;cases h2.non;cases r1;cases r2;obtain⟨its,_,ht,_⟩:=I.tuple hs;exact SeqAt.RcNeAt.tuple_none ht (by omega)
  | .non,.tup a,v,w,u1,u2,hu,_,_,h1,h2,r1,r2=>by
    obtain⟨p,vs,rfl,hs,hd⟩:=h2.tup;cases h1.non;cases r2;cases r1;obtain⟨its,_,ht,_⟩:=I.tuple hs;exact SeqAt.RcNeAt.none_tuple ht (by omega)
  | .tup a,.bl b,v,w,u1,u2,hu,_,_,h1,h2,r1,r2=>by
    obtain⟨p,vs,rfl,hs,hd⟩:=h1.tup;cases h2.bl;cases r1;cases r2;obtain⟨its,_,ht,_⟩:=I.tuple hs;exact SeqAt.RcNeAt.tuple_bool b ht (by omega)
  | .bl b,.tup a,v,w,u1,u2,hu,_,_,h1,h2,r1,r2=>by
    obtain⟨p,vs,rfl,hs,hd⟩:=h2.tup;cases h1.bl;cases r2;cases r1;obtain⟨its,_,ht,_⟩:=I.tuple hs;exact SeqAt.RcNeAt.bool_tuple b ht (by omega)
  | .tup a,.int b,v,w,u1,u2,hu,_,_,h1,h2,r1,r2=>by
    obtain⟨p,vs,rfl,hs,hd⟩:=h1.tup;cases h2.int;cases r1;obtain⟨t',rfl⟩:=r2;obtain⟨its,_,ht,_⟩:=I.tuple hs;exact SeqAt.RcNeAt.tuple_int b t' ht (by omega)
  | .int b,.tup a,v,w,u1,u2,hu,_,_,h1,h2,r1,r2=>by
    obtain⟨p,vs,rfl,hs,hd⟩:=h2.tup;cases h1.int;cases r2;obtain⟨t',rfl⟩:=r1;obtain⟨its,_,ht,_⟩:=I.tuple hs;exact SeqAt.RcNeAt.int_tuple b t' ht (by omega)
  | .tup a,.str b,v,w,u1,u2,hu,_,_,h1,h2,r1,r2=>by
    obtain⟨p,vs,rfl,hs,hd⟩:=h1.tup;cases h2.str;cases r1;obtain⟨t',rfl⟩:=r2;obtain⟨its,_,ht,_⟩:=I.tuple hs;exact SeqAt.RcNeAt.tuple_str b t' ht (by omega)
  | .str b,.tup a,v,w,u1,u2,hu,_,_,h1,h2,r1,r2=>by
    obtain⟨p,vs,rfl,hs,hd⟩:=h2.tup;cases h1.str;cases r2;obtain⟨t',rfl⟩:=r1;obtain⟨its,_,ht,_⟩:=I.tuple hs;exact SeqAt.RcNeAt.str_tuple b t' ht (by omega)
  | .tup a,.tup b,v,w,u1,u2,hu,o1,o2,h1,h2,r1,r2=>by
    simp only [okD] at o1 o2
    obtain⟨p,vs,rfl,hs,hd⟩:=h1.tup
    obtain⟨q,ws,rfl,hs2,hd2⟩:=h2.tup
    cases r1;cases r2
    obtain⟨its,rv,ht,_⟩:=I.tuple hs
    obtain⟨its2,rv2,ht2,_⟩:=I.tuple hs2
    k_dat 0"r48"
    k_dat 0"r49"
    have:=SeqAt.RcNeAt.tuples (A:=A) (s:=s) (e:=fun j=>eqD n (a.getD j .non) (b.getD j .non)) ht ht2 (by omega) (fun j h1 h2=>qJk I hu hd hd2 rv rv2 o1 o2 h1 h2)
    rw [l1,l2] at this
    simp only [eqD]
    rw [qBW]
    exact this
  | .lst _,_,v,w,u1,u2,hu,o1,_,h1,h2,r1,r2=>by simp [okD] at o1
  | .non,.lst _,v,w,u1,u2,hu,_,o1,h1,h2,r1,r2=>by simp [okD] at o1
  | .bl _,.lst _,v,w,u1,u2,hu,_,o1,h1,h2,r1,r2=>by simp [okD] at o1
  | .int _,.lst _,v,w,u1,u2,hu,_,o1,h1,h2,r1,r2=>by simp [okD] at o1
  | .str _,.lst _,v,w,u1,u2,hu,_,o1,h1,h2,r1,r2=>by simp [okD] at o1
  | .tup _,.lst _,v,w,u1,u2,hu,_,o1,h1,h2,r1,r2=>by simp [okD] at o1
  | .ty _,_,v,w,u1,u2,hu,o1,_,h1,h2,r1,r2=>by simp [okD] at o1
  | .dic _,_,v,w,u1,u2,hu,o1,_,h1,h2,r1,r2=>by simp [okD] at o1
  | .ins _,_,v,w,u1,u2,hu,o1,_,h1,h2,r1,r2=>by simp [okD] at o1
  | .non,.ty _,v,w,u1,u2,hu,_,o1,h1,h2,r1,r2=>by simp [okD] at o1
  | .non,.dic _,v,w,u1,u2,hu,_,o1,h1,h2,r1,r2=>by simp [okD] at o1
  | .non,.ins _,v,w,u1,u2,hu,_,o1,h1,h2,r1,r2=>by simp [okD] at o1
  | .bl _,.ty _,v,w,u1,u2,hu,_,o1,h1,h2,r1,r2=>by simp [okD] at o1
  | .bl _,.dic _,v,w,u1,u2,hu,_,o1,h1,h2,r1,r2=>by simp [okD] at o1
  | .bl _,.ins _,v,w,u1,u2,hu,_,o1,h1,h2,r1,r2=>by simp [okD] at o1
  | .int _,.ty _,v,w,u1,u2,hu,_,o1,h1,h2,r1,r2=>by simp [okD] at o1
  | .int _,.dic _,v,w,u1,u2,hu,_,o1,h1,h2,r1,r2=>by simp [okD] at o1
  | .int _,.ins _,v,w,u1,u2,hu,_,o1,h1,h2,r1,r2=>by simp [okD] at o1
  | .str _,.ty _,v,w,u1,u2,hu,_,o1,h1,h2,r1,r2=>by simp [okD] at o1
  | .str _,.dic _,v,w,u1,u2,hu,_,o1,h1,h2,r1,r2=>by simp [okD] at o1
  | .str _,.ins _,v,w,u1,u2,hu,_,o1,h1,h2,r1,r2=>by simp [okD] at o1
  | .tup _,.ty _,v,w,u1,u2,hu,_,o1,h1,h2,r1,r2=>by simp [okD] at o1
  | .tup _,.dic _,v,w,u1,u2,hu,_,o1,h1,h2,r1,r2=>by simp [okD] at o1
  | .tup _,.ins _,v,w,u1,u2,hu,_,o1,h1,h2,r1,r2=>by simp [okD] at o1
end
theorem qOG {X:Cx} (hu:X.A.units+16<cLine):OpD X (compareOp .Eq) (qg false):=by
  k_dat 0"r6"
  k_dat 0"r4"
  have gen:okD 8 x=true→okD 8 y=true→P (.bl (eqD 8 x y != false)) st→wpAny (model X.prog X.w) X.A (compareOp .Eq u1 u2) (EP X pins σ Q) X.xe s:=fun o1 o2 hp=>by
    rw [qAW] at hp
    exact qQk I 7 (by omega) o1 o2 dx dy r1 r2 _ _ _ _ (qBG I hq R hp rfl)
  cases x with
  | lst n =>
    cases y with
    | lst m =>
      have hr':match st[n]?,st[m]? with
        | some a,some b=>a.items.all (okD 8)=true∧b.items.all (okD 8)=true∧P (.bl (eqL (eqD 8) a.items b.items != false)) st
        | _,_=>False:=hr
      split at hr'
      · rename_i a b e1 e2
        obtain⟨o1,o2,hp⟩:=hr'
        rw [qAW] at hp
        obtain⟨vs,s1,d1⟩:=R.seq e1 dx.isL
        obtain⟨ws,s2,d2⟩:=R.seq e2 dy.isL
        obtain⟨its,rv,pl,_⟩:=I.list s1
        obtain⟨its2,rv2,pl2,_⟩:=I.list s2
        have e1':=dx.lst.2
        have e2':=dy.lst.2
        subst e1';subst e2'
        cases r1;cases r2
        k_dat 0"r95"
        k_dat 0"r96"
        rw [qBW] at hp
        by_cases hl:its.toArray.size=its2.toArray.size
        · have:=SeqAt.RcAt.lists (A:=X.A) (s:=s) (e:=fun j=>eqD 8 (a.items.getD j .non) (b.items.getD j .non)) pl.isList pl2.isList hl (by omega) (fun j h1 h2=>qJk I (by omega) d1 d2 rv rv2 o1 o2 h1 h2)
          refine this _ _ _ _ (qBG I hq R hp ?_)
          rw [← l1,← l2,← hl,Nat.min_self]
          simp
        · have hl':(its.toArray.size != its2.toArray.size)=true:=by simpa using hl
          refine SeqAt.RcAt.lists_lengths (A:=X.A) pl.isList pl2.isList hl' (by omega) _ _ _ _ (qBG I hq R hp ?_)
          rw [← l1,← l2]
          have:(its.toArray.size==its2.toArray.size)=false:=by simpa using hl
          rw [this,Bool.and_false]
      · exact hr'.elim
    | _=>exact absurd (show okD 8 (.lst n)=true from hr.1) (by simp [okD])
  | _=>cases y<;>exact gen hr.1 hr.2.1 hr.2.2
theorem qOO {X:Cx} (hu:X.A.units+16<cLine):OpD X (compareOp .NotEq) (qg true):=by
  k_dat 0"r6"
  k_dat 0"r4"
  have gen:okD 8 x=true→okD 8 y=true→P (.bl (eqD 8 x y != true)) st→wpAny (model X.prog X.w) X.A (compareOp .NotEq u1 u2) (EP X pins σ Q) X.xe s:=fun o1 o2 hp=>by
    rw [qBX] at hp
    exact qP1 I 7 (by omega) o1 o2 dx dy r1 r2 _ _ _ _ (qBG I hq R hp rfl)
  cases x with
  | lst n =>
    cases y with
    | lst m =>
      have hr':match st[n]?,st[m]? with
        | some a,some b=>a.items.all (okD 8)=true∧b.items.all (okD 8)=true∧P (.bl (eqL (eqD 8) a.items b.items != true)) st
        | _,_=>False:=hr
      split at hr'
      · rename_i a b e1 e2
        obtain⟨o1,o2,hp⟩:=hr'
        rw [qBX] at hp
        obtain⟨vs,s1,d1⟩:=R.seq e1 dx.isL
        obtain⟨ws,s2,d2⟩:=R.seq e2 dy.isL
        obtain⟨its,rv,pl,_⟩:=I.list s1
        obtain⟨its2,rv2,pl2,_⟩:=I.list s2
        have e1':=dx.lst.2
        have e2':=dy.lst.2
        subst e1';subst e2'
        cases r1;cases r2
        k_dat 0"r95"
        k_dat 0"r96"
        rw [qBW] at hp
        by_cases hl:its.toArray.size=its2.toArray.size
        · have:=SeqAt.RcNeAt.lists (A:=X.A) (s:=s) (e:=fun j=>eqD 8 (a.items.getD j .non) (b.items.getD j .non)) pl.isList pl2.isList hl (by omega) (fun j h1 h2=>qJk I (by omega) d1 d2 rv rv2 o1 o2 h1 h2)
          refine this _ _ _ _ (qBG I hq R hp ?_)
          rw [← l1,← l2,← hl,Nat.min_self]
          simp
        · have hl':(its.toArray.size != its2.toArray.size)=true:=by simpa using hl
          refine SeqAt.RcNeAt.lists_lengths (A:=X.A) pl.isList pl2.isList hl' (by omega) _ _ _ _ (qBG I hq R hp ?_)
          rw [← l1,← l2]
          have:(its.toArray.size==its2.toArray.size)=false:=by simpa using hl
          rw [this,Bool.and_false]
          rfl
      · exact hr'.elim
    | _=>exact absurd (show okD 8 (.lst n)=true from hr.1) (by simp [okD])
  | _=>cases y<;>exact gen hr.1 hr.2.1 hr.2.2
end L3
namespace L3
open PySem PySem.Spec PyProof.Rows L2
section
variable {X:Cx}
theorem qSG:OpD X (compareOp .Is) (qES false):=by
  k_dat 0"r6"
  k_dat 0"r4"
  have nn:y = .non→v≠.non→P (.bl (false != false)) st→wpAny (model X.prog X.w) X.A (compareOp .Is u1 u2) (EP X pins σ Q) X.xe s:=fun e hv hp=>by
    subst e
    have:=dy.non
    exact qK4 pins s σ H v w u1 u2 Q I r1 r2 ⟨this,by rw [decide_eq_false hv];exact Go.here hq R hp D.qDA⟩
  cases x with
  | bl a =>
    cases y with
    | bl b =>
      cases dx.bl;cases dy.bl;cases r1;cases r2
      exact is_bool (qBG I hq R hr (by rw [qAW]))
    | non=>exact nn rfl (by rw [dx.bl];intro z;cases z) hr
    | _=>exact hr.elim
  | non =>
    cases y with
    | non=>exact qK4 pins s σ H v w u1 u2 Q I r1 r2 ⟨dy.non,by rw [decide_eq_true dx.non];exact Go.here hq R hr D.qDA⟩
    | _=>exact hr.elim
  | int a =>
    cases y with
    | non=>exact nn rfl (by rw [dx.int];intro z;cases z) hr
    | _=>exact hr.elim
  | str a =>
    cases y with
    | non=>exact nn rfl (by rw [dx.str];intro z;cases z) hr
    | _=>exact hr.elim
  | tup a =>
    cases y with
    | non=>exact nn rfl (by obtain⟨_,_,e,_⟩:=dx.tup;rw [e];intro z;cases z) hr
    | _=>exact hr.elim
  | lst a =>
    cases y with
    | non=>exact nn rfl (by rw [dx.lst.2];intro z;cases z) hr
    | _=>exact hr.elim
  | _=>cases y<;>exact hr.elim
theorem qHr:OpD X (compareOp .IsNot) (qES true):=by
  k_dat 0"r6"
  k_dat 0"r4"
  have nn:y = .non→v≠.non→P (.bl (false != true)) st→wpAny (model X.prog X.w) X.A (compareOp .IsNot u1 u2) (EP X pins σ Q) X.xe s:=fun e hv hp=>by
    subst e
    exact qJU pins s σ H v w u1 u2 Q I r1 r2 ⟨dy.non,by rw [decide_eq_false hv];exact Go.here hq R hp D.qDA⟩
  cases x with
  | bl a =>
    cases y with
    | bl b =>
      cases dx.bl;cases dy.bl;cases r1;cases r2
      exact isnot_bool (qBG I hq R hr (by rw [qBX];rfl))
    | non=>exact nn rfl (by rw [dx.bl];intro z;cases z) hr
    | _=>exact hr.elim
  | non =>
    cases y with
    | non=>exact qJU pins s σ H v w u1 u2 Q I r1 r2 ⟨dy.non,by rw [decide_eq_true dx.non];exact Go.here hq R hr D.qDA⟩
    | _=>exact hr.elim
  | int a =>
    cases y with
    | non=>exact nn rfl (by rw [dx.int];intro z;cases z) hr
    | _=>exact hr.elim
  | str a =>
    cases y with
    | non=>exact nn rfl (by rw [dx.str];intro z;cases z) hr
    | _=>exact hr.elim
  | tup a =>
    cases y with
    | non=>exact nn rfl (by obtain⟨_,_,e,_⟩:=dx.tup;rw [e];intro z;cases z) hr
    | _=>exact hr.elim
  | lst a =>
    cases y with
    | non=>exact nn rfl (by rw [dx.lst.2];intro z;cases z) hr
    | _=>exact hr.elim
  | _=>cases y<;>exact hr.elim
end
end L3
namespace L3
open PySem PySem.Spec PyProof.Rows L2
section
variable {X:Cx}
theorem qHR {K:W.Frag} {φ:Nat→Addr} {N:Nat} {H:Hp} {d:Dt} {v:V} (h:D K φ N H d v) (o:okD 0 d=true):qDG v=true:=by
  cases d with
  | non=>cases h.non;rfl
  | bl _=>cases h.bl;rfl
  | int _=>cases h.int;rfl
  | str _=>cases h.str;rfl
  | _=>exact absurd o (by simp [okD])
theorem qFO {K:W.Frag} {φ:Nat→Addr} {N:Nat} {H:Hp}:∀ {ds:List Dt} {vs:List V},DL K φ N H ds vs→ds.all (okD 0)=true→vs.all qDG=true
  | [],vs,h,_=>by simp only [DL] at h;rw [h];rfl
  | d::ds,vs,h,o=>by
    k_dat 0"r10"
    obtain⟨v,r,rfl,h2,h3⟩:=h
    rw [List.all_cons,Bool.and_eq_true] at o ⊢
    exact⟨qHR h2 o.1,qFO h3 o.2⟩
theorem qPy {K:W.Frag} {φ:Nat→Addr} {N:Nat} {H:Hp} {d e:Dt} {v w:V} (h:D K φ N H d v) (h':D K φ N H e w) (o:okD 0 d=true) (o':okD 0 e=true):eqV v w=eqD 0 d e:=by
  cases d<;>(try (exfalso;revert o;simp [okD];done))<;>cases e<;>(try (exfalso;revert o';simp [okD];done))<;>(simp only [D] at h h';subst h;subst h';rfl)
theorem qG9 {K:W.Frag} {φ:Nat→Addr} {N:Nat} {H:Hp} {d:Dt} {v:V} (h':D K φ N H d v) (o':okD 0 d=true):∀ {ds:List Dt} {vs:List V},DL K φ N H ds vs→ds.all (okD 0)=true→inV v vs=ds.any (fun z=>eqD 0 z d)
  | [],vs,h,_=>by simp only [DL] at h;rw [h];rfl
  | e::ds,vs,h,o=>by
    k_dat 0"r10"
    obtain⟨w,r,rfl,h2,h3⟩:=h
    rw [List.all_cons,Bool.and_eq_true] at o
    have ih:=qG9 h' o' h3 o.2
    unfold inV at ih ⊢
    rw [List.any_cons,List.any_cons,ih,qPy h2 h' o.1 o']
theorem qCM {K:W.Frag} {φ:Nat→Addr} {st:Sto} {H:Hp} {y:Dt} {w:V} {xs:List Dt} (R:Rep K φ st H) (dy:D K φ st.length H y w) (e:qd st y=some xs) :
    ∃ p vs,w = .ref p∧((SqL K H p vs∧∃ n,y = .lst n)∨(SqT K H p vs∧y = .tup xs))∧DL K φ st.length H xs vs:=by
  cases y with
  | tup zs =>
    have e':zs=xs:=Option.some.inj e
    subst e'
    obtain⟨a,vs,e1,s1,d1⟩:=dy.tup
    exact⟨a,vs,e1,.inr ⟨s1,rfl⟩,d1⟩
  | lst n =>
    have e':(st[n]?).map SO.items=some xs:=e
    cases q:st[n]? with
    | none=>rw [q] at e';cases e'
    | some o =>
      rw [q] at e'
      have e2:o.items=xs:=Option.some.inj e'
      obtain⟨vs,h1,h2⟩:=R.seq q dy.isL
      rw [e2] at h2
      exact⟨φ n,vs,dy.lst.2,.inl ⟨h1,n,rfl⟩,h2⟩
  | _=>cases e
theorem qOP:OpD X (compareOp .In) (qB6 false):=by
  k_dat 0"r6"
  k_dat 0"r4"
  have gen:(match qd st y with
    | some xs=>okD 0 x=true∧xs.all (okD 0)=true∧P (.bl (xs.any (fun z=>eqD 0 z x) != false)) st
    | none=>False)→wpAny (model X.prog X.w) X.A (compareOp .In u1 u2) (EP X pins σ Q) X.xe s:=fun hg=>by
    split at hg
    · rename_i xs e
      obtain⟨o1,o2,hp⟩:=hg
      obtain⟨p,vs,e1,hs,hd⟩:=qCM R dy e
      refine qKa pins s σ H v w u1 u2 Q I r1 r2 ⟨p,vs,e1,hs.elim (fun z=>.inl z.1) fun z=>.inr z.1,qHR dx o1,qFO hd o2,?_⟩
      rw [if_neg Bool.false_ne_true,qG9 dx o1 hd o2]
      rw [qAW] at hp
      exact Go.here hq R hp D.qDA
    · exact hg.elim
  cases x with
  | str i =>
    cases y with
    | str j =>
      have hr':P (.bl ((!(Builtin.Str.occurrences j i 0 j.length 1).isEmpty) != false)) st:=hr
      rw [qAW] at hr'
      exact qKL pins s σ H v w u1 u2 Q I r1 r2 ⟨i,j,dx.str,dy.str,Go.here hq R hr' D.qDA⟩
    | _=>exact gen hr
  | _=>exact gen hr
theorem qMP:OpD X (compareOp .NotIn) (qB6 true):=by
  k_dat 0"r6"
  k_dat 0"r4"
  have gen:(match qd st y with
    | some xs=>okD 0 x=true∧xs.all (okD 0)=true∧P (.bl (xs.any (fun z=>eqD 0 z x) != true)) st
    | none=>False)→wpAny (model X.prog X.w) X.A (compareOp .NotIn u1 u2) (EP X pins σ Q) X.xe s:=fun hg=>by
    split at hg
    · rename_i xs e
      obtain⟨o1,o2,hp⟩:=hg
      obtain⟨p,vs,e1,hs,hd⟩:=qCM R dy e
      refine qGu pins s σ H v w u1 u2 Q I r1 r2 ⟨p,vs,e1,hs.elim (fun z=>.inl z.1) fun z=>.inr z.1,qHR dx o1,qFO hd o2,?_⟩
      rw [if_pos rfl,qG9 dx o1 hd o2]
      rw [qBX] at hp
      exact Go.here hq R hp D.qDA
    · exact hg.elim
  cases x with
  | str i =>
    cases y with
    | str j =>
      have hr':P (.bl ((!(Builtin.Str.occurrences j i 0 j.length 1).isEmpty) != true)) st:=hr
      rw [qBX] at hr'
      exact qHU pins s σ H v w u1 u2 Q I r1 r2 ⟨i,j,dx.str,dy.str,Go.here hq R hr' D.qDA⟩
    | _=>exact gen hr
  | _=>exact gen hr
end
end L3
namespace L3
open PySem PySem.Spec PyProof.Rows L2
section
variable {X:Cx}
def qJ:RD2:=fun x y st P=>match y with
  | .int i=>(match x with
    | .str z=>z.length≤sizeLine∧(match atI z.cps.toList i with
      | some c=>P (.str ⟨#[c]⟩) st
      | none=>False)
    | x => match qd st x with
      | some xs=>(match atI xs i with
        | some d=>P d st
        | none=>False)
      | none=>False)
  | _=>False
theorem DL.atI {K:W.Frag} {φ:Nat→Addr} {N:Nat} {H:Hp} {ds:List Dt} {vs:List V} {i:Int} {d:Dt} (h:DL K φ N H ds vs) (e:L2.atI ds i=some d):∃ v,L2.atI vs i=some v∧D K φ N H d v:=by
  unfold L2.atI at e ⊢
  rw [← h.length]
  cases q:ixN ds.length i with
  | none=>rw [q] at e;cases e
  | some j =>
    rw [q] at e
    exact h.get e
theorem qRo {a b:Expr} {ta tb:TD} {pos:Pos} (ha:DE X a ta) (hb:DE X b tb) (hs:qJ1 b:=by exact fun _ _=>rfl):DE X (.Subscript a b pos) (qD qJ ta tb):=by
  have key:IxR X (qL4 X.K qJ):=by
    intro value slice pins s σ H v w u1 u2 Q I r1 r2 h hsub
    k_dat 0"r4"
    cases y with
    | int i =>
      have gen:(match qd st x with
        | some xs=>(match atI xs i with
          | some d=>P d st
          | none=>False)
        | none=>False)→wpAny (model X.prog X.w) X.A (subscriptTail value slice u1 u2) (EP X pins σ Q) X.xe s:=fun hg=>by
        split at hg
        · rename_i xs e
          split at hg
          · rename_i d ed
            obtain⟨p,vs,e1,hs,hd⟩:=qCM R dx e
            obtain⟨z,ez,dz⟩:=hd.atI ed
            refine qMp value slice pins s σ H v w u1 u2 Q I r1 r2 ?_ hsub
            rcases hs with ⟨hs,_⟩ | ⟨hs,_⟩
            · exact .inl ⟨p,vs,i,z,e1,dy.int,hs,ez,Go.here hq R hg dz⟩
            · exact .inr (.inl ⟨p,vs,i,z,e1,dy.int,hs,ez,Go.here hq R hg dz⟩)
          · exact hg.elim
        · exact hg.elim
      cases x with
      | str z =>
        have hr':z.length≤sizeLine∧(match atI z.cps.toList i with
          | some c=>P (.str ⟨#[c]⟩) st
          | none=>False):=hr
        obtain⟨h1,h2⟩:=hr'
        split at h2
        · rename_i c ec
          exact qMp value slice pins s σ H v w u1 u2 Q I r1 r2 (.inr (.inr ⟨z,i,c,dx.str,dy.int,h1,ec,Go.here hq R h2 D.mkStr⟩)) hsub
        · exact h2.elim
      | _=>exact gen hr
    | _=>exact hr.elim
  exact (qQ7 key ha hb hs).imp fun _ _ _=>qDl
noncomputable abbrev TOD:=Rho→Sto→(Option Int→Sto→Prop)→Prop
noncomputable def qRZ (K:W.Frag) (t:TOD):TO:=fun σ H Q=>∃ φ st ρ P,Pre K φ st H ρ σ∧t ρ st P∧∀ o st',P o st'→∀ φ' H',Bhd K φ st H φ' st' H'→Q o H'
def DO (X:Cx) (e:Option Expr) (t:TOD):Prop:=PO X e (qRZ X.K t)
noncomputable def qAK:TOD:=fun _ st P=>P none st
noncomputable def qAA (t:TD):TOD:=fun ρ st P=>t ρ st fun x st1=>match x with
  | .int i=>P (some i) st1
  | _=>False
theorem qNm:DO X none qAK:=fun pins s σ H Q I h=>by
  k_dat 0"r0"
  exact qNa pins s σ H Q I (hq none st ht φ H (.refl pre.1))
theorem qM4 {e:Expr} {t:TD} (he:DE X e t):DO X (some e) (qAA t):=fun pins s σ H Q I h=>by
  refine qMw he pins s σ H Q I ?_
  k_dat 0"r0"
  k_dat 0"r34"
  cases d with
  | int i=>exact⟨i,dx.int,hq _ st1 h1 φ1 H1 b1⟩
  | _=>exact h1.elim
noncomputable def cutD (xs:List Dt) (lo hi:Option Int):List Dt:=(xs.drop (HT.sIx xs.length 0 lo)).take (HT.sIx xs.length xs.length hi - HT.sIx xs.length 0 lo)
def qDK (te:TD) (tl th:TOD):TD:=fun ρ st P=>te ρ st fun x st1=>tl ρ st1 fun lo st2=>th ρ st2 fun hi st3=>match x with
  | .tup xs=>¬ (HT.sIx xs.length 0 lo=0∧HT.sIx xs.length xs.length hi=xs.length)∧P (.tup (cutD xs lo hi)) st3
  | .lst n=>(match st3[n]? with
    | some o=>P (.lst st3.length) (st3++[.rw (cutD o.items lo hi)])
    | none=>False)
  | _=>False
theorem qMW {e:Expr} {lo hi:Option Expr} {te:TD} {tl th:TOD} {pos p2:Pos} (he:DE X e te) (hl:DO X lo tl) (hu:DO X hi th):DE X (.Subscript e (.Slice lo hi none p2) pos) (qDK te tl th):=by
  refine PE.imp (qIH (qLc.or qJe) he hl hu) fun σ H Q h=>?_
  k_dat 0"r0"
  k_dat 0"r15"
  refine⟨φ1,st1,ρ,_,pre.on b1,h1,fun l st2 h2 φ2 H2 b2=>?_⟩
  refine⟨φ2,st2,ρ,_,(pre.on b1).on b2,h2,fun u st3 h3 φ3 H3 b3=>?_⟩
  have b:=b1.trans (b2.trans b3)
  have dx3:=(dx.evo b2.2).evo b3.2
  cases x with
  | tup xs =>
    obtain⟨a,vs,e1,s1,d1⟩:=dx3.tup
    have h3':¬ (HT.sIx xs.length 0 l=0∧HT.sIx xs.length xs.length u=xs.length)∧P (.tup (cutD xs l u)) st3:=h3
    refine .inl ⟨a,vs,e1,s1,by rw [← d1.length];exact h3'.1,fun p hp=>hq _ st3 h3'.2 φ3 _ _ (b.trans (qAv b3.1 hp)) (.qBs (SqT.of qY) ?_)⟩
    unfold cutD qEo
    rw [← d1.length]
    exact ((d1.drop _).take _).evo (qAh hp)
  | lst n =>
    have h3':(match st3[n]? with
      | some o=>P (.lst st3.length) (st3++[.rw (cutD o.items l u)])
      | none=>False):=h3
    split at h3'
    · rename_i o eo
      obtain⟨vs,s1,d1⟩:=b3.1.seq eo dx3.isL
      refine .inr ⟨φ3 n,vs,dx3.lst.2,s1,fun p hp=>?_⟩
      have:DL X.K φ3 st3.length H3 (cutD o.items l u) (qEo vs l u):=by
        unfold cutD qEo
        rw [← d1.length]
        exact (d1.drop _).take _
      exact hq _ _ h3' _ _ _ (b.trans (qCQ b3.1 hp this)) qFH
    · exact h3'.elim
  | _=>exact h3.elim
end
end L3
namespace L3
open PySem PySem.Spec PyProof.Rows L2
noncomputable def qQ (K:W.Frag) (sp:RDL):Sp:=fun vs H Q _=>qMd K sp vs H Q
section
variable {X:Cx} {e:Expr} {es:List Expr} {t:TAD} {pos p:Pos} {x:Str}
theorem qNA {k:Nat} {f:Addr} {fd:FuncData} {ps:List Str} {sp:RDL} (F:qx X.prog X.w X.K X.mg X.base CX0 k f fd ps (qQ X.K sp)) (hr:qAd k X.A) (hm:X.mg x=some (.ref f)) (hk:W.keepIn X.K (.ref f)=true)
    (hb:Binds X.K fd ps []) (ha:DA X (e::es) t) (hg:Gl X x:=by rfl) (hdb:(x==("__debug__" : Str))=false:=by decide) (he:starEach (e::es) X.env=(false,eval e X.env)::starEach es X.env:=by rfl)
    (hpl:(backTo pos (starEach es X.env)).any (·.1)=false:=by rfl):DE X (.Call (.Name x p) (e::es) [] pos) (qF sp t):=by
  refine PE.imp (qNB F hr hg hm hk hb .nil qMO ha hdb he hpl) fun σ H Q h=>?_
  have:=qEQ h
  obtain⟨φ,st,ρ,P,pre,ht,hq⟩:=this
  refine⟨φ,st,ρ,P,pre,ht,fun ds st' hp φ' H' vs b d=>?_⟩
  show qQ X.K sp (vs++[]) H' Q E0
  rw [List.append_nil]
  exact hq ds st' hp φ' H' vs b d
theorem qIQ {id:String} {r:RDL} (hc:qGL X (.builtin id) r) (hm:X.mg x=none) (hv:bootBuiltins x=some (.builtin id)) (ha:DA X (e::es) t) (hg:Gl X x:=by rfl) (hn:x ≠ "__name__":=by decide) (hdb:(x==("__debug__" : Str))=false:=by decide)
    (he:starEach (e::es) X.env=(false,eval e X.env)::starEach es X.env:=by rfl) (hpl:(backTo pos (starEach es X.env)).any (·.1)=false:=by rfl):DE X (.Call (.Name x p) (e::es) [] pos) (qF r t) :=
  PE.imp (qLw hc hg hm hv ha hn hdb he hpl) fun σ H Q h=>qEQ h
theorem qGY {T:String} {r:RDL} (hc:qGL X (.type T) r) (hm:X.mg x=none) (hv:bootBuiltins x=some (.type T)) (ha:DA X (e::es) t) (hg:Gl X x:=by rfl) (hn:x ≠ "__name__":=by decide) (hdb:(x==("__debug__" : Str))=false:=by decide)
    (he:starEach (e::es) X.env=(false,eval e X.env)::starEach es X.env:=by rfl) (hpl:(backTo pos (starEach es X.env)).any (·.1)=false:=by rfl):DE X (.Call (.Name x p) (e::es) [] pos) (qF r t) :=
  PE.imp (qJ7 hc hg hm hv ha hn hdb he hpl) fun σ H Q h=>qEQ h
def qAq:RDL:=fun ds st P=>match ds with
  | [.str z]=>z.length≤sizeLine∧P (.int z.length) st
  | [x]=>(match qd st x with
    | some xs=>P (.int xs.length) st
    | none=>False)
  | _=>False
theorem qPG:qGL X (.builtin "len") qAq:=by
  intro pins s σ H vs us Q I rv h
  obtain⟨φ,st,ds,P,R,dl,hr,hq⟩:=h
  rcases ds with _ | ⟨x,_ | ⟨y,r⟩⟩
  · exact hr.elim
  rotate_left
  · cases x<;>exact hr.elim
  · obtain⟨v,rfl,dx⟩:=dl.one
    have gen:(match qd st x with
      | some xs=>P (.int xs.length) st
      | none=>False)→wpAny (model X.prog X.w) X.A (call (.builtin "len") us) (EP X pins σ Q) X.xe s:=fun hg=>by
      split at hg
      · rename_i xs e
        obtain⟨p,ws,e1,hs,hd⟩:=qCM R dx e
        refine qGq pins s σ H [v] us Q I rv ⟨p,ws,by rw [e1],hs.elim (fun z=>.inl z.1) fun z=>.inr z.1,?_⟩
        rw [← hd.length]
        exact Go.here hq R hg D.mkInt
      · exact hg.elim
    cases x with
    | str z=>exact qHI pins s σ H [v] us Q I rv ⟨z,by rw [dx.str],hr.1,Go.here hq R hr.2 D.mkInt⟩
    | _=>exact gen hr
def qi:RDL:=fun ds st P=>match ds with
  | [x]=>(match qd st x with
    | some xs=>P (.tup xs) st
    | none=>False)
  | _=>False
theorem qLQ:qGL X (.type "tuple") qi:=by
  intro pins s σ H vs us Q I rv h
  obtain⟨φ,st,ds,P,R,dl,hr,hq⟩:=h
  rcases ds with _ | ⟨x,_ | ⟨y,r⟩⟩
  · exact hr.elim
  rotate_left
  · cases x<;>exact hr.elim
  · obtain⟨v,rfl,dx⟩:=dl.one
    have hr':(match qd st x with
      | some xs=>P (.tup xs) st
      | none=>False):=hr
    split at hr'
    · rename_i xs e
      obtain⟨p,ws,e1,hs,hd⟩:=qCM R dx e
      refine qF2 pins s σ H [v] us Q I rv ⟨p,ws,by rw [e1],?_⟩
      rcases hs with ⟨hs,_⟩ | ⟨hs,ex⟩
      · exact .inl ⟨hs,fun l hl=>hq _ st hr' φ _ _ (qAv R hl) (.qBs (SqT.of qY) (hd.evo (qAh hl)))⟩
      · exact .inr ⟨hs,Go.here hq R hr' (.qBs hs hd)⟩
    · exact hr'.elim
end
end L3
namespace L3
open PySem PySem.Spec PyProof.Rows L2
section
variable {X:Cx}
noncomputable def tyN:Dt→Option String
  | .non=>some "NoneType"
  | .bl _=>some "bool"
  | .int _=>some "int"
  | .str _=>some "str"
  | .tup _=>some "tuple"
  | .lst _=>some "list"
  | .ty _=>none
  | .dic _=>none
  | .ins _=>none
noncomputable def isT (t c:String):Bool:=t==c || (t == "bool" && c == "int")
theorem qD0 (K:W.Frag) {t c:String} (ht:t = "NoneType" ∨ t = "bool" ∨ t = "int" ∨ t = "str" ∨ t = "tuple" ∨ t = "list") (hc:c = "bool" ∨ c = "int" ∨ c = "str" ∨ c = "tuple" ∨ c = "list"):W.kitOne K (.type t) (.type c)=some (isT t c):=by
  rcases ht with rfl | rfl | rfl | rfl | rfl | rfl<;>rcases hc with rfl | rfl | rfl | rfl | rfl<;>kernel_rfl
def qCT:RDL:=fun ds st P=>match ds with
  | [x,.ty c]=>(c = "bool" ∨ c = "int" ∨ c = "str" ∨ c = "tuple" ∨ c = "list")∧(match tyN x with
    | some t=>P (.bl (isT t c)) st
    | none=>False)
  | _=>False
theorem qKn:qGL X (.builtin "isinstance") qCT:=by
  intro pins s σ H vs us Q I rv h
  obtain⟨φ,st,ds,P,R,dl,hr,hq⟩:=h
  rcases ds with _ | ⟨x,_ | ⟨y,_ | ⟨z,r⟩⟩⟩
  · exact hr.elim
  · exact hr.elim
  rotate_left
  · cases y<;>exact hr.elim
  · cases y<;>first
      | exact hr.elim
      | skip
    rename_i c
    obtain⟨v,w,rfl,dx,dy⟩:=dl.two
    obtain⟨u,u',rfl,ru,ru'⟩:=vals2 rv
    have:=dy.ty
    subst this
    have:=(show u'=Value.type c from ru')
    subst this
    obtain⟨hc,hr⟩:=hr
    have fin:∀ {t:String},P (.bl (isT t c)) st→∀ tk,EP X pins σ Q (.bool (isT t c)) { s with toks:=tk }:=fun {t} hp tk=>⟨.bl _,H,I.tok tk,rfl,Go.here hq R hp D.qDA⟩
    cases x with
    | non=>cases dx.non;cases ru;exact W.kia_one W.kitx_none I.kIn True.intro (qD0 _ (.inl rfl) hc) (fun z=>nomatch z) (fin hr)
    | bl k=>cases dx.bl;cases ru;exact W.kia_one W.kitx_bool I.kIn True.intro (qD0 _ (.inr (.inl rfl)) hc) (fun z=>nomatch z) (fin hr)
    | int k=>cases dx.int;obtain⟨t,rfl⟩:=ru;exact W.kia_one W.kitx_int I.kIn True.intro (qD0 _ (.inr (.inr (.inl rfl))) hc) (fun z=>nomatch z) (fin hr)
    | str k=>cases dx.str;obtain⟨t,rfl⟩:=ru;exact W.kia_one W.kitx_str I.kIn True.intro (qD0 _ (.inr (.inr (.inr (.inl rfl)))) hc) (fun z=>nomatch z) (fin hr)
    | tup xs =>
      obtain⟨a,ws,e1,s1,d1⟩:=dx.tup
      subst e1
      cases ru
      obtain⟨its,_,⟨o,h1,h2,_⟩,_⟩:=I.tuple s1
      exact W.kia_one W.kitx_tuple I.kIn ⟨o,h1,h2⟩ (qD0 _ (.inr (.inr (.inr (.inr (.inl rfl))))) hc) (fun z=>nomatch z) (fin hr)
    | lst n =>
      obtain⟨ws,s1⟩:=dx.isL
      obtain⟨hn,e1⟩:=dx.lst
      subst e1
      cases ru
      obtain⟨its,_,pl,_⟩:=I.list s1
      obtain⟨ob,h1,h2,_⟩:=pl.isList
      exact W.kia_one W.kitx_list I.kIn ⟨ob,h1,h2⟩ (qD0 _ (.inr (.inr (.inr (.inr (.inr rfl))))) hc) (fun z=>nomatch z) (fin hr)
    | ty _=>exact hr.elim
    | dic _=>exact hr.elim
    | ins _=>exact hr.elim
end
end L3
namespace L3
open PySem PySem.Spec PyProof.Rows L2
section
variable {X:Cx} {s:Stmt} {rest:List Stmt} {t u:TSD} {e:Expr} {te:TD} {pos:Pos}
def qG:TSD:=fun E ρ st=>E.nx ρ st
def tseq (t u:TSD):TSD:=fun E ρ st=>t { E with nx:=u E } ρ st
theorem qMz:DSs X [] qG:=(qM2).imp fun E σ H h=>by
  k_dat 0"r12"
  exact n ρ st ht φ H σ (.refl pre.1) pre.2
theorem qIC (h1:DS X s t) (h2:DSs X rest u):DSs X (s::rest) (tseq t u):=(qLK h1 h2).imp fun E σ H h=>by
  k_dat 0"r12"
  refine⟨φ,st,ρ,{ P with nx:=u P },pre,ht,fun ρ' st' hu φ' H' σ' bh dr=>?_,b,c,r⟩
  exact⟨φ',st',ρ',P,⟨bh.1,dr⟩,hu,fun ρ2 st2 h2 φ2 H2 σ2 b2 d2=>n ρ2 st2 h2 φ2 H2 σ2 (bh.trans b2) d2,fun ρ2 st2 h2 φ2 H2 σ2 b2 d2=>b ρ2 st2 h2 φ2 H2 σ2 (bh.trans b2) d2,
    fun ρ2 st2 h2 φ2 H2 σ2 b2 d2=>c ρ2 st2 h2 φ2 H2 σ2 (bh.trans b2) d2,fun d st2 h2 φ2 H2 v b2 d2=>r d st2 h2 φ2 H2 v (bh.trans b2) d2⟩
def qAm (te:TD):TSD:=fun E ρ st=>te ρ st fun _ st1=>E.nx ρ st1
theorem qNu (he:DE X e te) (hs:swapsWith e none pos.line X.env=pure false:=by rfl):DS X (.Expr e pos) (qAm te):=(qNG he hs).imp fun E σ H h=>by
  k_dat 0"r12"
  exact⟨φ,st,ρ,_,pre,ht,fun d st1 h1 φ1 H1 v b1 dx=>n ρ st1 h1 φ1 H1 σ b1 (pre.on b1).2⟩
def qP (te:TD):TSD:=fun E ρ st=>te ρ st E.rt
theorem qOs (he:DE X e te):DS X (.Return (some e) pos) (qP te):=(qQP he).imp fun E σ H h=>by
  k_dat 0"r12"
  exact⟨φ,st,ρ,P.rt,pre,ht,r⟩
def qa (c:TBD) (t u:TSD):TSD:=fun E ρ st=>c ρ st fun k st1=>if k=true then t E ρ st1 else u E ρ st1
theorem qR0 {c:Expr} {a b:List Stmt} {tc:TBD} (hc:DT X c tc) (ha:DSs X a t) (hb:DSs X b u):DS X (.If c a b pos) (qa tc t u):=(qQ3 hc ha hb).imp fun E σ H h=>by
  k_dat 0"r12"
  k_dat 0"r78"
  have on:∀ {v:TSD},v P ρ st1→qH1 X.K v E σ H1:=fun {v} hv=>⟨φ1,st1,ρ,P,pre.on b1,hv,fun ρ2 st2 h2 φ2 H2 σ2 b2 d2=>n ρ2 st2 h2 φ2 H2 σ2 (b1.trans b2) d2,fun ρ2 st2 h2 φ2 H2 σ2 b2 d2=>b ρ2 st2 h2 φ2 H2 σ2 (b1.trans b2) d2,
    fun ρ2 st2 h2 φ2 H2 σ2 b2 d2=>c ρ2 st2 h2 φ2 H2 σ2 (b1.trans b2) d2,fun d st2 h2 φ2 H2 v b2 d2=>r d st2 h2 φ2 H2 v (b1.trans b2) d2⟩
  cases k with
  | true=>exact qAy (on (by rw [if_pos rfl] at h1;exact h1))
  | false=>exact qBT (on (by rw [if_neg Bool.false_ne_true] at h1;exact h1))
noncomputable abbrev TGD:=Dt→Rho→Sto→(Rho→Sto→Prop)→Prop
noncomputable abbrev qHx:=List Dt→Rho→Sto→(Rho→Sto→Prop)→Prop
noncomputable def qGa (K:W.Frag) (g:TGD):TG:=fun v σ H Q=>∃ φ st ρ d P,Pre K φ st H ρ σ∧D K φ st.length H d v∧g d ρ st P∧∀ ρ' st',P ρ' st'→∀ φ' H' σ',Bhd K φ st H φ' st' H'→DR K φ' st'.length H' ρ' σ'→Q σ' H'
noncomputable def qQf (K:W.Frag) (g:qHx):TGs:=fun vs σ H Q=>∃ φ st ρ ds P,Pre K φ st H ρ σ∧DL K φ st.length H ds vs∧g ds ρ st P∧∀ ρ' st',P ρ' st'→∀ φ' H' σ',Bhd K φ st H φ' st' H'→DR K φ' st'.length H' ρ' σ'→Q σ' H'
def DG (X:Cx) (tg:Expr) (g:TGD):Prop:=PG X tg (qGa X.K g)
def DGs (X:Cx) (tg:List Expr) (g:qHx):Prop:=PGs X tg (qQf X.K g)
theorem _root_.L2.PG.imp {X:Cx} {e:Expr} {t t':TG} (h:PG X e t) (i:∀ v σ H Q,t' v σ H Q→t v σ H Q):PG X e t':=fun pins s σ H v u Q I r q=>h pins s σ H v u Q I r (i v σ H Q q)
theorem _root_.L2.PGs.imp {X:Cx} {e:List Expr} {t t':TGs} (h:PGs X e t) (i:∀ v σ H Q,t' v σ H Q→t v σ H Q):PGs X e t':=fun pins s σ H v u Q I r q=>h pins s σ H v u Q I r (i v σ H Q q)
noncomputable def qI (i:Nat):TGD:=fun d ρ st P=>P (ρ.set i (some d)) st
theorem qG8 (i:Nat) {x:Str} (hN:X.N.Nodup) (hi:X.N[i]? = some x:=by rfl) (hx:Loc X.env.scope x:=by first | exact Or.inl rfl | exact Or.inr rfl) (hf:X.fn x=true∨X.env.scope.names.lookup x=some .local:=by first | exact .inl rfl | exact .inr rfl | assumption):DG X (.Name x pos) (qI i) :=
  (qHJ hN hi hx hf).imp fun v σ H Q h=>by
    obtain⟨φ,st,ρ,d,P,pre,hd,hg,hq⟩:=h
    exact hq _ st hg φ H _ (.refl pre.1) (pre.2.set hd i)
noncomputable def qBj:qHx:=fun ds ρ st P=>match ds with
  | []=>P ρ st
  | _=>False
noncomputable def qX (g:TGD) (gs:qHx):qHx:=fun ds ρ st P=>match ds with
  | d::r=>g d ρ st fun ρ1 st1=>gs r ρ1 st1 P
  | _=>False
theorem qJx:DGs X [] qBj:=(qM1).imp fun v σ H Q h=>by
  obtain⟨φ,st,ρ,ds,P,pre,hd,hg,hq⟩:=h
  cases ds with
  | nil =>
    have:v=[]:=by simpa [DL] using hd
    exact⟨this,hq _ st hg φ H _ (.refl pre.1) pre.2⟩
  | cons _ _=>exact hg.elim
theorem qFV {es:List Expr} {g:TGD} {gs:qHx} (h1:DG X e g) (h2:DGs X es gs) (hs:(assignEach (e::es) X.env).map (·.2)=assign e X.env::(assignEach es X.env).map (·.2):=by rfl):DGs X (e::es) (qX g gs):=(qMl h1 h2 hs).imp fun v σ H Q h=>by
  obtain⟨φ,st,ρ,ds,P,pre,hd,hg,hq⟩:=h
  cases ds with
  | nil=>exact hg.elim
  | cons d r =>
    simp only [DL] at hd
    obtain⟨w,ws,rfl,dw,dws⟩:=hd
    refine⟨w,ws,rfl,φ,st,ρ,d,_,pre,dw,hg,fun ρ1 st1 h1 φ1 H1 σ1 b1 dr1=>?_⟩
    exact⟨φ1,st1,ρ1,r,P,⟨b1.1,dr1⟩,dws.evo b1.2,h1,fun ρ2 st2 h2 φ2 H2 σ2 b2 d2=>hq ρ2 st2 h2 φ2 H2 σ2 (b1.trans b2) d2⟩
noncomputable def qAS (n:Nat) (gs:qHx):TGD:=fun d ρ st P=>match qd st d with
  | some xs=>xs.length=n∧gs xs ρ st P
  | none=>False
theorem qGg {prog:Program} {w:World} {A:Around} {E:Value→Shared→Prop} {it l:Addr} {items:Array Value} (hne:l≠it):∀ (n i:Nat) (s:Shared) (Q:List Value→Shared→Prop),s.heap.IsListIter it l i→s.heap.IsList l items→i+n≤items.size →
    (∀ h',h'.IsListIter it l (i+n)→Heap.SameBut it s.heap h'→Q ((items.toList.drop i).take n) { s with heap:=h' })→wpAny (model prog w) A (draw (.ref it) n) Q E s
  | 0,i,s,Q,hit,hl,hn,h=>by
    unfold draw
    have:=h s.heap (by simpa using hit) (.refl ..)
    simpa using wpAny_pure this
  | n + 1,i,s,Q,hit,hl,hn,h=>by
    unfold draw
    have hi:i<items.size:=by omega
    refine wpAny_bind (wpAny_pyNext_list_item hit hl (x:=items[i]) (by simp [hi]) fun h1 hit1 sb1=>?_)
    dsimp only
    refine wpAny_bind (wpAny_holding ?_)
    refine qGg hne n (i+1) { s with heap:=h1 } _ hit1 (hl.extBut sb1.extBut hne) (by omega) fun h2 hit2 sb2=>?_
    refine wpAny_pure ?_
    have e:(items.toList.drop i).take (n+1)=items[i]::(items.toList.drop (i+1)).take n:=by
      rw [List.drop_eq_getElem_cons (by simpa using hi),List.take_succ_cons]
      simp
    have:=h h2 (by rw [show i+(n+1)=i+1+n by omega];exact hit2) (sb1.trans sb2)
    rw [e] at this
    exact this
end
end L3
namespace L3
open PySem PySem.Spec PyProof.Rows L2
section
variable {prog:Program} {w:World} {A:Around} {E:Value→Shared→Prop} {s:Shared}
theorem qDv {l:Addr} {items:Array Value} {Q:List Value→Shared→Prop} (hh:A.handled=none) (hl:s.heap.IsList l items)
    (hQ:∀ h',Heap.ExtBut s.heap.objs.size s.heap h'→Q items.toList { s with heap:=h' }):wpAny (model prog w) A (unpackItems (.ref l) items.size none) Q E s:=by
  have hlt:l≠s.heap.objs.size:=by obtain⟨o,ho,_⟩:=hl;exact Nat.ne_of_lt (Heap.lt_size ho)
  unfold unpackItems
  refine wpAny_bind ?_
  unfold notIterableAtAll
  refine wpAny_bind (wpAny_specialOf hl.typeIs slot_list_iter.lookup ?_)
  refine wpAny_pure ?_
  simp only [Bool.false_eq_true,if_false]
  refine wpAny_bind (wpAny_holding (wpAny_pyIter_list hl ?_))
  refine wpAny_bind (wpAny_holding (qGg hlt items.size 0 _ _ ⟨_,Heap.get?_push_size _ rfl,rfl,rfl⟩ (hl.push _) (by omega) fun h₁ hit₁ hs₁=>?_))
  have hall:List.take items.size (List.drop 0 items.toList)=items.toList:=by
    rw [List.drop_zero];exact List.take_of_length_le (by simp)
  rw [hall]
  rw [if_neg (by simp)]
  have hl₁:h₁.IsList l items:=(hl.push _).extBut hs₁.extBut hlt
  refine wpAny_bind (wpAny_holding (wpAny_pyNext_list_end hh hit₁ hl₁ (by simp) fun h₂ he₂=>?_))
  simp only [Option.isSome_none,Bool.false_eq_true,if_false]
  exact wpAny_pure (hQ h₂ fun b o hb e=>he₂ b o hb (hs₁.extBut b o hb (Heap.get?_push_of_some _ e)))
theorem qDq {env:Env} {elts:List Expr} {x1} {pos:Pos} {t:Addr} {items:Array Value} {Q:Unit→Shared→Prop} (hh:A.handled=none) (ht:s.heap.IsList t items)
    (hn:(assignEach elts env).length=items.size) (hstar:(assignEach elts env).findIdx? (·.1)=none)
    (h:∀ h',Heap.ExtBut s.heap.objs.size s.heap h'→wpAny (model prog w) A (assignInOrder ((assignEach elts env).map (·.2)) items.toList) Q E { s with heap:=h' }) :
    wpAny (model prog w) A (assign (.Tuple elts x1 pos) env (.ref t)) Q E s:=by
  rw [assign_Tuple]
  refine wpAny_bind (wpAny_standAt ?_)
  unfold unpack
  rw [hn,hstar]
  exact wpAny_bind (wpAny_holding (qDv hh ht h))
end
section
variable {X:Cx} {pos:Pos} {e:Expr} {te:TD}
theorem qGf {es:List Expr} {k:Nat} {gs:qHx} (n:Nat) (hc:X.calm=true) (h:DGs X es gs) (hn:(assignEach es X.env).length=n:=by rfl) (hst:(assignEach es X.env).findIdx? (·.1)=none:=by rfl):DG X (.Tuple es k pos) (qAS n gs):=by
  intro pins s σ H v u Q I r hw
  obtain⟨φ,st,ρ,d,P,pre,hd,hg,hq⟩:=hw
  unfold qAS at hg
  split at hg
  · rename_i xs ex
    obtain⟨hl,hg⟩:=hg
    obtain⟨p,vs,e1,hs,dl⟩:=qCM pre.1 hd ex
    subst e1
    cases r
    have hlen:=dl.length
    rcases hs with ⟨hs,_⟩ | ⟨hs,_⟩
    · obtain⟨its,rv,pl,_⟩:=I.list hs
      have:=rv.length
      refine qDq (I.ok.hd hc) pl.isList (by rw [hn,List.size_toArray];omega) hst fun h' hx=>?_
      k_dat 0"r97"
      exact h pins _ σ H vs _ Q I1 (by simpa using rv) ⟨φ,st,ρ,xs,P,pre,dl,hg,hq⟩
    · obtain⟨its,rv,ht,_⟩:=I.tuple hs
      have:=rv.length
      refine assign_Tuple_tuple (I.ok.hd hc) ht (by rw [hn,List.size_toArray];omega) hst fun h' hx=>?_
      k_dat 0"r97"
      exact h pins _ σ H vs _ Q I1 (by simpa using rv) ⟨φ,st,ρ,xs,P,pre,dl,hg,hq⟩
  · exact hg.elim
def qO (te:TD) (g:TGD):TSD:=fun E ρ st=>te ρ st fun d st1=>g d ρ st1 E.nx
theorem qLS {K:W.Frag} {te:TD} {g:TGD} {E:Ends} {σ:L2.St} {H:Hp} (h:qH1 K (qO te g) E σ H):qNk (qAU K te) (qGa K g) E σ H:=by
  k_dat 0"r12"
  k_dat 0"r34"
  exact⟨φ1,st1,ρ,d,P.nx,pre.on b1,dx,h1,fun ρ2 st2 h2 φ2 H2 σ2 b2 d2=>n ρ2 st2 h2 φ2 H2 σ2 (b1.trans b2) d2⟩
theorem qQQ {tg:Expr} {g:TGD} (he:DE X e te) (hg:DG X tg g) (hs:swapsWithSole [tg] e pos.line X.env=pure false:=by rfl) (hw:swappedStores [tg] e X.env=pure none:=by rfl)
    (h1:(assignEach [tg] X.env).map (·.2)=[assign tg X.env]:=by rfl):DS X (.Assign [tg] e pos) (qO te g):=(qPT he hg hs hw h1).imp fun _ _ _=>qLS
theorem qPh (i:Nat) {x:Str} {pos':Pos} (hN:X.N.Nodup) (he:DE X e te) (hi:X.N[i]? = some x:=by rfl) (hx:Loc X.env.scope x:=by first | exact Or.inl rfl | exact Or.inr rfl) (hs:swapsWith e (some (.Name x pos')) pos.line X.env=pure false:=by rfl)
    (hf:X.fn x=true∨X.env.scope.names.lookup x=some .local:=by first | exact .inl rfl | exact .inr rfl | assumption):DS X (.Assign [.Name x pos'] e pos) (qO te (qI i)):=(qO8 hN hi hx he hs hf).imp fun E σ H h=>by
  k_dat 0"r12"
  exact⟨φ,st,ρ,_,pre,ht,fun d st1 h1 φ1 H1 v b1 dx=>n _ st1 h1 φ1 H1 _ b1 ((pre.on b1).2.set dx i)⟩
noncomputable def qQh (to ti:TD):TGD:=fun d ρ st P=>to ρ st fun o st1=>ti ρ st1 fun i st2=>match o,i with
  | .lst n,.int k=>(match st2[n]? with
    | some (.rw xs)=>(match ixN xs.length k with
      | some j=>P ρ (st2.set n (.rw (xs.set j d)))
      | none=>False)
    | _=>False)
  | _,_=>False
theorem qQK {o i:Expr} {to ti:TD} (ho:DE X o to) (hi:DE X i ti)
    (ha:∀ v,assign (.Subscript o i pos) X.env v=(do
      let ov ← holding [v] (eval o X.env)
      let iv ← holding [v,ov] (eval i X.env)
      standAt pos
      holding [v,ov,iv] (setItem ov iv v)
      release [v,ov,iv] []):=by intro _;rfl):DG X (.Subscript o i pos) (qQh to ti):=(qPf ho hi set_list ha).imp fun v σ H Q h=>by
  obtain⟨φ,st,ρ,d,P,pre,hd,hg,hq⟩:=h
  refine⟨φ,st,ρ,_,pre,hg,fun x st1 h1 φ1 H1 w b1 dx=>?_⟩
  refine⟨φ1,st1,ρ,_,pre.on b1,h1,fun y st2 h2 φ2 H2 z b2 dy=>?_⟩
  cases x with
  | lst n =>
    cases y with
    | int k =>
      have h2':(match st2[n]? with
        | some (.rw xs)=>(match ixN xs.length k with
          | some j=>P ρ (st2.set n (.rw (xs.set j d)))
          | none=>False)
        | _=>False):=h2
      split at h2'
      · rename_i xs ex
        split at h2'
        · rename_i j ej
          obtain⟨vs,hv,dl⟩:=b2.1.rw n xs ex
          have dx2:=dx.evo b2.2
          have hd2:=(hd.evo b1.2).evo b2.2
          refine⟨φ2 n,vs,k,j,dx2.lst.2,dy.int,hv,by rw [← dl.length];exact ej,?_⟩
          have bb:Bhd X.K φ2 st2 H2 φ2 (st2.set n (.rw (xs.set j d))) (upd H2 (φ2 n) (.lst (vs.set j v))):=⟨b2.1.qOe ex (dl.set hd2 j),qEx hv⟩
          exact hq _ _ h2' φ2 _ σ (b1.trans (b2.trans bb)) (((pre.on b1).on b2).on bb).2
        · exact h2'.elim
      · exact h2'.elim
    | _=>exact h2.elim
  | _=>cases y<;>exact h2.elim
def qAY (to te:TD):TD:=fun ρ st P=>to ρ st fun o st1=>match o with
  | .lst n=>te ρ st1 fun d st2=>(match st2[n]? with
    | some (.rw xs)=>xs.length<sizeLine∧P .non (st2.set n (.rw (xs++[d])))
    | _=>False)
  | _=>False
theorem qKg {o:Expr} {to:TD} {apos cpos:Pos} (ho:DE X o to) (he:DE X e te)
    (hbase:attributeBase o "append" X.env (eval o X.env)=eval o X.env:=by rfl)
    (hfew:((backTo cpos (starEach [e] X.env)).all (fun x=>!x.1)&&(backToKw cpos (keywordEach [] X.env)).all (fun x=>x.1.isSome)
      && decide (([e]:List Expr).length+([]:List Keyword).length+(if ([]:List Keyword).isEmpty then 0 else 1)<30))=true:=by rfl)
    (hline:(apos.endLine==cpos.line)=true:=by rfl) (hs:starEach [e] X.env=(false,eval e X.env)::starEach [] X.env:=by rfl) (hplain:(backTo cpos (starEach ([]:List Expr) X.env)).any (·.1)=false:=by rfl) :
    DE X (.Call (.Attribute o "append" apos) [e] [] cpos) (qAY to te):=by
  refine PE.imp (qON PySem.F.plainAttrs_list PySem.F.slot_list_append PySem.F.type_list_append qK2 ho (qBU he qDI hs) hbase hfew hline hs hplain) fun σ H Q h=>?_
  k_dat 0"r0"
  k_dat 0"r15"
  cases x with
  | lst n =>
    have hn:=dx.lst.1
    obtain⟨so,eo⟩:∃ so,st1[n]? = some so:=⟨st1[n],by simp [hn]⟩
    obtain⟨ws,hws,_⟩:=b1.1.seq eo dx.isL
    refine⟨?_,?_⟩
    · rw [dx.lst.2]
      exact .inl ⟨rfl,ws,hws⟩
    refine⟨φ1,st1,ρ,(fun ds st2=>match ds with
      | [d]=>(match st2[n]? with
        | some (.rw xs)=>xs.length<sizeLine∧P .non (st2.set n (.rw (xs++[d])))
        | _=>False)
      | _=>False),pre.on b1,h1,fun ds st2 h2 φ2 H2 zs b2 dz=>?_⟩
    k_dat 0"r51"
    · exact h2.elim
    rotate_left
    · exact h2.elim
    · have h2:(match st2[n]? with
        | some (.rw xs)=>xs.length<sizeLine∧P .non (st2.set n (.rw (xs++[d])))
        | _=>False):=h2
      split at h2
      · rename_i xs ex
        obtain⟨y,rfl,dy⟩:=dz.one
        obtain⟨vs,hv,dl⟩:=b2.1.rw n xs ex
        have dx2:=dx.evo b2.2
        have bb:Bhd X.K φ2 st2 H2 φ2 (st2.set n (.rw (xs++[d]))) (upd H2 (φ2 n) (.lst (vs++[y]))):=⟨b2.1.qOe ex (dl.append (.cons dy .nil)),qEx hv⟩
        exact⟨φ2 n,vs,y,dx2.lst.2,rfl,hv,by rw [← dl.length];exact h2.1,hq _ _ h2.2 φ2 _ _ (b1.trans (b2.trans bb)) D.qJX⟩
      · exact h2.elim
  | _=>exact h1.elim
end
end L3
namespace L3
open PySem PySem.Spec PyProof.Rows L2
def qKy (items:List Dt) (ok:Sto→Prop) (g:TGD) (tb:TSD):TSD:=fun E ρ st=>∃ Inv:Nat→Rho→Sto→Prop,Inv 0 ρ st∧(∀ i ρ' st',i≤items.length→Inv i ρ' st'→ok st') ∧
  (∀ (i:Nat) d ρ' st',items[i]? = some d→Inv i ρ' st'→g d ρ' st' fun ρ2 st2=>tb { E with nx:=Inv (i+1),ct:=Inv (i+1),bk:=E.nx } ρ2 st2)∧∀ ρ' st',Inv items.length ρ' st'→E.nx ρ' st'
def qFG (K:W.Frag) (φ1:Nat→Addr) (st1:Sto) (H1:Hp) (J:It) (items:List Dt) (ok:Sto→Prop):Prop :=
  ∀ (i:Nat) φ' st' H',Bhd K φ1 st1 H1 φ' st' H'→ok st'→i≤items.length→(i=items.length→J.stop i H') ∧
    (∀ d,items[i]? = some d→J.go i H'∧∀ y H2,J.yld i H' y H2→Bhd K φ' st' H' φ' st' H2∧D K φ' st'.length H2 d y)
section
variable {K:W.Frag} {φ1:Nat→Addr} {st1:Sto} {H1:Hp} {ρ1:Rho} {σ1:L2.St} {J:It} {items:List Dt} {ok:Sto→Prop} {g:TGD} {tb:TSD}
theorem qNM {E:qBH} {E':Ends} (pre:Pre K φ1 st1 H1 ρ1 σ1) (hJ:qFG K φ1 st1 H1 J items ok) (hf:qKy items ok g tb E ρ1 st1)
    (n:∀ ρ' st',E.nx ρ' st'→∀ φ' H' σ',Bhd K φ1 st1 H1 φ' st' H'→DR K φ' st'.length H' ρ' σ'→E'.nx σ' H')
    (r:∀ d st',E.rt d st'→∀ φ' H' v,Bhd K φ1 st1 H1 φ' st' H'→D K φ' st'.length H' d v→E'.rt v H') :
    ∃ W:Nat→Nat→L2.St→Hp→Prop,(∃ m,W 0 m σ1 H1)∧∀ i m σ H,W i m σ H →
      (J.stop i H∧E'.nx σ H)∨(J.go i H∧∃ N:L2.St→Hp→Prop,(∀ σ' H',N σ' H'→∃ m',m'<m∧W (i+1) m' σ' H')∧∀ x H',J.yld i H x H'→qGa K g x σ H' fun σ2 H2=>qH1 K tb { E' with nx:=N,ct:=N,bk:=E'.nx } σ2 H2):=by
  obtain⟨Inv,h0,hok,step,fin⟩:=hf
  refine⟨fun i m σ H=>m=items.length - i∧i≤items.length∧∃ φ' st' ρ',Pre K φ' st' H ρ' σ∧Bhd K φ1 st1 H1 φ' st' H∧Inv i ρ' st',⟨items.length,by simp,Nat.zero_le _,φ1,st1,ρ1,pre,.refl pre.1,h0⟩,?_⟩
  rintro i m σ H ⟨rfl,hi,φ',st',ρ',pre',bh,hI⟩
  obtain⟨js,jg⟩:=hJ i φ' st' H bh (hok i ρ' st' hi hI) hi
  by_cases hlt:i<items.length
  · have ed:items[i]? = some items[i]:=by simp [hlt]
    obtain⟨go,yl⟩:=jg _ ed
    refine .inr ⟨go,fun σ3 H3=>∃ φ3 st3 ρ3,Pre K φ3 st3 H3 ρ3 σ3∧Bhd K φ1 st1 H1 φ3 st3 H3∧Inv (i+1) ρ3 st3,fun σ3 H3 h3=>⟨items.length - (i+1),by omega,rfl,hlt,h3⟩,fun y H2 hy=>?_⟩
    obtain⟨b2,dy⟩:=yl y H2 hy
    refine⟨φ',st',ρ',items[i],_,pre'.on b2,dy,step i _ ρ' st' ed hI,fun ρ3 st3 h3 φ3 H3 σ3 b3 d3=>?_⟩
    have b13:=bh.trans (b2.trans b3)
    refine⟨φ3,st3,ρ3,_,⟨b3.1,d3⟩,h3,fun ρ4 st4 h4 φ4 H4 σ4 b4 d4=>⟨φ4,st4,ρ4,⟨b4.1,d4⟩,b13.trans b4,h4⟩,fun ρ4 st4 h4 φ4 H4 σ4 b4 d4=>n ρ4 st4 h4 φ4 H4 σ4 (b13.trans b4) d4,
      fun ρ4 st4 h4 φ4 H4 σ4 b4 d4=>⟨φ4,st4,ρ4,⟨b4.1,d4⟩,b13.trans b4,h4⟩,fun d st4 h4 φ4 H4 v b4 d4=>r d st4 h4 φ4 H4 v (b13.trans b4) d4⟩
  · have e:i=items.length:=by omega
    subst e
    exact .inl ⟨js rfl,n ρ' st' (fin ρ' st' hI) φ' H σ bh pre'.2⟩
end
noncomputable abbrev TID:=Rho→Sto→(List Dt→(Sto→Prop)→Sto→Prop)→Prop
noncomputable def qLY (K:W.Frag) (t:TID):TI:=fun σ H R=>∃ φ st ρ P,Pre K φ st H ρ σ∧t ρ st P∧∀ items ok st',P items ok st'→∀ φ' H' J,Bhd K φ st H φ' st' H'→qFG K φ' st' H' J items ok→R J H'
def DI (X:Cx) (tg it:Expr) (t:TID):Prop:=PI X tg it (qLY X.K t)
def qEG (ti:TID) (g:TGD) (tb:TSD):TSD:=fun E ρ st=>ti ρ st fun items ok st1=>qKy items ok g tb E ρ st1
section
variable {X:Cx} {tg iter:Expr} {body:List Stmt} {pos:Pos} {ti:TID} {g:TGD} {tb:TSD}
theorem qP9 (hp:PassesOwn (model X.prog X.w) X.A X.env X.xe) (hc:X.calm=true) (hi:DI X tg iter ti) (hg:DG X tg g) (hb:DSs X body tb) (hs:∀ x,foldedSetIterable iter X.env x=pure x:=by intro _;rfl):DS X (.For tg iter body [] pos) (qEG ti g tb) :=
  (qOi hp hc hi hg hb hs).imp fun E σ H h=>by
    k_dat 0"r12"
    k_dat 0"r79"
    exact qNM (pre.on b1) hJ h1 (fun ρ2 st2 h2 φ2 H2 σ2 b2 d2=>n ρ2 st2 h2 φ2 H2 σ2 (b1.trans b2) d2) fun d st2 h2 φ2 H2 v b2 d2=>r d st2 h2 φ2 H2 v (b1.trans b2) d2
def qA3 (te:TD):TID:=fun ρ st P=>te ρ st fun x st1=>match qd st1 x with
  | some xs=>P xs (fun st'=>qd st' x=some xs) st1
  | none=>False
theorem qPV {te:TD} (he:DE X iter te):DI X tg iter (qA3 te):=by
  intro pins s σ H R I h
  k_dat 0"r0"
  refine thn (he pins s σ H _ I ⟨φ,st,ρ,_,pre,ht,fun x st1 h1 φ1 H1 v b1 dx=>(show ∃ φ1 st1 x,Bhd X.K φ st H φ1 st1 H1∧D X.K φ1 st1.length H1 x v∧(match qd st1 x with
    | some xs=>P xs (fun st'=>qd st' x=some xs) st1
    | none=>False) from⟨φ1,st1,x,b1,dx,h1⟩)⟩) fun u s1 ⟨v,H1,I1,ru,φ1,st1,x,b1,dx,h1⟩=>?_
  split at h1
  · rename_i xs ex
    obtain⟨a,vs,e1,hs,dl⟩:=qCM b1.1 dx ex
    subst e1
    cases ru
    rcases hs with ⟨hs,n,exn⟩ | ⟨hs,_⟩
    · obtain⟨its,rv,pl,hz⟩:=I1.list hs
      refine wpAny_pyIter_list pl.isList ?_
      refine⟨s1.heap.objs.size,[s1.heap.objs.size],_,_,H1,rfl,I1.kept (t':=s1.toks) fun b o e=>Heap.get?_push_of_some _ e,qKk a _,⟨_,Heap.get?_push_size _ rfl,rfl,rfl⟩,fun b hb=>?_,hq xs _ st1 h1 φ1 H1 _ b1 ?_⟩
      · have e:b=s1.heap.objs.size:=by simpa using hb
        subst e
        k_dat 0"r74"
      · k_dat 0"r27"
        obtain⟨a',ws,e2,hs',dl'⟩:=qCM bh.1 (dx.evo bh.2) hok
        cases e2
        have hsl:SqL X.K H' a ws:=by
          rcases hs' with z | ⟨_,z⟩
          · exact z.1
          · rw [exn] at z;cases z
        have hlen:=dl'.length
        refine⟨fun e=>⟨ws,hsl,by omega⟩,fun d ed=>?_⟩
        obtain⟨y,ey,dy⟩:=dl'.get ed
        refine⟨⟨ws,y,hsl,ey⟩,fun y' H2 hy=>?_⟩
        obtain⟨rfl,hy⟩:=hy
        have:=hy ws hsl
        rw [ey] at this
        cases this
        exact⟨.refl bh.1,dy⟩
    · obtain⟨its,rv,pl,hz⟩:=I1.tuple hs
      refine wpAny_pyIter_tuple (show s1.heap.IsTuple a its.toArray from pl) ?_
      refine⟨s1.heap.objs.size,[s1.heap.objs.size],_,_,H1,rfl,I1.kept (t':=s1.toks) fun b o e=>Heap.get?_push_of_some _ e,qJM a _,⟨_,Heap.get?_push_size _ rfl,rfl,rfl⟩,fun b hb=>?_,hq xs _ st1 h1 φ1 H1 _ b1 ?_⟩
      · have e:b=s1.heap.objs.size:=by simpa using hb
        subst e
        k_dat 0"r74"
      · k_dat 0"r27"
        have hsl:SqT X.K H' a vs:=bh.2.tup a vs hs
        have dl':=dl.evo bh.2
        have hlen:=dl'.length
        refine⟨fun e=>⟨vs,hsl,by omega⟩,fun d ed=>?_⟩
        obtain⟨y,ey,dy⟩:=dl'.get ed
        refine⟨⟨vs,y,hsl,ey⟩,fun y' H2 hy=>?_⟩
        obtain⟨rfl,hy⟩:=hy
        have:=hy vs hsl
        rw [ey] at this
        cases this
        exact⟨.refl bh.1,dy⟩
  · exact h1.elim
noncomputable def qAu (lo:Int) (n:Nat):List Dt:=(List.range n).map fun k=>.int (lo+(k:Nat))
theorem qAi {lo:Int} {n i:Nat} {d:Dt} (h:(qAu lo n)[i]? = some d):i<n∧d = .int (lo+(i:Nat)):=by
  unfold qAu at h
  rw [List.getElem?_map] at h
  cases q:(List.range n)[i]? with
  | none=>rw [q] at h;cases h
  | some k =>
    rw [q] at h
    have:=List.getElem?_eq_some_iff.mp q
    obtain⟨h1,h2⟩:=this
    rw [List.getElem_range] at h2
    subst h2
    rw [List.length_range] at h1
    exact⟨h1,(Option.some.inj h).symm⟩
theorem qAM {lo:Int} {n:Nat}:(qAu lo n).length=n:=by unfold qAu;simp
theorem qDj {K:W.Frag} {φ:Nat→Addr} {st:Sto} {H:Hp} {lo:Int} {n:Nat}:qFG K φ st H (Itr lo n) (qAu lo n) (fun _=>True):=fun i φ' st' H' bh _ hi=>by
  rw [qAM] at hi
  refine⟨fun e=>by rw [qAM] at e;exact Nat.le_of_eq e.symm,fun d ed=>?_⟩
  obtain⟨h1,rfl⟩:=qAi ed
  refine⟨h1,fun y H2 hy=>?_⟩
  obtain⟨rfl,rfl⟩:=hy
  exact⟨.refl bh.1,D.mkInt⟩
def qAj (ta:TD):TID:=fun ρ st P=>ta ρ st fun x st1=>match x with
  | .int j=>-(2 ^ 62)≤j∧j<2 ^ 62∧P (qAu 0 j.toNat) (fun _=>True) st1
  | _=>False
theorem qKD {a:Expr} {ta:TD} {p:Pos} (hm:X.mg "range" = none) (ha:DE X a ta) (hg:Gl X "range":=by rfl) (hs:starEach [a] X.env=[(false,eval a X.env)]:=by rfl):DI X tg (.Call (.Name "range" p) [a] [] pos) (qAj ta):=by
  intro pins s σ H R I h
  refine qKK hg hm (qBU ha qDI hs) hs pins s σ H R I ?_
  k_dat 0"r0"
  refine⟨φ,st,ρ,(fun ds st1=>match ds with
    | [x]=>(match x with
      | .int j=>-(2 ^ 62)≤j∧j<2 ^ 62∧P (qAu 0 j.toNat) (fun _=>True) st1
      | _=>False)
    | _=>False),pre,?_,fun ds st1 h1 φ1 H1 vs b1 dl=>?_⟩
  · exact ht
  · k_dat 0"r51"
    · exact h1.elim
    rotate_left
    · exact h1.elim
    · cases d<;>first
        | exact h1.elim
        | skip
      rename_i j
      obtain⟨v,rfl,dv⟩:=dl.one
      obtain⟨h2,h3,h4⟩:=h1
      exact⟨j,by rw [dv.int],h2,h3,hq _ _ st1 h4 φ1 H1 _ b1 qDj⟩
def qEb (items:List Dt) (ok:Sto→Prop) (tc:TBD) (te:TD) (cρ:Rho) (st:Sto) (Fin:List Dt→Sto→Prop):Prop:=∃ Inv:Nat→List Dt→Sto→Prop,Inv 0 [] st∧(∀ i ys st',i≤items.length→Inv i ys st'→ok st') ∧
  (∀ (i:Nat) d ys st',items[i]? = some d→Inv i ys st'→ys.length<sizeLine∧tc (some d::cρ) st' fun k st1=>if k=true then te (some d::cρ) st1 fun y st2=>Inv (i+1) (ys++[y]) st2 else Inv (i+1) ys st1) ∧
  ∀ ys st',Inv items.length ys st'→Fin ys st'
noncomputable def qCK (caps:List (Nat×Str)) (ρ:Rho):Rho:=caps.map fun p=>(ρ[p.1]?).join
theorem qMB {K:W.Frag} {φ:Nat→Addr} {N:Nat} {H:Hp} {ρ:Rho} {σ:L2.St} (h:DR K φ N H ρ σ) (caps:List (Nat×Str)):DR K φ N H (qCK caps ρ) (qGr caps σ):=by
  refine⟨by unfold qCK qGr;simp,fun i d e=>?_⟩
  unfold qCK at e
  rw [List.getElem?_map] at e
  unfold qGr
  rw [List.getElem?_map]
  cases q:caps[i]? with
  | none=>rw [q] at e;cases e
  | some p =>
    rw [q] at e
    have e':(ρ[p.1]?).join=some d:=Option.some.inj e
    have e2:ρ[p.1]? = some (some d):=by
      cases q:ρ[p.1]? with
      | none=>rw [q] at e';cases e'
      | some o=>rw [q] at e';exact congrArg some e'
    obtain⟨v,ev,dv⟩:=h.2 p.1 d e2
    exact⟨v,by show some ((σ[p.1]?).join)=_;rw [ev];rfl,dv⟩
theorem qNZ {K:W.Frag} {φ:Nat→Addr} {N:Nat} {H:Hp} {ρ:Rho} {σ:L2.St} {o:Option V} {d:Dt} {v:V} (h:DR K φ N H ρ σ) (hd:D K φ N H d v):DR K φ N H (some d::ρ) (some v::σ):=by
  refine⟨by rw [List.length_cons,List.length_cons,h.1],fun i e q=>?_⟩
  cases i with
  | zero=>simp at q;subst q;exact⟨v,rfl,hd⟩
  | succ i=>exact h.2 i e (by simpa using q)
def DIf (X:Cx) (ifs:List Expr) (t:TBD):Prop:=PIf X ifs (liftT X.K t)
theorem qNH:DIf X [] (fun _ st P=>P true st):=fun pins s σ H Q I h=>by
  k_dat 0"r0"
  exact qNf pins s σ H Q I (hq true st ht φ H (.refl pre.1))
theorem qNW {c:Expr} {t:TBD} (h:DT X c t):DIf X [c] t:=qNs h
theorem qL8 {K:W.Frag} {φ1:Nat→Addr} {st1:Sto} {H1:Hp} {cρ:Rho} {cσ:L2.St} {J:It} {items:List Dt} {ok:Sto→Prop} {tc:TBD} {te:TD} {Fin:List Dt→Sto→Prop} {Fin':List V→Hp→Prop}
    (R:Rep K φ1 st1 H1) (dr:DR K φ1 st1.length H1 cρ cσ) (hJ:qFG K φ1 st1 H1 J items ok) (hc:qEb items ok tc te cρ st1 Fin)
    (hF:∀ ys st' φ' H' vs,Fin ys st'→Bhd K φ1 st1 H1 φ' st' H'→DL K φ' st'.length H' ys vs→Fin' vs H') :
    qJZ J (qFm 0) (liftT K tc) (qAU K te) (List.replicate 1 none++cσ) H1 Fin':=by
  obtain⟨Inv,h0,hok,step,fin⟩:=hc
  refine⟨fun i m σ vs H=>m=items.length - i∧i≤items.length∧∃ φ' st' ys o,σ=o::cσ∧Bhd K φ1 st1 H1 φ' st' H∧DL K φ' st'.length H ys vs∧Inv i ys st',
    ⟨items.length,by simp,Nat.zero_le _,φ1,st1,[],none,rfl,.refl R,.nil,h0⟩,?_⟩
  rintro i m σ vs H ⟨rfl,hi,φ',st',ys,o,rfl,bh,dl,hI⟩
  obtain⟨js,jg⟩:=hJ i φ' st' H bh (hok i ys st' hi hI) hi
  by_cases hlt:i<items.length
  · have ed:items[i]? = some items[i]:=by simp [hlt]
    obtain⟨go,yl⟩:=jg _ ed
    obtain⟨hz,hstep⟩:=step i _ ys st' ed hI
    refine .inr ⟨go,by rw [← dl.length];exact hz,fun y H2 hy=>?_⟩
    obtain⟨b2,dy⟩:=yl y H2 hy
    have b12:=bh.trans b2
    have pre2:Pre K φ' st' H2 (some items[i]::cρ) (some y::cσ):=⟨b2.1,qNZ (o:=none) (dr.evo b12.2) dy⟩
    show liftT K tc (some y::cσ) H2 _
    refine⟨φ',st',_,_,pre2,hstep,fun k st3 h3 φ3 H3 b3=>?_⟩
    cases k with
    | false =>
      rw [if_neg Bool.false_ne_true] at h3 ⊢
      exact⟨items.length - (i+1),by omega,rfl,hlt,φ3,st3,ys,some y,rfl,b12.trans b3,dl.evo (b2.2.trans b3.2),h3⟩
    | true =>
      rw [if_pos rfl] at h3 ⊢
      refine⟨φ3,st3,_,_,pre2.on b3,h3,fun z st4 h4 φ4 H4 w b4 dz=>?_⟩
      exact⟨items.length - (i+1),by omega,rfl,hlt,φ4,st4,ys++[z],some y,rfl,b12.trans (b3.trans b4),(dl.evo (b2.2.trans (b3.2.trans b4.2))).append (.cons dz .nil),h4⟩
  · have e:i=items.length:=by omega
    subst e
    exact .inl ⟨js rfl,hF ys st' φ' H vs (fin ys st' hI) bh dl⟩
def qy (ti:TID) (tc:TBD) (te:TD) (caps:List (Nat×Str)):TD:=fun ρ st P=>ti ρ st fun items ok st1=>qEb items ok tc te (qCK caps ρ) st1 fun ys st2=>P (.lst st2.length) (st2++[.rw ys])
theorem qGM {K:W.Frag} {tc:TBD} {te:TD} {caps:List (Nat×Str)} {σ:L2.St} {H:Hp} {Q:VK} (h:qAU K (qy ti tc te caps) σ H Q):qJy (qLY K ti) (qFm 0) (liftT K tc) (qAU K te) 1 caps σ H Q:=by
  k_dat 0"r0"
  k_dat 0"r79"
  refine qL8 b1.1 (qMB (pre.on b1).2 caps) hJ h1 fun ys st2 φ2 H2 vs hF b2 dl p hp=>?_
  exact hq _ _ hF _ _ _ (b1.trans (b2.trans (qCQ b2.1 hp dl))) qFH
variable {elt:Expr} {ifs:List Expr} {sc:Scope} {x:Str} {px:Pos} {tc:TBD} {te:TD}
theorem qGw (caps:List (Nat×Str)) (hc:X.calm=true) (S:qAN X.env.scope X.N caps sc) (hx:sc.names.lookup x=some .local) (hnd:([x]++caps.map (·.2)).Nodup) (hi:DI X (.Name x px) iter ti)
    (hif:∀ C s H fp,DIf (qAF X [x] caps sc C s H fp) ifs tc) (he:∀ C s H fp,DE (qAF X [x] caps sc C s H fp) elt te)
    (hs:∀ x,foldedSetIterable iter X.env x=pure x:=by intro _;rfl):DE X (.ListComp elt [⟨.Name x px,iter,ifs,0⟩] sc pos) (qy ti tc te caps) :=
  PE.imp (qJh (g:=qFm 0) (tc:=liftT X.K tc) (te:=qAU X.K te) [x] caps hc S hi (fun C s H fp=>qHJ hnd rfl (.inl (lookup_relabel_local hx)) (.inr (lookup_relabel_local hx))) hif he hs) fun σ H Q h=>qGM h
theorem qHY (i:Nat) {y:Str} {py spos:Pos} (caps:List (Nat×Str)) (hc:X.calm=true) (hN:X.N.Nodup) (S:qAN X.env.scope X.N caps sc) (hx:sc.names.lookup x=some .local) (hnd:([x]++caps.map (·.2)).Nodup) (hi:DI X (.Name x px) iter ti)
    (hif:∀ C s H fp,DIf (qAF X [x] caps sc C s H fp) ifs tc) (he:∀ C s H fp,DE (qAF X [x] caps sc C s H fp) elt te)
    (hy:X.N[i]? = some y:=by rfl) (hyl:X.env.scope.names.lookup y=some .local:=by rfl)
    (hsw:swapsWith (.ListComp elt [⟨.Name x px,iter,ifs,0⟩] sc pos) (some (.Name y py)) spos.line X.env=pure true:=by rfl)
    (hs:∀ x,foldedSetIterable iter X.env x=pure x:=by intro _;rfl):DS X (.Assign [.Name y py] (.ListComp elt [⟨.Name x px,iter,ifs,0⟩] sc pos) spos) (qO (qy ti tc te caps) (qI i)) :=
  PS.imp (qN5 (g:=qFm 0) (tc:=liftT X.K tc) (te:=qAU X.K te) [x] caps hc hN hy hyl S hi (fun C s H fp=>qHJ hnd rfl (.inl (lookup_relabel_local hx)) (.inr (lookup_relabel_local hx))) hif he hsw hs) fun E σ H h=>by
    k_dat 0"r12"
    refine qGM (ti:=ti) (tc:=tc) (te:=te) (caps:=caps) ⟨φ,st,ρ,_,pre,ht,fun d st1 h1 φ1 H1 v b1 dx=>?_⟩
    exact n _ st1 h1 φ1 H1 _ b1 ((pre.on b1).2.set dx i)
noncomputable def qV (N:List Str) (ds:List Dt):Rho:=ds.map some++List.replicate (N.length - ds.length) none
theorem qMY {K:W.Frag} {φ:Nat→Addr} {n:Nat} {H:Hp} {ds:List Dt} {vs:List V} (h:DL K φ n H ds vs) (N:List Str):DR K φ n H (qV N ds) (L2.start N vs):=by
  refine⟨by unfold qV L2.start;simp [h.length],fun i d e=>?_⟩
  unfold qV at e
  unfold L2.start
  by_cases hi:i<ds.length
  · rw [List.getElem?_append_left (by simpa using hi),List.getElem?_map] at e
    cases q:ds[i]? with
    | none=>rw [q] at e;cases e
    | some d' =>
      rw [q] at e
      have:d'=d:=by
        have e':some (some d')=some (some d):=e
        injection e' with e1;injection e1
      subst this
      obtain⟨v,ev,dv⟩:=h.get q
      refine⟨v,?_,dv⟩
      rw [List.getElem?_append_left (by simp;rw [← h.length];exact hi),List.getElem?_map,ev]
      rfl
  · rw [List.getElem?_append_right (by simpa using Nat.not_lt.mp hi),List.getElem?_replicate] at e
    split at e<;>cases e
theorem qPu {P:Program} {w:World} {K:W.Frag} {mg:Str→Option Value} {base:Heap} {x qual:Str} {stt:Stmt} {f:Addr} {fd:FuncData} {N ps:List Str} {k:Nat} {sp:RDL} (F:Fun K x qual stt f fd) (S:qR N ps (qL stt))
    (len:∀ ds st Pd,sp ds st Pd→ds.length=ps.length)
    (hbody:∀ (cdv:Value) (A:Around) (outer:List Env) (s:Shared) (H:Hp) (E:XK),qAd k (A.deeper (envOfC qual (qL stt) s.heap.objs.size f cdv)) →
      ∃ t,DSs (qJO CX0 P w K mg base N qual (qL stt) f cdv A outer s H E).nox (qAX stt) t∧∀ ds st Pd,sp ds st Pd→t { nx:=fun _ st'=>Pd .non st',rt:=Pd } (qV N ds) st):qx P w K mg base CX0 (k+1) f fd ps (qQ K sp):=by
  refine F.ok S (fun vs H Q E h=>?_) fun cdv A outer s H vs Q E hr h=>?_
  · obtain⟨φ,st,ds,Pd,R,dl,hs,hq⟩:=h
    rw [← dl.length]
    exact len ds st Pd hs
  · obtain⟨t,ht,hb⟩:=hbody cdv A outer s H E hr
    obtain⟨φ,st,ds,Pd,R,dl,hs,hq⟩:=h
    refine⟨_,ht,φ,st,qV N ds,_,⟨R,qMY dl N⟩,hb ds st Pd hs,fun ρ' st' h' φ' H' σ' b' d'=>hq _ st' h' φ' H' _ b' D.qJX,fun ρ' st' h'=>h'.elim,fun ρ' st' h'=>h'.elim,fun d st' h' φ' H' v b' d'=>hq d st' h' φ' H' v b' d'⟩
end
end L3
namespace L3
open PySem PySem.Spec PyProof.Rows L2
structure qW (P:Program) (w:World) (K:W.Frag) (mg:Str→Option Value) (base:Heap) (x:Str) (k:Nat) (sp:RDL):Prop where
  ex:∃ f fd ps,qx P w K mg base CX0 k f fd ps (qQ K sp)∧mg x=some (.ref f)∧W.keepIn K (.ref f)=true∧Binds K fd ps []
section
variable {X:Cx} {e:Expr} {es:List Expr} {t:TAD} {pos p:Pos} {x:Str}
theorem qMk {k:Nat} {sp:RDL} (F:qW X.prog X.w X.K X.mg X.base x k sp) (hr:qAd k X.A) (ha:DA X (e::es) t) (hg:Gl X x) (hdb:(x==("__debug__" : Str))=false) (he:starEach (e::es) X.env=(false,eval e X.env)::starEach es X.env)
    (hpl:(backTo pos (starEach es X.env)).any (·.1)=false):DE X (.Call (.Name x p) (e::es) [] pos) (qF sp t):=by
  obtain⟨f,fd,ps,h1,h2,h3,h4⟩:=F.ex
  exact qNA h1 hr h2 h3 h4 ha hg hdb he hpl
theorem qSS {A:Around} {k:Nat} (hr:qAd k A):A.units+16<cLine:=Nat.lt_of_le_of_lt (Nat.add_le_add_left (by decide:16≤64) _) hr.units
structure qAt (K:W.Frag) (mg:Str→Option Value) (x:Str) (d:Dt):Prop where
  ex:∃ v u,mg x=some u∧RelV v u∧∀ φ N H,D K φ N H d v
theorem qPz {d:Dt} (h:qAt X.K X.mg x d) (hg:Gl X x) (hd:(x==("__debug__" : Str))=false):DE X (.Name x pos) (qC d):=by
  obtain⟨v,u,h1,h2,h3⟩:=h.ex
  exact qNQ h1 h2 h3 hg hd
structure Hint (caps:List (Nat×Str)):Prop where
  ok:True
end
section
variable {X:Cx} {a b c:Expr} {ta tb tc:TD} {pos:Pos}
theorem qPc (ha:DE X a ta) (hb:DE X b tb):DE X (.BinOp a .Add b pos) (qD L3.qm ta tb):=qEa qQI ha hb
theorem qP8 (ha:DE X a ta) (hb:DE X b tb):DE X (.BinOp a .Sub b pos) (qD qAe ta tb):=qEa qOq ha hb
theorem qPi (ha:DE X a ta) (hb:DE X b tb):DE X (.BinOp a .Mult b pos) (qD qAf ta tb):=qEa qPn ha hb
theorem qPN (ha:DE X a ta) (hb:DE X b tb):DE X (.BinOp a .FloorDiv b pos) (qD qAk ta tb):=qEa qOW ha hb
theorem qOj (ha:DE X a ta) (hb:DE X b tb):DE X (.BinOp a .Mod b pos) (qD qj ta tb):=qEa qQo ha hb
theorem qPI (ha:DE X a ta) (hb:DE X b tb):DE X (.BinOp a .BitAnd b pos) (qD qDC ta tb):=qEa qOf ha hb
theorem qQ1 (hu:X.A.units+16<cLine) (ha:DE X a ta) (hb:DE X b tb) (hm:behindInMarks .Eq b=false):DE X (.Compare a [.Eq] [b] pos) (qD (qg false) ta tb):=qD2 (qOG hu) ha hb hm
theorem qQi (hu:X.A.units+16<cLine) (ha:DE X a ta) (hb:DE X b tb) (hm:behindInMarks .Eq b=false):DT X (.Compare a [.Eq] [b] pos) (qH (qD (qg false) ta tb)):=qCi (qOG hu) ha hb hm
theorem qRi (hu:X.A.units+16<cLine) (ha:DE X a ta) (hb:DE X b tb) (hm:behindInMarks .NotEq b=false):DE X (.Compare a [.NotEq] [b] pos) (qD (qg true) ta tb):=qD2 (qOO hu) ha hb hm
theorem qPv (hu:X.A.units+16<cLine) (ha:DE X a ta) (hb:DE X b tb) (hm:behindInMarks .NotEq b=false):DT X (.Compare a [.NotEq] [b] pos) (qH (qD (qg true) ta tb)):=qCi (qOO hu) ha hb hm
theorem qQw (ha:DE X a ta) (hb:DE X b tb) (hm:behindInMarks .Lt b=false):DE X (.Compare a [.Lt] [b] pos) (qD (qAD fun i j=>decide (i<j)) ta tb):=qD2 qOE ha hb hm
theorem qOr (ha:DE X a ta) (hb:DE X b tb) (hm:behindInMarks .Lt b=false):DT X (.Compare a [.Lt] [b] pos) (qH (qD (qAD fun i j=>decide (i<j)) ta tb)):=qCi qOE ha hb hm
theorem qQF (ha:DE X a ta) (hb:DE X b tb) (hm:behindInMarks .Gt b=false):DT X (.Compare a [.Gt] [b] pos) (qH (qD (qAD fun i j=>decide (j<i)) ta tb)):=qCi qSF ha hb hm
theorem qQy (ha:DE X a ta) (hb:DE X b tb) (hm:behindInMarks .GtE b=false):DE X (.Compare a [.GtE] [b] pos) (qD (qAD fun i j=>decide (j≤i)) ta tb):=qD2 qR5 ha hb hm
theorem qRd (ha:DE X a ta) (hb:DE X b tb) (hm:behindInMarks .In b=false):DE X (.Compare a [.In] [b] pos) (qD (qB6 false) ta tb):=qD2 qOP ha hb hm
theorem qOo (ha:DE X a ta) (hb:DE X b tb) (hm:behindInMarks .In b=false):DT X (.Compare a [.In] [b] pos) (qH (qD (qB6 false) ta tb)):=qCi qOP ha hb hm
theorem qKp (ha:DE X a ta) (hb:DE X b tb) (hm:behindInMarks .NotIn b=false):DT X (.Compare a [.NotIn] [b] pos) (qH (qD (qB6 true) ta tb)):=qCi qMP ha hb hm
theorem qQR (ha:DE X a ta) (hb:DE X b tb) (hm:behindInMarks .Is b=false):DT X (.Compare a [.Is] [b] pos) (qH (qD (qES false) ta tb)):=qCi qSG ha hb hm
theorem qLZ (ha:DE X a ta) (hb:DE X b tb) (hm:behindInMarks .IsNot b=false):DE X (.Compare a [.IsNot] [b] pos) (qD (qES true) ta tb):=qD2 qHr ha hb hm
theorem qKi (ha:DE X a ta) (hb:DE X b tb) (hm:behindInMarks .IsNot b=false):DT X (.Compare a [.IsNot] [b] pos) (qH (qD (qES true) ta tb)):=qCi qHr ha hb hm
theorem qKO (ha:DE X a ta) (hb:DE X b tb) (hc:DE X c tc) (hm:lastMarks [.LtE,.Lt] [b,c]=false):DT X (.Compare a [.LtE,.Lt] [b,c] pos) (qH (qCC (fun i j=>decide (i≤j)) (fun i j=>decide (i<j)) ta tb tc)):=qMK qRX qOK ha hb hc hm
theorem qO2 {e:Expr} {es:List Expr} {t:TAD} {p:Pos} (hm:X.mg "len" = none) (ha:DA X (e::es) t) (hg:Gl X "len") (he:starEach (e::es) X.env=(false,eval e X.env)::starEach es X.env) (hpl:(backTo pos (starEach es X.env)).any (·.1)=false):DE X (.Call (.Name "len" p) (e::es) [] pos) (qF qAq t):=qIQ qPG hm PySem.boot_len ha hg (by decide) (by decide) he hpl
theorem qKJ {e:Expr} {es:List Expr} {t:TAD} {p:Pos} (hm:X.mg "isinstance" = none) (ha:DA X (e::es) t) (hg:Gl X "isinstance") (he:starEach (e::es) X.env=(false,eval e X.env)::starEach es X.env) (hpl:(backTo pos (starEach es X.env)).any (·.1)=false):DE X (.Call (.Name "isinstance" p) (e::es) [] pos) (qF qCT t):=qIQ qKn hm boot_isinstance ha hg (by decide) (by decide) he hpl
theorem qMa {e:Expr} {es:List Expr} {t:TAD} {p:Pos} (hm:X.mg "tuple" = none) (ha:DA X (e::es) t) (hg:Gl X "tuple") (he:starEach (e::es) X.env=(false,eval e X.env)::starEach es X.env) (hpl:(backTo pos (starEach es X.env)).any (·.1)=false):DE X (.Call (.Name "tuple" p) (e::es) [] pos) (qF qi t):=qGY qLQ hm PyProof.Rows.boot_tuple ha hg (by decide) (by decide) he hpl
theorem qI9 (hm:X.mg "tuple" = none) (hg:Gl X "tuple"):DE X (.Name "tuple" pos) (qC (.ty "tuple")):=qQ6 hm PyProof.Rows.boot_tuple hg
end
noncomputable def qE0 (so:Scope) (N:List Str) (caps:List (Nat×Str)) (sc:Scope):Bool :=
  decide (sc.kind = .function)&&(sc.names.all fun y=>decide (y.2≠.cell))&&(sc.names.all fun y=>decide (y.2 = .local→sc.names.lookup y.1=some .local))&&(sc.names.all fun y=>decide (y.2 = .free→so.names.lookup y.1=some .cell)) &&
    (caps.all fun p=>decide (N[p.1]? = some p.2∧so.names.lookup p.2=some .cell∧sc.names.lookup p.2=some .free))
theorem qIS {so:Scope} {N:List Str} {caps:List (Nat×Str)} {sc:Scope} (h:qE0 so N caps sc=true):qAN so N caps sc:=by
  unfold qE0 at h
  simp only [Bool.and_eq_true] at h
  obtain⟨⟨⟨⟨h1,h2⟩,h3⟩,h4⟩,h5⟩:=h
  exact⟨of_decide_eq_true h1,fun y hy=>of_decide_eq_true (List.all_eq_true.mp h2 y hy),fun y hy=>of_decide_eq_true (List.all_eq_true.mp h3 y hy),fun y hy=>of_decide_eq_true (List.all_eq_true.mp h4 y hy),fun y hy=>of_decide_eq_true (List.all_eq_true.mp h5 y hy)⟩
theorem qHc {so:Scope} {N:List Str} {caps:List (Nat×Str)} {sc:Scope} (_:Hint caps) (h:qE0 so N caps sc=true):qAN so N caps sc:=qIS h
def qH3:RDL:=fun ds st P=>∃ ns:List Int,ds=[.lst 0]∧st=[.ro (ns.map .int)]∧ns.length≤63∧∀ st',P (.bl true) st'
theorem DL.ints {K:W.Frag} {φ:Nat→Addr} {N:Nat} {H:Hp}:∀ ns:List Int,DL K φ N H (ns.map .int) (ns.map V.int)
  | []=>.nil
  | n::ns=>.cons D.mkInt (DL.ints ns)
theorem qLf {l:W.OpenLaw} {q:Program} {loose:List Str} {XP:(Str→Option Value)→Heap→Prop} {YP:World→Heap→Prop} {d:DefRec} {K:Params→W.Frag} (k:Nat) (hn:l.most=some 63) (hdf:d.params.defaults=[]) (hr:qAd k callerA)
    (hY:∀ (w:World) (h:Heap),YP w h→(K w.params).In h)
    (F:∀ (w:World) (mg:Str→Option Value) (fa:Addr) (h:Heap),(K w.params).In h→h.Ns mainGlobals mg→mg d.name=some (.ref fa) →
      ∃ fd:FuncData,(∀ (s:Shared) (u:Value),BindsTo s fd ⟨[u],[]⟩ [("script",u)])∧∀ base:Heap,(K w.params).In base→base.Ns mainGlobals mg→qx l.prog w (K w.params) mg base CX0 k fa fd ["script"] (qQ (K w.params) qH3)) :
    W.WalkO q loose XP YP l.row.toRowW d [] (fun f vs=>PySem.call f vs):=by
  refine L2.qM0 (n:=63) (k:=k) (x:= "script") (CX:=fun _=>CX0) (sp:=fun w=>qQ (K w.params) qH3) hn (by decide) hdf hr hY F (fun w H a ns hl hO hS=>?_) fun _ _ _ _ _ z=>z
  have hR:SqR (K w.params) H a (ns.map V.int):=by
    rcases hS with (h | h) | h
    · rcases hO a with z | ⟨o,xs,z⟩
      · rw [h] at z;cases z
      · rw [h] at z;cases z
    · exact .inl h
    · exact .inr h
  refine⟨fun _=>a,[.ro (ns.map .int)],[.lst 0],fun d st'=>d = .bl true,⟨fun i j x y e _ hw=>?_,fun i x e=>?_⟩,.cons (D.qOQ (by show 0<1;decide) ⟨_,hR.sq⟩) .nil,⟨ns,rfl,rfl,hl,fun _=>rfl⟩,fun d st' hd φ' H' u b du=>by rw [hd] at du;exact du.bl⟩
  · cases i with
    | zero=>simp at e;subst e;cases hw
    | succ i=>simp at e
  · cases i with
    | zero =>
      simp at e
      subst e
      exact⟨ns.map V.int,hR,DL.ints ns⟩
    | succ i=>simp at e
end L3
namespace L3
open PySem PySem.Spec PyProof.Rows L2
noncomputable def qBP:Nat→List Dt→List Dt
  | _,[]=>[]
  | n,d::ds=>.tup [.int (n:Nat),d]::qBP (n+1) ds
theorem qCs:∀ {ds:List Dt} {n i:Nat} {x:Dt},(qBP n ds)[i]? = some x→∃ d,ds[i]? = some d∧x = .tup [.int ((n+i:Nat)),d]
  | [],_,_,_,h=>by simp [qBP] at h
  | d::ds,n,0,x,h=>by
    simp [qBP] at h
    exact⟨d,rfl,by rw [← h];rfl⟩
  | d::ds,n,i+1,x,h=>by
    obtain⟨e,h1,h2⟩:=qCs (ds:=ds) (n:=n+1) (i:=i) (x:=x) (by simpa [qBP] using h)
    exact⟨e,by simpa using h1,by rw [h2,show n+1+i=n+(i+1) by omega]⟩
theorem qBk:∀ {ds:List Dt} {n:Nat},(qBP n ds).length=ds.length
  | [],_=>rfl
  | d::ds,n=>by simp [qBP,qBk]
section
variable {X:Cx} {a:Expr} {elts:List Expr} {x1:Nat} {tpos pos p:Pos} {te:TD}
structure qKF (K:W.Frag) (mg:Str→Option Value) (x:Str) (ds:List Dt):Prop where
  ex:∃ a o vs its n,mg x=some (.ref a)∧K.lookup a=some o∧o.cls = .type "tuple" ∧ o.dict=none∧o.data = .seq its n∧its.size≤sizeLine∧Vals vs its.toList∧∀ φ N H,DL K φ N H ds vs
theorem qKF.con {K:W.Frag} {mg:Str→Option Value} {x:Str} {ds:List Dt} (h:qKF K mg x ds):qAt K mg x (.tup ds):=by
  obtain⟨a,o,vs,its,n,h1,h2,h3,h4,h5,h6,h7,h8⟩:=h.ex
  exact⟨.ref a,_,h1,rfl,fun φ N H=>.qBs (.inr ⟨o,its,n,h2,h3,h5,h6,h7⟩) (h8 φ N H)⟩
def qHP (ds:List Dt) (te:TD):TD:=fun ρ st P=>te ρ st fun y st1=>okD 0 y=true∧ds.all (okD 0)=true∧(match ds.findIdx? (fun z=>eqD 0 z y) with
  | some j=>P (.int (j:Nat)) st1
  | none=>False)
end
noncomputable def qBV:List Value→List Str→Bool
  | [],[]=>true
  | .str x _::us,s::ss=>x==s&&qBV us ss
  | _,_=>false
theorem qGc:∀ {us:List Value} {ss:List Str},qBV us ss=true→Vals (ss.map V.str) us
  | [],[],_=>.nil
  | [],_::_,h=>by simp [qBV] at h
  | u::us,[],h=>by cases u<;>simp [qBV] at h
  | u :: us,s::ss,h=>by
    cases u with
    | str x t =>
      rw [qBV,Bool.and_eq_true] at h
      have e:x=s:=eq_of_beq h.1
      subst e
      exact .cons ⟨t,rfl⟩ (qGc h.2)
    | _=>simp [qBV] at h
theorem DL.strs {K:W.Frag} {φ:Nat→Addr} {N:Nat} {H:Hp}:∀ ss:List Str,DL K φ N H (ss.map .str) (ss.map V.str)
  | []=>.nil
  | n::ns=>.cons D.mkStr (DL.strs ns)
theorem qGS {K:W.Frag} {mg:Str→Option Value} {x:Str} {a:Addr} {its:Array Value} {n:Nat} {sl:Array (Option Value)} {ss:List Str} (hm:mg x=some (.ref a)) (l:K.lookup a=some ⟨.type "tuple",none,.seq its n,sl⟩) (v:qBV its.toList ss=true) (sz:its.size≤sizeLine) :
    qKF K mg x (ss.map .str):=⟨a,_,ss.map V.str,its,n,hm,l,rfl,rfl,rfl,sz,qGc v,fun _ _ _=>DL.strs ss⟩
theorem qBo {K:W.Frag} {mg:Str→Option Value} {x:Str} {i:Int} {t:Tok} (hm:mg x=some (.int i t)):qAt K mg x (.int i):=⟨.int i,_,hm,⟨t,rfl⟩,fun _ _ _=>D.mkInt⟩
def qDi:RDL:=fun ds st P=>match ds with
  | [x]=>(match x with
    | .bl k=>P (.int (if k then 1 else 0)) st
    | .int i=>P (.int i) st
    | _=>False)
  | _=>False
theorem qPr {X:Cx}:qGL X (.type "int") qDi:=by
  intro pins s σ H vs us Q I rv h
  obtain⟨φ,st,ds,P,R,dl,hr,hq⟩:=h
  rcases ds with _ | ⟨x,_ | ⟨y,r⟩⟩
  · exact hr.elim
  rotate_left
  · exact hr.elim
  · obtain⟨v,rfl,dx⟩:=dl.one
    cases x with
    | bl k=>exact qGm pins s σ H [v] us Q I rv (.inr ⟨k,by rw [dx.bl],Go.here hq R hr D.mkInt⟩)
    | int k=>exact qGm pins s σ H [v] us Q I rv (.inl ⟨k,by rw [dx.int],Go.here hq R hr D.mkInt⟩)
    | _=>exact hr.elim
theorem qPw {X:Cx} {pos:Pos} {e:Expr} {es:List Expr} {t:TAD} {p:Pos} (hm:X.mg "int" = none) (ha:DA X (e::es) t) (hg:Gl X "int") (he:starEach (e::es) X.env=(false,eval e X.env)::starEach es X.env) (hpl:(backTo pos (starEach es X.env)).any (·.1)=false):DE X (.Call (.Name "int" p) (e::es) [] pos) (qF qDi t):=qGY qPr hm PyProof.Rows.boot_int ha hg (by decide) (by decide) he hpl
structure qSD (caps:List (Nat×Str)):Prop where
  ok:True
theorem qFM {so:Scope} {N:List Str} {caps:List (Nat×Str)} {sc:Scope} (_:qSD caps) (h:qE0 so N caps sc=true):qAN so N caps sc:=qIS h
theorem qe {st:Sto} {i:Nat} {o x:SO} (h:st[i]? = some o):(st++[x])[i]? = some o:=by
  rw [List.getElem?_append_left (qAC h)];exact h
theorem qT {st:Sto} {i j:Nat} {o x:SO} (h:st[i]? = some o) (hne:j≠i):(st.set j x)[i]? = some o:=by
  rw [List.getElem?_set_ne hne];exact h
theorem ql {st:Sto} {i:Nat} {o x:SO} (h:st[i]? = some o):(st.set i x)[i]? = some x:=by
  rw [List.getElem?_set_self (qAC h)]
theorem qK {st:Sto} {x:SO}:(st++[x])[st.length]? = some x:=by simp
def qU (st st':Sto):Prop:=∀ (i:Nat) o,st[i]? = some o→st'[i]? = some o
theorem qU.refl (st:Sto):qU st st:=fun _ _ h=>h
theorem qU.trans {a b c:Sto} (h:qU a b) (h':qU b c):qU a c:=fun i o q=>h' i o (h i o q)
theorem qU.app (st:Sto) (x:SO):qU st (st++[x]):=fun _ _ h=>qe h
noncomputable abbrev Ed (Pd:VD):qBH:={ nx:=fun _ st'=>Pd .non st',rt:=Pd }
theorem qLn {i j:Int} (h1:0≤j) (h2:j<4294967296):qKQ i j:=.inr ⟨by omega,by omega⟩
theorem qCw {i j:Int} (h1:0≤i) (h2:i<4294967296):qKQ i j:=.inl ⟨by omega,by omega⟩
theorem small {n:Nat} (h:n<1000):n<sizeLine:=Nat.lt_trans h (by decide)
theorem cdiv {i j:Int} (h1:0<j) (h2:j<1073741824):qK7 i j:=⟨h1,h2⟩
end L3
namespace L3
open PySem PySem.Spec PyProof.Rows L2
theorem hu1 {k:Nat} {A:Around} (r:qAd k A):A.units+1<cLine:=by have:=r.units;omega
end L3
namespace L3
open PySem PySem.Spec PyProof.Rows L2
end L3
namespace L3
open PySem PySem.Spec PyProof.Rows L2
section
variable {X:Cx} {a b c:Expr} {ta tb tc:TD} {pos:Pos}
def qJ8 (ta:TD):TD:=fun ρ st P=>ta ρ st fun d st1=>match d with
  | .int i=>P (.int (-i)) st1
  | _=>False
theorem qQD (ha:DE X a ta):DE X (.UnaryOp .USub a pos) (qJ8 ta):=(qRF qQS ha).imp fun σ H Q h=>by
  k_dat 0"r0"
  k_dat 0"r34"
  cases d with
  | int i=>exact⟨i,dx.int,hq _ st1 h1 φ1 H1 _ b1 D.mkInt⟩
  | _=>exact h1.elim
def qLJ (ta tb:TD):TID:=fun ρ st P=>ta ρ st fun x st1=>tb ρ st1 fun y st2=>match x,y with
  | .int i,.int j=>(-(2 ^ 62)≤i∧i<2 ^ 62∧-(2 ^ 62)≤j∧j<2 ^ 62)∧P (qAu i (j - i).toNat) (fun _=>True) st2
  | _,_=>False
theorem qKH {tg:Expr} {p:Pos} (hm:X.mg "range" = none) (ha:DE X a ta) (hb:DE X b tb) (hg:Gl X "range") (hs:starEach [a,b] X.env=[(false,eval a X.env),(false,eval b X.env)]) (hs2:starEach [b] X.env=[(false,eval b X.env)]):DI X tg (.Call (.Name "range" p) [a,b] [] pos) (qLJ ta tb):=by
  intro pins s σ H R I h
  refine qKt hg hm (qBU ha (qBU hb qDI hs2) (by rw [hs,hs2])) hs hs2 pins s σ H R I ?_
  k_dat 0"r0"
  refine⟨φ,st,ρ,(fun ds st1=>match ds with
    | [x,y]=>(match x,y with
      | .int i,.int j=>(-(2 ^ 62)≤i∧i<2 ^ 62∧-(2 ^ 62)≤j∧j<2 ^ 62)∧P (qAu i (j - i).toNat) (fun _=>True) st1
      | _,_=>False)
    | _=>False),pre,?_,fun ds st1 h1 φ1 H1 vs b1 dl=>?_⟩
  · exact ht
  · rcases ds with _ | ⟨d,_ | ⟨d2,_ | ⟨d3,r⟩⟩⟩
    · exact h1.elim
    · exact h1.elim
    rotate_left
    · exact h1.elim
    · cases d with
      | int i =>
        cases d2 with
        | int j =>
          obtain⟨v,w,rfl,dv,dw⟩:=dl.two
          obtain⟨h2,h4⟩:=h1
          exact⟨i,j,by rw [dv.int,dw.int],h2,hq _ _ st1 h4 φ1 H1 _ b1 qDj⟩
        | _=>exact h1.elim
      | _=>cases d2<;>exact h1.elim
end
end L3
namespace L3
open PySem PySem.Spec PyProof.Rows L2
open AutoSeq1 (wpAny_loadPart')
end L3
namespace HT
open PySem PySem.Spec PyProof.Rows
section
variable {prog:Program} {w:World} {A:Around} {E:Value→Shared→Prop} {s:Shared}
theorem qDB {t sl:Addr} {items:Array Value} {vl vu:Value} {lo hi:Option Int} {Q:Value→Shared→Prop} (ht:IsTup s.heap t items) (hs:s.heap.IsSliceOf sl vl vu .none) (pl:IsPart vl lo) (pu:IsPart vu hi)
    (hw:sIx items.size 0 lo=0∧sIx items.size items.size hi=items.size) (h:Q (.ref t) s):wpAny (model prog w) A (getItem (.ref t) (.ref sl)) Q E s:=by
  obtain⟨os,hos,hcs,hds⟩:=id hs
  have hTs:s.TypeIs (.ref sl) "slice":=⟨os,hos,hcs⟩
  unfold getItem
  try with_reducible refine wpAny_holding ?_
  first | refine wpAny_bind (wpAny_pure ?_) | skip
  refine wpAny_bind (wpAny_sequenceKey ht.typeIs (by decide) ?_)
  refine wpAny_bind (wpAny_callSpecial?_slot (name:=Str.ofString "__getitem__") ht.typeIs PyProof.Rows.slot_tuple_getitem
    (wpAny_call_entry PyProof.Rows.slot_tuple_getitem ht.typeIs entry_tuple_getitem ?_ (args_tuple_getitem _ _)))
  show wpAny _ _ (Builtin.Tuple.tupleItemsOf (.ref t) >>= _) _ _ s
  refine wpAny_bind (tupleItemsOf_ ht ?_)
  refine wpAny_bind (wpAny_typeOf hTs ?_)
  rw [if_pos (by decide)]
  refine wpAny_bind (qB5 hs pl pu ?_)
  have hyes:(((sIx items.size 0 lo:Nat):Int)==0&&(1:Int)==1&&(sIx items.size items.size hi - sIx items.size 0 lo)==items.size)=true:=by
    rw [hw.1,hw.2];simp
  k_dat 0"r93"
  rw [if_pos hyes]
  unfold Builtin.Tuple.tupleIsExact
  refine wpAny_bind (wpAny_bind (wpAny_typeOf ht.typeIs (wpAny_pure ?_)))
  rw [if_pos (by decide)]
  first
    | exact wpAny_bind (wpAny_pure (wpAny_pure ⟨_,rfl,wpAny_pure h⟩))
    | exact wpAny_bind (wpAny_rule (wpAny_bind (wpAny_pure (wpAny_pure ⟨_,rfl,wpAny_pure h⟩))))
    | exact wpAny_bind (wpAny_rule (wpAny_bind (wpAny_pure ⟨_,rfl,wpAny_pure h⟩)))
    | exact wpAny_pure ⟨_,rfl,wpAny_pure h⟩
    | exact wpAny_bind (wpAny_pure ⟨_,rfl,wpAny_pure h⟩)
end
end HT
namespace L3
open PySem PySem.Spec PyProof.Rows L2
noncomputable def qSc (K:W.Frag):V→Option Int→Option Int→Hp→VK→Prop:=fun x lo hi H Q=>∃ a xs,x = .ref a∧SqT K H a xs∧(HT.sIx xs.length 0 lo=0∧HT.sIx xs.length xs.length hi=xs.length)∧Q (.ref a) H
section
variable {X:Cx}
theorem qLB:SlR X (qSc X.K):=by
  k_dat 0"r76"
  obtain⟨a,xs,rfl,hx,hw,q⟩:=h
  cases rx
  obtain⟨its,r,ht,hz⟩:=I.tuple hx
  have hlen:its.toArray.size=xs.length:=by rw [List.size_toArray];exact r.length.symm
  refine⟨"tuple",_,PyProof.Rows.slot_tuple_getitem.lookup,ht.typeIs,?_⟩
  exact HT.qDB ht hs pl pu (by rw [hlen];exact hw) ⟨.ref a,H,I,rfl,q⟩
def qAE (te:TD) (tl th:TOD):TD:=fun ρ st P=>te ρ st fun x st1=>tl ρ st1 fun lo st2=>th ρ st2 fun hi st3=>match x with
  | .tup xs=>P (.tup (cutD xs lo hi)) st3
  | .lst n=>(match st3[n]? with
    | some o=>P (.lst st3.length) (st3++[.rw (cutD o.items lo hi)])
    | none=>False)
  | _=>False
theorem qKr {xs:List Dt} {lo hi:Option Int} (h:HT.sIx xs.length 0 lo=0∧HT.sIx xs.length xs.length hi=xs.length):cutD xs lo hi=xs:=by
  unfold cutD
  rw [h.1,h.2]
  simp
theorem qKP {e:Expr} {lo hi:Option Expr} {te:TD} {tl th:TOD} {pos p2:Pos} (he:DE X e te) (hl:DO X lo tl) (hu:DO X hi th):DE X (.Subscript e (.Slice lo hi none p2) pos) (qAE te tl th):=by
  refine PE.imp (qIH ((qLc.or qJe).or qLB) he hl hu) fun σ H Q h=>?_
  k_dat 0"r0"
  k_dat 0"r15"
  refine⟨φ1,st1,ρ,_,pre.on b1,h1,fun l st2 h2 φ2 H2 b2=>?_⟩
  refine⟨φ2,st2,ρ,_,(pre.on b1).on b2,h2,fun u st3 h3 φ3 H3 b3=>?_⟩
  have b:=b1.trans (b2.trans b3)
  have dx3:=(dx.evo b2.2).evo b3.2
  cases x with
  | tup xs =>
    obtain⟨a,vs,e1,s1,d1⟩:=dx3.tup
    have h3':P (.tup (cutD xs l u)) st3:=h3
    by_cases hw:HT.sIx xs.length 0 l=0∧HT.sIx xs.length xs.length u=xs.length
    · rw [qKr hw] at h3'
      exact .inr ⟨a,vs,e1,s1,by rw [← d1.length];exact hw,hq _ st3 h3' φ3 _ _ b (by rw [← e1];exact dx3)⟩
    refine .inl (.inl ⟨a,vs,e1,s1,by rw [← d1.length];exact hw,fun p hp=>hq _ st3 h3' φ3 _ _ (b.trans (qAv b3.1 hp)) (.qBs (SqT.of qY) ?_)⟩)
    unfold cutD qEo
    rw [← d1.length]
    exact ((d1.drop _).take _).evo (qAh hp)
  | lst n =>
    have h3':(match st3[n]? with
      | some o=>P (.lst st3.length) (st3++[.rw (cutD o.items l u)])
      | none=>False):=h3
    split at h3'
    · rename_i o eo
      obtain⟨vs,s1,d1⟩:=b3.1.seq eo dx3.isL
      refine .inl (.inr ⟨φ3 n,vs,dx3.lst.2,s1,fun p hp=>?_⟩)
      have:DL X.K φ3 st3.length H3 (cutD o.items l u) (qEo vs l u):=by
        unfold cutD qEo
        rw [← d1.length]
        exact (d1.drop _).take _
      exact hq _ _ h3' _ _ _ (b.trans (qCQ b3.1 hp this)) qFH
    · exact h3'.elim
  | _=>exact h3.elim
end
end L3
namespace L3
open PySem PySem.Spec PyProof.Rows L2
end L3
namespace L3
open PySem PySem.Spec PyProof.Rows L2
end L3
namespace L3
open PySem PySem.Spec PyProof.Rows L2
end L3
namespace HT
open PySem PySem.Spec PyProof.Rows
end HT
namespace L3
open PySem PySem.Spec PyProof.Rows L2
end L3
namespace L3
open PySem PySem.Spec PyProof.Rows L2
theorem qNo (l:Addr) (xs:Array Value) (n:Nat) (b:Addr) (ys:Array Value) (m:Nat) (dd:Option Addr) (sl:Array (Option Value)) (h0:¬(!xs.isEmpty&&Builtin.List.listTooLong (xs.size+ys.size))=true) (h1:xs.size≤sizeLine) (h2:xs.size+ys.size≤sizeLine+1) :
    Meets (Builtin.«list.extend» ⟨[.ref l,.ref b],[]⟩) (fun _ R s=>s.heap.get? l=some { cls:=.type "list",dict:=none,data:=.seq xs n,slots:=#[] } ∧
      s.heap.get? b=some { cls:=.type "tuple",dict:=dd,data:=.seq ys m,slots:=sl } ∧
      R (.ok (.ret Value.none)) { s with heap:=s.heap.update l (Obj.mapSeq fun x=>x++ys),toks:=s.toks }) :=
  .of_wp fun prog w A R s h=>by
    obtain⟨hp,g,d,tk,os⟩:=s
    obtain⟨hl,hb,h⟩:=h
    have f1:=AutoSeq1.idx_int
    have f2:=AutoSeq1.sub_tuple_tuple
    have f3:=AutoSeq1.sub_list_list
    have f4:=AutoSeq1.sub_tuple_list
    have f5:=AutoSeq1.sub_list_tuple
    have hz:(xs++ys).size≤sizeLine+1:=by rw [Array.size_append];exact h2
    wp_walk using (wpAny_updateSeq hl rfl (hz:=h1) (_hz':=hz)),AutoSeq1.wpAny_loadPart' hl,AutoSeq1.wpAny_loadPart' hb
    exact⟨_,rfl,h⟩
section
variable {X:Cx} {e:Expr} {te:TD} {pos:Pos}
noncomputable def qK6 (K:W.Frag):V→List V→Hp→VK→Prop:=fun x vs H Q=>∃ l b xs zs,x = .ref l∧vs=[.ref b]∧H l=some (.lst xs)∧SqT K H b zs∧xs.length+zs.length≤sizeLine∧Q .non (upd H l (.lst (xs++zs)))
theorem qI0:MtM X "list.extend" (qK6 X.K):=by
  intro pins s σ H x vs v us Q I rx rv h
  obtain⟨l,b,xs,zs,rfl,rfl,hH,hB,hz,q⟩:=h
  cases rx
  obtain⟨u,rfl,ru⟩:=rv.one
  cases ru
  obtain⟨z,its,n,r,hl,e⟩:=I.qLP hH
  obtain⟨its2,r2,ht,hz2⟩:=I.tuple hB
  have hl2:its2.length=zs.length:=r2.length.symm
  obtain⟨⟨cls,dd,data,sl⟩,ho,hc,n2,hd⟩:=ht
  simp only at hc hd
  subst hc hd
  have hsz:its.toArray.size+its2.toArray.size≤sizeLine:=by rw [List.size_toArray,List.size_toArray];omega
  have hlong:¬ (!its.toArray.isEmpty&&Builtin.List.listTooLong (its.toArray.size+its2.toArray.size))=true:=by
    rw [qHw hsz,Bool.and_false]
    exact Bool.false_ne_true
  refine call_meets F.slot_list_extend ⟨_,e,rfl⟩ F.entry_list_extend (F.args_list_extend_2 _ _)
    (qNo l its.toArray n b its2.toArray n2 dd sl hlong (by rw [List.size_toArray];omega) (by omega)) ⟨e,ho,?_⟩
  refine⟨.non,_,I.qRl (its':=its++its2) hH e (by simp) (r.append r2) ?_,rfl,q⟩
  rw [List.length_append]
  omega
def qE3 (to te:TD):TD:=fun ρ st P=>to ρ st fun o st1=>match o with
  | .lst n=>te ρ st1 fun d st2=>(match d with
    | .tup ds=>(match st2[n]? with
      | some (.rw xs)=>xs.length+ds.length≤sizeLine∧P .non (st2.set n (.rw (xs++ds)))
      | _=>False)
    | _=>False)
  | _=>False
theorem qKs {o:Expr} {to:TD} {apos cpos:Pos} (ho:DE X o to) (he:DE X e te)
    (hbase:attributeBase o "extend" X.env (eval o X.env)=eval o X.env)
    (hfew:((backTo cpos (starEach [e] X.env)).all (fun x=>!x.1)&&(backToKw cpos (keywordEach [] X.env)).all (fun x=>x.1.isSome)
      && decide (([e]:List Expr).length+([]:List Keyword).length+(if ([]:List Keyword).isEmpty then 0 else 1)<30))=true)
    (hline:(apos.endLine==cpos.line)=true) (hs:starEach [e] X.env=(false,eval e X.env)::starEach [] X.env) (hplain:(backTo cpos (starEach ([]:List Expr) X.env)).any (·.1)=false) :
    DE X (.Call (.Attribute o "extend" apos) [e] [] cpos) (qE3 to te):=by
  refine PE.imp (qON PySem.F.plainAttrs_list PySem.F.slot_list_extend PySem.F.type_list_extend qI0 ho (qBU he qDI hs) hbase hfew hline hs hplain) fun σ H Q h=>?_
  k_dat 0"r0"
  k_dat 0"r15"
  cases x with
  | lst n =>
    have hn:=dx.lst.1
    obtain⟨so,eo⟩:∃ so,st1[n]? = some so:=⟨st1[n],by simp [hn]⟩
    obtain⟨ws,hws,_⟩:=b1.1.seq eo dx.isL
    refine⟨?_,?_⟩
    · rw [dx.lst.2]
      exact .inl ⟨rfl,ws,hws⟩
    refine⟨φ1,st1,ρ,(fun ds st2=>match ds with
      | [.tup zs]=>(match st2[n]? with
        | some (.rw xs)=>xs.length+zs.length≤sizeLine∧P .non (st2.set n (.rw (xs++zs)))
        | _=>False)
      | _=>False),pre.on b1,?_,fun ds st2 h2 φ2 H2 zs b2 dz=>?_⟩
    · show te ρ st1 fun d st2=>_
      have h1:te ρ st1 fun d st2=>(match d with
        | .tup ds=>(match st2[n]? with
          | some (.rw xs)=>xs.length+ds.length≤sizeLine∧P .non (st2.set n (.rw (xs++ds)))
          | _=>False)
        | _=>False):=h1
      have e:(fun (d:Dt) (st2:Sto)=>(match d with
        | .tup ds=>(match st2[n]? with
          | some (.rw xs)=>xs.length+ds.length≤sizeLine∧P .non (st2.set n (.rw (xs++ds)))
          | _=>False)
        | _ => False))=(fun x st1=>qE ρ st1 fun xs st2=>(match x::xs with
          | [.tup zs]=>(match st2[n]? with
            | some (.rw xs)=>xs.length+zs.length≤sizeLine∧P .non (st2.set n (.rw (xs++zs)))
            | _=>False)
          | _=>False)):=by
        funext d st2
        cases d<;>rfl
      rw [e] at h1
      exact h1
    k_dat 0"r51"
    · exact h2.elim
    rotate_left
    · cases d<;>exact h2.elim
    · cases d with
      | tup ts =>
        have h2:(match st2[n]? with
          | some (.rw xs)=>xs.length+ts.length≤sizeLine∧P .non (st2.set n (.rw (xs++ts)))
          | _=>False):=h2
        split at h2
        · rename_i xs ex
          obtain⟨y,rfl,dy⟩:=dz.one
          obtain⟨a,us,e1,s1,d1⟩:=dy.tup
          subst e1
          obtain⟨vs,hv,dl⟩:=b2.1.rw n xs ex
          have dx2:=dx.evo b2.2
          have bb:Bhd X.K φ2 st2 H2 φ2 (st2.set n (.rw (xs++ts))) (upd H2 (φ2 n) (.lst (vs++us))):=⟨b2.1.qOe ex (dl.append d1),qEx hv⟩
          exact⟨φ2 n,a,vs,us,dx2.lst.2,rfl,hv,s1,by rw [← dl.length,← d1.length];exact h2.1,hq _ _ h2.2 φ2 _ _ (b1.trans (b2.trans bb)) D.qJX⟩
        · exact h2.elim
      | _=>exact h2.elim
  | _=>exact h1.elim
def qML (i:Nat) (te:TD):TSD:=fun E ρ st=>match ρ[i]? with
  | some (some (.int x))=>te ρ st fun d st1=>(match d with
    | .int y=>E.nx (ρ.set i (some (.int (x+y)))) st1
    | _=>False)
  | _=>False
theorem qPJ (i:Nat) {x:Str} {pos':Pos} (hN:X.N.Nodup) (he:DE X e te) (hi:X.N[i]? = some x) (hx:Loc X.env.scope x) (hf:X.fn x=true∨X.env.scope.names.lookup x=some .local):DS X (.AugAssign (.Name x pos') .Add e pos) (qML i te):=by
  refine PS.imp (qOc hN hi hx he (fun pins s σ H a b v u Q I ra rb q=>qSX qNJ I ra rb q) hf) fun E σ H h=>?_
  k_dat 0"r12"
  unfold qML at ht
  split at ht
  · rename_i x ex
    obtain⟨v,e1,e2⟩:=pre.2.2 i _ ex
    refine⟨v,e1,φ,st,ρ,_,pre,ht,fun d st1 h1 φ1 H1 w b1 dx=>?_⟩
    cases d with
    | int y =>
      rw [e2.int,dx.int]
      exact⟨x,y,rfl,rfl,n _ st1 h1 φ1 H1 _ b1 ((pre.on b1).2.set D.mkInt i)⟩
    | _=>exact h1.elim
  · exact ht.elim
end
end L3
namespace L3
open PySem PySem.Spec PyProof.Rows L2
end L3
namespace L3
open PySem PySem.Spec PyProof.Rows L2
end L3
namespace L3
open PySem PySem.Spec PyProof.Rows L2
end L3
namespace L3
open PySem PySem.Spec PyProof.Rows L2
end L3
namespace L3
open PySem PySem.Spec PyProof.Rows L2
noncomputable def qHS:Dt→Option Key
  | .int i=>some (.inl i)
  | .str x=>some (.inr x)
  | _=>none
noncomputable def qC9 (kvs:List (Key×Dt)) (k:Key):Option Dt:=(kvs.find? fun kv=>decide (kv.1=k)).map (·.2)
noncomputable def putD (kvs:List (Key×Dt)) (k:Key) (d:Dt):List (Key×Dt) :=
  if (kvs.any fun kv=>decide (kv.1=k))=true then kvs.map (fun kv=>if kv.1=k then (kv.1,d) else kv) else kvs++[(k,d)]
def KD (K:W.Frag) (φ:Nat→Addr) (N:Nat) (H:Hp) (kvs:List (Key×Dt)) (vs:List (Key×V)):Prop:=kvs.map (·.1)=vs.map (·.1)∧DL K φ N H (kvs.map (·.2)) (vs.map (·.2))
section
variable {K:W.Frag} {φ:Nat→Addr} {N:Nat} {H:Hp}
theorem qEL {y:Dt} {k:Key} {v:V} (e:qHS y=some k) (d:D K φ N H y v):v=kV k:=by
  cases y with
  | int i=>cases e;exact d.int
  | str x=>cases e;exact d.str
  | _=>cases e
theorem KD.qBw {k:Key} {d:Dt} {r:List (Key×Dt)} {vs:List (Key×V)} (h:KD K φ N H ((k,d)::r) vs):∃ v r',vs=(k,v)::r'∧D K φ N H d v∧KD K φ N H r r':=by
  obtain⟨h1,h2⟩:=h
  cases vs with
  | nil=>cases h1
  | cons p r' =>
    obtain⟨k',v⟩:=p
    rw [List.map_cons,List.map_cons] at h1
    injection h1 with e1 e2
    have e1:k=k':=e1
    subst e1
    obtain⟨a,b⟩:=DL.qBw (d:=d) (v:=v) h2
    exact⟨v,r',rfl,a,e2,b⟩
theorem KD.cons {k:Key} {d:Dt} {v:V} {r:List (Key×Dt)} {r':List (Key×V)} (a:D K φ N H d v) (h:KD K φ N H r r'):KD K φ N H ((k,d)::r) ((k,v)::r'):=⟨by rw [List.map_cons,List.map_cons,h.1],.cons a h.2⟩
theorem KD.nil:KD K φ N H [] []:=⟨rfl,.nil⟩
theorem KD.qI2 {vs:List (Key×V)} (h:KD K φ N H [] vs):vs=[]:=by
  cases vs with
  | nil=>rfl
  | cons p r=>cases h.1
theorem KD.val:∀ {kvs:List (Key×Dt)} {vs:List (Key×V)} (k:Key),KD K φ N H kvs vs→(qC9 kvs k=none∧qB7 vs k=none)∨∃ d v,qC9 kvs k=some d∧qB7 vs k=some v∧D K φ N H d v
  | [],vs,k,h=>by rw [h.qI2];exact .inl ⟨rfl,rfl⟩
  | (k',d)::r,vs,k,h=>by
    obtain⟨v,r',rfl,dv,h'⟩:=h.qBw
    by_cases e:k'=k
    · exact .inr ⟨d,v,by simp [qC9,List.find?_cons,e],by simp [qB7,List.find?_cons,e],dv⟩
    · have e1:qC9 ((k',d)::r) k=qC9 r k:=by simp [qC9,List.find?_cons,e]
      have e2:qB7 ((k',v)::r') k=qB7 r' k:=by simp [qB7,List.find?_cons,e]
      rw [e1,e2]
      exact h'.val k
theorem KD.any:∀ {kvs:List (Key×Dt)} {vs:List (Key×V)} (k:Key),KD K φ N H kvs vs→(kvs.any fun kv=>decide (kv.1=k))=(vs.any fun kv=>decide (kv.1=k))
  | [],vs,k,h=>by rw [h.qI2];rfl
  | (k',d)::r,vs,k,h=>by
    obtain⟨v,r',rfl,_,h'⟩:=h.qBw
    rw [List.any_cons,List.any_cons,h'.any k]
theorem KD.app:∀ {a b:List (Key×Dt)} {c e:List (Key×V)},KD K φ N H a c→KD K φ N H b e→KD K φ N H (a++b) (c++e)
  | [],b,c,e,h,h'=>by rw [h.qI2];exact h'
  | (k,d)::r,b,c,e,h,h'=>by
    obtain⟨v,r',rfl,dv,h2⟩:=h.qBw
    exact (h2.app h').cons dv
theorem KD.put {d:Dt} {v:V} (dv:D K φ N H d v) (k:Key) {kvs:List (Key×Dt)} {vs:List (Key×V)} (h:KD K φ N H kvs vs):KD K φ N H (putD kvs k d) (putK vs k v):=by
  unfold putD putK
  rw [h.any k]
  split
  · have go:∀ {kvs:List (Key×Dt)} {vs:List (Key×V)},KD K φ N H kvs vs→KD K φ N H (kvs.map fun kv=>if kv.1=k then (kv.1,d) else kv) (vs.map fun kv=>if kv.1=k then (kv.1,v) else kv):=by
      intro kvs
      induction kvs with
      | nil=>intro vs h;rw [h.qI2];exact .nil
      | cons p r ih =>
        intro vs h
        obtain⟨k',d'⟩:=p
        obtain⟨v',r',rfl,dv',h'⟩:=h.qBw
        rw [List.map_cons,List.map_cons]
        by_cases e:k'=k
        · rw [if_pos e,if_pos e];exact (ih h').cons dv
        · rw [if_neg e,if_neg e];exact (ih h').cons dv'
    exact go h
  · exact h.app (KD.cons dv .nil)
theorem KD.length {kvs:List (Key×Dt)} {vs:List (Key×V)} (h:KD K φ N H kvs vs):kvs.length=vs.length:=by
  have:=congrArg List.length h.1
  rwa [List.length_map,List.length_map] at this
theorem Rep.dc {st:Sto} (R:Rep K φ st H) {n:Nat} {kvs:List (Key×Dt)} (e:st[n]? = some (.dc kvs)):∃ vs,H (φ n)=some (.dK vs)∧K.lookup (φ n)=none∧KD K φ st.length H kvs vs:=by
  obtain⟨vs,h1,h2,h3,h4⟩:=R.all n _ e
  exact⟨vs,h1,h2,h3,h4⟩
theorem qLz {st:Sto} {p:Addr} {kvs:List (Key×Dt)} {vs:List (Key×V)} (R:Rep K φ st H) (hp:H p=none) (hk:K.lookup p=none) (hd:KD K φ st.length H kvs vs):Bhd K φ st H (qAZ φ st.length p) (st++[.dc kvs]) (upd H p (.dK vs)) :=
  ⟨R.add hp ⟨vs,qY,hk,hd.1,hd.2.evo (qC0 hp)⟩,qC0 hp⟩
theorem qO4 {st:Sto} {p:Addr} {kvs:List (Key×Dt)} {vs:List (Key×V)}:D K (qAZ φ st.length p) (st++[SO.dc kvs]).length (upd H p (.dK vs)) (.dic st.length) (.ref p):=by
  have:=D.qRG (K:=K) (φ:=qAZ φ st.length p) (H:=upd H p (.dK vs)) (n:=st.length) (N:=(st++[SO.dc kvs]).length) (by simp) (by rw [qCF];exact⟨vs,qY⟩)
  rw [qCF] at this
  exact this
theorem qMA {st:Sto} {n:Nat} {kvs kvs':List (Key×Dt)} {vs':List (Key×V)} (R:Rep K φ st H) (e:st[n]? = some (.dc kvs)) (hd:KD K φ st.length H kvs' vs'):Bhd K φ st H φ (st.set n (.dc kvs')) (upd H (φ n) (.dK vs')):=by
  obtain⟨vs,h1,h2,h3⟩:=R.dc e
  exact⟨R.put e rfl rfl h1 trivial ⟨vs',qY,h2,hd.1,hd.2.evo (qCj (o:=.dc kvs') (w:=.dK vs') (qAC e) h1 trivial)⟩,qCj (w:=.dK vs') (qAC e) h1 trivial⟩
end
section
variable {X:Cx} {o i:Expr} {to ti:TD} {pos:Pos}
def qG7:TD:=fun _ st P=>P (.dic st.length) (st++[.dc []])
theorem qLO:DE X (.Dict [] [] pos) qG7:=qMN.imp fun σ H Q h=>by
  k_dat 0"r0"
  exact fun p hp hk=>hq _ _ ht _ _ _ (qLz pre.1 hp hk .nil) qO4
noncomputable def qBq (to ti:TD):TGD:=fun d ρ st P=>to ρ st fun o st1=>ti ρ st1 fun i st2=>match o with
  | .dic n=>(match st2[n]?,qHS i with
    | some (.dc kvs),some k=>kvs.length<sizeLine∧P ρ (st2.set n (.dc (putD kvs k d)))
    | _,_=>False)
  | _=>False
theorem qNq {value:Expr} {tv:TD} {pos':Pos} (hu:X.A.units+1<cLine) (ho:DE X o to) (hi:DE X i ti) (hv:DE X value tv) (hs:swapsWith value (some (.Subscript o i pos')) pos.line X.env=pure false) :
    DS X (.Assign [.Subscript o i pos'] value pos) (qO tv (qBq to ti)):=(qNF hu ho hi hv hs).imp fun E σ H h=>by
  k_dat 0"r12"
  refine⟨φ,st,ρ,_,pre,ht,fun d st1 h1 φ1 H1 v b1 dv=>?_⟩
  refine⟨φ1,st1,ρ,_,pre.on b1,h1,fun x st2 h2 φ2 H2 w b2 dx=>?_⟩
  refine⟨φ2,st2,ρ,_,(pre.on b1).on b2,h2,fun y st3 h3 φ3 H3 z b3 dy=>?_⟩
  cases x with
  | dic m =>
    have h3:(match st3[m]?,qHS y with
      | some (.dc kvs),some k=>kvs.length<sizeLine∧P.nx ρ (st3.set m (.dc (putD kvs k d)))
      | _,_=>False):=h3
    split at h3
    · rename_i kvs k e1 e2
      obtain⟨vs,hv,_,hk⟩:=b3.1.dc e1
      have dv3:=dv.evo (b2.trans b3).2
      have bb:=qMA b3.1 e1 (hk.put dv3 k)
      refine⟨φ3 m,_,(dx.evo b3.2).dic.2,by rw [qEL e2 dy];exact qId.k hv (by rw [← hk.length];exact h3.1),?_⟩
      exact n _ _ h3.2 φ3 _ _ (((b1.trans b2).trans b3).trans bb) ((pre.on (((b1.trans b2).trans b3).trans bb)).2)
    · exact h3.elim
  | _=>exact h3.elim
def qFI (to te tf:TD):TD:=fun ρ st P=>to ρ st fun x st1=>match x with
  | .dic n=>te ρ st1 fun y st2=>tf ρ st2 fun z st3=>(match st3[n]?,qHS y with
    | some (.dc kvs),some k=>P ((qC9 kvs k).getD z) st3
    | _,_=>False)
  | _=>False
theorem qK9 {e f:Expr} {te tf:TD} {apos cpos:Pos} (hu:X.A.units+1<cLine) (ho:DE X o to) (he:DE X e te) (hf:DE X f tf) (m:M2 X o "get" apos e f cpos):DE X (.Call (.Attribute o "get" apos) [e,f] [] cpos) (qFI to te tf):=(qMX hu ho he hf m).imp fun σ H Q h=>by
  k_dat 0"r0"
  k_dat 0"r15"
  cases x with
  | dic n =>
    obtain⟨kvs0,hk0⟩:=dx.isD
    refine⟨φ1 n,dx.dic.2,.inl ⟨kvs0,.inl hk0⟩,φ1,st1,ρ,_,pre.on b1,h1,fun y st2 h2 φ2 H2 w b2 dy=>?_⟩
    refine⟨φ2,st2,ρ,_,(pre.on b1).on b2,h2,fun z st3 h3 φ3 H3 u b3 dz=>?_⟩
    have h3:(match st3[n]?,qHS y with
      | some (.dc kvs),some k=>P ((qC9 kvs k).getD z) st3
      | _,_=>False):=h3
    split at h3
    · rename_i kvs k e1 e2
      obtain⟨vs,hv,_,hk⟩:=b3.1.dc e1
      have ea:φ3 n=φ1 n:=(b2.trans b3).2.ext n dx.dic.1
      have g:qIL H3 (φ1 n) w (qB7 vs k):=by rw [qEL e2 dy,← ea];exact qIL.k hv
      refine⟨qB7 vs k,g,?_⟩
      rcases hk.val k with ⟨z1,z2⟩ | ⟨d',v2,z1,z2,dv⟩
      · rw [z1] at h3;rw [z2]
        exact hq _ st3 h3 φ3 H3 _ ((b1.trans b2).trans b3) dz
      · rw [z1] at h3;rw [z2]
        exact hq _ st3 h3 φ3 H3 _ ((b1.trans b2).trans b3) dv
    · exact h3.elim
  | _=>exact h1.elim
end
end L3
namespace L3
open PySem PySem.Spec PyProof.Rows L2
noncomputable def qBh (f:Str) (d:Dt):List (Str×Dt)→List (Str×Dt)
  | []=>[(f,d)]
  | (g,x)::r=>if g=f then (g,d)::r else (g,x)::qBh f d r
def OD (K:W.Frag) (φ:Nat→Addr) (N:Nat) (H:Hp) (fs:List (Str×Dt)) (vs:List (Str×V)):Prop:=fs.map (·.1)=vs.map (·.1)∧DL K φ N H (fs.map (·.2)) (vs.map (·.2))
section
variable {K:W.Frag} {φ:Nat→Addr} {N:Nat} {H:Hp}
theorem OD.qBw {k:Str} {d:Dt} {r:List (Str×Dt)} {vs:List (Str×V)} (h:OD K φ N H ((k,d)::r) vs):∃ v r',vs=(k,v)::r'∧D K φ N H d v∧OD K φ N H r r':=by
  obtain⟨h1,h2⟩:=h
  cases vs with
  | nil=>cases h1
  | cons p r' =>
    obtain⟨k',v⟩:=p
    rw [List.map_cons,List.map_cons] at h1
    injection h1 with e1 e2
    have e1:k=k':=e1
    subst e1
    obtain⟨a,b⟩:=DL.qBw (d:=d) (v:=v) h2
    exact⟨v,r',rfl,a,e2,b⟩
theorem OD.cons {k:Str} {d:Dt} {v:V} {r:List (Str×Dt)} {r':List (Str×V)} (a:D K φ N H d v) (h:OD K φ N H r r'):OD K φ N H ((k,d)::r) ((k,v)::r'):=⟨by rw [List.map_cons,List.map_cons,h.1],.cons a h.2⟩
theorem OD.nil:OD K φ N H [] []:=⟨rfl,.nil⟩
theorem OD.qI2 {vs:List (Str×V)} (h:OD K φ N H [] vs):vs=[]:=by
  cases vs with
  | nil=>rfl
  | cons p r=>cases h.1
theorem OD.length {fs:List (Str×Dt)} {vs:List (Str×V)} (h:OD K φ N H fs vs):fs.length=vs.length:=by
  have:=congrArg List.length h.1
  rwa [List.length_map,List.length_map] at this
theorem OD.look:∀ {fs:List (Str×Dt)} {vs:List (Str×V)} (f:Str),OD K φ N H fs vs→(fs.lookup f=none∧vs.lookup f=none)∨∃ d v,fs.lookup f=some d∧vs.lookup f=some v∧D K φ N H d v
  | [],vs,f,h=>by rw [h.qI2];exact .inl ⟨rfl,rfl⟩
  | (k,d)::r,vs,f,h=>by
    obtain⟨v,r',rfl,dv,h'⟩:=h.qBw
    cases e:(f==k) with
    | true=>exact .inr ⟨d,v,by rw [List.lookup_cons,e],by rw [List.lookup_cons,e],dv⟩
    | false =>
      rw [List.lookup_cons,e,List.lookup_cons,e]
      exact h'.look f
theorem OD.put {d:Dt} {v:V} (dv:D K φ N H d v) (f:Str):∀ {fs:List (Str×Dt)} {vs:List (Str×V)},OD K φ N H fs vs→OD K φ N H (qBh f d fs) (qCb f v vs)
  | [],vs,h=>by rw [h.qI2];exact OD.cons dv .nil
  | (k,d')::r,vs,h=>by
    obtain⟨v',r',rfl,dv',h'⟩:=h.qBw
    unfold qBh qCb
    by_cases e:k=f
    · rw [if_pos e,if_pos e];exact h'.cons dv
    · rw [if_neg e,if_neg e];exact (OD.put dv f h').cons dv'
theorem Rep.ob {st:Sto} (R:Rep K φ st H) {n:Nat} {C:Str} {fs:List (Str×Dt)} (e:st[n]? = some (.ob C fs)):∃ (c dx:Addr) (vs:List (Str×V)),H (φ n)=some (.ins c dx vs)∧K.lookup (φ n)=none∧W.nsIn K mainGlobals C=some (some (.ref c))∧OD K φ st.length H fs vs:=by
  obtain⟨c,dx,vs,h1,h2,h3,h4,h5⟩:=R.all n _ e
  exact⟨c,dx,vs,h1,h2,h3,h4,h5⟩
theorem qL1 {st:Sto} {n:Nat} {C:Str} {fs fs':List (Str×Dt)} {c dx:Addr} {vs vs':List (Str×V)} (R:Rep K φ st H) (e:st[n]? = some (.ob C fs)) (h:H (φ n)=some (.ins c dx vs)) (hd:OD K φ st.length H fs' vs'):Bhd K φ st H φ (st.set n (.ob C fs')) (upd H (φ n) (.ins c dx vs')):=by
  obtain⟨c',dx',vs0,h1,h2,h3,h4⟩:=R.ob e
  rw [h] at h1
  cases h1
  exact⟨R.put e rfl rfl h trivial ⟨c,dx,vs',qY,h2,h3,hd.1,hd.2.evo (qCj (o:=.ob C fs') (w:=.ins c dx vs') (qAC e) h trivial)⟩,qCj (w:=.ins c dx vs') (qAC e) h trivial⟩
end
structure qDE (K:W.Frag) (nm:Str) (flds:List Str):Prop where
  c:∀ c,W.nsIn K mainGlobals nm=some (some (.ref c))→Cls K c∧∀ f∈flds,qDL K c f
section
variable {X:Cx} {o e:Expr} {to te:TD} {pos apos:Pos} {nm f:Str} {flds:List Str}
def qA2 (nm:Str) (to:TD) (f:Str):TD:=fun ρ st P=>to ρ st fun x st1=>match x with
  | .ins n=>(match st1[n]? with
    | some (.ob c fs)=>c=nm∧(match fs.lookup f with
      | some d=>P d st1
      | none=>False)
    | _=>False)
  | _=>False
theorem qPO (hc:qDE X.K nm flds) (hf:f∈flds) (ho:DE X o to) (hb:attributeBase o f X.env (eval o X.env)=eval o X.env):DE X (.Attribute o f pos) (qA2 nm to f):=(qQg ho hb).imp fun σ H Q h=>by
  k_dat 0"r0"
  k_dat 0"r15"
  cases x with
  | ins n =>
    have h1:(match st1[n]? with
      | some (.ob c fs)=>c=nm∧(match fs.lookup f with
        | some d=>P d st1
        | none=>False)
      | _=>False):=h1
    split at h1
    · rename_i c fs e1
      obtain⟨ec,h3⟩:=h1
      subst ec
      obtain⟨ca,da,vs,hv,_,hn,hk⟩:=b1.1.ob e1
      rcases hk.look f with ⟨z,_⟩ | ⟨d',v2,z1,z2,dv⟩
      · rw [z] at h3;exact h3.elim
      · rw [z1] at h3
        obtain⟨c1,c2⟩:=hc.c ca hn
        exact⟨φ1 n,ca,da,vs,v2,dx.ins.2,hv,c1,c2 f hf,z2,hq d' st1 h3 φ1 H1 v2 b1 dv⟩
    · exact h1.elim
  | _=>exact h1.elim
noncomputable def qKv (nm:Str) (to:TD) (f:Str):TGD:=fun d ρ st P=>to ρ st fun x st1=>match x with
  | .ins n=>(match st1[n]? with
    | some (.ob c fs)=>c=nm∧fs.length<1000∧P ρ (st1.set n (.ob c (qBh f d fs)))
    | _=>False)
  | _=>False
theorem qQV {value:Expr} {tv:TD} {pos':Pos} (hc:qDE X.K nm flds) (hf:f∈flds) (ho:DE X o to) (hv:DE X value tv) (hs:swapsWith value (some (.Attribute o f pos')) pos.line X.env=pure false) :
    DS X (.Assign [.Attribute o f pos'] value pos) (qO tv (qKv nm to f)):=(qQu ho hv hs).imp fun E σ H h=>by
  k_dat 0"r12"
  refine⟨φ,st,ρ,_,pre,ht,fun d st1 h1 φ1 H1 v b1 dv=>?_⟩
  refine⟨φ1,st1,ρ,_,pre.on b1,h1,fun x st2 h2 φ2 H2 w b2 dx=>?_⟩
  cases x with
  | ins m =>
    have h2:(match st2[m]? with
      | some (.ob c fs)=>c=nm∧fs.length<1000∧P.nx ρ (st2.set m (.ob c (qBh f d fs)))
      | _=>False):=h2
    split at h2
    · rename_i c fs e1
      obtain⟨rfl,hl,h2⟩:=h2
      obtain⟨ca,da,vs,hv,_,hn,hk⟩:=b2.1.ob e1
      obtain⟨c1,c2⟩:=hc.c ca hn
      have bb:=qL1 b2.1 e1 hv (hk.put (dv.evo b2.2) f)
      exact⟨φ2 m,ca,da,vs,dx.ins.2,hv,c1,c2 f hf,by rw [← hk.length];exact hl,n _ _ h2 φ2 _ _ ((b1.trans b2).trans bb) ((pre.on ((b1.trans b2).trans bb)).2)⟩
    · exact h2.elim
  | _=>exact h2.elim
structure qBz (P:Program) (w:World) (K:W.Frag) (mg:Str→Option Value) (base:Heap) (nm m:Str) (k:Nat) (sp:RDL):Prop where
  ex:∃ C f fd ps,W.nsIn K mainGlobals nm=some (some (.ref C))∧Cls K C∧Meth K C m f∧qx P w K mg base CX0 k f fd ps (qQ K sp)∧Binds K fd ps []
def qAc (nm m:Str) (sp:RDL) (to:TD) (t:TAD):TD:=fun ρ st P=>to ρ st fun x st1=>match x with
  | .ins n=>(match st1[n]? with
    | some (.ob c fs)=>c=nm∧fs.lookup m=none∧t ρ st1 fun ds st2=>sp (.ins n::ds) st2 P
    | _=>False)
  | _=>False
theorem qJ6 {C:Addr} {nm m:Str} {sp:RDL} {to:TD} {t:TAD} {σ:L2.St} {H:Hp} {Q:VK} (hn:W.nsIn X.K mainGlobals nm=some (some (.ref C))) (h:qAU X.K (qAc nm m sp to t) σ H Q):qOL C m (qQ X.K sp) [] E0 (qAU X.K to) (qJu X.K t) σ H Q:=by
  k_dat 0"r0"
  k_dat 0"r15"
  cases x with
  | ins n =>
    have h1:(match st1[n]? with
      | some (.ob c fs)=>c=nm∧fs.lookup m=none∧t ρ st1 fun ds st2=>sp (.ins n::ds) st2 P
      | _=>False):=h1
    split at h1
    · rename_i c fs e1
      obtain⟨rfl,hl,h1⟩:=h1
      obtain⟨ca,da,vs,hv,_,hn',hk⟩:=b1.1.ob e1
      rw [hn] at hn'
      cases hn'
      refine⟨φ1 n,da,vs,dx.ins.2,hv,?_,φ1,st1,ρ,_,pre.on b1,h1,fun ds st2 h2 φ2 H2 us b2 dl=>?_⟩
      · rcases hk.look m with ⟨_,z⟩ | ⟨d',v2,z1,_,_⟩
        · exact z
        · rw [hl] at z1;cases z1
      · show qQ X.K sp (v::(us++[])) H2 Q E0
        rw [List.append_nil]
        exact⟨φ2,st2,.ins n::ds,P,b2.1,.cons (dx.evo b2.2) dl,h2,fun d st' hp φ' H' u b d'=>hq d st' hp φ' H' u ((b1.trans b2).trans b) d'⟩
    · exact h1.elim
  | _=>exact h1.elim
theorem qN6 {k:Nat} {m:Str} {sp:RDL} {es:List Expr} {t:TAD} {pl:Sem Bool} (F:qBz X.prog X.w X.K X.mg X.base nm m k sp) (hr:qAd k X.A) (ho:DE X o to) (ha:DA X (e::es) t)
    (hst:starEach (e::es) X.env=(false,eval e X.env)::starEach es X.env) (hpl:(backTo pos (starEach es X.env)).any (·.1)=false)
    (ht:eval (.Call (.Attribute o m apos) (e::es) [] pos) X.env=(do
      let ov ← eval o X.env
      standAt apos.atName
      let (f,first) ← holding [ov] (getMethod ov m pl)
      callWith pos f first (backTo pos (starEach (e::es) X.env)) (backToKw pos (keywordEach [] X.env)))):DE X (.Call (.Attribute o m apos) (e::es) [] pos) (qAc nm m sp to t):=by
  obtain⟨C,f,fd,ps,h1,h2,h3,h4,h5⟩:=F.ex
  exact (qNN ho h2 h3 h4 hr h5 .nil qMO ha hst hpl ht).imp fun σ H Q h=>qJ6 h1 h
structure qJA (P:Program) (w:World) (K:W.Frag) (mg:Str→Option Value) (base:Heap) (nm:Str) (k:Nat) (sp:RDL):Prop where
  ex:∃ C f fd ps,W.nsIn K mainGlobals nm=some (some (.ref C))∧mg nm=some (.ref C)∧Mk K C f∧qx P w K mg base CX0 k f fd ps (qQ K sp)∧Binds K fd ps []
def qJf (nm:Str) (sp:RDL) (t:TAD):TD:=fun ρ st P=>t ρ st fun ds st1=>sp (.ins st1.length::ds) (st1++[.ob nm []]) fun d st2=>d = .non∧P (.ins st1.length) st2
theorem qKu {C:Addr} {sp:RDL} {t:TAD} {σ:L2.St} {H:Hp} {Q:VK} (hn:W.nsIn X.K mainGlobals nm=some (some (.ref C))) (h:qAU X.K (qJf nm sp t) σ H Q):qOC X.K C (qQ X.K sp) [] E0 (qJu X.K t) σ H Q:=by
  k_dat 0"r0"
  refine⟨φ,st,ρ,_,pre,ht,fun ds st1 h1 φ1 H1 us b1 dl=>?_⟩
  intro x dx hx hdx hne hk
  show qQ X.K sp (.ref x::(us++[])) _ _ E0
  rw [List.append_nil]
  have b2:=qAv (o:=.own x) b1.1 hdx
  have hx2:upd H1 dx (.own x) x=none:=by rw [qM (Ne.symm hne)];exact hx
  have b3:Bhd X.K φ1 st1 (upd H1 dx (.own x)) (qAZ φ1 st1.length x) (st1++[.ob nm []]) (upd (upd H1 dx (.own x)) x (.ins C dx [])) :=
    ⟨b2.1.add hx2 ⟨C,dx,[],qY,hk,hn,rfl,.nil⟩,qC0 hx2⟩
  have b:=(b2.trans b3)
  have dn:D X.K (qAZ φ1 st1.length x) (st1++[SO.ob nm []]).length (upd (upd H1 dx (.own x)) x (.ins C dx [])) (.ins st1.length) (.ref x):=by
    have:=D.qR8 (K:=X.K) (φ:=qAZ φ1 st1.length x) (H:=upd (upd H1 dx (.own x)) x (.ins C dx [])) (n:=st1.length) (N:=(st1++[SO.ob nm []]).length) (by simp) (by rw [qCF];exact⟨C,dx,[],qY⟩)
    rw [qCF] at this
    exact this
  refine⟨_,_,.ins st1.length::ds,_,b.1,.cons dn (dl.evo b.2),h1,fun d st' hp φ' H' u bb dd=>?_⟩
  obtain⟨rfl,hp⟩:=hp
  refine⟨dd.non,hq _ st' hp φ' H' _ ((b1.trans b).trans bb) ?_⟩
  have:=dn.evo bb.2
  exact this
end
end L3
namespace L3
open PySem PySem.Spec PyProof.Rows L2
end L3
namespace L3
open PySem PySem.Spec PyProof.Rows L2
noncomputable def qBt (P:Params):List DictEntry→List (Str×Str)→Prop
  | [],[]=>True
  | e::r,kv::q=>(∃ t u,e.key = .str kv.1 t∧e.val = .str kv.2 u∧e.hash=PyData.keyHash P kv.1)∧qBt P r q
  | _,_=>False
theorem qBt.lit {P:Params}:∀ {l:List DictEntry} {kvs:List (Str×Str)},qBt P l kvs→W.KeysLit P l
  | [],[],_=>trivial
  | _::_,_::_,⟨⟨t,_,h1,_,h3⟩,r⟩=>⟨⟨_,t,h1,h3⟩,r.lit⟩
  | [],_::_,h=>h.elim
  | _::_,[],h=>h.elim
theorem qBt.find {P:Params} (y:Str):∀ {l:List DictEntry} {kvs:List (Str×Str)},qBt P l kvs→(kvs.lookup y=none∧(l.find? fun e=>Value.isStrOf y e.key).map (·.val)=none)∨∃ z u,kvs.lookup y=some z∧(l.find? fun e=>Value.isStrOf y e.key).map (·.val)=some (.str z u)
  | [],[],_=>.inl ⟨rfl,rfl⟩
  | e :: r,(k,v)::q,⟨⟨t,u,h1,h2,h3⟩,hr⟩=>by
    have ih:=qBt.find y hr
    have hk:Value.isStrOf y e.key=(k==y):=by rw [h1];rfl
    rw [List.find?_cons,hk,List.lookup_cons]
    have hs:(y==k)=(k==y):=by
      by_cases q:y=k
      · subst q;rfl
      · rw [beq_eq_false_iff_ne.mpr q,beq_eq_false_iff_ne.mpr (Ne.symm q)]
    rw [hs]
    cases k==y with
    | true=>exact .inr ⟨v,u,rfl,by rw [Option.map_some,h2]⟩
    | false=>exact ih
  | [],_::_,h=>h.elim
  | _::_,[],h=>h.elim
structure TopD (w:World) (K:W.Frag) (mg:Str→Option Value) (x:Str) (kvs:List (Str×Str)):Prop where
  ex:∃ a es n,mg x=some (.ref a)∧K.lookup a=some ⟨.type "dict",none,.dict es n,#[]⟩∧(a==sysModules)=false∧qBt w.params es.toList kvs
def qHT (kvs:List (Str×Str)) (ti:TD):TD:=fun ρ st P=>ti ρ st fun y st1=>match y with
  | .str z=>(match kvs.lookup z with
    | some v=>P (.str v) st1
    | none=>False)
  | _=>False
section
variable {X:Cx} {i:Expr} {ti:TD} {pos p:Pos} {x:Str} {kvs:List (Str×Str)}
theorem qKm (T:TopD X.w X.K X.mg x kvs) (hi:DE X i ti) (hg:Gl X x) (hd:(x==("__debug__" : Str))=false) (hs:qR6 i):DE X (.Subscript (.Name x p) i pos) (qHT kvs ti):=by
  obtain⟨a,es,n,hm,hl,hy,he⟩:=T.ex
  k_dat 0"r1"
  k_dat 0"r0"
  refine qNi PySem.F.slot_dict_getitem.lookup hs (qDp I hg hm ?_ hd)
  refine thn (hi pins s σ H (fun v H'=>∃ z u,v = .str z∧kvs.lookup z=some u∧Q (.str u) H') I ⟨φ,st,ρ,_,pre,ht,fun y st1 h1 φ1 H1 v b1 dy=>?_⟩) fun iv s2 ⟨y,H2,I2,ry,z,u,ey,hu,q2⟩=>?_
  · cases y with
    | str z =>
      cases dy.str
      dsimp only at h1
      split at h1
      · rename_i v' e1
        exact⟨z,v',rfl,e1,hq _ _ h1 _ _ _ b1 D.mkStr⟩
      · exact h1.elim
    | _=>exact h1.elim
  · subst ey
    obtain⟨t,rfl⟩:=ry
    have hmap:=W.mapOf_K (prog:=X.prog) I2.kIn hl he.lit
    refine⟨hmap.typeIs,?_⟩
    rcases he.find z with ⟨e1,_⟩ | ⟨z',u',e1,e2⟩
    · rw [hu] at e1;cases e1
    · rw [hu] at e1
      cases e1
      refine wpAny_getItem_of (strKind_is X.prog X.w z t) hmap (v:=.str u u') ?_ ⟨.str u,H2,I2.tok _,⟨u',rfl⟩,q2⟩
      obtain⟨l⟩:=es
      unfold findBy
      rw [List.find?_toArray]
      exact e2
end
end L3
namespace HT
open PySem PySem.Spec PyProof.Rows
section
variable {prog:Program} {w:World} {A:Around} {E:Value→Shared→Prop} {s:Shared}
theorem qEn {it t:Addr} {i:Nat} {items:Array Value} {x:Value} {Q:Value→Shared→Prop} (hit:IsTupIter s.heap it t i) (ht:IsTup s.heap t items) (hx:items[i]? = some x)
    (hQ:∀ h',IsTupIter h' it t (i+1)→Heap.SameBut it s.heap h'→Q x { s with heap:=h' }):wpAny (model prog w) A (Builtin.SmallTypes.nextOf (.ref it)) Q E s:=by
  obtain⟨o,ho,hc,hd⟩:=id hit;obtain⟨ol,hol,_,nl,hdl⟩:=ht
  k_dat 0"r98"
  k_dat 0"r99"
  k_dat 0"r100"
  k_dat 0"r101"
  k_dat 0"r102"
  refine wpAny_bind (wpAny_setField ho hd (by simp) (wpAny_pure ⟨x,rfl,wpAny_pure (hQ _ ⟨_,Heap.get?_update_self _ ho (Obj.isFreed_of_fields (Obj.data_mapFields hd _)),(Obj.cls_mapFields ..).trans hc,by rw [Obj.data_mapFields hd];simp [rawInt]⟩ (Heap.SameBut.update ..))⟩))
theorem qCp {it t:Addr} {i:Nat} {items:Array Value} {Q:Value→Shared→Prop} (hh:A.handled=none) (hit:IsTupIter s.heap it t i) (ht:IsTup s.heap t items) (hx:items[i]? = none)
    (hE:∀ h' e,Heap.ExtBut it s.heap h'→(∃ o,h'.get? e=some o∧o.cls = .type "StopIteration")→E (.ref e) { s with heap:=h' }):wpAny (model prog w) A (Builtin.SmallTypes.nextOf (.ref it)) Q E s:=by
  obtain⟨o,ho,hc,hd⟩:=id hit;obtain⟨ol,hol,_,nl,hdl⟩:=ht
  k_dat 0"r98"
  k_dat 0"r99"
  k_dat 0"r100"
  k_dat 0"r101"
  k_dat 0"r102"
  refine wpAny_bind (wpAny_rule (wpAny_bind (wpAny_setField ho hd (by simp) ?_)));show wpAny _ _ (newExc (.type "StopIteration") [] >>= _) _ _ _
  refine wpAny_bind ?_;simp only [newExc,newTuple]
  refine wpAny_bind (wpAny_newObj_type ?_ (by size_fits));refine wpAny_bind (m:=firstArgMember _ _) (wpAny_of_eq (a:=Value.none) (by first | rfl | (simp only [firstArgMember];rfl)) ?_)
  refine wpAny_newObj_type ?_ (by size_fits);simp only [raiseNew];refine wpAny_bind (wpAny_handled ?_)
  first | rw [show A.in1.handled=none from hh] | rw [hh]
  refine wpAny_bind (wpAny_pure (wpAny_throw ?_));exact hE _ _ (((Heap.SameBut.update ..).extBut.push _).push _) ⟨_,Heap.get?_push_size _ rfl,rfl⟩
theorem qBB (hh:A.handled=none) (it t:Addr) (hne:t≠it) (items:Array Value):Draws prog w A it [it,t] items.size (fun i v=>items[i]? = some v) (fun i h=>IsTupIter h it t i∧IsTup h t items) where
  live:=fun _ _ st=>let ⟨o,ho,_⟩:=st.1;⟨o,ho⟩
  frame:=fun _ _ _ st hk=>⟨let ⟨o,ho,r⟩:=st.1;⟨o,hk it (by simp) _ ho,r⟩,let ⟨o,ho,r⟩:=st.2;⟨o,hk t (by simp) _ ho,r⟩⟩
  item:=fun i s Q E hi st hQ=>by
    refine qEn st.1 st.2 (x:=items[i]) (by simp [hi]) fun h' hit' hs'=>hQ _ h' s.toks (by simp [hi]) ⟨hit',?_⟩ hs'
    obtain⟨o,ho,r⟩:=st.2
    exact⟨o,hs'.extBut t o hne ho,r⟩
  done:=fun s Q E st hE=>qCp hh st.1 st.2 (by simp) hE
end
end HT
namespace L3
open PySem PySem.Spec PyProof.Rows L2
theorem qBi {h h':Heap} {a t:Addr} {i:Nat} (x:IsTupIter h a t i) (e:∀ o,h.get? a=some o→h'.get? a=some o):IsTupIter h' a t i:=let ⟨o,ho,r⟩:=x;⟨o,e _ ho,r⟩
end L3
namespace L3
open PySem PySem.Spec PyProof.Rows L2
end L3
namespace L3
open PySem PySem.Spec PyProof.Rows L2
end L3
namespace L3
open PySem PySem.Spec PyProof.Rows L2
noncomputable def qBd (z:Str):List Dt:=z.cps.toList.map fun c=>.str ⟨#[c]⟩
end L3
namespace HT
open PySem PySem.Spec PyProof.Rows
section
variable {prog:Program} {w:World} {A:Around} {E:Value→Shared→Prop} {s:Shared}
theorem qFZ {T newId:String} {self:Value} {rest:List Value} {kw:List (Str×Value)} (h1:typeLookup (.type T) (Str.ofString "__init__")=pure (some (.builtin "object.__init__"))) (h2:Bind.madeBy (.type T)=pure (some newId)) (h3:(some newId != some "object.__new__")=true)
    {Q:Fin→Shared→Prop} (hT:s.TypeIs self T) (hQ:Q (.done (.ret .none)) s):wpAny (model prog w) A (Builtin.«object.__init__» { pos:=self::rest,kw:=kw }) Q E s:=by
  unfold Builtin.«object.__init__»
  simp only []
  split
  · refine wpAny_bind (wpAny_typeOf hT ?_)
    refine wpAny_bind (wpAny_of_eq h1 ?_)
    refine wpAny_bind (wpAny_of_eq h2 ?_)
    rw [if_neg (by simp)]
    rw [if_neg (by rw [h3];simp)]
    exact wpAny_pure hQ
  · exact wpAny_pure hQ
theorem qEY {T newId:String} {Bn:Builtin} {args:List Value} {kw:List (Str×Value)} {S:PySem.Spec} {Q:Value→Shared→Prop} (F:TypeCalled T newId "object.__init__") (hne:(some newId != some "object.__new__")=true)
    (h1:checkTypeCall T { pos:=args,kw:=kw }=pure ()) (h2:checkBuiltinCall newId { pos:=.type T::args,kw:=kw }=pure ()) (h3:∀ obj,argsOk "object.__init__" { pos:=obj::args,kw:=kw })
    (he:entryFor table newId=some Bn) (hm:Meets (Bn { pos:=.type T::args,kw:=kw }) S) (h:S A.in1 (wants (fun obj s₁=>s₁.TypeIs obj T∧Q obj s₁) E) s):wpAny (model prog w) A (call (.type T) args kw) Q E s:=by
  refine wpAny_call (codeAny_of_tree ?_)
  show wpAny _ _ (callAny (.type T) { pos:=args,kw:=kw }) _ _ s
  refine wpAny_pure ⟨Code.quiet_builtin _ (by decide +kernel),?_⟩
  refine codeAny_builtin PySem.F.entry_type_call ?_
  rw [Around.under_plain (weight_type_call_type T args kw) rfl]
  unfold Builtin.«type.__call__»
  simp only []
  rw [if_neg (by rw [F.notType];exact Bool.false_ne_true)]
  rw [if_neg (by rw [F.canCreate];exact Bool.false_ne_true)]
  refine wpAny_bind (wpAny_of_eq h1 ?_)
  obtain⟨c,tl,hmro⟩:=F.mro
  refine wpAny_bind (wpAny_of_eq hmro ?_)
  rw [if_neg (by simp)]
  refine wpAny_bind (wpAny_of_eq F.made ?_)
  refine wpAny_bind (wpAny_pure ?_)
  refine wpAny_bind (wpAny_holding (wpAny_call (codeAny_mono (codeAny_call_builtin F.plain he (wpAny_of_eq h2 (hm prog w A.in1 _ s h))) fun r s1 hq=>?_)))
  cases r with
  | error e=>exact hq
  | ok f =>
    cases f with
    | ret v =>
      obtain⟨hT,hq⟩:=hq
      show wpAny _ _ _ _ _ s1
      refine wpAny_bind (wpAny_isInstance hT F.sub ?_)
      rw [if_neg (by simp)]
      refine wpAny_bind (wpAny_holding ?_)
      unfold callSpecial?
      refine wpAny_bind (wpAny_specialOf hT F.init.lookup ?_)
      simp only []
      refine wpAny_holding (wpAny_bind (wpAny_of_eq (F.init.bind v) ?_))
      refine wpAny_bind (wpAny_call (codeAny_call_builtin F.init.plain PySem.F.entry_object_init (F.init.check _ _ _ _ _ _ _ _ hT (h3 v) ?_)))
      refine qFZ F.init.lookup F.made hne hT ?_
      refine wpAny_pure ?_
      show wpAny _ _ (if (Value.none != Value.none)=true then _ else _) _ _ _
      rw [if_neg (by simp)]
      exact wpAny_pure hq
    | next=>exact False.elim hq
    | brk=>exact False.elim hq
    | cont=>exact False.elim hq
noncomputable def qJG:Manifest.Signature:=⟨.hand, "enumerate.__new__", "__new__",.cls,[]⟩
theorem qNR:Manifest.signature? "enumerate.__new__" = some qJG:=rfl
theorem qLu (a:Value) (x:Str) (v:Value):Bind.checkArgs "enumerate.__new__" qJG { pos:=[.type "enumerate",a],kw:=[(x,v)] }=pure ():=by rfl
theorem qLv (a:Value):Bind.checkArgs "enumerate.__new__" qJG { pos:=[.type "enumerate",a],kw:=[] }=pure ():=by rfl
theorem qGh (a:Value) (x:Str) (v:Value):checkBuiltinCall "enumerate.__new__" { pos:=[.type "enumerate",a],kw:=[(x,v)] }=pure ():=by
  have h:=PySem.F.newCall_enumerate_1 a
  unfold checkBuiltinCall at h ⊢
  rw [qNR] at h ⊢
  simp only [qLv a] at h
  simp only [qLu a x v]
  exact h
end
theorem qHL (l:Addr) (items:Array Value) (n:Nat) (dct:Option Addr) (sl:Array (Option Value)) (t:Tok) :
    Meets (Builtin.«enumerate.__new__» ⟨[.type "enumerate",.ref l],[(Str.ofString "start",.int 1 t)]⟩) (fun _ R s=>s.heap.get? l=some { cls:=.type "tuple",dict:=dct,data:=.seq items n,slots:=sl } ∧
      R (.ok (.ret (.ref (s.heap.push { cls:=.type "tuple_iterator",data:=.fields #[.ref l,.int 0 0] }).objs.size)))
        { s with heap:=(s.heap.push { cls:=.type "tuple_iterator",data:=.fields #[.ref l,.int 0 0] }).push { cls:=.type "enumerate",data:=.fields #[.none,.bool false,.ref s.heap.objs.size,rawInt 1,.none,.none] } }) :=
  .of_wp fun prog w A R s h=>by
    obtain⟨hp,g,d,tk,os⟩:=s;obtain⟨hl,h⟩:=h
    have hsub:=sub_enumerate
    have hT:IsTup (Shared.heap ⟨hp,g,d,tk,os⟩) l items:=⟨_,hl,rfl,n,rfl⟩
    wp_walk using AutoSeq1.wpAny_loadPart' hl
    refine wpAny_stack_any fun st=>wpAny_pure ?_
    split
    · rename_i c _ _ _ _ _
      cases (c==Value.type "enumerate")
      · wp_walk using AutoSeq1.wpAny_loadPart' hl,iter_tuple hT
        exact⟨_,rfl,h⟩
      · wp_walk using AutoSeq1.wpAny_loadPart' hl,iter_tuple hT
        exact⟨_,rfl,h⟩
    · wp_walk using AutoSeq1.wpAny_loadPart' hl,iter_tuple hT
      exact⟨_,rfl,h⟩
section
variable {prog:Program} {w:World} {A:Around} {E:Value→Shared→Prop} {s:Shared}
theorem qII {l:Addr} {items:Array Value} {t:Tok} {Q:Value→Shared→Prop} (hT:IsTup s.heap l items)
    (h:∀ h',IsEnum h' (s.heap.objs.size+1) s.heap.objs.size 1 .none→IsTupIter h' s.heap.objs.size l 0→h'.objs.size=s.heap.objs.size+2→(∀ b o,s.heap.get? b=some o→h'.get? b=some o)→Q (.ref (s.heap.objs.size+1)) { s with heap:=h' }) :
    wpAny (model prog w) A (call (.type "enumerate") [.ref l] [(Str.ofString "start",.int 1 t)]) Q E s:=by
  obtain⟨⟨c,dct,dt,sl⟩,hl,hc,n,hd⟩:=hT
  replace hc:c = .type "tuple":=hc
  replace hd:dt = .seq items n:=hd
  subst hc hd
  refine qEY F.called_enumerate (by decide) (by rfl) (qGh _ _ _) (fun obj=>by rfl) F.entry_enumerate_new (qHL l items n dct sl t) ⟨hl,?_⟩
  have hz:(s.heap.push { cls:=.type "tuple_iterator",data:=.fields #[.ref l,.int 0 0] }).objs.size=s.heap.objs.size+1:=Heap.size_push ..
  show _∧_
  rw [hz]
  have he:IsEnum ((s.heap.push { cls:=.type "tuple_iterator",data:=.fields #[.ref l,.int 0 0] }).push { cls:=.type "enumerate",data:=.fields #[.none,.bool false,.ref s.heap.objs.size,rawInt 1,.none,.none] }) (s.heap.objs.size+1) s.heap.objs.size 1 .none:=by
    have q:=Heap.get?_push_size (s.heap.push { cls:=.type "tuple_iterator",data:=.fields #[.ref l,.int 0 0] }) (o:={ cls:=.type "enumerate",data:=.fields #[.none,.bool false,.ref s.heap.objs.size,rawInt 1,.none,.none] }) rfl
    rw [hz] at q;exact q
  k_dat 0"r103"
end
theorem qHM (l:Addr) (items:Array Value) (n:Nat) (dct:Option Addr) (sl:Array (Option Value)) (t:Tok) :
    Meets (Builtin.«enumerate.__new__» ⟨[.type "enumerate",.ref l],[(Str.ofString "start",.int 1 t)]⟩) (fun _ R s=>s.heap.get? l=some { cls:=.type "list",dict:=dct,data:=.seq items n,slots:=sl } ∧
      R (.ok (.ret (.ref (s.heap.push { cls:=.type "list_iterator",data:=.fields #[.ref l,.int 0 0] }).objs.size)))
        { s with heap:=(s.heap.push { cls:=.type "list_iterator",data:=.fields #[.ref l,.int 0 0] }).push { cls:=.type "enumerate",data:=.fields #[.none,.bool false,.ref s.heap.objs.size,rawInt 1,.none,.none] } }) :=
  .of_wp fun prog w A R s h=>by
    obtain⟨hp,g,d,tk,os⟩:=s;obtain⟨hl,h⟩:=h
    have hsub:=sub_enumerate
    have hT:Heap.IsList (Shared.heap ⟨hp,g,d,tk,os⟩) l items:=⟨_,hl,rfl,n,rfl⟩
    wp_walk using AutoSeq1.wpAny_loadPart' hl
    refine wpAny_stack_any fun st=>wpAny_pure ?_
    split
    · rename_i c _ _ _ _ _
      cases (c==Value.type "enumerate")
      · wp_walk using AutoSeq1.wpAny_loadPart' hl,wpAny_pyIter_list hT
        exact⟨_,rfl,h⟩
      · wp_walk using AutoSeq1.wpAny_loadPart' hl,wpAny_pyIter_list hT
        exact⟨_,rfl,h⟩
    · wp_walk using AutoSeq1.wpAny_loadPart' hl,wpAny_pyIter_list hT
      exact⟨_,rfl,h⟩
section
variable {prog:Program} {w:World} {A:Around} {E:Value→Shared→Prop} {s:Shared}
theorem qH5 {l:Addr} {items:Array Value} {t:Tok} {Q:Value→Shared→Prop} (hT:Heap.IsList s.heap l items)
    (h:∀ h',IsEnum h' (s.heap.objs.size+1) s.heap.objs.size 1 .none→Heap.IsListIter h' s.heap.objs.size l 0→h'.objs.size=s.heap.objs.size+2→(∀ b o,s.heap.get? b=some o→h'.get? b=some o)→Q (.ref (s.heap.objs.size+1)) { s with heap:=h' }) :
    wpAny (model prog w) A (call (.type "enumerate") [.ref l] [(Str.ofString "start",.int 1 t)]) Q E s:=by
  obtain⟨⟨c,dct,dt,sl⟩,hl,hc,n,hd⟩:=hT
  replace hc:c = .type "list":=hc
  replace hd:dt = .seq items n:=hd
  subst hc hd
  refine qEY F.called_enumerate (by decide) (by rfl) (qGh _ _ _) (fun obj=>by rfl) F.entry_enumerate_new (qHM l items n dct sl t) ⟨hl,?_⟩
  have hz:(s.heap.push { cls:=.type "list_iterator",data:=.fields #[.ref l,.int 0 0] }).objs.size=s.heap.objs.size+1:=Heap.size_push ..
  show _∧_
  rw [hz]
  have he:IsEnum ((s.heap.push { cls:=.type "list_iterator",data:=.fields #[.ref l,.int 0 0] }).push { cls:=.type "enumerate",data:=.fields #[.none,.bool false,.ref s.heap.objs.size,rawInt 1,.none,.none] }) (s.heap.objs.size+1) s.heap.objs.size 1 .none:=by
    have q:=Heap.get?_push_size (s.heap.push { cls:=.type "list_iterator",data:=.fields #[.ref l,.int 0 0] }) (o:={ cls:=.type "enumerate",data:=.fields #[.none,.bool false,.ref s.heap.objs.size,rawInt 1,.none,.none] }) rfl
    rw [hz] at q;exact q
  k_dat 0"r103"
end
end HT
namespace L3
open PySem PySem.Spec PyProof.Rows L2
theorem qET {prog : Program} {w : World} {A :         Around} {it:Addr} {fp:List Addr} {n:Nat} {P:Nat→Value→Prop} {St:Nat→Heap→Prop} (h:Draws prog w A it fp n P St) :
    Draws prog w A it fp (n+1) (fun i v=>∃ j,i=j+1∧P j v) (fun i hp=>∃ j,i=j+1∧St j hp) where
  live:=fun i hp ⟨j,_,st⟩=>h.live j hp st
  frame:=fun i hp hp' ⟨j,e,st⟩ hk=>⟨j,e,h.frame j hp hp' st hk⟩
  item:=fun i s Q E hi ⟨j,e,st⟩ hQ=>h.item j s Q E (by omega) st fun x h' tk hp st' sb=>hQ x h' tk ⟨j,e,hp⟩ ⟨j+1,by omega,st'⟩ sb
  done := fun s Q E ⟨j, e, st⟩ hE => h.done s Q E (by have:n=j:=by omega
                                                      subst this;exact st) hE
theorem qJS {prog:Program} {w:World} {A:Around} {E:Value→Shared→Prop} {s:Shared} {e it t:Addr} {i:Nat} {old:Value} {items:Array Value} {Q:Option Value→Shared→Prop} (hh:A.handled=none) {z:Int} (he:IsEnum s.heap e it z old) (hit:IsTupIter s.heap it t i) (ht:IsTup s.heap t items) (hne:t≠it) (hn:items.size≤i)
    (hQ:∀ h',Heap.ExtBut it s.heap h'→Q none { s with heap:=h' }):wpAny (model prog w) A (pyNext (.ref e)) Q E s:=by
  have hT:s.TypeIs (.ref e) "enumerate":=⟨_,he,rfl⟩
  unfold pyNext
  k_dat 0"r104"
  show wpAny _ _ (field (.ref e) 2 >>= _) _ _ _
  refine wpAny_bind (wpAny_field he rfl (x:=.ref it) rfl (wpAny_bind (HT.qCp (A:=A.in1) hh hit ht (by simp;omega) fun h' x he' hx'=>?_)))
  obtain⟨o,ho,hc⟩:=hx'
  k_dat 0"r105"
theorem qJF {prog:Program} {w:World} {A:Around} {E:Value→Shared→Prop} {s:Shared} {e it t:Addr} {i:Nat} {old:Value} {items:Array Value} {Q:Option Value→Shared→Prop} (hh:A.handled=none) {z:Int} (he:IsEnum s.heap e it z old) (hit:s.heap.IsListIter it t i) (ht:s.heap.IsList t items) (hne:t≠it) (hn:items.size≤i)
    (hQ:∀ h',Heap.ExtBut it s.heap h'→Q none { s with heap:=h' }):wpAny (model prog w) A (pyNext (.ref e)) Q E s:=by
  have hT:s.TypeIs (.ref e) "enumerate":=⟨_,he,rfl⟩
  unfold pyNext
  k_dat 0"r104"
  show wpAny _ _ (field (.ref e) 2 >>= _) _ _ _
  refine wpAny_bind (wpAny_field he rfl (x:=.ref it) rfl (wpAny_bind (wpAny_nextOf_list_end (A:=A.in1) hh hit ht (by simp;omega) fun h' x he' hx'=>?_)))
  obtain⟨o,ho,hc⟩:=hx'
  k_dat 0"r105"
noncomputable def qRh (K:W.Frag) (a:Addr):It :=
  ⟨fun i H=>∃ xs x,SqT K H a xs∧xs[i]? = some x,fun i H x H'=>∃ p v,H p=none∧H'=upd H p (.tup [.int ((i+1:Nat):Int),v])∧x = .ref p∧∀ xs,SqT K H a xs→xs[i]? = some v,fun i H=>∃ xs,SqT K H a xs∧xs.length≤i⟩
theorem qIR {P:Program} {w:World} {K:W.Frag} {elts:List Expr} {x1} {pos:Pos} (a e it:Addr) (hei:e≠it) :
    Turn P w K (.Tuple elts x1 pos) (qRh K a) [e,it] e (fun i h=>(∃ old,IsEnum h e it ((i+1:Nat):Int) old)∧IsTupIter h it a i) where
  mem:=by simp
  obj :=fun i h st b hb=>by
    obtain⟨⟨old,he⟩,o,ho,hc,hd⟩:=st
    k_dat 0"r28"
    · exact⟨_,he,fun v z=>by
        have z':Data.fields _=Data.cell v:=z
        cases z'⟩
    · k_dat 0"r29"
      subst this
      exact⟨o,ho,fun v z=>by rw [hd] at z;cases z⟩
  keep:=fun i h h' st k=>by
    k_dat 0"r30"
    exact⟨⟨old,k e (by simp) _ he⟩,qBi hit fun o x=>k it (by simp) o x⟩
  item := by
    k_dat 0"r7"
    subst hP hw hK
    k_dat 0"r30"
    obtain⟨xs,x,hq,hx⟩:=hg
    obtain⟨its,rv,p,hz⟩:=I.tuple hq
    k_dat 0"r25"
    obtain⟨e0,e1,e2,e3,e4,e5⟩:=hf e (by simp)
    k_dat 0"r52"
    have hit0:=hit
    have hai:a≠it:=fun z=>by
      obtain⟨o1,q1,q2,q3⟩:=hit
      obtain⟨o2,q4,q5,q6⟩:=p
      k_dat 0"r53"
    have hea:e≠a:=fun z=>by
      obtain⟨o2,q4,q5,q6⟩:=p
      rw [← z,he] at q4;cases q4;injection q5 with q7;exact absurd q7 (by decide)
    refine wpAny_pyNext_enum_itemD (i:=i+1) (qET (HT.qBB (A:=X.A.in1) (I.ok.hd hc) it a hai its.toArray)) he ⟨i,rfl,hit,p⟩ (by have:=(Array.getElem?_eq_some_iff.mp (show its.toArray[i]? = some u by simpa using hu));exact Nat.succ_lt_succ this.1) hei (by simp;exact⟨hei,hea⟩) fun x0 h' tk hx0 ho hst' hT hsz hk=>?_
    have hxu:x0=u:=by
      k_dat 0"r54"
      obtain⟨j0,ej0,hx0⟩:=hx0
      have ej0:i=j0:=by omega
      subst ej0
      k_dat 0"r55"
      k_dat 0"r56"
    subst hxu
    obtain⟨j1,ej1,hit',hp'⟩:=hst'
    have ej1:j1=i+1:=by omega
    subst ej1
    k_dat 0"r106"
    k_dat 0"r107"
    k_dat 0"r108"
    have hp:H s.heap.objs.size=none:=I.hok.fresh (Nat.le_refl _)
    k_dat 0"r109"
    refine⟨.ref s.heap.objs.size,upd H s.heap.objs.size (.tup [.int ((i+1:Nat):Int),x]),?_,rfl,⟨_,x,hp,rfl,rfl,fun ys hy=>by rw [I.qBY hy hq];exact hx⟩,⟨⟨x0,by simpa using he2⟩,qBi hit' fun o y=>(hs2.2 it hei.symm).trans y⟩,fun b hb=>?_⟩
    · show Inv X pins σ _ { s with heap:=h2,gens:=s.gens,drawn:=s.drawn,toks:=tk+1 }
      refine Inv.step (s:=s) (h':=h2) (g':=s.gens) (d':=s.drawn) (t':=tk+1) (ch:=[e,it]) I (fun b hb=>?_) (fun b o _ _ hc q _=>hk2 b o (fun z=>hc (by simp [z])) (fun z=>hc (by simp [z])) q) (fun b o _ _ hc q _=>⟨o.slots,hk2 b o (fun z=>hc (by simp [z])) (fun z=>hc (by simp [z])) q⟩)
        (fun b o _ q n=>by rw [qM (qA1 (Heap.lt_size q) (Nat.le_refl _))];exact n) (fun b o hc q=>⟨o,hk2 b o (fun z=>hc (by simp [z])) (fun z=>hc (by simp [z])) q⟩)
        (fun b ys q=>by rw [qM (qN q hp)];exact q) (fun b o v q=>by rw [qM (qN q hp)];exact q) (fun b ps q=>⟨#[],by rw [qM (qN q hp),q];simp⟩) (fun m hm=>?_) (fun b v q=>?_) I.bare
      · k_dat 0"r28"
        · exact⟨e3,e1,e4,e5⟩
        · k_dat 0"r29"
          subst this
          exact⟨i3,i1,i4,i5⟩
      · k_dat 0"r23"
        exact⟨o,es,ep,hk2 _ o (Ne.symm e1) (Ne.symm i1) ho,r⟩
      · by_cases hb:b=s.heap.objs.size
        · subst hb
          rw [qY] at q
          cases q
          k_dat 0"r110"
        · rw [qM hb] at q
          k_dat 0"r111"
          k_dat 0"r19"
          · exact hk2 c o (nt c v q).1 (nt c v q).2 y
          · exact hk2 c o (nt c _ hc).1 (nt c _ hc).2 y
    · have hlt:b<s.heap.objs.size:=by
        k_dat 0"r28"
        · exact Heap.lt_size he
        · k_dat 0"r29"
          subst this
          obtain⟨o,ho,_⟩:=hit
          exact Heap.lt_size ho
      rw [qM (qA1 hlt (Nat.le_refl _))]
      exact (hf b hb).1
  done:=by
    k_dat 0"r7"
    subst hP hw hK
    k_dat 0"r30"
    obtain⟨xs,hq,hx⟩:=hg
    obtain⟨its,rv,p,hz⟩:=I.tuple hq
    k_dat 0"r52"
    have hl:=rv.length
    have hai:a≠it:=fun z=>by
      obtain⟨o1,q1,q2,q3⟩:=hit
      obtain⟨o2,q4,q5,q6⟩:=p
      k_dat 0"r53"
    exact qJS (I.ok.hd hc) he hit p hai (by simp;omega) fun h' eb=>⟨rfl,I.turned (t':=s.toks) (fun b o hb e=>eb b o hb e) i0 i1 i3 i4 i5⟩
  self:=fun _ _ _ _ _ st h=>by
    obtain⟨⟨old,he⟩,_⟩:=st
    exact wpAny_pyIter_enum he h
noncomputable def qQ5 (K:W.Frag) (a:Addr):It :=
  ⟨fun i H=>∃ xs x,SqL K H a xs∧xs[i]? = some x,fun i H x H'=>∃ p v,H p=none∧H'=upd H p (.tup [.int ((i+1:Nat):Int),v])∧x = .ref p∧∀ xs,SqL K H a xs→xs[i]? = some v,fun i H=>∃ xs,SqL K H a xs∧xs.length≤i⟩
theorem qIT {P:Program} {w:World} {K:W.Frag} {elts:List Expr} {x1} {pos:Pos} (a e it:Addr) (hei:e≠it) :
    Turn P w K (.Tuple elts x1 pos) (qQ5 K a) [e,it] e (fun i h=>(∃ old,IsEnum h e it ((i+1:Nat):Int) old)∧h.IsListIter it a i) where
  mem:=by simp
  obj :=fun i h st b hb=>by
    obtain⟨⟨old,he⟩,o,ho,hc,hd⟩:=st
    k_dat 0"r28"
    · exact⟨_,he,fun v z=>by
        have z':Data.fields _=Data.cell v:=z
        cases z'⟩
    · k_dat 0"r29"
      subst this
      exact⟨o,ho,fun v z=>by rw [hd] at z;cases z⟩
  keep:=fun i h h' st k=>by
    k_dat 0"r30"
    exact⟨⟨old,k e (by simp) _ he⟩,hit.at fun o x=>k it (by simp) o x⟩
  item := by
    k_dat 0"r7"
    subst hP hw hK
    k_dat 0"r30"
    obtain⟨xs,x,hq,hx⟩:=hg
    obtain⟨its,rv,p,hz⟩:=I.list hq
    k_dat 0"r25"
    obtain⟨e0,e1,e2,e3,e4,e5⟩:=hf e (by simp)
    k_dat 0"r52"
    have hit0:=hit
    have hai:a≠it:=fun z=>by
      obtain⟨o1,q1,q2,q3⟩:=hit
      obtain⟨o2,q4,q5,q6⟩:=p.isList
      k_dat 0"r53"
    have hea:e≠a:=fun z=>by
      obtain⟨o2,q4,q5,q6⟩:=p.isList
      rw [← z,he] at q4;cases q4;injection q5 with q7;exact absurd q7 (by decide)
    refine wpAny_pyNext_enum_itemD (i:=i+1) (qET (Draws.list (A:=X.A.in1) (I.ok.hd hc) it a hai its.toArray)) he ⟨i,rfl,hit,p.isList⟩ (by have:=(Array.getElem?_eq_some_iff.mp (show its.toArray[i]? = some u by simpa using hu));exact Nat.succ_lt_succ this.1) hei (by simp;exact⟨hei,hea⟩) fun x0 h' tk hx0 ho hst' hT hsz hk=>?_
    have hxu:x0=u:=by
      k_dat 0"r54"
      obtain⟨j0,ej0,hx0⟩:=hx0
      have ej0:i=j0:=by omega
      subst ej0
      k_dat 0"r55"
      k_dat 0"r56"
    subst hxu
    obtain⟨j1,ej1,hit',hp'⟩:=hst'
    have ej1:j1=i+1:=by omega
    subst ej1
    k_dat 0"r106"
    k_dat 0"r107"
    k_dat 0"r108"
    have hp:H s.heap.objs.size=none:=I.hok.fresh (Nat.le_refl _)
    k_dat 0"r109"
    refine⟨.ref s.heap.objs.size,upd H s.heap.objs.size (.tup [.int ((i+1:Nat):Int),x]),?_,rfl,⟨_,x,hp,rfl,rfl,fun ys hy=>by rw [I.qIG hy hq];exact hx⟩,⟨⟨x0,by simpa using he2⟩,hit'.at fun o y=>(hs2.2 it hei.symm).trans y⟩,fun b hb=>?_⟩
    · show Inv X pins σ _ { s with heap:=h2,gens:=s.gens,drawn:=s.drawn,toks:=tk+1 }
      refine Inv.step (s:=s) (h':=h2) (g':=s.gens) (d':=s.drawn) (t':=tk+1) (ch:=[e,it]) I (fun b hb=>?_) (fun b o _ _ hc q _=>hk2 b o (fun z=>hc (by simp [z])) (fun z=>hc (by simp [z])) q) (fun b o _ _ hc q _=>⟨o.slots,hk2 b o (fun z=>hc (by simp [z])) (fun z=>hc (by simp [z])) q⟩)
        (fun b o _ q n=>by rw [qM (qA1 (Heap.lt_size q) (Nat.le_refl _))];exact n) (fun b o hc q=>⟨o,hk2 b o (fun z=>hc (by simp [z])) (fun z=>hc (by simp [z])) q⟩)
        (fun b ys q=>by rw [qM (qN q hp)];exact q) (fun b o v q=>by rw [qM (qN q hp)];exact q) (fun b ps q=>⟨#[],by rw [qM (qN q hp),q];simp⟩) (fun m hm=>?_) (fun b v q=>?_) I.bare
      · k_dat 0"r28"
        · exact⟨e3,e1,e4,e5⟩
        · k_dat 0"r29"
          subst this
          exact⟨i3,i1,i4,i5⟩
      · k_dat 0"r23"
        exact⟨o,es,ep,hk2 _ o (Ne.symm e1) (Ne.symm i1) ho,r⟩
      · by_cases hb:b=s.heap.objs.size
        · subst hb
          rw [qY] at q
          cases q
          k_dat 0"r110"
        · rw [qM hb] at q
          k_dat 0"r111"
          k_dat 0"r19"
          · exact hk2 c o (nt c v q).1 (nt c v q).2 y
          · exact hk2 c o (nt c _ hc).1 (nt c _ hc).2 y
    · have hlt:b<s.heap.objs.size:=by
        k_dat 0"r28"
        · exact Heap.lt_size he
        · k_dat 0"r29"
          subst this
          obtain⟨o,ho,_⟩:=hit
          exact Heap.lt_size ho
      rw [qM (qA1 hlt (Nat.le_refl _))]
      exact (hf b hb).1
  done:=by
    k_dat 0"r7"
    subst hP hw hK
    k_dat 0"r30"
    obtain⟨xs,hq,hx⟩:=hg
    obtain⟨its,rv,p,hz⟩:=I.list hq
    k_dat 0"r52"
    have hl:=rv.length
    have hai:a≠it:=fun z=>by
      obtain⟨o1,q1,q2,q3⟩:=hit
      obtain⟨o2,q4,q5,q6⟩:=p.isList
      k_dat 0"r53"
    exact qJF (I.ok.hd hc) he hit p.isList hai (by simp;omega) fun h' eb=>⟨rfl,I.turned (t':=s.toks) (fun b o hb e=>eb b o hb e) i0 i1 i3 i4 i5⟩
  self:=fun _ _ _ _ _ st h=>by
    obtain⟨⟨old,he⟩,_⟩:=st
    exact wpAny_pyIter_enum he h
theorem qFs {M:Model} {A:Around} {E:Value→Shared→Prop} {s:Shared} {pos:Pos} {T:String} {m:Sem Value} {kws:List (Option Str×Sem Value)} {Q:Value→Shared→Prop}
  (hall:kws.all (·.1.isSome)=true) (hno:kws.any (·.1.isNone)=false)
  (h:wpAny M A (spliced [(false,m)]) (fun vs s1=>wpAny M A (evalAll (kws.map (·.2))) (fun ks s2=>wpAny M A (call (.type T) vs ((kws.filterMap (·.1)).zip ks)) Q E s2) E s1) E s) :
  wpAny M A (callWith pos (.type T) [] [(false,m)] kws) Q E s:=by
  unfold callWith
  refine wpAny_bind (wpAny_holding ?_)
  unfold evalArgs
  simp only []
  refine wpAny_bind (wpAny_mono h (fun vs s1 h1=>?_) (fun e s' h=>h))
  refine wpAny_bind (wpAny_pure ?_)
  refine wpAny_holding ?_
  rw [if_pos hall]
  refine wpAny_bind (wpAny_mono h1 (fun ks s2 h2=>?_) (fun e s' h=>h))
  refine wpAny_bind (wpAny_pure ?_)
  refine wpAny_pure ?_
  refine wpAny_bind (wpAny_standAt ?_)
  refine wpAny_bind ?_
  simp only [keeperOf]
  refine wpAny_pure ?_
  have e1:([(false,m)].any fun x=>x.fst)=false:=rfl
  simp only [e1,hno,Bool.or_false]
  exact wpAny_bind (wpAny_mono h2 (fun r s3 h3=>wpAny_bind (wpAny_holding (wpAny_point (wpAny_pure h3)))) (fun e s' h=>h))
def qFz (te:TD):TID:=fun ρ st P=>te ρ st fun x st1=>match x with
  | .tup xs=>P (qBP 1 xs) (fun _=>True) st1
  | .lst n=>(match st1[n]? with
    | some o=>P (qBP 1 o.items) (fun st'=>(st'[n]?).map SO.items=some o.items) st1
    | none=>False)
  | _=>False
section
variable {X:Cx} {a e2:Expr} {elts:List Expr} {x1:Nat} {tpos pos p kp:Pos} {te:TD}
theorem qLa (hm:X.mg "enumerate" = none) (ha:DE X a te) (hb:DE X e2 (qC (.int 1))) (hg:Gl X "enumerate") (hs:starEach [a] X.env=[(false,eval a X.env)])
    (hall:(backToKw pos (keywordEach [⟨some "start",e2,kp⟩] X.env)).all (·.1.isSome)=true) (hks:(backToKw pos (keywordEach [⟨some "start",e2,kp⟩] X.env)).filterMap (·.1)=[Str.ofString "start"])
    (hpl:(backToKw pos (keywordEach [⟨some "start",e2,kp⟩] X.env)).any (·.1.isNone)=false) (hbk:∃ m,backTo pos [(false,eval a X.env)]=[(false,m)]) :
    DI X (.Tuple elts x1 tpos) (.Call (.Name "enumerate" p) [a] [⟨some "start",e2,kp⟩] pos) (qFz te):=by
  intro pins s σ H R I h
  k_dat 0"r0"
  refine wpAny_Call_Name_kw (qDP I hg hm PyProof.Rows.boot_enumerate ?_ (by decide) (by decide))
  have hA:=qBU ha qDI hs pos pins s σ H _ I ⟨φ,st,ρ,(fun ds st1=>match ds with
    | [x]=>(match x with
      | .tup xs=>P (qBP 1 xs) (fun _=>True) st1
      | .lst n=>(match st1[n]? with
        | some o=>P (qBP 1 o.items) (fun st'=>(st'[n]?).map SO.items=some o.items) st1
        | none=>False)
      | _=>False)
    | _=>False),pre,ht,fun ds st1 h1 φ1 H1 vs b1 dl=>(show ∃ φ1 st1 ds,Bhd X.K φ st H φ1 st1 H1∧DL X.K φ1 st1.length H1 ds vs∧(match ds with
    | [x]=>(match x with
      | .tup xs=>P (qBP 1 xs) (fun _=>True) st1
      | .lst n=>(match st1[n]? with
        | some o=>P (qBP 1 o.items) (fun st'=>(st'[n]?).map SO.items=some o.items) st1
        | none=>False)
      | _=>False)
    | _=>False) from⟨φ1,st1,ds,b1,dl,h1⟩)⟩
  obtain⟨mv,hbk⟩:=hbk
  rw [hs,hbk] at hA ⊢
  refine qFs hall hpl (thn hA fun us s1 ⟨vs,H1,I1,rv,φ1,st1,ds,b1,dl,h1⟩=>?_)
  refine thn (qNL hb qPK pos pins s1 σ H1 (fun zs H2=>∃ φ2,Bhd X.K φ1 st1 H1 φ2 st1 H2∧zs=[V.int 1]) I1 ⟨φ1,st1,ρ,(fun d st2=>st2=st1∧d = .int 1),pre.on b1,⟨rfl,rfl⟩,fun d st2 h2 φ2 H2 v b2 dv=>(by
    obtain⟨rfl,rfl⟩:=h2
    exact⟨φ2,b2,by rw [dv.int]⟩)⟩) fun ws s2 ⟨zs,H2,I2,rz,φ2,b2,ez⟩=>?_
  subst ez
  obtain⟨w1,rfl,t1,rfl⟩:=vals1 rz
  rw [hks]
  show wpAny _ _ (call (.type "enumerate") us [(Str.ofString "start",Value.int 1 t1)]) _ _ s2
  have b12:=b1.trans b2
  have dl2:=dl.evo b2.2
  k_dat 0"r51"
  · exact h1.elim
  rotate_left
  · exact h1.elim
  · obtain⟨v,rfl,dv⟩:=dl2.one
    obtain⟨u,rfl,ru⟩:=vals1 rv
    cases d with
    | tup xs =>
      have h1:P (qBP 1 xs) (fun _=>True) st1:=h1
      obtain⟨a,ws,ev,hs1,dws⟩:=dv.tup
      subst ev
      cases ru
      obtain⟨its,rvs,pl,hz⟩:=I2.tuple hs1
      refine HT.qII pl fun h' he hit hsz hk=>?_
      refine wpAny_pyIter_enum (s:={ s2 with heap:=h' }) he ?_
      have I3:Inv X pins σ H2 { s2 with heap:=h' }:=I2.kept (t':=s2.toks) hk
      have hei:s2.heap.objs.size+1≠s2.heap.objs.size:=by omega
      refine⟨s2.heap.objs.size+1,[s2.heap.objs.size+1,s2.heap.objs.size],_,_,H2,rfl,I3,qIR a _ _ hei,⟨⟨_,he⟩,hit⟩,fun b hb=>?_,hq _ _ st1 h1 φ2 H2 _ b12 ?_⟩
      · have hle:s2.heap.objs.size≤b:=by
          rcases List.mem_cons.mp hb with e | hb
          · rw [e];exact Nat.le_succ _
          · have e:b=s2.heap.objs.size:=by simpa using hb
            rw [e];exact Nat.le_refl _
        exact I2.qK0 hle (I2.hok.fresh hle)
      · k_dat 0"r27"
        obtain⟨a',zs,e2,hs',dl'⟩:=(dv.evo bh.2).tup
        cases e2
        have hlen:=dl'.length
        rw [qBk] at hi
        refine⟨fun e=>⟨zs,hs',by rw [qBk] at e;omega⟩,fun d ed=>?_⟩
        obtain⟨d',ed',rfl⟩:=qCs ed
        obtain⟨y,ey,dy⟩:=dl'.get ed'
        refine⟨⟨zs,y,hs',ey⟩,fun y' H2 hy=>?_⟩
        obtain⟨q,v,hq1,rfl,rfl,hv⟩:=hy
        have:=hv zs hs'
        rw [ey] at this
        cases this
        refine⟨qAv bh.1 hq1,.qBs (SqT.of qY) (.cons ?_ (.cons (dy.evo (qAh hq1)) .nil))⟩
        rw [Nat.add_comm 1 i]
        exact D.mkInt
    | lst n =>
      have h1:(match st1[n]? with
        | some o=>P (qBP 1 o.items) (fun st'=>(st'[n]?).map SO.items=some o.items) st1
        | none=>False):=h1
      split at h1
      · rename_i o eo
        obtain⟨ws,hs1,dws⟩:=b12.1.seq eo dv.isL
        have ev:=dv.lst.2
        subst ev
        cases ru
        obtain⟨its,rvs,pl,hz⟩:=I2.list hs1
        refine HT.qH5 pl.isList fun h' he hit hsz hk=>?_
        refine wpAny_pyIter_enum (s:={ s2 with heap:=h' }) he ?_
        have I3:Inv X pins σ H2 { s2 with heap:=h' }:=I2.kept (t':=s2.toks) hk
        have hei:s2.heap.objs.size+1≠s2.heap.objs.size:=by omega
        refine⟨s2.heap.objs.size+1,[s2.heap.objs.size+1,s2.heap.objs.size],_,_,H2,rfl,I3,qIT (φ2 n) _ _ hei,⟨⟨_,he⟩,hit⟩,fun b hb=>?_,hq _ _ st1 h1 φ2 H2 _ b12 ?_⟩
        · have hle:s2.heap.objs.size≤b:=by
            rcases List.mem_cons.mp hb with e | hb
            · rw [e];exact Nat.le_succ _
            · have e:b=s2.heap.objs.size:=by simpa using hb
              rw [e];exact Nat.le_refl _
          exact I2.qK0 hle (I2.hok.fresh hle)
        · k_dat 0"r27"
          have hok':(st'[n]?).map SO.items=some o.items:=hok
          obtain⟨a',zs,e2,hs',dl'⟩:=qCM (y:=.lst n) (xs:=o.items) bh.1 (dv.evo bh.2) hok'
          cases e2
          have hsl:SqL X.K H' (φ2 n) zs:=by
            rcases hs' with z | ⟨_,z⟩
            · exact z.1
            · cases z
          have hlen:=dl'.length
          rw [qBk] at hi
          refine⟨fun e=>⟨zs,hsl,by rw [qBk] at e;omega⟩,fun d ed=>?_⟩
          obtain⟨d',ed',rfl⟩:=qCs ed
          obtain⟨y,ey,dy⟩:=dl'.get ed'
          refine⟨⟨zs,y,hsl,ey⟩,fun y' H2 hy=>?_⟩
          obtain⟨q,v,hq1,rfl,rfl,hv⟩:=hy
          have:=hv zs hsl
          rw [ey] at this
          cases this
          refine⟨qAv bh.1 hq1,.qBs (SqT.of qY) (.cons ?_ (.cons (dy.evo (qAh hq1)) .nil))⟩
          rw [Nat.add_comm 1 i]
          exact D.mkInt
      · exact h1.elim
    | _=>exact h1.elim
end
end L3
namespace L3
open PySem PySem.Spec PyProof.Rows L2
def qMf (items:List Dt) (ok:Sto→Prop) (tc:TBD) (te:TD) (cρ:Rho) (st:Sto) (Fin:List Dt→Sto→Prop):Prop:=∃ Inv:Nat→List Dt→Sto→Prop,Inv 0 [] st∧(∀ i ys st',i≤items.length→Inv i ys st'→ok st') ∧
  (∀ (i:Nat) d ys st',items[i]? = some d→Inv i ys st'→ys.length<sizeLine∧∃ a b,d = .tup [a,b]∧tc (some a::some b::cρ) st' fun k st1=>if k=true then te (some a::some b::cρ) st1 fun y st2=>Inv (i+1) (ys++[y]) st2 else Inv (i+1) ys st1) ∧
  ∀ ys st',Inv items.length ys st'→Fin ys st'
noncomputable def g2:TGD:=qAS 2 (qX (qI 0) (qX (qI 1) qBj))
theorem qIP {K:W.Frag} {φ:Nat→Addr} {N:Nat} {H:Hp} {ρ:Rho} {σ:L2.St} {a b:Option Dt} (h:DR K φ N H (a::b::ρ) σ):DR K φ N H (none::none::ρ) σ:=by
  refine⟨h.1,fun i d q=>?_⟩
  rcases i with _ | _ | i
  · cases q
  · cases q
  · exact h.2 (i+2) d q
theorem qK1 {K:W.Frag} {φ1:Nat→Addr} {st1:Sto} {H1:Hp} {cρ:Rho} {σ0:L2.St} {J:It} {items:List Dt} {ok:Sto→Prop} {tc:TBD} {te:TD} {Fin:List Dt→Sto→Prop} {Fin':List V→Hp→Prop}
    (R:Rep K φ1 st1 H1) (dr:DR K φ1 st1.length H1 (none::none::cρ) σ0) (hJ:qFG K φ1 st1 H1 J items ok) (hc:qMf items ok tc te cρ st1 Fin)
    (hF:∀ ys st' φ' H' vs,Fin ys st'→Bhd K φ1 st1 H1 φ' st' H'→DL K φ' st'.length H' ys vs→Fin' vs H') :
    qJZ J (qGa K g2) (liftT K tc) (qAU K te) σ0 H1 Fin':=by
  obtain⟨Inv,h0,hok,step,fin⟩:=hc
  refine⟨fun i m σ vs H=>m=items.length - i∧i≤items.length∧∃ φ' st' ys,Bhd K φ1 st1 H1 φ' st' H∧DL K φ' st'.length H ys vs∧DR K φ' st'.length H (none::none::cρ) σ∧Inv i ys st',
    ⟨items.length,by simp,Nat.zero_le _,φ1,st1,[],.refl R,.nil,dr,h0⟩,?_⟩
  rintro i m σ vs H ⟨rfl,hi,φ',st',ys,bh,dl,drs,hI⟩
  obtain⟨js,jg⟩:=hJ i φ' st' H bh (hok i ys st' hi hI) hi
  by_cases hlt:i<items.length
  · have ed:items[i]? = some items[i]:=by simp [hlt]
    obtain⟨go,yl⟩:=jg _ ed
    obtain⟨hz,a,b,ed2,hstep⟩:=step i _ ys st' ed hI
    refine .inr ⟨go,by rw [← dl.length];exact hz,fun y H2 hy=>?_⟩
    obtain⟨b2,dy⟩:=yl y H2 hy
    have b12:=bh.trans b2
    refine⟨φ',st',none::none::cρ,_,(fun ρ2 st2=>ρ2=some a::some b::cρ∧st2=st'),⟨b2.1,drs.evo b2.2⟩,dy,?_,fun ρ2 st2 hp φ3 H3 σ2 b3 dr3=>?_⟩
    · rw [ed2];exact⟨rfl,rfl,rfl⟩
    obtain⟨rfl,rfl⟩:=hp
    refine⟨φ3,st2,_,_,⟨b3.1,dr3⟩,hstep,fun k st3 h3 φ4 H4 b4=>?_⟩
    cases k with
    | false =>
      rw [if_neg Bool.false_ne_true] at h3 ⊢
      exact⟨items.length - (i+1),by omega,rfl,hlt,φ4,st3,ys,b12.trans (b3.trans b4),dl.evo (b2.2.trans (b3.2.trans b4.2)),(qIP dr3).evo b4.2,h3⟩
    | true =>
      rw [if_pos rfl] at h3 ⊢
      refine⟨φ4,st3,_,_,⟨b4.1,dr3.evo b4.2⟩,h3,fun z st4 h4 φ5 H5 w b5 dz=>?_⟩
      exact⟨items.length - (i+1),by omega,rfl,hlt,φ5,st4,ys++[z],b12.trans (b3.trans (b4.trans b5)),(dl.evo (b2.2.trans (b3.2.trans (b4.2.trans b5.2)))).append (.cons dz .nil),(qIP dr3).evo (b4.2.trans b5.2),h4⟩
  · have e:i=items.length:=by omega
    subst e
    exact .inl ⟨js rfl,hF ys st' φ' H vs (fin ys st' hI) bh dl⟩
def qEH (ti:TID) (tc:TBD) (te:TD) (caps:List (Nat×Str)):TD:=fun ρ st P=>ti ρ st fun items ok st1=>qMf items ok tc te (qCK caps ρ) st1 fun ys st2=>P (.lst st2.length) (st2++[.rw ys])
section
variable {X:Cx} {pos:Pos} {ti:TID} {iter:Expr}
theorem qJH {K:W.Frag} {tc:TBD} {te:TD} {caps:List (Nat×Str)} {σ:L2.St} {H:Hp} {Q:VK} (h:qAU K (qEH ti tc te caps) σ H Q):qJy (qLY K ti) (qGa K g2) (liftT K tc) (qAU K te) 2 caps σ H Q:=by
  k_dat 0"r0"
  k_dat 0"r79"
  refine qK1 b1.1 ?_ hJ h1 fun ys st2 φ2 H2 vs hF b2 dl p hp=>?_
  · have hd:=qMB (pre.on b1).2 caps
    refine⟨by simp [hd.1,List.replicate],fun i d q=>?_⟩
    rcases i with _ | _ | i
    · cases q
    · cases q
    · exact hd.2 i d q
  · exact hq _ _ hF _ _ _ (b1.trans (b2.trans (qCQ b2.1 hp dl))) qFH
variable {elt:Expr} {ifs:List Expr} {sc:Scope} {x y:Str} {px py tp:Pos} {kt:Nat} {tc:TBD} {te:TD}
theorem qFj (caps:List (Nat×Str)) (hc:X.calm=true) (S:qAN X.env.scope X.N caps sc) (hx:sc.names.lookup x=some .local) (hy:sc.names.lookup y=some .local) (hnd:([x,y]++caps.map (·.2)).Nodup) (hi:DI X (.Tuple [.Name x px,.Name y py] kt tp) iter ti)
    (hif:∀ C s H fp,DIf (qAF X [x,y] caps sc C s H fp) ifs tc) (he:∀ C s H fp,DE (qAF X [x,y] caps sc C s H fp) elt te)
    (hs:∀ x,foldedSetIterable iter X.env x=pure x:=by intro _;rfl):DE X (.ListComp elt [⟨.Tuple [.Name x px,.Name y py] kt tp,iter,ifs,0⟩] sc pos) (qEH ti tc te caps) :=
  PE.imp (qJh (g:=qGa X.K g2) (tc:=liftT X.K tc) (te:=qAU X.K te) [x,y] caps hc S hi (fun C s H fp=>qGf (X:=qAF X [x,y] caps sc C s H fp) 2 hc (qFV (qG8 0 hnd rfl (.inl (lookup_relabel_local hx)) (.inr (lookup_relabel_local hx))) (qFV (qG8 1 hnd rfl (.inl (lookup_relabel_local hy)) (.inr (lookup_relabel_local hy))) qJx rfl) rfl) rfl) hif he hs) fun σ H Q h=>qJH h
end
end L3
namespace HT
open PySem PySem.Spec PyProof.Rows
section
variable {prog:Program} {w:World} {A:Around} {E:Value→Shared→Prop} {s:Shared}
structure qEN (z TI TO i1 i2:Addr) (fp1 fp2:List Addr):Prop where
  TIz:TI≠z
  TOz:TO≠z
  i1z:i1≠z
  i2z:i2≠z
  TITO:TI≠TO
  TIi1:TI≠i1
  TIi2:TI≠i2
  TOi1:TO≠i1
  TOi2:TO≠i2
  i12:i1≠i2
  z1:z ∉ fp1
  z2:z ∉ fp2
  o1:TO ∉ fp1
  o2:TO ∉ fp2
  a2:i1 ∉ fp2
  b1:i2 ∉ fp1
theorem qKb {z TI TO i1 i2:Addr} {fp1 fp2:List Addr} {n1 n2 k1 k2:Nat} {P1 P2:Nat→Value→Prop} {St1 St2:Nat→Heap→Prop} {a b:Value} {Q:Fin→Shared→Prop}
    (ap:qEN z TI TO i1 i2 fp1 fp2) (D1:Draws prog w A i1 fp1 n1 P1 St1) (D2:Draws prog w A i2 fp2 n2 P2 St2) (hz:IsZip s.heap z TI TO .none) (hI:IsPair s.heap TI (.ref i1) (.ref i2)) (hO:IsPair s.heap TO a b) (h1:St1 k1 s.heap) (h2:St2 k2 s.heap) (l1:k1<n1) (l2:k2<n2)
    (hQ:∀ x y h' tk,P1 k1 x→P2 k2 y→IsZip h' z TI TO (rawInt s.heap.objs.size)→IsPair h' TI (.ref i1) (.ref i2)→IsPair h' TO x y→St1 (k1+1) h'→St2 (k2+1) h'→IsPair h' s.heap.objs.size x y→h'.objs.size=s.heap.objs.size+1→(∀ c o,c≠z→c≠TO→c≠i1→c≠i2→s.heap.get? c=some o→h'.get? c=some o)→Q (.done (.ret (.ref s.heap.objs.size))) { s with heap:=h',toks:=tk }) :
    wpAny (model prog w) A (Builtin.«zip.__next__» { pos:=[.ref z] }) Q E s:=by
  unfold Builtin.«zip.__next__»
  show wpAny _ _ (field (.ref z) 2 >>= _) _ _ s
  refine wpAny_bind (wpAny_field hz rfl (x:=.bool false) rfl ?_)
  show wpAny _ _ (field (.ref z) 3 >>= _) _ _ s
  refine wpAny_bind (wpAny_field hz rfl (x:=.ref TI) rfl ?_)
  refine wpAny_bind (wpAny_seqItems hI rfl ?_)
  show wpAny _ _ (Builtin.SmallTypes.ownedTupleIsFree (.ref z) >>= _) _ _ s
  unfold Builtin.SmallTypes.ownedTupleIsFree
  refine wpAny_bind (wpAny_bind (wpAny_field hz rfl (x:=.none) rfl (wpAny_pure ?_)))
  refine wpAny_bind (wpAny_rule ?_)
  refine wpAny_bind (wpAny_field hz rfl (x:=.ref TO) rfl ?_)
  refine wpAny_bind (wpAny_setField hz rfl (by simp) ?_)
  k_dat 0"r112"
  k_dat 0"r113"
  have hsa:(s.heap.update z (Obj.mapFields fun x_1=>x_1.setIfInBounds 0 Value.ellipsis)).objs.size=s.heap.objs.size:=(Heap.SameBut.update ..).1
  generalize s.heap.update z (Obj.mapFields fun x_1=>x_1.setIfInBounds 0 Value.ellipsis)=ha at hza hua hsa
  k_dat 0"r114"
  k_dat 0"r115"
  have hIa:IsPair ha TI (.ref i1) (.ref i2):=(hua TI ap.TIz).trans hI
  have hOa:IsPair ha TO a b:=(hua TO ap.TOz).trans hO
  show wpAny _ _ (forIn [(Value.ref i1,0),(Value.ref i2,1)] (none,()) _ >>= _) _ _ _
  rw [List.forIn_cons]
  refine wpAny_bind (wpAny_bind ?_)
  refine wpAny_bind (wpAny_onRaise ?_)
  show wpAny _ _ (Builtin.SmallTypes.nextOf (.ref i1) >>= fun v=>pure (some v)) _ _ _
  refine wpAny_bind (D1.item k1 _ _ _ l1 h1a fun x hb tk1 hx st1 sb1=>wpAny_pure ?_)
  have hOb:IsPair hb TO a b:=(sb1.2 TO ap.TOi1).trans hOa
  refine wpAny_bind (wpAny_seqItems hOb rfl ?_)
  refine wpAny_bind (wpAny_updateSeq_pair hOb fun hc hOc sbc=>?_)
  refine wpAny_bind (wpAny_letGo ?_)
  refine wpAny_pure ?_
  have hOc:IsPair hc TO x b:=hOc
  have h1c:St1 (k1+1) hc:=D1.frame _ _ _ st1 fun c hcm o q=>(sbc.2 c (fun e=>ap.o1 (e ▸ hcm))).trans q
  k_dat 0"r116"
  show wpAny _ _ (forIn [(Value.ref i2,1)] (none,()) _) _ _ _
  rw [List.forIn_cons]
  refine wpAny_bind ?_
  refine wpAny_bind (wpAny_onRaise ?_)
  show wpAny _ _ (Builtin.SmallTypes.nextOf (.ref i2) >>= fun v=>pure (some v)) _ _ _
  refine wpAny_bind (D2.item k2 _ _ _ l2 h2c fun y hd tk2 hy st2 sb2=>wpAny_pure ?_)
  have hOd:IsPair hd TO x b:=(sb2.2 TO ap.TOi2).trans hOc
  refine wpAny_bind (wpAny_seqItems hOd rfl ?_)
  refine wpAny_bind (wpAny_updateSeq_pair hOd fun he hOe sbe=>?_)
  refine wpAny_bind (wpAny_letGo ?_)
  refine wpAny_pure ?_
  have hOe:IsPair he TO x y:=hOe
  show wpAny _ _ (forIn ([]:List (Value×Nat)) (none,()) _) _ _ _
  rw [List.forIn_nil]
  refine wpAny_pure ?_
  refine wpAny_bind (wpAny_seqItems hOe rfl ?_)
  refine wpAny_bind (wpAny_newTuple ?_ (by show 2≤sizeLine;rw [sizeLine_eq];decide))
  have all:∀ c,c≠z→c≠TO→c≠i1→c≠i2→he.get? c=s.heap.get? c:=fun c q1 q2 q3 q4=>(sbe.2 c q2).trans ((sb2.2 c q4).trans ((sbc.2 c q2).trans ((sb1.2 c q3).trans (hua c q1))))
  have hse:he.objs.size=s.heap.objs.size:=by rw [sbe.1,sb2.1,sbc.1,sb1.1];exact hsa
  have hze:he.get? z=some { cls:=.type "zip",data:=.fields #[.ellipsis,.bool false,.bool false,.ref TI,.ref TO] }:=(sbe.2 z ap.TOz.symm).trans ((sb2.2 z ap.i2z.symm).trans ((sbc.2 z ap.TOz.symm).trans ((sb1.2 z ap.i1z.symm).trans hza)))
  have hIe:IsPair he TI (.ref i1) (.ref i2):=(sbe.2 TI ap.TITO).trans ((sb2.2 TI ap.TIi2).trans ((sbc.2 TI ap.TITO).trans ((sb1.2 TI ap.TIi1).trans hIa)))
  have h1e:St1 (k1+1) he:=D1.frame _ _ _ h1c fun c hcm o q=>(sbe.2 c (fun e=>ap.o1 (e ▸ hcm))).trans ((sb2.2 c (fun e=>ap.b1 (e ▸ hcm))).trans q)
  have h2e:St2 (k2+1) he:=D2.frame _ _ _ st2 fun c hcm o q=>(sbe.2 c (fun e=>ap.o2 (e ▸ hcm))).trans q
  have hnew:=Heap.get?_push_size he (o:={ cls:=.type "tuple",data:=.seq #[x,y] }) rfl
  have hpush:∀ c o,he.get? c=some o→(he.push { cls:=.type "tuple",data:=.seq #[x,y] }).get? c=some o:=fun c o q=>Heap.get?_push_of_some _ q
  have hsf:(he.push { cls:=.type "tuple",data:=.seq #[x,y] }).objs.size=s.heap.objs.size+1:=by rw [Heap.size_push,hse]
  rw [hse] at hnew
  show wpAny _ _ (Builtin.SmallTypes.ownedTupleHandOut (.ref z) (.ref he.objs.size) >>= _) _ _ { s with heap:=he.push { cls:=.type "tuple",data:=.seq #[x,y] },toks:=tk2 }
  rw [hse]
  generalize he.push { cls:=.type "tuple",data:=.seq #[x,y] }=hf at hnew hpush hsf
  have hzf:=hpush _ _ hze
  have zlt:z≠s.heap.objs.size:=Nat.ne_of_lt (Heap.lt_size hz)
  unfold Builtin.SmallTypes.ownedTupleHandOut
  refine wpAny_bind (wpAny_bind (wpAny_setField hzf rfl (by simp) ?_))
  have hzg:=Heap.get?_update_self (h:=hf) (Obj.mapFields fun x_1=>x_1.setIfInBounds 0 (rawInt (s.heap.objs.size:Int))) hzf (Obj.isFreed_of_fields (Obj.data_mapFields rfl _))
  have hug:∀ c,c≠z→(hf.update z (Obj.mapFields fun x_1=>x_1.setIfInBounds 0 (rawInt (s.heap.objs.size:Int)))).get? c=hf.get? c:=fun c hc=>Heap.get?_update_ne _ _ _ _ hc
  have hsg:(hf.update z (Obj.mapFields fun x_1=>x_1.setIfInBounds 0 (rawInt (s.heap.objs.size:Int)))).objs.size=hf.objs.size:=(Heap.SameBut.update ..).1
  generalize hf.update z (Obj.mapFields fun x_1=>x_1.setIfInBounds 0 (rawInt (s.heap.objs.size:Int)))=hg at hzg hug hsg
  refine wpAny_setField hzg rfl (by simp [Obj.mapFields]) ?_
  have hzh:=Heap.get?_update_self (h:=hg) (Obj.mapFields fun x_1=>x_1.setIfInBounds 1 (Value.bool false)) hzg (Obj.isFreed_of_fields (Obj.data_mapFields rfl _))
  have huh:∀ c,c≠z→(hg.update z (Obj.mapFields fun x_1=>x_1.setIfInBounds 1 (Value.bool false))).get? c=hg.get? c:=fun c hc=>Heap.get?_update_ne _ _ _ _ hc
  have hsh:(hg.update z (Obj.mapFields fun x_1=>x_1.setIfInBounds 1 (Value.bool false))).objs.size=hg.objs.size:=(Heap.SameBut.update ..).1
  generalize hg.update z (Obj.mapFields fun x_1=>x_1.setIfInBounds 1 (Value.bool false))=hh at hzh huh hsh
  have fro:∀ c o,c≠z→he.get? c=some o→hh.get? c=some o:=fun c o q1 q=>(huh c q1).trans ((hug c q1).trans (hpush c o q))
  refine wpAny_pure (hQ x y hh tk2 hx hy hzh (fro _ _ ap.TIz hIe) (fro _ _ ap.TOz hOe) (D1.frame _ _ _ h1e fun c hcm o q=>fro c o (fun e=>ap.z1 (e ▸ hcm)) q) (D2.frame _ _ _ h2e fun c hcm o q=>fro c o (fun e=>ap.z2 (e ▸ hcm)) q) ?_ ?_ fun c o q1 q2 q3 q4 q=>fro c o q1 ((all c q1 q2 q3 q4).trans q))
  · exact (huh _ zlt.symm).trans ((hug _ zlt.symm).trans hnew)
  · rw [hsh,hsg,hsf]
theorem qL7 {z TI TO i1 i2:Addr} {fp1 fp2:List Addr} {n1 n2 k1 k2:Nat} {P1 P2:Nat→Value→Prop} {St1 St2:Nat→Heap→Prop} {a b:Value} {Q:Fin→Shared→Prop}
    (ap:qEN z TI TO i1 i2 fp1 fp2) (D1:Draws prog w A i1 fp1 n1 P1 St1) (D2:Draws prog w A i2 fp2 n2 P2 St2) (hz:IsZip s.heap z TI TO .none) (hI:IsPair s.heap TI (.ref i1) (.ref i2)) (hO:IsPair s.heap TO a b) (h1:St1 k1 s.heap) (h2:St2 k2 s.heap) (hl:k1=n1∨k1<n1∧k2=n2)
    (hE:∀ h' tk e,(∃ o,h'.get? e=some o∧o.cls = .type "StopIteration")→(∀ c o,c≠z→c≠TO→c≠i1→c≠i2→s.heap.get? c=some o→h'.get? c=some o)→E (.ref e) { s with heap:=h',toks:=tk }) :
    wpAny (model prog w) A (Builtin.«zip.__next__» { pos:=[.ref z] }) Q E s:=by
  unfold Builtin.«zip.__next__»
  show wpAny _ _ (field (.ref z) 2 >>= _) _ _ s
  refine wpAny_bind (wpAny_field hz rfl (x:=.bool false) rfl ?_)
  show wpAny _ _ (field (.ref z) 3 >>= _) _ _ s
  refine wpAny_bind (wpAny_field hz rfl (x:=.ref TI) rfl ?_)
  refine wpAny_bind (wpAny_seqItems hI rfl ?_)
  show wpAny _ _ (Builtin.SmallTypes.ownedTupleIsFree (.ref z) >>= _) _ _ s
  unfold Builtin.SmallTypes.ownedTupleIsFree
  refine wpAny_bind (wpAny_bind (wpAny_field hz rfl (x:=.none) rfl (wpAny_pure ?_)))
  refine wpAny_bind (wpAny_rule ?_)
  refine wpAny_bind (wpAny_field hz rfl (x:=.ref TO) rfl ?_)
  refine wpAny_bind (wpAny_setField hz rfl (by simp) ?_)
  k_dat 0"r112"
  k_dat 0"r113"
  generalize s.heap.update z (Obj.mapFields fun x_1=>x_1.setIfInBounds 0 Value.ellipsis)=ha at hza hua
  k_dat 0"r114"
  k_dat 0"r115"
  have hOa:IsPair ha TO a b:=(hua TO ap.TOz).trans hO
  show wpAny _ _ (forIn [(Value.ref i1,0),(Value.ref i2,1)] (none,()) _ >>= _) _ _ _
  rw [List.forIn_cons]
  refine wpAny_bind (wpAny_bind ?_)
  refine wpAny_bind (wpAny_onRaise ?_)
  show wpAny _ _ (Builtin.SmallTypes.nextOf (.ref i1) >>= fun v=>pure (some v)) _ _ _
  rcases hl with rfl | ⟨l1,rfl⟩
  · refine wpAny_bind (D1.done _ _ _ h1a fun hb e xb ⟨oe,he,ce⟩=>?_)
    have hzb:=xb z _ ap.i1z.symm hza
    refine wpAny_setField hzb rfl (by simp [Obj.mapFields]) ?_
    have huc:∀ c,c≠z→(hb.update z (Obj.mapFields fun x_1=>x_1.setIfInBounds 0 Value.none)).get? c=hb.get? c:=fun c hc=>Heap.get?_update_ne _ _ _ _ hc
    have hez:e≠z:=fun q=>by
      subst q
      rw [hzb] at he;cases he;injection ce with q;exact absurd q (by decide)
    exact hE _ _ e ⟨oe,(huc e hez).trans he,ce⟩ fun c o q1 q2 q3 q4 q=>(huc c q1).trans (xb c o q3 ((hua c q1).trans q))
  · refine wpAny_bind (D1.item k1 _ _ _ l1 h1a fun x hb tk1 hx st1 sb1=>wpAny_pure ?_)
    have hOb:IsPair hb TO a b:=(sb1.2 TO ap.TOi1).trans hOa
    refine wpAny_bind (wpAny_seqItems hOb rfl ?_)
    refine wpAny_bind (wpAny_updateSeq_pair hOb fun hc hOc sbc=>?_)
    refine wpAny_bind (wpAny_letGo ?_)
    refine wpAny_pure ?_
    k_dat 0"r116"
    show wpAny _ _ (forIn [(Value.ref i2,1)] (none,()) _) _ _ _
    rw [List.forIn_cons]
    refine wpAny_bind ?_
    refine wpAny_bind (wpAny_onRaise ?_)
    show wpAny _ _ (Builtin.SmallTypes.nextOf (.ref i2) >>= fun v=>pure (some v)) _ _ _
    refine wpAny_bind (D2.done _ _ _ h2c fun hd e xd ⟨oe,he,ce⟩=>?_)
    have hzc:=(sbc.2 z ap.TOz.symm).trans ((sb1.2 z ap.i1z.symm).trans hza)
    have hzd:=xd z _ ap.i2z.symm hzc
    refine wpAny_setField hzd rfl (by simp [Obj.mapFields]) ?_
    have hue:∀ c,c≠z→(hd.update z (Obj.mapFields fun x_1=>x_1.setIfInBounds 0 Value.none)).get? c=hd.get? c:=fun c hc=>Heap.get?_update_ne _ _ _ _ hc
    have hez:e≠z:=fun q=>by
      subst q
      rw [hzd] at he;cases he;injection ce with q;exact absurd q (by decide)
    exact hE _ _ e ⟨oe,(hue e hez).trans he,ce⟩ fun c o q1 q2 q3 q4 q=>(hue c q1).trans (xd c o q4 ((sbc.2 c q2).trans ((sb1.2 c q3).trans ((hua c q1).trans q))))
theorem qEW {z TI TO i1 i2:Addr} {fp1 fp2:List Addr} {n1 n2 k1 k2:Nat} {P1 P2:Nat→Value→Prop} {St1 St2:Nat→Heap→Prop} {a b:Value} {Q:Option Value→Shared→Prop}
    (ap:qEN z TI TO i1 i2 fp1 fp2) (D1:Draws prog w A.in1 i1 fp1 n1 P1 St1) (D2:Draws prog w A.in1 i2 fp2 n2 P2 St2) (hz:IsZip s.heap z TI TO .none) (hI:IsPair s.heap TI (.ref i1) (.ref i2)) (hO:IsPair s.heap TO a b) (h1:St1 k1 s.heap) (h2:St2 k2 s.heap) (l1:k1<n1) (l2:k2<n2)
    (hQ:∀ x y h' tk,P1 k1 x→P2 k2 y→IsZip h' z TI TO (rawInt s.heap.objs.size)→IsPair h' TI (.ref i1) (.ref i2)→IsPair h' TO x y→St1 (k1+1) h'→St2 (k2+1) h'→IsPair h' s.heap.objs.size x y→h'.objs.size=s.heap.objs.size+1→(∀ c o,c≠z→c≠TO→c≠i1→c≠i2→s.heap.get? c=some o→h'.get? c=some o)→Q (some (.ref s.heap.objs.size)) { s with heap:=h',toks:=tk }) :
    wpAny (model prog w) A (pyNext (.ref z)) Q E s:=by
  have hT:s.TypeIs (.ref z) "zip":=⟨_,hz,rfl⟩
  unfold pyNext
  k_dat 0"r117"
  refine qKb ap D1 D2 hz hI hO h1 h2 l1 l2 fun x y h' tk q1 q2 q3 q4 q5 q6 q7 q8 q9 q10=>?_
  exact⟨_,rfl,wpAny_pure (hQ x y h' tk q1 q2 q3 q4 q5 q6 q7 q8 q9 q10)⟩
theorem qCY {z TI TO i1 i2:Addr} {fp1 fp2:List Addr} {n1 n2 k1 k2:Nat} {P1 P2:Nat→Value→Prop} {St1 St2:Nat→Heap→Prop} {a b:Value} {Q:Option Value→Shared→Prop}
    (ap:qEN z TI TO i1 i2 fp1 fp2) (D1:Draws prog w A.in1 i1 fp1 n1 P1 St1) (D2:Draws prog w A.in1 i2 fp2 n2 P2 St2) (hz:IsZip s.heap z TI TO .none) (hI:IsPair s.heap TI (.ref i1) (.ref i2)) (hO:IsPair s.heap TO a b) (h1:St1 k1 s.heap) (h2:St2 k2 s.heap) (hl:k1=n1∨k1<n1∧k2=n2)
    (hQ:∀ h' tk,(∀ c o,c≠z→c≠TO→c≠i1→c≠i2→s.heap.get? c=some o→h'.get? c=some o)→Q none { s with heap:=h',toks:=tk }) :
    wpAny (model prog w) A (pyNext (.ref z)) Q E s:=by
  have hT:s.TypeIs (.ref z) "zip":=⟨_,hz,rfl⟩
  unfold pyNext
  k_dat 0"r117"
  refine qL7 ap D1 D2 hz hI hO h1 h2 hl fun h' tk e ⟨o,ho,hc⟩ hk=>?_
  exact wpAny_bind (wpAny_isInstance (T:= "StopIteration") (b:=true) ⟨o,ho,hc⟩ isSubtype_stop (wpAny_pure (hQ _ _ hk)))
end
end HT
namespace HT
open PySem PySem.Spec PyProof.Rows
def qEK (prog:Program) (w:World) (u:Value) (o:Obj) (ok:Heap→Prop):Prop :=
  ∀ (A:Around) (s:Shared) (Q:Value→Shared→Prop) (E:Value→Shared→Prop),ok s.heap→Q (.ref s.heap.objs.size) { s with heap:=s.heap.push o }→wpAny (model prog w) A (pyIter u) Q E s
theorem qMF {prog:Program} {w:World} {u1 u2:Value} {o1 o2:Obj} {ok1 ok2:Heap→Prop} (h1:qEK prog w u1 o1 ok1) (h2:qEK prog w u2 o2 ok2) :
    MeetsIn prog w (Builtin.«zip.__new__» ⟨[.type "zip",u1,u2],[]⟩) (fun _ R s=>ok1 s.heap∧ok2 (s.heap.push o1) ∧
      R (.ok (.ret (.ref ((((s.heap.push o1).push o2).push { cls:=.type "tuple",data:=.seq #[.ref s.heap.objs.size,.ref (s.heap.push o1).objs.size] }).push { cls:=.type "tuple",data:=.seq #[.none,.none] }).objs.size)))
        { s with heap:=((((s.heap.push o1).push o2).push { cls:=.type "tuple",data:=.seq #[.ref s.heap.objs.size,.ref (s.heap.push o1).objs.size] }).push { cls:=.type "tuple",data:=.seq #[.none,.none] }).push { cls:=.type "zip",data:=.fields #[.none,.bool false,.bool false,.ref ((s.heap.push o1).push o2).objs.size,.ref (((s.heap.push o1).push o2).push { cls:=.type "tuple",data:=.seq #[.ref s.heap.objs.size,.ref (s.heap.push o1).objs.size] }).objs.size] } }) :=
  .of_wp fun A R s h=>by
    obtain⟨hp,g,d,tk,os⟩:=s;obtain⟨k1,k2,h⟩:=h
    have hsub:=sub_zip
    have r1:∀ {A:Around} {Q:Value→Shared→Prop} {E:Value→Shared→Prop},Q (.ref hp.objs.size) ⟨hp.push o1,g,d,tk,os⟩→wpAny (model prog w) A (pyIter u1) Q E ⟨hp,g,d,tk,os⟩:=fun q=>h1 _ _ _ _ k1 q
    have r2:∀ {A:Around} {Q:Value→Shared→Prop} {E:Value→Shared→Prop},Q (.ref (hp.push o1).objs.size) ⟨(hp.push o1).push o2,g,d,tk,os⟩→wpAny (model prog w) A (pyIter u2) Q E ⟨hp.push o1,g,d,tk,os⟩:=fun q=>h2 _ _ _ _ k2 q
    wp_walk using r1,r2
    exact⟨_,rfl,h⟩
section
variable {prog:Program} {w:World} {A:Around} {E:Value→Shared→Prop} {s:Shared}
theorem qGT {u1 u2:Value} {o1 o2:Obj} {ok1 ok2:Heap→Prop} {Q:Value→Shared→Prop} (h1:qEK prog w u1 o1 ok1) (h2:qEK prog w u2 o2 ok2) (f1:o1.isFreed=false) (f2:o2.isFreed=false) (k1:ok1 s.heap) (k2:ok2 (s.heap.push o1))
    (h:∀ h',IsZip h' (s.heap.objs.size+4) (s.heap.objs.size+2) (s.heap.objs.size+3) .none→IsPair h' (s.heap.objs.size+2) (.ref s.heap.objs.size) (.ref (s.heap.objs.size+1))→IsPair h' (s.heap.objs.size+3) .none .none →
      h'.get? s.heap.objs.size=some o1→h'.get? (s.heap.objs.size+1)=some o2→h'.objs.size=s.heap.objs.size+5→(∀ c o,s.heap.get? c=some o→h'.get? c=some o)→Q (.ref (s.heap.objs.size+4)) { s with heap:=h' }) :
    wpAny (model prog w) A (call (.type "zip") [u1,u2]) Q E s:=by
  refine callType_newIn F.called_zip (by decide) (F.typeCall_zip_2 _ _) (F.newCall_zip_2 _ _) (fun obj=>F.args_object_init_3 obj _ _) F.entry_zip_new (qMF h1 h2) ⟨k1,k2,?_⟩
  obtain⟨n,hn⟩:∃ n,s.heap.objs.size=n:=⟨_,rfl⟩
  have g1:=Heap.get?_push_size s.heap f1
  have e1:(s.heap.push o1).objs.size=n+1:=by rw [Heap.size_push,hn]
  have p1:∀ c o,s.heap.get? c=some o→(s.heap.push o1).get? c=some o:=fun c o q=>Heap.get?_push_of_some _ q
  rw [hn] at g1 h ⊢
  rw [e1]
  generalize s.heap.push o1=ha at g1 e1 p1
  have g2:=Heap.get?_push_size ha f2
  have e2:(ha.push o2).objs.size=n+2:=by rw [Heap.size_push,e1]
  have p2:∀ c o,ha.get? c=some o→(ha.push o2).get? c=some o:=fun c o q=>Heap.get?_push_of_some _ q
  rw [e1] at g2
  rw [e2]
  generalize ha.push o2=hb at g2 e2 p2
  have g3:=Heap.get?_push_size hb (o:={ cls:=.type "tuple",data:=.seq #[.ref n,.ref (n+1)] }) rfl
  have e3:(hb.push { cls:=.type "tuple",data:=.seq #[.ref n,.ref (n+1)] }).objs.size=n+3:=by rw [Heap.size_push,e2]
  have p3:∀ c o,hb.get? c=some o→(hb.push { cls:=.type "tuple",data:=.seq #[.ref n,.ref (n+1)] }).get? c=some o:=fun c o q=>Heap.get?_push_of_some _ q
  rw [e2] at g3
  rw [e3]
  generalize hb.push { cls:=.type "tuple",data:=.seq #[.ref n,.ref (n+1)] }=hc at g3 e3 p3
  have g4:=Heap.get?_push_size hc (o:={ cls:=.type "tuple",data:=.seq #[.none,.none] }) rfl
  have e4:(hc.push { cls:=.type "tuple",data:=.seq #[.none,.none] }).objs.size=n+4:=by rw [Heap.size_push,e3]
  have p4:∀ c o,hc.get? c=some o→(hc.push { cls:=.type "tuple",data:=.seq #[.none,.none] }).get? c=some o:=fun c o q=>Heap.get?_push_of_some _ q
  rw [e3] at g4
  rw [e4]
  generalize hc.push { cls:=.type "tuple",data:=.seq #[.none,.none] }=hd at g4 e4 p4
  have g5:=Heap.get?_push_size hd (o:={ cls:=.type "zip",data:=.fields #[.none,.bool false,.bool false,.ref (n+2),.ref (n+3)] }) rfl
  have e5:(hd.push { cls:=.type "zip",data:=.fields #[.none,.bool false,.bool false,.ref (n+2),.ref (n+3)] }).objs.size=n+5:=by rw [Heap.size_push,e4]
  have p5:∀ c o,hd.get? c=some o→(hd.push { cls:=.type "zip",data:=.fields #[.none,.bool false,.bool false,.ref (n+2),.ref (n+3)] }).get? c=some o:=fun c o q=>Heap.get?_push_of_some _ q
  rw [e4] at g5
  generalize hd.push { cls:=.type "zip",data:=.fields #[.none,.bool false,.bool false,.ref (n+2),.ref (n+3)] }=he at g5 e5 p5
  exact⟨⟨_,g5,rfl⟩,h _ g5 (p5 _ _ (p4 _ _ g3)) (p5 _ _ g4) (p5 _ _ (p4 _ _ (p3 _ _ (p2 _ _ g1)))) (p5 _ _ (p4 _ _ (p3 _ _ g2))) e5 fun c o q=>p5 _ _ (p4 _ _ (p3 _ _ (p2 _ _ (p1 _ _ q))))⟩
end
end HT
namespace L3
open PySem PySem.Spec PyProof.Rows L2
structure ZSt (h:Heap) (z TI TO i1 i2:Addr):Prop where
  z:IsZip h z TI TO .none
  I:IsPair h TI (.ref i1) (.ref i2)
  O:∃ a b,IsPair h TO a b
noncomputable def qSe (K:W.Frag) (a:Addr) (x:Str):It :=
  ⟨fun i H=>(∃ xs v,SqT K H a xs∧xs[i]? = some v)∧i<x.cps.size,fun i H v H'=>∃ p u c,H p=none∧H'=upd H p (.tup [u,.str ⟨#[c]⟩])∧v = .ref p∧x.cps[i]? = some c∧∀ xs,SqT K H a xs→xs[i]? = some u,fun i H=>∃ xs,SqT K H a xs∧(xs.length=i∨i<xs.length∧x.cps.size=i)⟩
noncomputable def qSN (K:W.Frag) (a b:Addr):It :=
  ⟨fun i H=>(∃ xs v,SqT K H a xs∧xs[i]? = some v)∧∃ ys v,SqT K H b ys∧ys[i]? = some v,fun i H v H'=>∃ p u w,H p=none∧H'=upd H p (.tup [u,w])∧v = .ref p∧(∀ ys,SqT K H b ys→ys[i]? = some w)∧∀ xs,SqT K H a xs→xs[i]? = some u,fun i H=>∃ xs ys,SqT K H a xs∧SqT K H b ys∧(xs.length=i∨i<xs.length∧ys.length=i)⟩
theorem qKR {P:Program} {w:World} {K:W.Frag} {elts:List Expr} {x1} {pos:Pos} (a z TI TO i1 i2:Addr) (tx:Str) (t:Tok) (ap:HT.qEN z TI TO i1 i2 [i1,a] [i2]) (hai:a≠i1)  :
    Turn P w K (.Tuple elts x1 pos) (qSe K a tx) [z,TI,TO,i1,i2] z (fun i h=>ZSt h z TI TO i1 i2∧IsTupIter h i1 a i∧h.IsStrIter i2 "str_ascii_iterator" tx t i) where
  mem:=by simp
  obj:=fun i h st b hb=>by
    obtain⟨⟨hz,hI,ta,tb,hO⟩,⟨o1,q1,q2,q3⟩,⟨o2,r1,r2,r3⟩⟩:=st
    k_dat 0"r20"
    k_dat 0"r57"
    · exact⟨_,hz,fun v z=>by have z':Data.fields _=Data.cell v:=z;cases z'⟩
    · exact⟨_,hI,fun v z=>by have z':Data.seq _ _=Data.cell v:=z;cases z'⟩
    · exact⟨_,hO,fun v z=>by have z':Data.seq _ _=Data.cell v:=z;cases z'⟩
    · exact⟨o1,q1,fun v z=>by rw [q3] at z;cases z⟩
    · exact⟨o2,r1,fun v z=>by rw [r3] at z;cases z⟩
  keep:=fun i h h' st k=>by
    obtain⟨⟨hz,hI,ta,tb,hO⟩,⟨o1,q1,q⟩,⟨o2,r1,r⟩⟩:=st
    k_dat 0"r118"
  item := by
    k_dat 0"r7"
    subst hP hw hK
    k_dat 0"r58"
    obtain⟨⟨xs,x,hq,hx⟩,hlt2⟩:=hg
    obtain⟨its,rv,p,hsz⟩:=I.tuple hq
    k_dat 0"r25"
    k_dat 0"r59"
    obtain⟨n0,n1,n2,n3,n4,n5⟩:=hf TI (by simp)
    k_dat 0"r60"
    k_dat 0"r61"
    k_dat 0"r62"
    refine HT.qEW ap (HT.qBB (A:=X.A.in1) (I.ok.hd hc) i1 a hai its.toArray) (Draws.strAscii (A:=X.A.in1) (I.ok.hd hc) i2 tx t) hz hI hO ⟨h1,p⟩ h2 (by have:=(Array.getElem?_eq_some_iff.mp (show its.toArray[i]? = some u by simpa using hu));exact this.1) hlt2 fun x0 y0 h' tk hx0 hy0 hz' hI' hO' st1' st2' hT hsz' hk=>?_
    have hxu:x0=u:=by
      k_dat 0"r54"
      k_dat 0"r55"
      k_dat 0"r56"
    subst hxu
    obtain⟨cy,ty,hcy,rfl⟩:=hy0
    obtain⟨hit',hp'⟩:=st1'
    k_dat 0"r119"
    have tz:s.heap.objs.size≠z:=Ne.symm (qA1 (Heap.lt_size hz) (Nat.le_refl _))
    have hT2:IsPair h2' s.heap.objs.size x0 (.str ⟨#[cy]⟩ ty):=(hs2.2 _ tz).trans hT
    k_dat 0"r120"
    have hp0:H s.heap.objs.size=none:=I.hok.fresh (Nat.le_refl _)
    k_dat 0"r63"
    k_dat 0"r64"
    refine⟨.ref s.heap.objs.size,upd H s.heap.objs.size (.tup [x,.str ⟨#[cy]⟩]),?_,rfl,⟨_,x,cy,hp0,rfl,rfl,hcy,fun ys hy=>by rw [I.qBY hy hq];exact hx⟩,⟨⟨hz2,(hs2.2 TI ap.TIz).trans hI',_,_,(hs2.2 TO ap.TOz).trans hO'⟩,qBi hit' fun o y=>(hs2.2 i1 ap.i1z).trans y,(show Heap.IsStrIter _ _ _ _ _ _ from let ⟨o,q,r⟩:=st2';⟨o,(hs2.2 i2 ap.i2z).trans q,r⟩)⟩,fun b hb=>?_⟩
    · show Inv X pins σ _ { s with heap:=h2',gens:=s.gens,drawn:=s.drawn,toks:=tk }
      refine Inv.step (s:=s) (h':=h2') (g':=s.gens) (d':=s.drawn) (t':=tk) (ch:=[z,TO,i1,i2]) I (fun b hb=>?_) (fun b o _ _ hc q _=>let ⟨w1,w2,w3,w4⟩:=nch b hc;hk2 b o w1 w2 w3 w4 q) (fun b o _ _ hc q _=>let ⟨w1,w2,w3,w4⟩:=nch b hc;⟨o.slots,hk2 b o w1 w2 w3 w4 q⟩)
        (fun b o _ q n=>by rw [qM (qA1 (Heap.lt_size q) (Nat.le_refl _))];exact n) (fun b o hc q=>let ⟨w1,w2,w3,w4⟩:=nch b hc;⟨o,hk2 b o w1 w2 w3 w4 q⟩)
        (fun b ys q=>by rw [qM (qN q hp0)];exact q) (fun b o v q=>by rw [qM (qN q hp0)];exact q) (fun b ps q=>⟨#[],by rw [qM (qN q hp0),q];simp⟩) (fun m hm=>?_) (fun b v q=>?_) I.bare
      · k_dat 0"r20"
        rcases hb with rfl | rfl | rfl | rfl
        · exact⟨z3,z1,z4,z5⟩
        · exact⟨o3,o1,o4,o5⟩
        · exact⟨e3,e1,e4,e5⟩
        · exact⟨g3,g1,g4,g5⟩
      · k_dat 0"r23"
        exact⟨o,es,ep,hk2 _ o (Ne.symm z1) (Ne.symm o1) (Ne.symm e1) (Ne.symm g1) ho,r⟩
      · by_cases hb:b=s.heap.objs.size
        · subst hb
          rw [qY] at q
          cases q
          refine⟨by show 2≤sizeLine;decide,[x0,(.str ⟨#[cy]⟩ ty)],.cons ru (.cons ⟨_,rfl⟩ .nil),⟨_,hT2,rfl,0,rfl⟩⟩
        · rw [qM hb] at q
          k_dat 0"r121"
          k_dat 0"r19"
          · exact hk2 c o (nt c v q).1 (nt c v q).2.1 (nt c v q).2.2.1 (nt c v q).2.2.2 y
          · exact hk2 c o (nt c _ hc).1 (nt c _ hc).2.1 (nt c _ hc).2.2.1 (nt c _ hc).2.2.2 y
    · have hlt:b<s.heap.objs.size:=by
        k_dat 0"r20"
        k_dat 0"r57"
        · exact Heap.lt_size hz
        · exact Heap.lt_size hI
        · exact Heap.lt_size hO
        · obtain⟨o,ho,_⟩:=h1;exact Heap.lt_size ho
        · obtain⟨o,ho,_⟩:=h2;exact Heap.lt_size ho
      rw [qM (qA1 hlt (Nat.le_refl _))]
      exact (hf b hb).1
  done:=by
    k_dat 0"r7"
    subst hP hw hK
    k_dat 0"r58"
    obtain⟨xs,hq,hstop⟩:=hg
    obtain⟨its,rv,p,hsz⟩:=I.tuple hq
    have hl:=rv.length
    k_dat 0"r59"
    k_dat 0"r60"
    k_dat 0"r61"
    k_dat 0"r62"
    refine HT.qCY ap (HT.qBB (A:=X.A.in1) (I.ok.hd hc) i1 a hai its.toArray) (Draws.strAscii (A:=X.A.in1) (I.ok.hd hc) i2 tx t) hz hI hO ⟨h1,p⟩ h2 (hstop.elim (fun q=>.inl (by rw [List.size_toArray];omega)) fun q=>.inr ⟨by rw [List.size_toArray];omega,q.2.symm⟩) fun h' tk hk=>⟨rfl,?_⟩
    k_dat 0"r63"
    k_dat 0"r64"
    refine Inv.step (s:=s) (h':=h') (g':=s.gens) (d':=s.drawn) (t':=tk) (ch:=[z,TO,i1,i2]) I (fun b hb=>?_) (fun b o _ _ hc q _=>let ⟨w1,w2,w3,w4⟩:=nch b hc;hk b o w1 w2 w3 w4 q) (fun b o _ _ hc q _=>let ⟨w1,w2,w3,w4⟩:=nch b hc;⟨o.slots,hk b o w1 w2 w3 w4 q⟩)
      (fun b o _ q n=>n) (fun b o hc q=>let ⟨w1,w2,w3,w4⟩:=nch b hc;⟨o,hk b o w1 w2 w3 w4 q⟩)
      (fun b ys q=>q) (fun b o v q=>q) (fun b ps q=>⟨#[],by rw [q];simp⟩) (fun m hm=>?_) (fun b v q=>?_) I.bare
    · k_dat 0"r20"
      rcases hb with rfl | rfl | rfl | rfl
      · exact⟨z3,z1,z4,z5⟩
      · exact⟨o3,o1,o4,o5⟩
      · exact⟨e3,e1,e4,e5⟩
      · exact⟨g3,g1,g4,g5⟩
    · k_dat 0"r23"
      exact⟨o,es,ep,hk _ o (Ne.symm z1) (Ne.symm o1) (Ne.symm e1) (Ne.symm g1) ho,r⟩
    · refine (I.hok b v q).stay (fun c o hc y=>?_) (fun c y=>y) fun c ys y=>y
      k_dat 0"r19"
      · exact hk c o (nt c v q).1 (nt c v q).2.1 (nt c v q).2.2.1 (nt c v q).2.2.2 y
      · exact hk c o (nt c _ hc).1 (nt c _ hc).2.1 (nt c _ hc).2.2.1 (nt c _ hc).2.2.2 y
  self:=fun _ _ _ _ _ st h=>by
    obtain⟨⟨hz,_⟩,_⟩:=st
    exact wpAny_pyIter_zip hz h
theorem qKh {P:Program} {w:World} {K:W.Frag} {elts:List Expr} {x1} {pos:Pos} (a z TI TO i1 i2:Addr) (b:Addr) (ap:HT.qEN z TI TO i1 i2 [i1,a] [i2,b]) (hai:a≠i1) (hbi:b≠i2) :
    Turn P w K (.Tuple elts x1 pos) (qSN K a b) [z,TI,TO,i1,i2] z (fun i h=>ZSt h z TI TO i1 i2∧IsTupIter h i1 a i∧IsTupIter h i2 b i) where
  mem:=by simp
  obj:=fun i h st b hb=>by
    obtain⟨⟨hz,hI,ta,tb,hO⟩,⟨o1,q1,q2,q3⟩,⟨o2,r1,r2,r3⟩⟩:=st
    k_dat 0"r20"
    k_dat 0"r57"
    · exact⟨_,hz,fun v z=>by have z':Data.fields _=Data.cell v:=z;cases z'⟩
    · exact⟨_,hI,fun v z=>by have z':Data.seq _ _=Data.cell v:=z;cases z'⟩
    · exact⟨_,hO,fun v z=>by have z':Data.seq _ _=Data.cell v:=z;cases z'⟩
    · exact⟨o1,q1,fun v z=>by rw [q3] at z;cases z⟩
    · exact⟨o2,r1,fun v z=>by rw [r3] at z;cases z⟩
  keep:=fun i h h' st k=>by
    obtain⟨⟨hz,hI,ta,tb,hO⟩,⟨o1,q1,q⟩,⟨o2,r1,r⟩⟩:=st
    k_dat 0"r118"
  item := by
    k_dat 0"r7"
    subst hP hw hK
    k_dat 0"r58"
    obtain⟨⟨xs,x,hq,hx⟩,ys,y,hqy,hy⟩:=hg
    obtain⟨its2,rv2,p2,hsz2⟩:=I.tuple hqy
    obtain⟨u2,hu2,ru2⟩:=rv2.get hy
    obtain⟨its,rv,p,hsz⟩:=I.tuple hq
    k_dat 0"r25"
    k_dat 0"r59"
    obtain⟨n0,n1,n2,n3,n4,n5⟩:=hf TI (by simp)
    k_dat 0"r60"
    k_dat 0"r61"
    k_dat 0"r62"
    refine HT.qEW ap (HT.qBB (A:=X.A.in1) (I.ok.hd hc) i1 a hai its.toArray) (HT.qBB (A:=X.A.in1) (I.ok.hd hc) i2 b hbi its2.toArray) hz hI hO ⟨h1,p⟩ ⟨h2,p2⟩ (by have:=(Array.getElem?_eq_some_iff.mp (show its.toArray[i]? = some u by simpa using hu));exact this.1) (by have:=(Array.getElem?_eq_some_iff.mp (show its2.toArray[i]? = some u2 by simpa using hu2));exact this.1) fun x0 y0 h' tk hx0 hy0 hz' hI' hO' st1' st2' hT hsz' hk=>?_
    have hxu:x0=u:=by
      k_dat 0"r54"
      k_dat 0"r55"
      k_dat 0"r56"
    subst hxu
    have hyu:y0=u2:=by
      have q:its2.toArray[i]? = some u2:=by simpa using hu2
      have hy0:its2.toArray[i]? = some y0:=hy0
      rw [q] at hy0;exact (Option.some.inj hy0).symm
    subst hyu
    obtain⟨hit',hp'⟩:=st1'
    k_dat 0"r119"
    have tz:s.heap.objs.size≠z:=Ne.symm (qA1 (Heap.lt_size hz) (Nat.le_refl _))
    have hT2:IsPair h2' s.heap.objs.size x0 y0:=(hs2.2 _ tz).trans hT
    k_dat 0"r120"
    have hp0:H s.heap.objs.size=none:=I.hok.fresh (Nat.le_refl _)
    k_dat 0"r63"
    k_dat 0"r64"
    refine⟨.ref s.heap.objs.size,upd H s.heap.objs.size (.tup [x,y]),?_,rfl,⟨_,x,y,hp0,rfl,rfl,fun zs hzs=>by rw [I.qBY hzs hqy];exact hy,fun zs hzs=>by rw [I.qBY hzs hq];exact hx⟩,⟨⟨hz2,(hs2.2 TI ap.TIz).trans hI',_,_,(hs2.2 TO ap.TOz).trans hO'⟩,qBi hit' fun o y=>(hs2.2 i1 ap.i1z).trans y,(qBi st2'.1 fun o y=>(hs2.2 i2 ap.i2z).trans y)⟩,fun b hb=>?_⟩
    · show Inv X pins σ _ { s with heap:=h2',gens:=s.gens,drawn:=s.drawn,toks:=tk }
      refine Inv.step (s:=s) (h':=h2') (g':=s.gens) (d':=s.drawn) (t':=tk) (ch:=[z,TO,i1,i2]) I (fun b hb=>?_) (fun b o _ _ hc q _=>let ⟨w1,w2,w3,w4⟩:=nch b hc;hk2 b o w1 w2 w3 w4 q) (fun b o _ _ hc q _=>let ⟨w1,w2,w3,w4⟩:=nch b hc;⟨o.slots,hk2 b o w1 w2 w3 w4 q⟩)
        (fun b o _ q n=>by rw [qM (qA1 (Heap.lt_size q) (Nat.le_refl _))];exact n) (fun b o hc q=>let ⟨w1,w2,w3,w4⟩:=nch b hc;⟨o,hk2 b o w1 w2 w3 w4 q⟩)
        (fun b ys q=>by rw [qM (qN q hp0)];exact q) (fun b o v q=>by rw [qM (qN q hp0)];exact q) (fun b ps q=>⟨#[],by rw [qM (qN q hp0),q];simp⟩) (fun m hm=>?_) (fun b v q=>?_) I.bare
      · k_dat 0"r20"
        rcases hb with rfl | rfl | rfl | rfl
        · exact⟨z3,z1,z4,z5⟩
        · exact⟨o3,o1,o4,o5⟩
        · exact⟨e3,e1,e4,e5⟩
        · exact⟨g3,g1,g4,g5⟩
      · k_dat 0"r23"
        exact⟨o,es,ep,hk2 _ o (Ne.symm z1) (Ne.symm o1) (Ne.symm e1) (Ne.symm g1) ho,r⟩
      · by_cases hb:b=s.heap.objs.size
        · subst hb
          rw [qY] at q
          cases q
          refine⟨by show 2≤sizeLine;decide,[x0,y0],.cons ru (.cons ru2 .nil),⟨_,hT2,rfl,0,rfl⟩⟩
        · rw [qM hb] at q
          k_dat 0"r121"
          k_dat 0"r19"
          · exact hk2 c o (nt c v q).1 (nt c v q).2.1 (nt c v q).2.2.1 (nt c v q).2.2.2 y
          · exact hk2 c o (nt c _ hc).1 (nt c _ hc).2.1 (nt c _ hc).2.2.1 (nt c _ hc).2.2.2 y
    · have hlt:b<s.heap.objs.size:=by
        k_dat 0"r20"
        k_dat 0"r57"
        · exact Heap.lt_size hz
        · exact Heap.lt_size hI
        · exact Heap.lt_size hO
        · obtain⟨o,ho,_⟩:=h1;exact Heap.lt_size ho
        · obtain⟨o,ho,_⟩:=h2;exact Heap.lt_size ho
      rw [qM (qA1 hlt (Nat.le_refl _))]
      exact (hf b hb).1
  done:=by
    k_dat 0"r7"
    subst hP hw hK
    k_dat 0"r58"
    obtain⟨xs,ys,hq,hqy,hstop⟩:=hg
    obtain⟨its2,rv2,p2,hsz2⟩:=I.tuple hqy
    have hl2:=rv2.length
    obtain⟨its,rv,p,hsz⟩:=I.tuple hq
    have hl:=rv.length
    k_dat 0"r59"
    k_dat 0"r60"
    k_dat 0"r61"
    k_dat 0"r62"
    refine HT.qCY ap (HT.qBB (A:=X.A.in1) (I.ok.hd hc) i1 a hai its.toArray) (HT.qBB (A:=X.A.in1) (I.ok.hd hc) i2 b hbi its2.toArray) hz hI hO ⟨h1,p⟩ ⟨h2,p2⟩ (hstop.elim (fun q=>.inl (by rw [List.size_toArray];omega)) fun q=>.inr ⟨by rw [List.size_toArray];omega,by rw [List.size_toArray];omega⟩) fun h' tk hk=>⟨rfl,?_⟩
    k_dat 0"r63"
    k_dat 0"r64"
    refine Inv.step (s:=s) (h':=h') (g':=s.gens) (d':=s.drawn) (t':=tk) (ch:=[z,TO,i1,i2]) I (fun b hb=>?_) (fun b o _ _ hc q _=>let ⟨w1,w2,w3,w4⟩:=nch b hc;hk b o w1 w2 w3 w4 q) (fun b o _ _ hc q _=>let ⟨w1,w2,w3,w4⟩:=nch b hc;⟨o.slots,hk b o w1 w2 w3 w4 q⟩)
      (fun b o _ q n=>n) (fun b o hc q=>let ⟨w1,w2,w3,w4⟩:=nch b hc;⟨o,hk b o w1 w2 w3 w4 q⟩)
      (fun b ys q=>q) (fun b o v q=>q) (fun b ps q=>⟨#[],by rw [q];simp⟩) (fun m hm=>?_) (fun b v q=>?_) I.bare
    · k_dat 0"r20"
      rcases hb with rfl | rfl | rfl | rfl
      · exact⟨z3,z1,z4,z5⟩
      · exact⟨o3,o1,o4,o5⟩
      · exact⟨e3,e1,e4,e5⟩
      · exact⟨g3,g1,g4,g5⟩
    · k_dat 0"r23"
      exact⟨o,es,ep,hk _ o (Ne.symm z1) (Ne.symm o1) (Ne.symm e1) (Ne.symm g1) ho,r⟩
    · refine (I.hok b v q).stay (fun c o hc y=>?_) (fun c y=>y) fun c ys y=>y
      k_dat 0"r19"
      · exact hk c o (nt c v q).1 (nt c v q).2.1 (nt c v q).2.2.1 (nt c v q).2.2.2 y
      · exact hk c o (nt c _ hc).1 (nt c _ hc).2.1 (nt c _ hc).2.2.1 (nt c _ hc).2.2.2 y
  self:=fun _ _ _ _ _ st h=>by
    obtain⟨⟨hz,_⟩,_⟩:=st
    exact wpAny_pyIter_zip hz h
noncomputable def qEk (xs ys:List Dt):List Dt:=(xs.zip ys).map fun p=>.tup [p.1,p.2]
theorem qFy {xs ys:List Dt} {i:Nat} {d:Dt} (h:(qEk xs ys)[i]? = some d):∃ x y,xs[i]? = some x∧ys[i]? = some y∧d = .tup [x,y]:=by
  unfold qEk at h
  rw [List.getElem?_map] at h
  cases e:(xs.zip ys)[i]? with
  | none=>rw [e] at h;cases h
  | some p =>
    rw [e] at h
    obtain⟨h1,h2⟩:=List.getElem?_zip_eq_some.mp e
    exact⟨p.1,p.2,h1,h2,(Option.some.inj h).symm⟩
theorem qCt {xs ys:List Dt}:(qEk xs ys).length=min xs.length ys.length:=by
  unfold qEk;simp
def qO9 (ta tb:TD):TID:=fun ρ st P=>ta ρ st fun x st1=>tb ρ st1 fun y st2=>match x,y with
  | .tup xs,.str z=>(z.cps.all fun c=>decide (c<128))=true∧P (qEk xs (qBd z)) (fun _=>True) st2
  | .tup xs,.tup ys=>P (qEk xs ys) (fun _=>True) st2
  | _,_=>False
theorem qFX {prog:Program} {w:World} {t:Addr} {items:Array Value}:HT.qEK prog w (.ref t) { cls:=.type "tuple_iterator",data:=.fields #[.ref t,.int 0 0] } (fun h=>IsTup h t items):=fun A s Q E h q=>iter_tuple h q
theorem qLy {prog:Program} {w:World} {z:Str} {t:Tok} (ha:(z.cps.all fun c=>decide (c<128))=true):HT.qEK prog w (.str z t) { cls:=.type "str_ascii_iterator",data:=.fields #[.str z t,.int 0 0] } (fun _=>True):=fun A s Q E _ q=>wpAny_pyIter_ascii ha q
section
variable {X:Cx} {a b:Expr} {elts:List Expr} {x1:Nat} {tpos pos p:Pos} {ta tb:TD}
theorem qPW (hm:X.mg "zip" = none) (ha:DE X a ta) (hb:DE X b tb) (hg:Gl X "zip") (hs:starEach [a,b] X.env=(false,eval a X.env)::starEach [b] X.env) (hs2:starEach [b] X.env=(false,eval b X.env)::starEach [] X.env) (hpl:(backTo pos (starEach [b] X.env)).any (·.1)=false):DI X (.Tuple elts x1 tpos) (.Call (.Name "zip" p) [a,b] [] pos) (qO9 ta tb):=by
  intro pins s σ H R I h
  k_dat 0"r0"
  refine Call_ (qDP I hg hm PyProof.Rows.boot_zip (PyProof.Rows.callWith_type1 (thn (qBU ha (qBU hb qDI hs2) hs pos pins s σ H _ I ⟨φ,st,ρ,(fun ds st1=>match ds with
    | [x,y]=>(match x,y with
      | .tup xs,.str z=>(z.cps.all fun c=>decide (c<128))=true∧P (qEk xs (qBd z)) (fun _=>True) st1
      | .tup xs,.tup ys=>P (qEk xs ys) (fun _=>True) st1
      | _,_=>False)
    | _=>False),pre,ht,fun ds st1 h1 φ1 H1 vs b1 dl=>(show ∃ φ1 st1 ds,Bhd X.K φ st H φ1 st1 H1∧DL X.K φ1 st1.length H1 ds vs∧(match ds with
    | [x,y]=>(match x,y with
      | .tup xs,.str z=>(z.cps.all fun c=>decide (c<128))=true∧P (qEk xs (qBd z)) (fun _=>True) st1
      | .tup xs,.tup ys=>P (qEk xs ys) (fun _=>True) st1
      | _,_=>False)
    | _=>False) from⟨φ1,st1,ds,b1,dl,h1⟩)⟩) fun us s1 ⟨vs,H1,I1,rv,φ1,st1,ds,b1,dl,h1⟩=>?_) hs hpl))
  rcases ds with _ | ⟨d,_ | ⟨e,_ | ⟨d3,r⟩⟩⟩
  · exact h1.elim
  · exact h1.elim
  rotate_left
  · exact h1.elim
  obtain⟨v1,vr,rfl,dv1,dlr⟩:=dl
  obtain⟨v2,rfl,dv2⟩:=DL.one dlr
  cases rv with
  | @cons _ u1 _ us1 ru1 rr =>
  cases rr with
  | @cons _ u2 _ us2 ru2 rr2 =>
  cases rr2
  cases d with
  | tup xs =>
    obtain⟨a1,ws,ev,hs1,dws⟩:=dv1.tup
    subst ev
    cases ru1
    obtain⟨its,rvs,pl,hz⟩:=I1.tuple hs1
    have alt:a1<s1.heap.objs.size:=by obtain⟨_,e,_⟩:=pl;exact Heap.lt_size e
    have hlw:=dws.length
    have hfp:∀ c∈[s1.heap.objs.size+4,s1.heap.objs.size+2,s1.heap.objs.size+3,s1.heap.objs.size,s1.heap.objs.size+1],qFP X pins H1 c:=fun c hc=>by
      have hle:s1.heap.objs.size≤c:=by
        simp only [List.mem_cons,List.not_mem_nil,or_false] at hc
        omega
      exact I1.qK0 hle (I1.hok.fresh hle)
    cases e with
    | str z =>
      obtain⟨hasc,h1⟩:=h1
      have ev:=dv2.str
      subst ev
      obtain⟨t,rfl⟩:=ru2
      refine HT.qGT qFX (qLy hasc) rfl rfl pl trivial fun h' hz' hI' hO' g1 g2 hsz hk=>?_
      refine wpAny_pyIter_zip (s:={ s1 with heap:=h' }) hz' ?_
      have I2:Inv X pins σ H1 { s1 with heap:=h' }:=I1.kept (t':=s1.toks) hk
      refine⟨s1.heap.objs.size+4,[s1.heap.objs.size+4,s1.heap.objs.size+2,s1.heap.objs.size+3,s1.heap.objs.size,s1.heap.objs.size+1],_,_,H1,rfl,I2,qKR a1 (s1.heap.objs.size+4) (s1.heap.objs.size+2) (s1.heap.objs.size+3) s1.heap.objs.size (s1.heap.objs.size+1) z t ?_ (Nat.ne_of_lt alt),⟨⟨hz',hI',_,_,hO'⟩,⟨_,g1,rfl,rfl⟩,⟨_,g2,rfl,rfl⟩⟩,hfp,hq _ _ st1 h1 φ1 H1 _ b1 ?_⟩
      · have alt':(a1:Nat)<s1.heap.objs.size:=alt
        generalize s1.heap.objs.size=n at *
        k_dat 0"r122"
      · k_dat 0"r27"
        obtain⟨a',zs,e2,hs',dl'⟩:=(dv1.evo bh.2).tup
        cases e2
        have hlen:=dl'.length
        have hsl:(qBd z).length=z.cps.size:=by simp [qBd]
        rw [qCt,hsl] at hi
        refine⟨fun e=>⟨zs,hs',by rw [qCt,hsl] at e;omega⟩,fun d ed=>?_⟩
        obtain⟨x,y,ex,ey,rfl⟩:=qFy ed
        obtain⟨vx,evx,dx⟩:=dl'.get ex
        have hlt:i<(qBd z).length:=(List.getElem?_eq_some_iff.mp ey).1
        rw [hsl] at hlt
        have ey2:y = .str ⟨#[z.cps[i]]⟩:=by
          have q:(qBd z)[i]? = some (.str ⟨#[z.cps[i]]⟩):=by simp [qBd,hlt]
          rw [q] at ey;exact (Option.some.inj ey).symm
        subst ey2
        refine⟨⟨⟨zs,vx,hs',evx⟩,hlt⟩,fun y' H2 hy=>?_⟩
        obtain⟨q,v,c,hq1,rfl,rfl,hc,hv⟩:=hy
        have hvx:=hv zs hs'
        rw [evx] at hvx
        cases hvx
        have:z.cps[i]? = some z.cps[i]:=by simp [hlt]
        rw [this] at hc
        cases hc
        exact⟨qAv bh.1 hq1,.qBs (SqT.of qY) (.cons (dx.evo (qAh hq1)) (.cons D.mkStr .nil))⟩
    | tup ys =>
      have h1:P (qEk xs ys) (fun _=>True) st1:=h1
      obtain⟨a2,ws2,ev,hs2',dws2⟩:=dv2.tup
      subst ev
      cases ru2
      obtain⟨its2,rvs2,pl2,hz2⟩:=I1.tuple hs2'
      have alt2:a2<s1.heap.objs.size:=by obtain⟨_,e,_⟩:=pl2;exact Heap.lt_size e
      refine HT.qGT qFX qFX rfl rfl pl (show IsTup _ a2 its2.toArray from let ⟨o,q,r⟩:=pl2;⟨o,Heap.get?_push_of_some _ q,r⟩) fun h' hz' hI' hO' g1 g2 hsz hk=>?_
      refine wpAny_pyIter_zip (s:={ s1 with heap:=h' }) hz' ?_
      have I2:Inv X pins σ H1 { s1 with heap:=h' }:=I1.kept (t':=s1.toks) hk
      refine⟨s1.heap.objs.size+4,[s1.heap.objs.size+4,s1.heap.objs.size+2,s1.heap.objs.size+3,s1.heap.objs.size,s1.heap.objs.size+1],_,_,H1,rfl,I2,qKh a1 (s1.heap.objs.size+4) (s1.heap.objs.size+2) (s1.heap.objs.size+3) s1.heap.objs.size (s1.heap.objs.size+1) a2 ?_ (Nat.ne_of_lt alt) (Nat.ne_of_lt (Nat.lt_succ_of_lt alt2)),⟨⟨hz',hI',_,_,hO'⟩,⟨_,g1,rfl,rfl⟩,⟨_,g2,rfl,rfl⟩⟩,hfp,hq _ _ st1 h1 φ1 H1 _ b1 ?_⟩
      · have alt':(a1:Nat)<s1.heap.objs.size:=alt
        generalize s1.heap.objs.size=n at *
        k_dat 0"r122"
      · k_dat 0"r27"
        obtain⟨a',zs,e2,hs',dl'⟩:=(dv1.evo bh.2).tup
        cases e2
        obtain⟨b',zs2,e3,hsb,dlb⟩:=(dv2.evo bh.2).tup
        cases e3
        have hlen:=dl'.length
        have hlenb:=dlb.length
        rw [qCt] at hi
        refine⟨fun e=>⟨zs,zs2,hs',hsb,by rw [qCt] at e;omega⟩,fun d ed=>?_⟩
        obtain⟨x,y,ex,ey,rfl⟩:=qFy ed
        obtain⟨vx,evx,dx⟩:=dl'.get ex
        obtain⟨vy,evy,dy⟩:=dlb.get ey
        refine⟨⟨⟨zs,vx,hs',evx⟩,⟨zs2,vy,hsb,evy⟩⟩,fun y' H2 hy=>?_⟩
        obtain⟨q,v,w2,hq1,rfl,rfl,hc,hv⟩:=hy
        have hvx:=hv zs hs'
        rw [evx] at hvx
        cases hvx
        have hvy:=hc zs2 hsb
        rw [evy] at hvy
        cases hvy
        exact⟨qAv bh.1 hq1,.qBs (SqT.of qY) (.cons (dx.evo (qAh hq1)) (.cons (dy.evo (qAh hq1)) .nil))⟩
    | _=>exact h1.elim
  | _=>cases e<;>exact h1.elim
end
end L3
namespace L3
open PySem PySem.Spec PyProof.Rows L2
def qKq:RD2:=fun x y st P=>match x,y with
  | .int i,.int j=>qQ4 i j∧P (.int (i * 2 ^ j.toNat)) st
  | _,_=>False
def qLe:RD2:=fun x y st P=>match x,y with
  | .int i,.int j=>0≤j∧P (.int (i / 2 ^ j.toNat)) st
  | _,_=>False
section
variable {X:Cx} {a b:Expr} {ta tb:TD} {pos:Pos}
theorem qOZ:OpD X (binaryOp .LShift) qKq:=by
  k_dat 0"r6"
  k_dat 0"r4"
  cases x with
  | int i =>
    cases y with
    | int j=>exact qPA pins s σ H v w u1 u2 Q I r1 r2 ⟨i,j,dx.int,dy.int,hr.1,Go.here hq R hr.2 D.mkInt⟩
    | _=>exact hr.elim
  | _=>cases y<;>exact hr.elim
theorem qO5:OpD X (binaryOp .RShift) qLe:=by
  k_dat 0"r6"
  k_dat 0"r4"
  cases x with
  | int i =>
    cases y with
    | int j=>exact qQB pins s σ H v w u1 u2 Q I r1 r2 ⟨i,j,dx.int,dy.int,hr.1,Go.here hq R hr.2 D.mkInt⟩
    | _=>exact hr.elim
  | _=>cases y<;>exact hr.elim
theorem qOw (ha:DE X a ta) (hb:DE X b tb):DE X (.BinOp a .LShift b pos) (qD qKq ta tb):=qEa qOZ ha hb
theorem qPU (ha:DE X a ta) (hb:DE X b tb):DE X (.BinOp a .RShift b pos) (qD qLe ta tb):=qEa qO5 ha hb
end
end L3
namespace L3
open PySem PySem.Spec PyProof.Rows L2
noncomputable def qBr (P:Params):List DictEntry→List (Str×Int)→Prop
  | [],[]=>True
  | e::r,kv::q=>(∃ t u,e.key = .str kv.1 t∧e.val = .int kv.2 u∧e.hash=PyData.keyHash P kv.1)∧qBr P r q
  | _,_=>False
theorem qBr.lit {P:Params}:∀ {l:List DictEntry} {kvs:List (Str×Int)},qBr P l kvs→W.KeysLit P l
  | [],[],_=>trivial
  | _::_,_::_,⟨⟨t,_,h1,_,h3⟩,r⟩=>⟨⟨_,t,h1,h3⟩,r.lit⟩
  | [],_::_,h=>h.elim
  | _::_,[],h=>h.elim
theorem qBr.find {P:Params} (y:Str):∀ {l:List DictEntry} {kvs:List (Str×Int)},qBr P l kvs→(kvs.lookup y=none∧(l.find? fun e=>Value.isStrOf y e.key).map (·.val)=none)∨∃ z u,kvs.lookup y=some z∧(l.find? fun e=>Value.isStrOf y e.key).map (·.val)=some (.int z u)
  | [],[],_=>.inl ⟨rfl,rfl⟩
  | e :: r,(k,v)::q,⟨⟨t,u,h1,h2,h3⟩,hr⟩=>by
    have ih:=qBr.find y hr
    have hk:Value.isStrOf y e.key=(k==y):=by rw [h1];rfl
    rw [List.find?_cons,hk,List.lookup_cons]
    have hs:(y==k)=(k==y):=by
      by_cases q:y=k
      · subst q;rfl
      · rw [beq_eq_false_iff_ne.mpr q,beq_eq_false_iff_ne.mpr (Ne.symm q)]
    rw [hs]
    cases k==y with
    | true=>exact .inr ⟨v,u,rfl,by rw [Option.map_some,h2]⟩
    | false=>exact ih
  | [],_::_,h=>h.elim
  | _::_,[],h=>h.elim
structure qNX (w:World) (K:W.Frag) (mg:Str→Option Value) (x:Str) (kvs:List (Str×Int)):Prop where
  ex:∃ a es n,mg x=some (.ref a)∧K.lookup a=some ⟨.type "dict",none,.dict es n,#[]⟩∧(a==sysModules)=false∧qBr w.params es.toList kvs
def qD7 (kvs:List (Str×Int)) (ti:TD):TD:=fun ρ st P=>ti ρ st fun y st1=>match y with
  | .str z=>P (.bl (kvs.lookup z).isSome) st1
  | _=>False
section
variable {X:Cx} {i:Expr} {ti:TD} {pos p:Pos} {x:Str} {kvs:List (Str×Int)}
noncomputable def qLR (kvs:List (Str×Int)) (ti:TE):TE:=fun σ H Q=>ti σ H fun y H1=>∃ z,y = .str z∧Q (.bl (kvs.lookup z).isSome) H1
theorem qKe {ty:TE} (T:qNX X.w X.K X.mg x kvs) (hi:PE X i ty) (hg:Gl X x) (hd:(x==("__debug__" : Str))=false):PC X .In i (.Name x p) (qLR kvs ty):=by
  obtain⟨a,es,n,hm,hl,hy,he⟩:=T.ex
  k_dat 0"r1"
  refine thn (hi pins s σ H _ I h) fun iv s1 ⟨y,H1,I1,ry,z,ey,q1⟩=>?_
  refine qDp I1 hg hm ?_ hd
  subst ey
  obtain⟨t,rfl⟩:=ry
  have hmap:=W.mapOf_K (prog:=X.prog) I1.kIn hl he.lit
  refine wpAny_in_of (strKind_is X.prog X.w z t) hy hmap ?_
  have e:(findBy Value.isStrOf es z).isSome=(kvs.lookup z).isSome:=by
    obtain⟨l⟩:=es
    unfold findBy
    rw [List.find?_toArray]
    rcases he.find z with ⟨e1,e2⟩ | ⟨z',u',e1,e2⟩<;>rw [e1,e2]<;>rfl
  rw [e]
  exact⟨.bl _,H1,I1.tok _,rfl,q1⟩
theorem qHs {K:W.Frag} {σ:L2.St} {H:Hp} {Q:VK} (h:qAU K (qD7 kvs ti) σ H Q):qLR kvs (qAU K ti) σ H Q:=by
  k_dat 0"r0"
  refine⟨φ,st,ρ,_,pre,ht,fun y st1 h1 φ1 H1 v b1 dy=>?_⟩
  cases y with
  | str z =>
    cases dy.str
    exact⟨z,rfl,hq _ _ h1 _ _ _ b1 D.qDA⟩
  | _=>exact h1.elim
theorem qIY (T:qNX X.w X.K X.mg x kvs) (hi:DE X i ti) (hg:Gl X x) (hd:(x==("__debug__" : Str))=false) (hm:behindInMarks .In (.Name x p)=false):DT X (.Compare i [.In] [.Name x p] pos) (qH (qD7 kvs ti)):=(qPD (qKe T hi hg hd) hm).imp fun _ _ _ h=>qHs (qCz h)
end
section
variable {X:Cx} {nm:Str} {pos:Pos} {e:Expr} {es:List Expr} {t:TAD}
theorem qNz {k:Nat} {sp:RDL} {p:Pos} (F:qJA X.prog X.w X.K X.mg X.base nm k sp) (hr:qAd (k+1) X.A) (ha:DA X (e::es) t) (hg:Gl X nm) (hdb:(nm==("__debug__" : Str))=false) (he:starEach (e::es) X.env=(false,eval e X.env)::starEach es X.env) (hpl:(backTo pos (starEach es X.env)).any (·.1)=false):DE X (.Call (.Name nm p) (e::es) [] pos) (qJf nm sp t):=by
  obtain⟨C,f,fd,ps,h1,h2,h3,h4,h5⟩:=F.ex
  exact (qOA h3 h4 hr hg h2 h5 .nil qMO ha hdb he hpl).imp fun σ H Q h=>qKu h1 h
end
end L3
namespace K01
open PySem L2 L3
end K01
set_option maxHeartbeats 1000000
namespace K02
open PySem L2 L3
noncomputable abbrev cs (z:Str):List Nat:=z.cps.toList
noncomputable abbrev one (c:Nat):Str:=⟨#[c]⟩
end K02
namespace K85
open PySem L2 L3 K02
noncomputable def qB9:List (Str×Str):=[("num", "dn"),("yes", "d"),("no", "d"),("box", "dn"),("mark", "dn"),("add", "dxx"),("sub", "dxx"),("mul", "dxx"),("over", "dxx"),("under", "dxx"),("wide", "dxx"),("rest", "dxx"),("nought", "dx"),("high", "dx"),("keep", "sx"),("load", "ds"),("get", "dxxe"),("set", "xxxee"),("div", "dxxe"),("tell", "x"),("hear", "d"),("right", "xxe"),("out", "e"),("when", "xee"),("back", "ee")]
structure Rw where
  w:Str
  xs:List Int
noncomputable def qS (r:Rw):Dt:=.tup (.str r.w::r.xs.map .int)
noncomputable def qh (w:Str):Str:=(qB9.lookup w).getD ""
structure OkR (r:Rw):Prop where
  know:qB9.lookup r.w=some (qh r.w)
  len:r.xs.length=(qh r.w).length
noncomputable def partsOf (f:Str) (xs:List Int) (sign:Str):List Int:=((xs.zip (cs f)).filter fun p=>one p.2==sign).map (·.1)
noncomputable def eOf (r:Rw):List Int:=partsOf (qh r.w) r.xs "e"
noncomputable def qAI:Nat→List Rw→Int→List Int
  | _,[],_=>[]
  | k,r::rs,n=>if (eOf r).contains n then (k:Int)::qAI (k+1) rs n else qAI (k+1) rs n
theorem qLL:qB9.all (fun p=>(p.2.cps.all fun c=>decide (c<128))&&decide (p.2.length≤5))=true:=by decide +kernel
theorem lookup_mem {α β:Type} [BEq α] [LawfulBEq α]:∀ {l:List (α×β)} {a:α} {b:β},l.lookup a=some b→(a,b)∈l
  | [],_,_,h=>by cases h
  | (x,y)::l,a,b,h=>by
    rw [List.lookup_cons] at h
    cases e:(a==x) with
    | true =>
      rw [e] at h
      have:a=x:=eq_of_beq e
      subst this
      cases h;exact List.mem_cons_self
    | false =>
      rw [e] at h
      exact List.mem_cons_of_mem _ (lookup_mem h)
theorem qJp {w f:Str} (h:qB9.lookup w=some f):(f.cps.all fun c=>decide (c<128))=true∧f.length≤5:=by
  have:=List.all_eq_true.mp qLL _ (lookup_mem h)
  simp only [Bool.and_eq_true,decide_eq_true_eq] at this
  exact this
theorem qGb {w f:Str} {xs:List Int} (h:qB9.lookup w=some f) (hl:xs.length=f.length):OkR ⟨w,xs⟩:=by
  have e:qh w=f:=by unfold qh;rw [h];rfl
  exact⟨by show qB9.lookup w=some (qh w);rw [e];exact h,by show xs.length=(qh w).length;rw [e];exact hl⟩
def qAR:RDL:=fun ds st P=>∃ (r:Rw) (sign:Str),ds=[qS r,.str sign]∧OkR r∧∀ st',qU st st'→P (.tup ((partsOf (qh r.w) r.xs sign).map .int)) st'
def qCg:RDL:=fun ds st P=>∃ (rs:List Rw) (n:Int) (a b d:Dt),ds=[.tup [a,b,.tup (rs.map qS),d],.int n]∧(∀ r∈rs,OkR r)∧rs.length≤300∧∀ st',qU st st'→P (.tup ((qAI 1 rs n).map .int)) st'
def qo:RDL:=fun ds st P=>∃ (sc k:Nat) (ns:List Int),ds=[.lst sc,.int (k:Int)]∧st[sc]? = some (.ro (ns.map .int))∧∀ x:Int,P (.int x) st
def PIn (ps bs:List Int):Prop:=ps.length=bs.length∧∀ (i:Nat) p b,ps[i]? = some p→bs[i]? = some b→0≤p∧p<b
noncomputable def qMv:List Int:=[20,16,16,16,65536,8,4,4]
end K85
namespace KH
open PySem L2 L3
end KH
namespace K19
open PySem L2 L3 KH
end K19
namespace KH
open PySem PySem.Spec PyProof.Rows L2 L3
theorem qCe {b:Bool} {A B:Prop} (h:b=true) (a:A):if b=true then A else B:=by rw [if_pos h];exact a
theorem qAT {b:Bool} {A B:Prop} (h:b=false) (a:B):if b=true then A else B:=by rw [if_neg (by rw [h];exact Bool.false_ne_true)];exact a
end KH
namespace K01
open PySem PySem.Spec PyProof.Rows L2 L3
end K01
namespace KS
end KS
namespace KS
open PySem L2 L3 KH
end KS
namespace K15
open PySem L2 L3 KH KS
end K15
namespace KS
open PySem PySem.Spec PyProof.Rows L2 L3 KH
theorem qLs {st:Sto} {m:Nat} {xs:List Dt} {v:Int} {d:Dt} {P:VD} (e:st[m]? = some (.rw xs)) (a:atI xs v=some d) (h:P d st):qJ (.lst m) (.int v) st P:=by
  simp only [qJ,qd,e,Option.map_some,SO.items,a]
  exact h
theorem qMe {st:Sto} {m:Nat} {xs:List Dt} {v:Int} {d:Dt} {P:VD} (e:qd st (.lst m)=some xs) (a:atI xs v=some d) (h:P d st):qJ (.lst m) (.int v) st P:=by
  simp only [qJ,e,a]
  exact h
theorem qQq {xs:List Dt} {v:Int} (h0:0≤v) (h1:v<xs.length):∃ d,atI xs v=some d∧d∈xs∧xs[v.toNat]? = some d:=by
  have hl:v.toNat<xs.length:=by omega
  refine⟨xs[v.toNat],?_,List.getElem_mem hl,List.getElem?_eq_getElem hl⟩
  unfold atI ixN
  rw [if_pos h0,if_pos h1]
  exact List.getElem?_eq_getElem hl
theorem qw {st:Sto} {xs:List Dt} {v:Int} {d:Dt} {P:VD} (a:atI xs v=some d) (h:P d st):qJ (.tup xs) (.int v) st P:=by
  simp only [qJ,qd,a]
  exact h
theorem all_ints (xs:List Int) (n:Nat):(xs.map Dt.int).all (okD n)=true:=by
  rw [List.all_map]
  exact List.all_eq_true.mpr fun x _=>by cases n<;>rfl
end KS
namespace KW
inductive Op2 | add | sub | mul | over | under | wide | rest
inductive Vl where
  | n (i:Int) | b (k:Bool) | non
noncomputable def two (w:Op2) (x y:Int):Vl:=match w with
  | .add=>.n ((x+y)%65536)
  | .sub=>.n ((x - y)%65536)
  | .mul=>.n (x * y%65536)
  | .over=>.b (decide (65536≤x+y))
  | .under=>.b (decide (x<y))
  | .wide=>.b (decide (65536≤x * y))
  | .rest=>.b (decide (y≠0)&&decide (x%y≠0))
end KW
namespace K20
open PySem L2 L3 KH KW
noncomputable def nm:Op2→Str
  | .add => "add" | .sub => "sub" | .mul => "mul" | .over => "over" | .under => "under" | .wide => "wide" | .rest => "rest"
noncomputable def vD:Vl→Dt
  | .n i=>.int i
  | .b k=>.bl k
  | .non=>.non
def Has (st:Sto) (n:Nat) (xs:List Dt):Prop:=∃ o,st[n]? = some o∧o.items=xs
theorem Has.ext {st st':Sto} {n:Nat} {xs:List Dt} (h:Has st n xs) (e:qU st st'):Has st' n xs:=by
  obtain⟨o,a,b⟩:=h;exact⟨o,e _ _ a,b⟩
def qBE:RDL:=fun ds st P=>∃ (w:Op2) (x y:Int),ds=[.str (nm w),.int x,.int y]∧(w = .add∨w = .sub∨w = .mul)∧0≤x∧x<65536∧P (.int (match w with | .add=>x+y | .sub=>x - y | _=>x * y)) st
def qED:RDL:=fun ds st P=>∃ (w:Str) (n:Nat),ds=[.str w,.lst n] ∧
  ((w = "yes" ∧ P (.bl true) st)∨(w = "no" ∧ P (.bl false) st)∨(∃ x:Int,Has st n [.int x]∧((w = "nought" ∧ P (.bl (decide (x=0))) st)∨(w = "high" ∧ P (.bl (decide (32768≤x))) st))) ∨
   ∃ (o:Op2) (x y:Int),w=nm o∧Has st n [.int x,.int y]∧0≤x∧x<65536∧0≤y∧y<65536∧P (vD (two o x y)) st)
end K20
namespace K20
open PySem PySem.Spec PyProof.Rows L2 L3 KH KS KW
abbrev qCW:TSD:=(tseq (qa (qH (qD (qg false) (qB 0) (qC (Dt.str "add")))) (tseq (qP (qD L3.qm (qB 1) (qB 2))) qG) qG) (tseq (qa (qH (qD (qg false) (qB 0) (qC (Dt.str "sub")))) (tseq (qP (qD L3.qAe (qB 1) (qB 2))) qG) qG) (tseq (qP (qD qAf (qB 1) (qB 2))) qG)))
abbrev qFn:TSD:=(tseq (qO (qD qJ (qB 1) (qC (Dt.int 0))) (qI 2)) (tseq (qa (qH (qD (qg false) (qB 0) (qC (Dt.str "nought")))) (tseq (qP (qD (qg false) (qB 2) (qC (Dt.int 0)))) qG) qG) (tseq (qa (qH (qD (qg false) (qB 0) (qC (Dt.str "high")))) (tseq (qP (qD (qAD fun i j=>decide (j≤i)) (qB 2) (qC (Dt.int 32768)))) qG) qG) (tseq (qO (qD qJ (qB 1) (qC (Dt.int 1))) (qI 3)) (tseq (qa (qH (qD (qg false) (qB 0) (qC (Dt.str "over")))) (tseq (qP (qD (qAD fun i j=>decide (j≤i)) (qD L3.qm (qB 2) (qB 3)) (qC (Dt.int 65536)))) qG) qG) (tseq (qa (qH (qD (qg false) (qB 0) (qC (Dt.str "under")))) (tseq (qP (qD (qAD fun i j=>decide (i<j)) (qB 2) (qB 3))) qG) qG) (tseq (qa (qH (qD (qg false) (qB 0) (qC (Dt.str "wide")))) (tseq (qP (qD (qAD fun i j=>decide (j≤i)) (qD qAf (qB 2) (qB 3)) (qC (Dt.int 65536)))) qG) qG) (tseq (qa (qH (qD (qg false) (qB 0) (qC (Dt.str "rest")))) (tseq (qP (qCu (qD (qg true) (qB 3) (qC (Dt.int 0))) (qD (qg true) (qD qj (qB 2) (qB 3)) (qC (Dt.int 0))))) qG) qG) (tseq (qP (qD qj (qF qBE (qA (qB 0) (qA (qB 2) (qA (qB 3) qE)))) (qC (Dt.int 65536)))) qG)))))))))
abbrev qGZ:TSD:=(tseq (qa (qH (qD (qB6 false) (qB 0) (qZ (qA (qC (Dt.str "yes")) (qA (qC (Dt.str "no")) qE))))) (tseq (qP (qD (qg false) (qB 0) (qC (Dt.str "yes")))) qG) qG) qFn)
theorem qGy {st:Sto} {n:Nat} {xs:List Dt} (h:Has st n xs):qd st (.lst n)=some xs:=by
  obtain⟨o,a,b⟩:=h
  show (st[n]?).map SO.items=_
  rw [a,← b];rfl
theorem qD9 {ds:List Dt} {st:Sto} {Pd:VD} (h:qBE ds st Pd):qCW (Ed Pd) (qV ["word", "x", "y"] ds) st:=by
  obtain⟨w,x,y,rfl,hw,x0,x1,hP⟩:=h
  rcases hw with rfl | rfl | rfl
  · refine⟨rfl,rfl,qCe (by decide +kernel) hP⟩
  · k_dat 0"r2"
    exact⟨rfl,rfl,qCe (by decide +kernel) hP⟩
  · k_dat 0"r2"
    k_dat 0"r2"
    exact⟨qCw x0 (by omega),hP⟩
theorem qO6 {E:qBH} {st:Sto} {w:Str} {n:Nat} {a3:Option Dt} {x:Int} {r:List Dt} (hx:Has st n (.int x::r)) (h:(w = "nought" ∧ E.rt (.bl (decide (x=0))) st)∨(w = "high" ∧ E.rt (.bl (decide (32768≤x))) st)) :
    qFn E [some (.str w),some (.lst n),none,a3] st:=by
  k_dat 0"r123"
  refine qMe (qGy hx) (d:=.int x) (by simp [atI,ixN]) ?_
  rcases h with ⟨rfl,h⟩ | ⟨rfl,h⟩
  · refine⟨rfl,rfl,qCe (by decide +kernel) ?_⟩
    refine⟨rfl,rfl,?_⟩
    have e:(eqD 8 (Dt.int x) (Dt.int 0) != false)=decide (x=0):=by
      rw [qAW]
      rfl
    show E.rt (.bl (eqD 8 (Dt.int x) (Dt.int 0) != false)) st
    rw [e];exact h
  · k_dat 0"r2"
    refine⟨rfl,rfl,qCe (by decide +kernel) ?_⟩
    exact h
theorem qQj {E:qBH} {st:Sto} {o:Op2} {n:Nat} {a3:Option Dt} {x y:Int} (hx:Has st n [.int x,.int y]) (x0:0≤x) (x1:x<65536) (y0:0≤y) (y1:y<65536) (h:E.rt (vD (two o x y)) st) :
    qFn E [some (.str (nm o)),some (.lst n),none,a3] st:=by
  k_dat 0"r123"
  refine qMe (qGy hx) (d:=.int x) rfl ?_
  have n1:(eqD 8 (Dt.str (nm o)) (Dt.str "nought") != false)=false:=by cases o<;>decide +kernel
  have n2:(eqD 8 (Dt.str (nm o)) (Dt.str "high") != false)=false:=by cases o<;>decide +kernel
  refine⟨rfl,rfl,qAT n1 ?_⟩
  refine⟨rfl,rfl,qAT n2 ?_⟩
  refine qMe (qGy hx) (d:=.int y) rfl ?_
  cases o with
  | add =>
    k_dat 0"r2"
    k_dat 0"r2"
    k_dat 0"r2"
    k_dat 0"r2"
    exact⟨.add,x,y,rfl,.inl rfl,x0,x1,by decide,h⟩
  | sub =>
    k_dat 0"r2"
    k_dat 0"r2"
    k_dat 0"r2"
    k_dat 0"r2"
    exact⟨.sub,x,y,rfl,.inr (.inl rfl),x0,x1,by decide,h⟩
  | mul =>
    k_dat 0"r2"
    k_dat 0"r2"
    k_dat 0"r2"
    k_dat 0"r2"
    exact⟨.mul,x,y,rfl,.inr (.inr rfl),x0,x1,by decide,h⟩
  | over=>exact⟨rfl,rfl,qCe (by decide +kernel) h⟩
  | under =>
    k_dat 0"r2"
    exact⟨rfl,rfl,qCe (by decide +kernel) h⟩
  | wide =>
    k_dat 0"r2"
    k_dat 0"r2"
    exact⟨rfl,rfl,qCe (by decide +kernel) ⟨qCw x0 (by omega),h⟩⟩
  | rest =>
    k_dat 0"r2"
    k_dat 0"r2"
    k_dat 0"r2"
    refine⟨rfl,rfl,qCe (by decide +kernel) ?_⟩
    refine⟨rfl,rfl,?_⟩
    by_cases hy:y=0
    · subst hy
      exact h
    · have e:(eqD 8 (Dt.int y) (Dt.int 0) != true)=true:=by
        show ((y==0) != true)=true
        rw [beq_eq_false_iff_ne.mpr hy];rfl
      rw [e]
      refine⟨by omega,rfl,rfl,?_⟩
      have e2:(eqD 8 (Dt.int (x%y)) (Dt.int 0) != true)=(decide (y≠0)&&decide (x%y≠0)):=by
        rw [decide_eq_true hy,Bool.true_and]
        show ((x%y==0) != true)=_
        by_cases hr:x%y=0
        · rw [hr];rfl
        · rw [beq_eq_false_iff_ne.mpr hr,decide_eq_true hr];rfl
      rw [e2]
      exact h
theorem qIy {ds:List Dt} {st:Sto} {Pd:VD} (h:qED ds st Pd):qGZ (Ed Pd) (qV ["word", "named", "x", "y"] ds) st:=by
  obtain⟨w,n,rfl,h⟩:=h
  refine⟨by show 2≤sizeLine;decide,rfl,by decide,?_⟩
  rcases h with ⟨rfl,h⟩ | ⟨rfl,h⟩ | ⟨x,hx,h⟩ | ⟨o,x,y,rfl,hx,x0,x1,y0,y1,h⟩
  · exact qCe (by decide +kernel) ⟨rfl,rfl,h⟩
  · exact qCe (by decide +kernel) ⟨rfl,rfl,h⟩
  · refine qAT (by rcases h with ⟨rfl,_⟩ | ⟨rfl,_⟩<;>decide +kernel) ?_
    exact qO6 (E:=Ed Pd) hx h
  · refine qAT (by cases o<;>decide +kernel) ?_
    exact qQj (E:=Ed Pd) hx x0 x1 y0 y1 h
end K20
namespace K20
open PySem PySem.Spec PyProof.Rows L2 L3 KH KS KW
end K20
namespace KW
end KW
namespace K19
open PySem PySem.Spec PyProof.Rows L2 L3 KH
end K19
namespace K20
open PySem PySem.Spec PyProof.Rows L2 L3 KH KS KW
end K20
namespace K20
open PySem PySem.Spec PyProof.Rows L2 L3 KH KS KW
end K20
namespace K06
open PySem L2 L3
noncomputable abbrev M3:=Bool×Bool×Bool
structure GS where
  p:Int
  bs:List Int
  m:M3
  sv:Option (Int×M3)
  rs:List Int
  cs:List Int
noncomputable def msD (m:M3):Dt:=.tup [.bl m.1,.bl m.2.1,.bl m.2.2]
noncomputable def svD:Option (Int×M3)→Dt
  | none=>.non
  | some (q,m)=>.tup [.int q,msD m]
noncomputable def GS.d (g:GS):Dt:=.tup [.int g.p,.tup (g.bs.map .int),msD g.m,svD g.sv,.tup (g.rs.map .int),.tup (g.cs.map .int)]
structure GS.Ok (g:GS):Prop where
  p0:0≤g.p
  b8:g.bs.length=8
  bb:∀ v∈g.bs,0≤v∧v<65536
  c8:g.cs.length=8 * g.rs.length
  cm:g.cs.length≤128
  cb:∀ v∈g.cs,0≤v∧v<65536
  rb:∀ v∈g.rs,0≤v∧v<8
noncomputable def may (r:Int) (g:GS) (a:Int):Bool:=(decide (0≤a)&&decide (a<g.cs.length))&&decide (g.rs.getD (a / 8).toNat 0 / r%2=1)
noncomputable def next (g:GS):GS:={ g with p:=(g.p+1)%65536 }
noncomputable def qIW (g:GS) (a v:Int):GS:={ next g with bs:=g.bs.set a.toNat v }
noncomputable def qMZ (g:GS) (a v:Int) (k:Bool):GS:={ qIW g a v with m:=(decide (v=0),decide (32768≤v),k) }
noncomputable abbrev Res:=Str×GS×List Int
noncomputable def qEs (r:Res):Dt:=.tup [.str r.1,r.2.1.d,.tup (r.2.2.map .int)]
noncomputable def onG (g:GS):Res:=("on",g,[])
noncomputable def qGX (h:Str) (g:GS):Res:=(h,g,[])
noncomputable def qJC (g:GS) (a x y:Int):Res:=if y=0 then qGX "nought" g else onG (qMZ g a (x / y) (decide (x%y≠0)))
noncomputable def qIz (g:GS) (a q:Int):Res:=if may 1 g q=true then onG (qIW g a (g.cs.getD q.toNat 0)) else qGX "closed" g
noncomputable def setG (g:GS) (v q:Int):Res:=if may 2 g q=true then onG { next g with cs:=g.cs.set q.toNat v } else qGX "closed" g
noncomputable def qDQ (g:GS) (q r:Int):Res:=if 0≤q∧q<g.rs.length then onG { next g with rs:=g.rs.set q.toNat r } else qGX "closed" g
def qp:RDL:=fun ds st P=>∃ (xs:List Dt) (k:Int) (d:Dt),ds=[.tup xs,.int k,d]∧0≤k∧k<xs.length∧xs.length≤200∧P (.tup (xs.set k.toNat d)) st
def qGN:RDL:=fun ds st P=>∃ (r:Int) (g:GS) (a:Int),ds=[.int r,g.d,.int a]∧g.Ok∧(r=1∨r=2∨r=4)∧P (.bl (may r g a)) st
def qEy:RDL:=fun ds st P=>∃ (g:GS) (q:Int),ds=[g.d,.int q]∧P ({ g with p:=q%65536 }:GS).d st
def qBn:RDL:=fun ds st P=>∃ g:GS,ds=[g.d]∧P (next g).d st
def qAs:RDL:=fun ds st P=>∃ (g:GS) (a v:Int),ds=[g.d,.int a,.int v]∧g.bs.length=8∧0≤a∧a<8∧P (qIW g a v).d st
def qC1:RDL:=fun ds st P=>∃ (g:GS) (a v:Int) (k:Bool),ds=[g.d,.int a,.int v,.bl k]∧g.bs.length=8∧0≤a∧a<8∧P (qMZ g a v k).d st
def qB1:RDL:=fun ds st P=>∃ (h:Str) (d:Dt),ds=[.str h,d]∧P (.tup [.str h,d,.tup []]) st
def qEv:RDL:=fun ds st P=>∃ d:Dt,ds=[d]∧P (.tup [.str "on",d,.tup []]) st
def qJW:RDL:=fun ds st P=>∃ (g:GS) (a x y:Int),ds=[g.d,.int a,.int x,.int y]∧g.bs.length=8∧0≤a∧a<8∧0≤y∧y<65536∧P (qEs (qJC g a x y)) st
def qJm:RDL:=fun ds st P=>∃ (g:GS) (a q:Int),ds=[g.d,.int a,.int q]∧g.Ok∧0≤a∧a<8∧P (qEs (qIz g a q)) st
def qJ3:RDL:=fun ds st P=>∃ (g:GS) (v q:Int),ds=[g.d,.int v,.int q]∧g.Ok∧P (qEs (setG g v q)) st
def qDn:RDL:=fun ds st P=>∃ (g:GS) (q r:Int),ds=[g.d,.int q,.int r]∧g.Ok∧P (qEs (qDQ g q r)) st
end K06
namespace KD
open PySem L2 L3 KH KS KW K20 K06
inductive IW | get | set | div | tell | hear | right
noncomputable def iw:IW→Str
  | .get => "get" | .set => "set" | .div => "div" | .tell => "tell" | .hear => "hear" | .right => "right"
noncomputable def arity:IW→Nat
  | .get=>2 | .set=>3 | .div=>2 | .tell=>1 | .hear=>0 | .right=>2
noncomputable def qBe:IW→Bool
  | .get=>true | .div=>true | .hear=>true | _=>false
noncomputable def qNv:List Dt:=[.str "get",.str "div",.str "hear"]
noncomputable def qSU:List Str:=["get", "div", "hear"]
noncomputable def qAr (g:GS) (w:IW) (ps:List Int) (h:Int):Res:=match w with
  | .get=>qIz g 0 (ps.getD 0 0+ps.getD 1 0)
  | .set=>setG g (ps.getD 2 0) (ps.getD 0 0+ps.getD 1 0)
  | .div=>qJC g 0 (ps.getD 0 0) (ps.getD 1 0)
  | .right=>qDQ g (ps.getD 0 0) (ps.getD 1 0)
  | .hear=>onG (qIW g 0 h)
  | .tell=>("on",g,[ps.getD 0 0])
def qCq:RDL:=fun ds st P=>∃ (g:GS) (w:IW) (p:Nat) (ps:List Int) (h:Int),ds=[g.d,.str (iw w),.lst p,.int h]∧st[p]? = some (.rw (ps.map .int))∧ps.length=arity w∧(∀ v∈ps,0≤v∧v<65536)∧g.Ok∧P (qEs (qAr g w ps h)) st
noncomputable def qBQ (w:IW) (ps wt:List Int):Bool:=(match w with | .set=>true | _=>false)&&(wt.map Dt.int).any (fun z=>eqD 0 z (.int ((ps.getD 0 0+ps.getD 1 0) / 8)))
def qBg:RDL:=fun ds st P=>∃ (w:IW) (p:Nat) (ps wt:List Int),ds=[.str (iw w),.lst p,.tup (wt.map .int)]∧st[p]? = some (.rw (ps.map .int))∧ps.length=arity w∧wt.length≤100∧P (.bl (qBQ w ps wt)) st
end KD
namespace KM
open PySem L2 L3 K02 K85 K06
structure Hd where
  hk:List (Key×Dt)
  sk:List (Key×Dt)
  bx:List Int
  ms:M3
noncomputable def inH (H:Hd) (x:Int):Dt:=(qC9 H.hk (.inl x)).getD (.int 0)
noncomputable def onS (H:Hd) (s:Int):Dt:=(qC9 H.sk (.inl s)).getD (.int 0)
noncomputable def qAn (H:Hd) (d:Int) (v:Dt):Hd:={ H with hk:=putD H.hk (.inl d) v }
noncomputable def qC8 (H:Hd) (s:Int) (v:Dt):Hd:={ H with sk:=putD H.sk (.inl s) v }
noncomputable def mL (m:M3):List Dt:=[.bl m.1,.bl m.2.1,.bl m.2.2]
noncomputable def qDF (h s:Nat) (b:List Int) (m:M3):List (Str×Dt):=[("hands",.dic h),("shelf",.dic s),("boxes",.tup (b.map .int)),("marks",msD m)]
structure qu (st:Sto) (n h s:Nat) (H:Hd):Prop where
  ob:st[n]? = some (.ob "Hold" (qDF h s H.bx H.ms))
  hd:st[h]? = some (.dc H.hk)
  sh:st[s]? = some (.dc H.sk)
  ne:h≠s
def qI6 (h s:Nat) (st st':Sto):Prop:=∀ (j:Nat) o,j≠h→j≠s→st[j]? = some o→st'[j]? = some o
inductive Puts (H:Hd):Rw→Hd→Prop
  | keep (s x:Int):Puts H ⟨"keep",[s,x]⟩ (qC8 H s (inH H x))
  | load (d s:Int):Puts H ⟨"load",[d,s]⟩ (qAn H d (onS H s))
  | num (d v:Int):Puts H ⟨"num",[d,v]⟩ (qAn H d (.int v))
  | box (d:Int) (k:Nat) (v:Int):H.bx[k]? = some v→Puts H ⟨"box",[d,(k:Int)]⟩ (qAn H d (.int v))
  | mark (d:Int) (k:Nat) (v:Dt):(mL H.ms)[k]? = some v→Puts H ⟨"mark",[d,(k:Int)]⟩ (qAn H d v)
  | yes (d:Int):Puts H ⟨"yes",[d]⟩ (qAn H d (.bl true))
  | no (d:Int):Puts H ⟨"no",[d]⟩ (qAn H d (.bl false))
  | nought (d x a:Int):inH H x = .int a→Puts H ⟨"nought",[d,x]⟩ (qAn H d (.bl (decide (a=0))))
  | high (d x a:Int):inH H x = .int a→Puts H ⟨"high",[d,x]⟩ (qAn H d (.bl (decide (32768≤a))))
  | two (o:KW.Op2) (d x y a b:Int):inH H x = .int a→inH H y = .int b→0≤a→a<65536→0≤b→b<65536→Puts H ⟨K20.nm o,[d,x,y]⟩ (qAn H d (K20.vD (KW.two o a b)))
def qE2:RDL:=fun ds st P=>∃ (n:Nat) (b:List Int) (m:M3),ds=[.ins n,.tup (b.map .int),msD m]∧st[n]? = some (.ob "Hold" [])∧∀ st' h s,qu st' n h s ⟨[],[],b,m⟩→st.length≤h→st.length≤s→(∀ (j:Nat) o,j≠n→st[j]? = some o→st'[j]? = some o)→P .non st'
def qAL:RDL:=fun ds st P=>∃ (n h s:Nat) (H:Hd) (x:Int),ds=[.ins n,.int x]∧qu st n h s H∧P (inH H x) st
def qA9:RDL:=fun ds st P=>∃ (n h s:Nat) (H:Hd) (x:Int),ds=[.ins n,.int x]∧qu st n h s H∧P (onS H x) st
inductive qHq (H:Hd) (old:List Dt):Dt→Dt→Prop
  | hand (x:Int):qHq H old (.tup [.str "hand",.int x]) (inH H x)
  | shelf (x:Int):qHq H old (.tup [.str "shelf",.int x]) (onS H x)
  | old (k:Nat) (d:Dt):old[k]? = some d→qHq H old (.tup [.str "old",.int (k:Int)]) d
def qA8:RDL:=fun ds st P=>∃ (n h s:Nat) (H:Hd) (src:Dt) (old:List Dt) (v:Dt),ds=[.ins n,src,.tup old]∧qu st n h s H∧qHq H old src v∧P v st
def qH4:RDL:=fun ds st P=>∃ (n h s:Nat) (H H':Hd) (r:Rw),ds=[.ins n,qS r]∧qu st n h s H∧H.hk.length<1000∧H.sk.length<1000∧OkR r∧Puts H r H'∧∀ st',qu st' n h s H'→qI6 h s st st'→P .non st'
inductive Last (H:Hd) (sv:Option (Int×M3)):Rw→Int→Prop
  | out (e:Int):Last H sv ⟨"out",[e]⟩ e
  | back (e f:Int):Last H sv ⟨"back",[e,f]⟩ (if sv.isNone then e else f)
  | whn (x e f:Int) (t:Bool):inH H x = .bl t→Last H sv ⟨"when",[x,e,f]⟩ (if t then e else f)
def qCo:RDL:=fun ds st P=>∃ (r:Rw) (p:Nat) (sv:Option (Int×M3)) (H:Hd) (e:Int),ds=[qS r,.lst p,svD sv]∧st[p]? = some (.rw ((partsOf (qh r.w) r.xs "x").map (inH H)))∧Last H sv r e∧P (.int e) st
structure Ex where
  how:Str
  at_:Dt
  bs:List Dt
  ms:List Dt
  n:Int
noncomputable def exD (e:Ex):Dt:=.tup [.str e.how,e.at_,.tup e.bs,.tup e.ms,.int e.n]
def qG2 (H:Hd) (old ss vs:List Dt):Prop:=vs.length=ss.length∧∀ (i:Nat) s v,ss[i]? = some s→vs[i]? = some v→qHq H old s v
inductive At (H:Hd):Dt→Int→Prop
  | int (p:Int):At H (.int p) p
  | hand (w:Str) (x p:Int):inH H x = .int p→At H (.tup [.str w,.int x]) p
inductive qHG (H:Hd) (g:GS) (e:Ex):Bool→GS→Prop
  | back (q:Int) (m:M3) (vs:List Int):g.sv=some (q,m)→qG2 H (H.bx.map .int) e.bs (vs.map .int)→qHG H g e true ⟨q,vs,m,none,g.rs,g.cs⟩
  | go (p:Int) (vs:List Int) (m:M3):At H e.at_ p→qG2 H (H.bx.map .int) e.bs (vs.map .int)→qG2 H (mL H.ms) e.ms (mL m)→qHG H g e false ⟨p%65536,vs,m,g.sv,g.rs,g.cs⟩
def qCJ:RDL:=fun ds st P=>∃ (e:Ex) (g g':GS) (n h s:Nat) (H:Hd) (k:Bool),ds=[exD e,g.d,.ins n,.bl k]∧qu st n h s H∧e.bs.length≤100∧e.ms.length≤100∧qHG H g e k g'∧∀ st',qU st st'→P g'.d st'
inductive ItR (H:Hd):Rw→KD.IW→List Int→Int→Prop
  | get (d x y e a b:Int):inH H x = .int a→inH H y = .int b→ItR H ⟨"get",[d,x,y,e]⟩ .get [a,b] d
  | set (x y z e f a b c:Int):inH H x = .int a→inH H y = .int b→inH H z = .int c→ItR H ⟨"set",[x,y,z,e,f]⟩ .set [a,b,c] 0
  | div (d x y e a b:Int):inH H x = .int a→inH H y = .int b→ItR H ⟨"div",[d,x,y,e]⟩ .div [a,b] d
  | tell (x a:Int):inH H x = .int a→ItR H ⟨"tell",[x]⟩ .tell [a] 0
  | hear (d:Int):ItR H ⟨"hear",[d]⟩ .hear [] d
  | right (x y e a b:Int):inH H x = .int a→inH H y = .int b→ItR H ⟨"right",[x,y,e]⟩ .right [a,b] 0
structure Ms where
  g:GS
  H:Hd
  told:List Int
  heard:Nat
noncomputable def qNC:KD.IW→Bool
  | .hear=>true | _=>false
noncomputable def qIU (m:Ms) (w:KD.IW) (n:Nat):Nat:=if qNC w&&decide (m.heard<n) then m.heard+1 else m.heard
noncomputable def after (m:Ms) (w:KD.IW) (ps given:List Int) (d:Int):Ms :=
  let r:=KD.qAr m.g w ps (given.getD m.heard 0)
  ⟨r.2.1,if KD.qBe w then qAn m.H d (.int (r.2.1.bs.getD 0 0)) else m.H,m.told++r.2.2,qIU m w given.length⟩
noncomputable def qDa (m:Ms) (w:KD.IW) (ps given:List Int):Ms :=
  let r:=KD.qAr m.g w ps (given.getD m.heard 0)
  ⟨r.2.1,m.H,m.told++r.2.2,m.heard⟩
inductive Step (given wt:List Int) (m:Ms):Rw→Option Int→Ms→Prop
  | put (r:Rw) (H':Hd):Puts m.H r H'→Step given wt m r none { m with H:=H' }
  | last (r:Rw) (e:Int):Last m.H m.g.sv r e→Step given wt m r (some e) m
  | fault (r:Rw) (w:KD.IW) (ps:List Int) (d e:Int):ItR m.H r w ps d→(∀ v∈ps,0≤v∧v<65536)→(KD.qAr m.g w ps (given.getD m.heard 0)).1 ≠ "on" → (partsOf (qh r.w) r.xs "e")[0]? = some e→Step given wt m r (some e) (qDa m w ps given)
  | shut (r:Rw) (w:KD.IW) (ps:List Int) (d e:Int):ItR m.H r w ps d→(∀ v∈ps,0≤v∧v<65536)→(KD.qAr m.g w ps (given.getD m.heard 0)).1 = "on" → KD.qBQ w ps wt=true→(partsOf (qh r.w) r.xs "e")[1]? = some e→Step given wt m r (some e) (qDa m w ps given)
  | item (r:Rw) (w:KD.IW) (ps:List Int) (d:Int):ItR m.H r w ps d→(∀ v∈ps,0≤v∧v<65536)→(KD.qAr m.g w ps (given.getD m.heard 0)).1 = "on" → KD.qBQ w ps wt=false→Step given wt m r none (after m w ps given d)
inductive Go (given wt:List Int):Nat→Ms→List Rw→Ms→Nat→Rw→Nat→Prop
  | here (c:Nat) (m m':Ms) (r:Rw) (rs:List Rw) (e:Nat):m.g.Ok→Step given wt m r (some (e:Int)) m'→Go given wt c m (r::rs) m' e r (c+1)
  | next (c:Nat) (m m1 m':Ms) (r r':Rw) (rs:List Rw) (e c':Nat):m.g.Ok→Step given wt m r none m1→Go given wt (c+1) m1 rs m' e r' c'→Go given wt c m (r::rs) m' e r' c'
noncomputable def qCa (r:Rw) (m:Ms):Bool:=decide (r.w = "back")&&m.g.sv.isSome
noncomputable def qGW (ex:Ex) (g:GS) (told:List Int) (heard c:Nat):Dt:=.tup [.str ex.how,g.d,.tup (told.map .int),.int ex.n,.int (heard:Int),.int (c:Int)]
noncomputable def start (g:GS):Ms:=⟨g,⟨[],[],g.bs,g.m⟩,[],0⟩
def qCx:RDL:=fun ds st P=>∃ (a b:Dt) (rs:List Rw) (es:List Ex) (g:GS) (gn:Nat) (given wt:List Int),ds=[.tup [a,b,.tup (rs.map qS),.tup (es.map exD)],g.d,.lst gn,.tup (wt.map .int)]∧K20.Has st gn (given.map .int)∧(∀ r∈rs,OkR r)∧rs.length≤400∧given.length<1000∧wt.length≤100 ∧
  ∃ m' e r c ex g',Go given wt 0 (start g) rs m' e r c∧es[e]? = some ex∧ex.bs.length≤100∧ex.ms.length≤100∧qHG m'.H m'.g ex (qCa r m') g'∧∀ st',qU st st'→P (qGW ex g' m'.told m'.heard c) st'
noncomputable def qH0:List Dt:=[.str "out",.str "when",.str "back"]
noncomputable def qF1:List (Str×Int):=[("get",2),("set",3),("div",2),("tell",1),("hear",0),("right",2)]
end KM
namespace K02
open PySem L2 L3
end K02
namespace K02
open PySem PySem.Spec PyProof.Rows L2 L3
section
variable {E:qBH} {ρ:Rho} {st st':Sto} {A C:TSD}
theorem qv (h:A { E with nx:=C E } ρ st):tseq A C E ρ st:=h
theorem ifS {c:TBD} {b:Bool} (h1:∀ P:Bool→Sto→Prop,P b st'→c ρ st P) (qt:b=true→A E ρ st') (qf:b=false→C E ρ st'):qa c A C E ρ st:=by
  unfold qa
  refine h1 _ ?_
  cases b
  · exact qBT (qf rfl)
  · exact qAy (qt rfl)
theorem qBO {N:TSD} {c:TBD} {b:Bool} (h1:∀ P:Bool→Sto→Prop,P b st'→c ρ st P) (qt:b=true→A { E with nx:=N E } ρ st') (qf:b=false→N E ρ st'):tseq (qa c A qG) N E ρ st:=qv (ifS h1 qt qf)
theorem skp {N:TSD} {c:TBD} (h1:∀ P:Bool→Sto→Prop,P false st'→c ρ st P) (q:N E ρ st'):tseq (qa c A qG) N E ρ st:=qBO h1 nofun fun _=>q
theorem hit {N:TSD} {c:TBD} (h1:∀ P:Bool→Sto→Prop,P true st'→c ρ st P) (q:A { E with nx:=N E } ρ st'):tseq (qa c A qG) N E ρ st:=qBO h1 (fun _=>q) fun q=>by cases q
theorem skq {N:TSD} {c:TBD} (h1:∀ P:Bool→Sto→Prop,P false st'→c ρ st P) (q:C { E with nx:=N E } ρ st'):tseq (qa c A C) N E ρ st:=qv (ifS h1 nofun fun _=>q)
theorem htq {N:TSD} {c:TBD} (h1:∀ P:Bool→Sto→Prop,P true st'→c ρ st P) (q:A { E with nx:=N E } ρ st'):tseq (qa c A C) N E ρ st:=qv (ifS h1 (fun _=>q) fun q=>by cases q)
theorem qRg {c1 c2:TBD} {b1 b2:Bool} (h1:∀ P:Bool→Sto→Prop,P b1 st→c1 ρ st P) (h2:b1=true→∀ P:Bool→Sto→Prop,P b2 st→c2 ρ st P):∀ P:Bool→Sto→Prop,P (b1&&b2) st→qB3 c1 c2 ρ st P:=by
  intro P hp
  unfold qB3
  refine h1 _ ?_
  cases b1
  · exact qBT (by simpa using hp)
  · exact qAy (h2 rfl _ (by simpa using hp))
theorem eqS {x:TD} {a b:Str} (hx:∀ P:VD,P (.str a) st→x ρ st P):∀ P:Bool→Sto→Prop,P (a==b) st→qH (qD (qg false) x (qC (.str b))) ρ st P:=by
  intro P hp
  simp only [qH,qD,qC]
  refine hx _ ⟨rfl,rfl,?_⟩
  show P ((a==b) != false) st
  simpa using hp
theorem neS {x:TD} {a b:Str} (hx:∀ P:VD,P (.str a) st→x ρ st P):∀ P:Bool→Sto→Prop,P (a != b) st→qH (qD (qg true) x (qC (.str b))) ρ st P:=by
  intro P hp
  simp only [qH,qD,qC]
  refine hx _ ⟨rfl,rfl,?_⟩
  show P ((a==b) != true) st
  have:((a==b) != true)=(a != b):=by unfold bne;cases (a==b)<;>rfl
  rw [this];exact hp
theorem eqI {x:TD} {a b:Int} (hx:∀ P:VD,P (.int a) st→x ρ st P):∀ P:Bool→Sto→Prop,P (decide (a=b)) st→qH (qD (qg false) x (qC (.int b))) ρ st P:=by
  intro P hp
  simp only [qH,qD,qC]
  refine hx _ ⟨rfl,rfl,?_⟩
  show P ((a==b) != false) st
  have:((a==b) != false)=decide (a=b):=by by_cases e:a=b<;>simp [e]
  rw [this];exact hp
end
theorem qO7 {a b:Str}:(a==b)=decide (a=b):=by
  by_cases e:a=b
  · subst e;simp
  · rw [decide_eq_false e]
    cases h:(a==b) with
    | false=>rfl
    | true=>exact absurd (eq_of_beq h) e
end K02
namespace K02
open PySem PySem.Spec PyProof.Rows L2 L3
section
variable {E:qBH} {ρ:Rho} {st st':Sto} {A C:TSD}
theorem ixL {i j n:Nat} {d:Dt} {o:SO} (hv:ρ[i]? = some (some (.lst n))) (hn:st[n]? = some o) (hd:o.items[j]? = some d):∀ P:VD,P d st→qD qJ (qB i) (qC (.int (j:Int))) ρ st P:=by
  intro P hp
  simp only [qD,qB,qC,hv]
  show (match qd st (.lst n) with
      | some xs=>(match atI xs (j:Int) with
        | some d=>P d st
        | none=>False)
      | none=>False)
  have e:qd st (.lst n)=some o.items:=by
    show (st[n]?).map SO.items=_
    rw [hn];rfl
  rw [e]
  show (match atI o.items (j:Int) with
        | some d=>P d st
        | none=>False)
  rw [qAB hd]
  exact hp
theorem qNp {i n:Nat} {o:SO} (hv:ρ[i]? = some (some (.lst n))) (hn:st[n]? = some o):∀ P:VD,P (.int (o.items.length:Int)) st→qF qAq (qA (qB i) qE) ρ st P:=by
  intro P hp
  simp only [qF,qA,qE,qB,hv]
  show (match qd st (.lst n) with
    | some xs=>P (.int xs.length) st
    | none=>False)
  have e:qd st (.lst n)=some o.items:=by
    show (st[n]?).map SO.items=_
    rw [hn];rfl
  rw [e]
  exact hp
theorem qk {N:TSD} {te:TD} {i:Nat} (h:te ρ st fun d s1=>N E (ρ.set i (some d)) s1):tseq (qO te (qI i)) N E ρ st:=h
end
end K02
namespace K85
open PySem PySem.Spec PyProof.Rows L2 L3 K02
abbrev qCU:TSD:=(tseq (qP (qF qi (qA (qEH (qO9 (qAE (qB 0) (qAA (qC (Dt.int 1))) qAK) (qHT qB9 (qD qJ (qB 0) (qC (Dt.int 0))))) (qH (qD (qg false) (qB 1) (qB 2))) (qB 0) [(1, "sign")]) qE))) qG)
abbrev qCy:TSD:=(tseq (qP (qF qi (qA (qEH (qFz (qD qJ (qB 0) (qC (Dt.int 2)))) (qH (qD (qB6 false) (qB 2) (qF qAR (qA (qB 1) (qA (qC (Dt.str "e")) qE))))) (qB 0) [(1, "number")]) qE))) qG)
abbrev qBa:TSD:=(tseq (qa (qH (qD (qAD fun i j=>decide (i<j)) (qB 1) (qF qAq (qA (qB 0) qE)))) (tseq (qP (qD qJ (qB 0) (qB 1))) qG) qG) (tseq (qP (qC (Dt.int 0))) qG))
theorem qNy {d:Dt} {xs:List Dt}:L3.cutD (d::xs) (some 1) none=xs:=by
  unfold L3.cutD
  have e:HT.sIx (d::xs).length 0 (some 1)=1:=by
    have:=HT.qCL (d::xs).length 0 1
    simp at this ⊢
    simpa using this
  rw [e,HT.qFU]
  simp
theorem qHt {xs:List Int} {ys:List Nat} {i:Nat} {x:Int} {y:Nat} (h1:xs[i]? = some x) (h2:ys[i]? = some y):(xs.zip ys).take (i+1)=(xs.zip ys).take i++[(x,y)]:=by
  rw [List.take_add_one]
  have:(xs.zip ys)[i]? = some (x,y):=List.getElem?_zip_eq_some.mpr ⟨h1,h2⟩
  rw [this];rfl
theorem qID {ds:List Dt} {st:Sto} {Pd:VD} (h:qAR ds st Pd):qCU (Ed Pd) (qV ["row", "sign"] ds) st:=by
  obtain⟨r,sign,rfl,ok,hP⟩:=h
  show qCU (Ed Pd) [some (qS r),some (.str sign)] st
  obtain⟨hasc,hfl⟩:=qJp ok.know
  simp only [qCU,tseq,qP,qF,qA,qE,qEH,qO9,qAE,qB,qAA,qAK,qC,qHT,qD,List.getElem?_cons_zero,List.getElem?_cons_succ,qS]
  have hat:atI (Dt.str r.w::r.xs.map .int) 0=some (.str r.w):=qAB (j:=0) rfl
  show (match atI (Dt.str r.w::r.xs.map .int) 0 with
    | some d=>_
    | none=>False)
  rw [hat]
  simp only [ok.know,qNy]
  refine⟨hasc,?_⟩
  have hzl:(qEk (r.xs.map Dt.int) (qBd (qh r.w))).length=(r.xs.zip (cs (qh r.w))).length:=by
    rw [qCt];simp [qBd,List.length_zip]
  refine⟨fun i ys s'=>ys=((((r.xs.zip (cs (qh r.w))).take i).filter fun p=>one p.2==sign).map (·.1)).map Dt.int∧s'=st,⟨rfl,rfl⟩,fun _ _ _ _ _=>trivial,?_,?_⟩
  · rintro i d ys s' hd ⟨rfl,rfl⟩
    obtain⟨x,y,ex,ey,rfl⟩:=qFy hd
    obtain⟨n,hn,rfl⟩:∃ n,r.xs[i]? = some n∧x = .int n:=by
      rw [List.getElem?_map] at ex
      cases e:r.xs[i]? with
      | none=>rw [e] at ex;cases ex
      | some n=>rw [e] at ex;exact⟨n,rfl,(Option.some.inj ex).symm⟩
    obtain⟨c,hc,rfl⟩:∃ c,(cs (qh r.w))[i]? = some c∧y = .str (one c):=by
      unfold qBd at ey
      rw [List.getElem?_map] at ey
      cases e:(qh r.w).cps.toList[i]? with
      | none=>rw [e] at ey;cases ey
      | some c=>rw [e] at ey;exact⟨c,rfl,(Option.some.inj ey).symm⟩
    have hil:=(List.getElem?_eq_some_iff.mp hn).1
    have hxl:=ok.len
    refine⟨?_,_,_,rfl,?_⟩
    · rw [List.length_map,List.length_map]
      refine Nat.lt_of_le_of_lt (List.length_filter_le _ _) ?_
      rw [List.length_take,sizeLine_eq];omega
    · show okD 8 _=true∧okD 8 _=true∧(if ((one c==sign) != false)=true then _ else _)
      refine⟨rfl,rfl,?_⟩
      cases e:(one c==sign) with
      | true =>
        refine qAy ⟨?_,rfl⟩
        rw [qHt hn hc,List.filter_append,List.map_append,List.map_append]
        simp [e]
      | false =>
        refine qBT ⟨?_,rfl⟩
        rw [qHt hn hc,List.filter_append,List.map_append,List.map_append]
        simp [e]
  · rintro ys s' ⟨rfl,rfl⟩
    rw [hzl,List.take_length]
    show (match ((s'++[SO.rw ((partsOf (qh r.w) r.xs sign).map Dt.int)])[s'.length]?).map SO.items with
      | some xs=>Pd (.tup xs) _
      | none=>False)
    rw [qK]
    exact hP _ (.app _ _)
theorem anyI {xs:List Int} {n:Int}:(xs.map Dt.int).any (fun z=>eqD 0 z (.int n))=xs.contains n:=by
  rw [List.any_map]
  induction xs with
  | nil=>rfl
  | cons x xs ih =>
    rw [List.any_cons,List.contains_cons,ih]
    congr 1
    show (x==n)=(n==x)
    exact Bool.beq_comm
theorem qCV:∀ (rs:List Rw) (k:Nat) (n:Int) (r:Rw),qAI k (rs++[r]) n=qAI k rs n++(if (eOf r).contains n then [((k+rs.length:Nat):Int)] else [])
  | [],k,n,r=>by simp [qAI]
  | a::rs,k,n,r=>by
    show (if (eOf a).contains n then (k:Int)::qAI (k+1) (rs++[r]) n else qAI (k+1) (rs++[r]) n)=_
    rw [qCV rs (k+1) n r]
    show _=(if (eOf a).contains n then (k:Int)::qAI (k+1) rs n else qAI (k+1) rs n)++_
    have e:k+1+rs.length=k+(a::rs).length:=by simp;omega
    rw [e]
    split<;>simp
theorem qFQ:∀ (rs:List Rw) (k:Nat) (n:Int),(qAI k rs n).length≤rs.length
  | [],_,_=>Nat.le_refl _
  | a::rs,k,n=>by
    have:=qFQ rs (k+1) n
    show (if (eOf a).contains n then (k:Int)::qAI (k+1) rs n else qAI (k+1) rs n).length≤_
    split<;>simp<;>omega
theorem qIt {ds:List Dt} {st:Sto} {Pd:VD} (h:qCg ds st Pd):qCy (Ed Pd) (qV ["host", "number"] ds) st:=by
  obtain⟨rs,n,a,b,d0,rfl,ok,hl,hP⟩:=h
  show qCy (Ed Pd) [some (.tup [a,b,.tup (rs.map qS),d0]),some (.int n)] st
  simp only [qCy,tseq,qP,qF,qA,qE,qEH,qFz,qD,qB,qC,List.getElem?_cons_zero,List.getElem?_cons_succ]
  show (match atI [a,b,.tup (rs.map qS),d0] 2 with
    | some d=>_
    | none=>False)
  rw [show atI [a,b,Dt.tup (rs.map qS),d0] 2=some (.tup (rs.map qS)) from qAB (j:=2) rfl]
  refine⟨fun i ys s'=>ys=(qAI 1 (rs.take i) n).map Dt.int∧qU st s',⟨rfl,.refl _⟩,fun _ _ _ _ _=>trivial,?_,?_⟩
  · rintro i d ys s' hd ⟨rfl,hx⟩
    obtain⟨w,hw,rfl⟩:=qCs hd
    obtain⟨r,hr,rfl⟩:∃ r,rs[i]? = some r∧w=qS r:=by
      rw [List.getElem?_map] at hw
      cases e:rs[i]? with
      | none=>rw [e] at hw;cases hw
      | some r=>rw [e] at hw;exact⟨r,rfl,(Option.some.inj hw).symm⟩
    have hil:=(List.getElem?_eq_some_iff.mp hr).1
    refine⟨?_,_,_,rfl,?_⟩
    · rw [List.length_map]
      have:=qFQ (rs.take i) 1 n
      rw [List.length_take] at this
      rw [sizeLine_eq];omega
    · simp only [qH,qD,qB,qF,qA,qE,qC,qCK,List.map_cons,List.map_nil,List.getElem?_cons_zero,List.getElem?_cons_succ,Option.join_some]
      refine⟨r,_,rfl,ok r (List.mem_of_getElem? hr),fun s1 x1=>?_⟩
      show okD 0 (.int n)=true∧((partsOf (qh r.w) r.xs "e").map Dt.int).all (okD 0)=true∧(if ((((partsOf (qh r.w) r.xs "e").map Dt.int).any (fun z=>eqD 0 z (.int n))) != false)=true then _ else _)
      refine⟨rfl,by rw [List.all_map,List.all_eq_true];intro x _;rfl,?_⟩
      rw [anyI]
      have et:rs.take (i+1)=rs.take i++[r]:=by rw [List.take_add_one,hr];rfl
      have hlt:(rs.take i).length=i:=by rw [List.length_take];omega
      cases e:(eOf r).contains n with
      | true =>
        have e':(partsOf (qh r.w) r.xs "e").contains n=true:=e
        rw [e']
        refine qAy ⟨?_,hx.trans x1⟩
        rw [et,qCV,hlt,e,if_pos rfl,List.map_append];rfl
      | false =>
        have e':(partsOf (qh r.w) r.xs "e").contains n=false:=e
        rw [e']
        refine qBT ⟨?_,hx.trans x1⟩
        rw [et,qCV,hlt,e]
        simp
  · rintro ys s' ⟨rfl,hx⟩
    rw [qBk,List.length_map,List.take_length]
    show (match ((s'++[SO.rw ((qAI 1 rs n).map Dt.int)])[s'.length]?).map SO.items with
      | some xs=>Pd (.tup xs) _
      | none=>False)
    rw [qK]
    exact hP _ (hx.trans (.app _ _))
theorem qEj {ds:List Dt} {st:Sto} {Pd:VD} (h:qo ds st Pd):qBa (Ed Pd) (qV ["script", "k"] ds) st:=by
  obtain⟨sc,k,ns,rfl,hs,hP⟩:=h
  show qBa (Ed Pd) [some (.lst sc),some (.int (k:Int))] st
  refine qBO (b:=decide ((k:Int)<(ns.length:Int))) (st':=st) ?_ ?_ ?_
  · intro P hp
    simp only [qH,qD,qB,List.getElem?_cons_zero,List.getElem?_cons_succ]
    refine qNp (ρ:=[some (.lst sc),some (.int (k:Int))]) (i:=0) (n:=sc) rfl hs _ ?_
    show P (decide ((k:Int)<(((ns.map Dt.int)).length:Int))) st
    rw [List.length_map];exact hp
  · intro q
    have q:k<ns.length:=by have:=of_decide_eq_true q;omega
    refine qv ?_
    simp only [qP,qD,qB,List.getElem?_cons_zero,List.getElem?_cons_succ]
    have hsq:qd st (.lst sc)=some (ns.map .int):=by
      show (st[sc]?).map SO.items=_
      rw [hs];rfl
    show (match qd st (.lst sc) with
      | some xs=>(match atI xs (k:Int) with
        | some d=>Pd d st
        | none=>False)
      | none=>False)
    rw [hsq]
    show (match atI (ns.map Dt.int) (k:Int) with
        | some d=>Pd d st
        | none=>False)
    rw [qAB (v:=.int ns[k]) (by simp [q])]
    exact hP _
  · intro q
    exact hP 0
end K85
namespace K22
open PySem L2 L3 KH KS
namespace LS
end LS
end K22
namespace K22
open PySem L2 L3 KH KS
end K22
namespace K22
open PySem PySem.Spec PyProof.Rows L2 L3 KH KS
end K22
namespace K22
open PySem PySem.Spec PyProof.Rows L2 L3 KH KS
section
variable {E:qBH} {st:Sto} {n:Nat} {s:LS} {Q:VD} {ρ:Rho}
theorem qOn {a b:Str} {st:Sto} {P:VD} (h:(a==b)=true) (q:P (.bl true) st):qg false (.str a) (.str b) st P:=⟨rfl,rfl,by
  show P (.bl ((a==b) != false)) st
  rw [h];exact q⟩
theorem qP6 {a b:Str} {st:Sto} {P:VD} (h:(a==b)=false) (q:P (.bl false) st):qg false (.str a) (.str b) st P:=⟨rfl,rfl,by
  show P (.bl ((a==b) != false)) st
  rw [h];exact q⟩
theorem qDe {x:TD} {A C:TSD} {a b:Str} (hx:∀ P:VD,P (.str a) st→x ρ st P) (h:(a==b)=true) (q:A E ρ st):qa (qH (qD (qg false) x (qC (.str b)))) A C E ρ st:=by
  simp only [qa,qH,qD,qC]
  refine hx _ (qOn h ?_)
  exact q
theorem qAG {x:TD} {A C:TSD} {a b:Str} (hx:∀ P:VD,P (.str a) st→x ρ st P) (h:(a==b)=false) (q:C E ρ st):qa (qH (qD (qg false) x (qC (.str b)))) A C E ρ st:=by
  simp only [qa,qH,qD,qC]
  refine hx _ (qP6 h ?_)
  simp only [Bool.false_eq_true,if_false]
  exact q
theorem seq1 {A C:TSD} (h:A { E with nx:=C E } ρ st):tseq A C E ρ st:=h
end
end K22
namespace KM
open PySem PySem.Spec PyProof.Rows L2 L3 KS K02 K85 K06
abbrev qAp:TSD:=(tseq (qO qG7 (qKv "Hold" (qB 0) "hands")) (tseq (qO qG7 (qKv "Hold" (qB 0) "shelf")) (tseq (qO (qB 1) (qKv "Hold" (qB 0) "boxes")) (tseq (qO (qB 2) (qKv "Hold" (qB 0) "marks")) qG))))
abbrev qA0:TSD:=(tseq (qP (qFI (qA2 "Hold" (qB 0) "hands") (qB 1) (qC (Dt.int 0)))) qG)
abbrev qAo:TSD:=(tseq (qP (qFI (qA2 "Hold" (qB 0) "shelf") (qB 1) (qC (Dt.int 0)))) qG)
abbrev qCN:TSD:=(tseq (qO (qD qJ (qB 1) (qC (Dt.int 0))) (qI 2)) (tseq (qa (qH (qD (qg false) (qB 2) (qC (Dt.str "keep")))) (tseq (qO (qAc "Hold" "in_hand" qAL (qB 0) (qA (qD qJ (qB 1) (qC (Dt.int 2))) qE)) (qBq (qA2 "Hold" (qB 0) "shelf") (qD qJ (qB 1) (qC (Dt.int 1))))) qG) (tseq (qa (qH (qD (qg false) (qB 2) (qC (Dt.str "load")))) (tseq (qO (qAc "Hold" "on_shelf" qA9 (qB 0) (qA (qD qJ (qB 1) (qC (Dt.int 2))) qE)) (qBq (qA2 "Hold" (qB 0) "hands") (qD qJ (qB 1) (qC (Dt.int 1))))) qG) (tseq (qa (qH (qD (qg false) (qB 2) (qC (Dt.str "num")))) (tseq (qO (qD qJ (qB 1) (qC (Dt.int 2))) (qBq (qA2 "Hold" (qB 0) "hands") (qD qJ (qB 1) (qC (Dt.int 1))))) qG) (tseq (qa (qH (qD (qg false) (qB 2) (qC (Dt.str "box")))) (tseq (qO (qD qJ (qA2 "Hold" (qB 0) "boxes") (qD qJ (qB 1) (qC (Dt.int 2)))) (qBq (qA2 "Hold" (qB 0) "hands") (qD qJ (qB 1) (qC (Dt.int 1))))) qG) (tseq (qa (qH (qD (qg false) (qB 2) (qC (Dt.str "mark")))) (tseq (qO (qD qJ (qA2 "Hold" (qB 0) "marks") (qD qJ (qB 1) (qC (Dt.int 2)))) (qBq (qA2 "Hold" (qB 0) "hands") (qD qJ (qB 1) (qC (Dt.int 1))))) qG) (tseq (qO (qF K20.qED (qA (qB 2) (qA (qy (qA3 (qF K85.qAR (qA (qB 1) (qA (qC (Dt.str "x")) qE)))) (fun x st P=>P true st) (qAc "Hold" "in_hand" qAL (qB 1) (qA (qB 0) qE)) [(0, "self")]) qE))) (qBq (qA2 "Hold" (qB 0) "hands") (qD qJ (qB 1) (qC (Dt.int 1))))) qG)) qG)) qG)) qG)) qG)) qG))
abbrev qBD:TSD:=(tseq (qO (qD qJ (qB 1) (qC (Dt.int 0))) (qI 3)) (tseq (qa (qH (qD (qg false) (qB 3) (qC (Dt.str "hand")))) (tseq (qP (qAc "Hold" "in_hand" qAL (qB 0) (qA (qD qJ (qB 1) (qC (Dt.int 1))) qE))) qG) qG) (tseq (qa (qH (qD (qg false) (qB 3) (qC (Dt.str "shelf")))) (tseq (qP (qAc "Hold" "on_shelf" qA9 (qB 0) (qA (qD qJ (qB 1) (qC (Dt.int 1))) qE))) qG) qG) (tseq (qP (qD qJ (qB 2) (qD qJ (qB 1) (qC (Dt.int 1))))) qG))))
section
variable {E:qBH} {st:Sto} {Q:VD} {ρ:Rho} {n h s:Nat} {H:Hd}
theorem qIn {r:Rw} (ok:OkR r) {sg:Str}:(partsOf (qh r.w) r.xs sg).length≤5:=by
  unfold partsOf
  rw [List.length_map]
  refine Nat.le_trans (List.length_filter_le _ _) ?_
  rw [List.length_zip]
  have h1:=(qJp ok.know).2
  have h2:r.xs.length=(qh r.w).length:=ok.2
  omega
theorem qH9 {w:Str} {d x:Int} (h:cs (qh w)=[100,120]):partsOf (qh w) [d,x] "x" = [x]:=by
  unfold partsOf;rw [h]
  have e1:(one 100==("x" : Str))=false:=by decide +kernel
  k_dat 0"r65"
  k_dat 0"r80"
theorem qJ9 {w:Str} {d x y:Int} (h:cs (qh w)=[100,120,120]):partsOf (qh w) [d,x,y] "x" = [x,y]:=by
  unfold partsOf;rw [h]
  have e1:(one 100==("x" : Str))=false:=by decide +kernel
  k_dat 0"r65"
  k_dat 0"r80"
theorem qDZ {a b:Sto} (hx:qU a b):a.length≤b.length:=by
  by_cases h:a.length=0
  · omega
  · have hl:a.length - 1<a.length:=by omega
    have:=(List.getElem?_eq_some_iff.mp (hx _ _ (List.getElem?_eq_getElem hl))).1
    omega
theorem qMn {b:List Int} {m:M3}:(qDF h s b m).lookup (Str.ofString "hands")=some (Dt.dic h):=rfl
theorem qLH {b:List Int} {m:M3}:(qDF h s b m).lookup (Str.ofString "shelf")=some (Dt.dic s):=rfl
theorem qP0 {b:List Int} {m:M3}:(qDF h s b m).lookup (Str.ofString "boxes")=some (Dt.tup (b.map .int)):=rfl
theorem qQM {b:List Int} {m:M3}:(qDF h s b m).lookup (Str.ofString "marks")=some (msD m):=rfl
theorem qRm {b:List Int} {m:M3}:(qDF h s b m).lookup (Str.ofString "in_hand")=none:=rfl
theorem qRs {b:List Int} {m:M3}:(qDF h s b m).lookup (Str.ofString "on_shelf")=none:=rfl
theorem qOz {b:List Int} {m:M3}:(qDF h s b m).lookup (Str.ofString "put")=none:=rfl
theorem qQn {b:List Int} {m:M3}:(qDF h s b m).lookup (Str.ofString "source")=none:=rfl
theorem qu.ext {st':Sto} (a:qu st n h s H) (e:qU st st'):qu st' n h s H:=⟨e _ _ a.ob,e _ _ a.hd,e _ _ a.sh,a.ne⟩
theorem qu.nh (a:qu st n h s H):n≠h:=fun e=>by have:=a.ob;rw [e,a.hd] at this;cases this
theorem qu.ns (a:qu st n h s H):n≠s:=fun e=>by have:=a.ob;rw [e,a.sh] at this;cases this
theorem ql {st:Sto} {i:Nat} {o x:SO} (h:st[i]? = some o):(st.set i x)[i]? = some x:=by
  have:=(List.getElem?_eq_some_iff.mp h).1
  rw [List.getElem?_set_self this]
theorem qu.qAn (a:qu st n h s H) (d:Int) (v:Dt):qu (st.set h (.dc (putD H.hk (.inl d) v))) n h s (qAn H d v):=⟨qT a.ob a.nh.symm,ql a.hd,qT a.sh a.ne,a.ne⟩
theorem qu.qC8 (a:qu st n h s H) (d:Int) (v:Dt):qu (st.set s (.dc (putD H.sk (.inl d) v))) n h s (qC8 H d v):=⟨qT a.ob a.ns.symm,qT a.hd a.ne.symm,ql a.sh,a.ne⟩
theorem qN4 {i:Nat} {x:Int} {ta:TAD} (a:qu st n h s H) (hρ:ρ[i]? = some (some (.ins n))) (ht:∀ P:List Dt→Sto→Prop,P [.int x] st→ta ρ st P) (q:Q (inH H x) st):qAc "Hold" "in_hand" qAL (qB i) ta ρ st Q:=by
  simp only [qAc,qB,hρ,a.ob,qRm,true_and]
  exact ht _ ⟨n,h,s,H,x,rfl,a,q⟩
theorem qQv {i:Nat} {x:Int} {ta:TAD} (a:qu st n h s H) (hρ:ρ[i]? = some (some (.ins n))) (ht:∀ P:List Dt→Sto→Prop,P [.int x] st→ta ρ st P) (q:Q (onS H x) st):qAc "Hold" "on_shelf" qA9 (qB i) ta ρ st Q:=by
  simp only [qAc,qB,hρ,a.ob,qRs,true_and]
  exact ht _ ⟨n,h,s,H,x,rfl,a,q⟩
theorem qEM {ds:List Dt} {st:Sto} {Pd:VD} (h:qE2 ds st Pd):qAp (Ed Pd) (qV ["self", "boxes", "marks"] ds) st:=by
  obtain⟨n,b,m,rfl,ho,hP⟩:=h
  have hn:=(List.getElem?_eq_some_iff.mp ho).1
  show qAp (Ed Pd) [some (.ins n),some (.tup (b.map .int)),some (msD m)] st
  have o1:(st++[SO.dc []])[n]? = some (.ob "Hold" []):=qe ho
  simp only [qAp,tseq,qO,qG7,qKv,qB,List.getElem?_cons_zero,List.getElem?_cons_succ,o1,true_and]
  k_dat 0"r21"
  have o2:((st++[SO.dc []]).set n (.ob "Hold" (qBh "hands" (.dic st.length) [])))[n]? = some (.ob "Hold" (qBh "hands" (.dic st.length) [])):=ql o1
  have d2:((st++[SO.dc []]).set n (.ob "Hold" (qBh "hands" (.dic st.length) [])))[st.length]? = some (.dc []):=qT qK (by omega)
  have k2:∀ (j:Nat) o,j≠n→st[j]? = some o→((st++[SO.dc []]).set n (.ob "Hold" (qBh "hands" (.dic st.length) [])))[j]? = some o:=fun j o hj hs=>qT (qe hs) (Ne.symm hj)
  have l2:st.length+1=((st++[SO.dc []]).set n (.ob "Hold" (qBh "hands" (.dic st.length) []))).length:=by simp
  generalize ((st++[SO.dc []]).set n (.ob "Hold" (qBh "hands" (.dic st.length) [])))=s2 at o2 d2 k2 l2
  have o3:(s2++[SO.dc []])[n]? = some (.ob "Hold" (qBh "hands" (.dic st.length) [])):=qe o2
  rw [o3]
  refine⟨rfl,by show 1<1000;decide,?_⟩
  have e4:qBh "shelf" (.dic s2.length) (qBh "hands" (.dic st.length) [])=([("hands",.dic st.length),("shelf",.dic s2.length)]:List (Str×Dt)):=rfl
  have o4:((s2++[SO.dc []]).set n (.ob "Hold" (qBh "shelf" (.dic s2.length) (qBh "hands" (.dic st.length) []))))[n]? = some (.ob "Hold" [("hands",.dic st.length),("shelf",.dic s2.length)]):=by rw [ql o3,e4]
  have d4:((s2++[SO.dc []]).set n (.ob "Hold" (qBh "shelf" (.dic s2.length) (qBh "hands" (.dic st.length) []))))[s2.length]? = some (.dc []):=qT qK (by omega)
  have k4:∀ (j:Nat) o,j≠n→s2[j]? = some o→((s2++[SO.dc []]).set n (.ob "Hold" (qBh "shelf" (.dic s2.length) (qBh "hands" (.dic st.length) []))))[j]? = some o:=fun j o hj hs=>qT (qe hs) (Ne.symm hj)
  generalize ((s2++[SO.dc []]).set n (.ob "Hold" (qBh "shelf" (.dic s2.length) (qBh "hands" (.dic st.length) []))))=s4 at o4 d4 k4
  rw [o4]
  refine⟨rfl,by show 2<1000;decide,?_⟩
  have o5:=ql (x:=.ob "Hold" (qBh "boxes" (.tup (b.map .int)) [("hands",.dic st.length),("shelf",.dic s2.length)])) o4
  rw [show Str.ofString "boxes" = ("boxes" : Str) from rfl]
  rw [o5]
  refine⟨rfl,by show 3<1000;decide,?_⟩
  refine hP _ st.length s2.length ⟨?_,?_,?_,by omega⟩ (Nat.le_refl _) (by omega) fun j o hj hs=>?_
  · exact ql o5
  · exact qT (qT (k4 _ _ (by omega) d2) (by omega)) (by omega)
  · exact qT (qT d4 (by omega)) (by omega)
  · exact qT (qT (k4 _ _ hj (k2 _ _ hj hs)) (Ne.symm hj)) (Ne.symm hj)
theorem qEt {ds:List Dt} {st:Sto} {Pd:VD} (h:qAL ds st Pd):qA0 (Ed Pd) (qV ["self", "x"] ds) st:=by
  obtain⟨n,h,s,H,x,rfl,a,hP⟩:=h
  show qA0 (Ed Pd) [some (.ins n),some (.int x)] st
  simp only [qA0,tseq,qP,qFI,qA2,qB,qC,List.getElem?_cons_zero,List.getElem?_cons_succ,a.ob,qMn,true_and,a.hd,qHS]
  exact hP
theorem qEP {ds:List Dt} {st:Sto} {Pd:VD} (h:qA9 ds st Pd):qAo (Ed Pd) (qV ["self", "s"] ds) st:=by
  obtain⟨n,h,s,H,x,rfl,a,hP⟩:=h
  show qAo (Ed Pd) [some (.ins n),some (.int x)] st
  simp only [qAo,tseq,qP,qFI,qA2,qB,qC,List.getElem?_cons_zero,List.getElem?_cons_succ,a.ob,qLH,true_and,a.sh,qHS]
  exact hP
theorem qDx {i j:Nat} {r:Rw} {nm:Str} (a:qu st n h s H) (ok:OkR r) (hi:ρ[i]? = some (some (.ins n))) (hj:ρ[j]? = some (some (qS r)))
    (q:∀ st' p,qU st st'→st.length≤p→st'[p]? = some (.rw ((partsOf (qh r.w) r.xs "x").map (inH H)))→Q (.lst p) st') :
    qy (qA3 (qF K85.qAR (qA (qB j) (qA (qC (Dt.str "x")) qE)))) (fun x st P=>P true st) (qAc "Hold" "in_hand" qAL (qB 1) (qA (qB 0) qE)) [(i,nm)] ρ st Q:=by
  simp only [qy,qA3,qF,qA,qE,qB,qC,hj]
  refine⟨r,_,rfl,ok,fun s1 e1=>?_⟩
  simp only [qd,qCK,List.map_cons,List.map_nil,hi,Option.join_some]
  have a1:=a.ext e1
  have hle:∀ k:Nat,((partsOf (qh r.w) r.xs "x").map (inH H)).length≤5:=fun _=>by
    rw [List.length_map];exact qIn ok
  refine⟨fun k zs s'=>zs=((partsOf (qh r.w) r.xs "x").map (inH H)).take k∧s'=s1,⟨rfl,rfl⟩,fun _ _ _ _ _=>trivial,?_,?_⟩
  · rintro k d zs s' hd ⟨rfl,rfl⟩
    have hk:=(List.getElem?_eq_some_iff.mp hd).1
    rw [List.length_map] at hk
    rw [List.getElem?_map,List.getElem?_eq_getElem hk] at hd
    have hd:d = .int ((partsOf (qh r.w) r.xs "x")[k]):=(Option.some.inj hd).symm
    subst hd
    have hyl:(((partsOf (qh r.w) r.xs "x").map (inH H)).take k).length≤((partsOf (qh r.w) r.xs "x").map (inH H)).length:=List.length_take_le' k _
    have:=hle 0
    refine⟨small (by omega),qAy ?_⟩
    refine qN4 (i:=1) (x:=(partsOf (qh r.w) r.xs "x")[k]) a1 rfl (fun P hp=>hp) ⟨?_,rfl⟩
    have hk2:k<((partsOf (qh r.w) r.xs "x").map (inH H)).length:=by rw [List.length_map];exact hk
    rw [List.take_succ,List.getElem?_eq_getElem hk2]
    simp
  · rintro ys s' ⟨rfl,rfl⟩
    refine q _ _ (fun u o ho=>qe (e1 u o ho)) (qDZ e1) ?_
    rw [qK,List.length_map,show (partsOf (qh r.w) r.xs (Str.ofString "x")).length=((partsOf (qh r.w) r.xs "x").map (inH H)).length by simp,List.take_length]
theorem qMh {sp:RDL} {t1 t2:TD} (h:t1 ρ st fun d1 s1=>t2 ρ s1 fun d2 s2=>sp [d1,d2] s2 Q):qF sp (qA t1 (qA t2 qE)) ρ st Q:=h
theorem qQe {te:TD} {g:TGD} (h:te ρ st fun d s1=>g d ρ s1 E.nx):qO te g E ρ st:=h
theorem rX {i j:Nat} {x:Int} {r:Rw} (hi:ρ[i]? = some (some (qS r))) (hj:r.xs[j]? = some x):∀ P:VD,P (.int x) st→qD qJ (qB i) (qC (.int ((j+1:Nat):Int))) ρ st P:=by
  intro P hp
  simp only [qD,qB,qC,hi,qS]
  exact qw (qAB (j:=j+1) (by rw [List.getElem?_cons_succ,List.getElem?_map,hj];rfl)) hp
theorem rS {i j:Nat} {x:Dt} {xs:List Dt} (hi:ρ[i]? = some (some (.tup xs))) (hj:xs[j]? = some x):∀ P:VD,P x st→qD qJ (qB i) (qC (.int (j:Int))) ρ st P:=by
  intro P hp
  simp only [qD,qB,qC,hi]
  exact qw (qAB (j:=j) hj) hp
theorem tA1 {t:TD} {d:Dt} (h:∀ P:VD,P d st→t ρ st P):∀ P:List Dt→Sto→Prop,P [d] st→qA t qE ρ st P:=fun P hp=>h _ hp
theorem fsq {x:TD} {A N:TSD} {a b:Str} (hx:∀ P:VD,P (.str a) st→x ρ st P) (h:(a==b)=false) (q:N E ρ st):tseq (qa (qH (qD (qg false) x (qC (.str b)))) A qG) N E ρ st:=K22.seq1 (K22.qAG hx h q)
theorem qC3 {i:Nat} {x:Int} {v:Dt} {ti:TD} {R:Rho→Sto→Prop} (a:qu st n h s H) (hl:H.hk.length<1000) (hi:ρ[i]? = some (some (.ins n))) (ht:∀ P:VD,P (.int x) st→ti ρ st P) (q:∀ st',qu st' n h s (qAn H x v)→qI6 h s st st'→R ρ st'):qBq (qA2 "Hold" (qB i) "hands") ti v ρ st R:=by
  simp only [qBq,qA2,qB,hi,a.ob,qMn,true_and]
  refine ht _ ?_
  simp only [a.hd,qHS]
  exact⟨small hl,q _ (a.qAn x v) fun j o h1 h2 hj=>qT hj (Ne.symm h1)⟩
theorem qMU {i:Nat} {x:Int} {v:Dt} {ti:TD} {R:Rho→Sto→Prop} (a:qu st n h s H) (hl:H.sk.length<1000) (hi:ρ[i]? = some (some (.ins n))) (ht:∀ P:VD,P (.int x) st→ti ρ st P) (q:∀ st',qu st' n h s (qC8 H x v)→qI6 h s st st'→R ρ st'):qBq (qA2 "Hold" (qB i) "shelf") ti v ρ st R:=by
  simp only [qBq,qA2,qB,hi,a.ob,qLH,true_and]
  refine ht _ ?_
  simp only [a.sh,qHS]
  exact⟨small hl,q _ (a.qC8 x v) fun j o h1 h2 hj=>qT hj (Ne.symm h2)⟩
theorem qI6.of {st' st2:Sto} (e:qU st st') (x:qI6 h s st' st2):qI6 h s st st2:=fun j o h1 h2 hj=>x j o h1 h2 (e _ _ hj)
theorem qDb {r:Rw} {d:Int} {v:Dt} (a:qu st n h s H) (h1:H.hk.length<1000) (ok:OkR r) (hd:r.xs[0]? = some d)
    (hm:∀ (P:VD) st' p,st'[p]? = some (.rw ((partsOf (qh r.w) r.xs "x").map (inH H)))→P v st'→K20.qED [.str r.w,.lst p] st' P)
    (hP:∀ st',qu st' n h s (qAn H d v)→qI6 h s st st'→E.nx [some (.ins n),some (qS r),some (.str r.w)] st') :
    qO (qF K20.qED (qA (qB 2) (qA (qy (qA3 (qF K85.qAR (qA (qB 1) (qA (qC (Dt.str "x")) qE)))) (fun x st P=>P true st) (qAc "Hold" "in_hand" qAL (qB 1) (qA (qB 0) qE)) [(0, "self")]) qE))) (qBq (qA2 "Hold" (qB 0) "hands") (qD qJ (qB 1) (qC (Dt.int 1)))) E [some (.ins n),some (qS r),some (.str r.w)] st:=by
  k_dat 0"r124"
  refine qQe (qMh (v2 _ ?_))
  refine qDx (i:=0) (j:=1) a ok rfl rfl fun s1 p e1 hp g1=>?_
  refine hm _ s1 p g1 ?_
  refine qC3 (i:=0) (x:=d) (a.ext e1) h1 rfl (fun P hp=>?_) fun s2 a2 x2=>hP s2 a2 (x2.of e1)
  refine qw (xs:=.str r.w::r.xs.map .int) ?_ hp
  exact qAB (j:=1) (by rw [List.getElem?_cons_succ,List.getElem?_map,hd];rfl)
theorem qH2 {ds:List Dt} {st:Sto} {Pd:VD} (h:qH4 ds st Pd):qCN (Ed Pd) (qV ["self", "row", "word"] ds) st:=by
  obtain⟨n,h,s,H,H',r,rfl,a,h1,h2,ok,pu,hP⟩:=h
  show qCN (Ed Pd) [some (.ins n),some (qS r),none] st
  k_dat 0"r124"
  unfold qCN
  refine qk (i:=2) ?_
  refine qw (xs:=.str r.w::r.xs.map .int) (v:=0) (d:=.str r.w) (qAB (j:=0) rfl) ?_
  refine K22.seq1 ?_
  show qa _ _ _ _ [some (.ins n),some (qS r),some (.str r.w)] st
  cases pu with
  | keep s' x =>
    refine K22.qDe (a:= "keep") v2 (by decide +kernel) (K22.seq1 ?_)
    refine qN4 (i:=0) (x:=x) a rfl (tA1 (rX (i:=1) (j:=1) rfl rfl)) ?_
    exact qMU (i:=0) (x:=s') a h2 rfl (rX (i:=1) (j:=0) rfl rfl) fun s2 a2 x2=>hP s2 a2 x2
  | load d s' =>
    refine K22.qAG (a:= "load") v2 (by decide +kernel) (K22.seq1 ?_)
    refine K22.qDe (a:= "load") v2 (by decide +kernel) (K22.seq1 ?_)
    refine qQv (i:=0) (x:=s') a rfl (tA1 (rX (i:=1) (j:=1) rfl rfl)) ?_
    k_dat 0"r66"
  | num d v =>
    refine K22.qAG (a:= "num") v2 (by decide +kernel) (K22.seq1 ?_)
    refine K22.qAG (a:= "num") v2 (by decide +kernel) (K22.seq1 ?_)
    refine K22.qDe (a:= "num") v2 (by decide +kernel) (K22.seq1 ?_)
    refine qQe (rX (i:=1) (j:=1) (x:=v) rfl rfl _ ?_)
    k_dat 0"r66"
  | box d k v hk =>
    k_dat 0"r81"
    k_dat 0"r81"
    k_dat 0"r81"
    refine K22.qDe (a:= "box") v2 (by decide +kernel) (K22.seq1 ?_)
    simp only [qO,qD,qA2,qB,qC,List.getElem?_cons_zero,List.getElem?_cons_succ,a.ob,qP0,true_and]
    refine qw (xs:=[.str "box",.int d,.int (k:Int)]) (v:=2) (d:=.int (k:Int)) rfl ?_
    refine qw (d:=.int v) (qAB (by rw [List.getElem?_map,hk];rfl)) ?_
    k_dat 0"r66"
  | mark d k v hk =>
    k_dat 0"r67"
    k_dat 0"r67"
    k_dat 0"r67"
    k_dat 0"r67"
    refine K22.qDe (a:= "mark") v2 (by decide +kernel) (K22.seq1 ?_)
    simp only [qO,qD,qA2,qB,qC,List.getElem?_cons_zero,List.getElem?_cons_succ,a.ob,qQM,true_and]
    refine qw (xs:=[.str "mark",.int d,.int (k:Int)]) (v:=2) (d:=.int (k:Int)) rfl ?_
    refine qw (xs:=mL H.ms) (d:=v) (qAB hk) ?_
    k_dat 0"r66"
  | yes d =>
    k_dat 0"r35"
    k_dat 0"r35"
    k_dat 0"r35"
    k_dat 0"r35"
    k_dat 0"r35"
    exact qDb a h1 ok rfl (fun P s' p _ q=>⟨_,p,rfl,.inl ⟨rfl,q⟩⟩) hP
  | no d =>
    k_dat 0"r36"
    k_dat 0"r36"
    k_dat 0"r36"
    k_dat 0"r36"
    k_dat 0"r36"
    exact qDb a h1 ok rfl (fun P s' p _ q=>⟨_,p,rfl,.inr (.inl ⟨rfl,q⟩)⟩) hP
  | nought d x z hz =>
    k_dat 0"r37"
    k_dat 0"r37"
    k_dat 0"r37"
    k_dat 0"r37"
    k_dat 0"r37"
    have e:(partsOf (qh "nought") [d,x] "x").map (inH H)=[.int z]:=by rw [show partsOf (qh "nought") [d,x] "x" = [x] from qH9 (by decide +kernel),List.map_cons,List.map_nil,hz]
    exact qDb a h1 ok rfl (fun P s' p g q=>⟨_,p,rfl,.inr (.inr (.inl ⟨z,⟨_,g,e⟩,.inl ⟨rfl,q⟩⟩))⟩) hP
  | high d x z hz =>
    k_dat 0"r38"
    k_dat 0"r38"
    k_dat 0"r38"
    k_dat 0"r38"
    k_dat 0"r38"
    have e:(partsOf (qh "high") [d,x] "x").map (inH H)=[.int z]:=by rw [show partsOf (qh "high") [d,x] "x" = [x] from qH9 (by decide +kernel),List.map_cons,List.map_nil,hz]
    exact qDb a h1 ok rfl (fun P s' p g q=>⟨_,p,rfl,.inr (.inr (.inl ⟨z,⟨_,g,e⟩,.inr ⟨rfl,q⟩⟩))⟩) hP
  | two o d x y z z' hz hz' z0 z1 z2 z3 =>
    have nk:∀ w:Str,w∈(["keep", "load", "num", "box", "mark"]:List Str)→(K20.nm o==w)=false:=by cases o<;>decide +kernel
    k_dat 0"r39"
    k_dat 0"r39"
    k_dat 0"r39"
    k_dat 0"r39"
    k_dat 0"r39"
    have e:(partsOf (qh (K20.nm o)) [d,x,y] "x").map (inH H)=[.int z,.int z']:=by rw [show partsOf (qh (K20.nm o)) [d,x,y] "x" = [x,y] from qJ9 (by cases o<;>decide +kernel),List.map_cons,List.map_cons,List.map_nil,hz,hz']
    exact qDb a h1 ok rfl (fun P s' p g q=>⟨_,p,rfl,.inr (.inr (.inr ⟨o,z,z',rfl,⟨_,g,e⟩,z0,z1,z2,z3,q⟩))⟩) hP
theorem qF0 {ds:List Dt} {st:Sto} {Pd:VD} (h:qA8 ds st Pd):qBD (Ed Pd) (qV ["self", "source", "old", "where"] ds) st:=by
  obtain⟨n,h,s,H,src,old,v,rfl,a,sr,hP⟩:=h
  show qBD (Ed Pd) [some (.ins n),some src,some (.tup old),none] st
  unfold qBD
  refine qk (i:=3) ?_
  cases sr with
  | hand x =>
    refine rS (i:=1) (j:=0) (xs:=[.str "hand",.int x]) rfl rfl _ ?_
    refine K22.seq1 (K22.qDe (a:= "hand") (fun P hp=>hp) (by decide +kernel) (K22.seq1 ?_))
    exact qN4 (i:=0) (x:=x) a rfl (tA1 (rS (i:=1) (j:=1) (xs:=[.str "hand",.int x]) rfl rfl)) hP
  | shelf x =>
    refine rS (i:=1) (j:=0) (xs:=[.str "shelf",.int x]) rfl rfl _ ?_
    refine fsq (a:= "shelf") (fun P hp=>hp) (by decide +kernel) ?_
    refine K22.seq1 (K22.qDe (a:= "shelf") (fun P hp=>hp) (by decide +kernel) (K22.seq1 ?_))
    exact qQv (i:=0) (x:=x) a rfl (tA1 (rS (i:=1) (j:=1) (xs:=[.str "shelf",.int x]) rfl rfl)) hP
  | old k d hk =>
    refine rS (i:=1) (j:=0) (xs:=[.str "old",.int (k:Int)]) rfl rfl _ ?_
    iterate 2 refine fsq (a:= "old") (fun P hp=>hp) (by decide +kernel) ?_
    refine K22.seq1 ?_
    simp only [qP,qD,qB,qC,List.getElem?_cons_zero,List.getElem?_cons_succ,List.set_cons_zero,List.set_cons_succ]
    refine qw (xs:=[.str "old",.int (k:Int)]) (v:=1) (d:=.int (k:Int)) rfl ?_
    exact qw (qAB hk) hP
end
end KM
namespace KM
open PySem PySem.Spec PyProof.Rows L2 L3 KS K02 K85 K06
abbrev qBR:TSD:=(tseq (qa (qH (qD (qg false) (qD qJ (qB 0) (qC (Dt.int 0))) (qC (Dt.str "out")))) (tseq (qP (qD qJ (qB 0) (qC (Dt.int 1)))) qG) qG) (tseq (qa (qH (qD (qg false) (qD qJ (qB 0) (qC (Dt.int 0))) (qC (Dt.str "back")))) (tseq (qP (qC7 (qH (qD (qES false) (qB 2) (qC Dt.non))) (qD qJ (qB 0) (qC (Dt.int 1))) (qD qJ (qB 0) (qC (Dt.int 2))))) qG) qG) (tseq (qP (qC7 (qH (qD qJ (qB 1) (qC (Dt.int 0)))) (qD qJ (qB 0) (qC (Dt.int 2))) (qD qJ (qB 0) (qC (Dt.int 3))))) qG)))
abbrev qBp:TSD:=(tseq (qO (qF qi (qA (qy (qA3 (qD qJ (qB 0) (qC (Dt.int 2)))) (fun x st P=>P true st) (qAc "Hold" "source" qA8 (qB 1) (qA (qB 0) (qA (qA2 "Hold" (qB 1) "boxes") qE))) [(2, "hold")]) qE)) (qI 4)) (tseq (qa (qH (qB 3)) (tseq (qP (qZ (qA (qD qJ (qD qJ (qB 1) (qC (Dt.int 3))) (qC (Dt.int 0))) (qA (qB 4) (qA (qD qJ (qD qJ (qB 1) (qC (Dt.int 3))) (qC (Dt.int 1))) (qA (qC Dt.non) (qA (qD qJ (qB 1) (qC (Dt.int 4))) (qA (qD qJ (qB 1) (qC (Dt.int 5))) qE)))))))) qG) qG) (tseq (qO (qC7 (qH (qF qCT (qA (qD qJ (qB 0) (qC (Dt.int 1))) (qA (qC (Dt.ty "tuple")) qE)))) (qAc "Hold" "in_hand" qAL (qB 2) (qA (qD qJ (qD qJ (qB 0) (qC (Dt.int 1))) (qC (Dt.int 1))) qE)) (qD qJ (qB 0) (qC (Dt.int 1)))) (qI 5)) (tseq (qO (qF qi (qA (qy (qA3 (qD qJ (qB 0) (qC (Dt.int 3)))) (fun x st P=>P true st) (qAc "Hold" "source" qA8 (qB 1) (qA (qB 0) (qA (qA2 "Hold" (qB 1) "marks") qE))) [(2, "hold")]) qE)) (qI 6)) (tseq (qP (qZ (qA (qD qj (qB 5) (qC (Dt.int 65536))) (qA (qB 4) (qA (qB 6) (qA (qD qJ (qB 1) (qC (Dt.int 3))) (qA (qD qJ (qB 1) (qC (Dt.int 4))) (qA (qD qJ (qB 1) (qC (Dt.int 5))) qE)))))))) qG)))))
section
variable {E:qBH} {st:Sto} {Q:VD} {ρ:Rho} {n h s:Nat} {H:Hd}
theorem qJQ {x e f:Int}:partsOf (qh "when") [x,e,f] "x" = [x]:=by
  have h:cs (qh "when")=[120,101,101]:=by decide +kernel
  unfold partsOf;rw [h]
  have e1:(one 101==("x" : Str))=false:=by decide +kernel
  k_dat 0"r65"
  k_dat 0"r80"
theorem qFq {c:TBD} {t u:TD} {b:Bool} {P:VD} (hc:∀ P:Bool→Sto→Prop,P b st→c ρ st P) (h:if b=true then t ρ st P else u ρ st P):qC7 c t u ρ st P:=by
  unfold qC7;exact hc _ h
theorem qF7 {ds:List Dt} {st:Sto} {Pd:VD} (h:qCo ds st Pd):qBR (Ed Pd) (qV ["row", "parts", "saved"] ds) st:=by
  obtain⟨r,p,sv,H,e,rfl,hp,la,hP⟩:=h
  show qBR (Ed Pd) [some (qS r),some (.lst p),some (svD sv)] st
  have w0:∀ P:VD,P (.str r.w) st→qD qJ (qB 0) (qC (.int 0)) [some (qS r),some (.lst p),some (svD sv)] st P:=rS (i:=0) (j:=0) (xs:=.str r.w::r.xs.map .int) rfl rfl
  unfold qBR
  cases la with
  | out e =>
    refine K22.seq1 (K22.qDe (a:= "out") w0 (by decide +kernel) (K22.seq1 ?_))
    exact rX (i:=0) (j:=0) rfl rfl _ hP
  | back e f =>
    refine fsq (a:= "back") w0 (by decide +kernel) ?_
    refine K22.seq1 (K22.qDe (a:= "back") w0 (by decide +kernel) (K22.seq1 ?_))
    cases sv with
    | none =>
      refine qFq (b:=true) (fun P hp=>hp) ?_
      exact qAy (rX (i:=0) (j:=0) rfl rfl _ hP)
    | some z =>
      refine qFq (b:=false) (fun P hp=>hp) ?_
      exact qBT (rX (i:=0) (j:=1) rfl rfl _ hP)
  | whn x e f t ht =>
    iterate 2 refine fsq (a:= "when") w0 (by decide +kernel) ?_
    refine K22.seq1 ?_
    have hp:st[p]? = some (.rw [.bl t]):=by
      have:(partsOf (qh "when") [x,e,f] "x").map (inH H)=[.bl t]:=by rw [qJQ,List.map_cons,List.map_nil,ht]
      rw [← this];exact hp
    refine qFq (b:=t) (fun P h=>?_) ?_
    · show qH _ _ _ _
      unfold qH
      exact ixL (i:=1) (j:=0) (d:=.bl t) rfl hp rfl _ h
    · cases t with
      | true=>exact qAy (rX (i:=0) (j:=1) rfl rfl _ hP)
      | false=>exact qBT (rX (i:=0) (j:=2) rfl rfl _ hP)
theorem qHQ {i j k:Nat} {nm f:Str} {ss vs xs old:List Dt} (a:qu st n h s H) (hi:ρ[i]? = some (some (.ins n))) (hj:ρ[j]? = some (some (.tup xs))) (hk:xs[k]? = some (.tup ss)) (hf:(qDF h s H.bx H.ms).lookup f=some (.tup old)) (al:qG2 H old ss vs) (hl:ss.length≤100)
    (q:∀ st',qU st st'→Q (.tup vs) st') :
    qF qi (qA (qy (qA3 (qD qJ (qB j) (qC (Dt.int (k:Int))))) (fun x st P=>P true st) (qAc "Hold" "source" qA8 (qB 1) (qA (qB 0) (qA (qA2 "Hold" (qB 1) f) qE))) [(i,nm)]) qE) ρ st Q:=by
  unfold qF
  simp only [qA,qE,qy,qA3]
  refine rS (i:=j) (j:=k) hj hk _ ?_
  simp only [qd,qCK,List.map_cons,List.map_nil,hi,Option.join_some]
  refine⟨fun m zs s'=>zs=vs.take m∧s'=st,⟨rfl,rfl⟩,fun _ _ _ _ _=>trivial,?_,?_⟩
  · rintro m d zs s' hd ⟨rfl,rfl⟩
    have hm:=(List.getElem?_eq_some_iff.mp hd).1
    have hyl:(vs.take m).length≤vs.length:=List.length_take_le' m _
    have hvl:=al.1
    refine⟨small (by omega),qAy ?_⟩
    have hm2:m<vs.length:=by omega
    simp only [qAc,qB,qA,qE,qA2,List.getElem?_cons_zero,List.getElem?_cons_succ,a.ob,qQn,hf,true_and]
    refine⟨n,h,s,H,d,old,vs[m],rfl,a,al.2 m _ _ hd (List.getElem?_eq_getElem hm2),?_,rfl⟩
    rw [List.take_succ,List.getElem?_eq_getElem hm2]
    simp
  · rintro ys s' ⟨rfl,rfl⟩
    have e:(s'++[SO.rw (vs.take ss.length)])[s'.length]? = some (.rw vs):=by rw [qK,← al.1,List.take_length]
    simp only [qi,qd,e,Option.map_some,SO.items]
    exact q _ (.app _ _)
theorem qGs {ds:List Dt} {st:Sto} {Pd:VD} (h:qCJ ds st Pd):qBp (Ed Pd) (qV ["way", "state", "hold", "is_back", "boxes", "place", "marks"] ds) st:=by
  obtain⟨e,g,g',n,h,s,H,k,rfl,a,l1,l2,ou,hP⟩:=h
  show qBp (Ed Pd) [some (exD e),some g.d,some (.ins n),some (.bl k),none,none,none] st
  have six:(6:Nat)≤sizeLine:=by decide
  unfold qBp
  refine qk (i:=4) ?_
  cases ou with
  | back q m vs hs al =>
    k_dat 0"r125"
    refine K22.seq1 (ifS (b:=true) (fun P hp=>hp) (fun _=>?_) fun z=>by cases z)
    k_dat 0"r126"
    have sv:svD g.sv = .tup [.int q,msD m]:=by rw [hs];rfl
    k_dat 0"r127"
    refine qw (xs:=[.int q,msD m]) (v:=0) (d:=.int q) rfl ?_
    k_dat 0"r127"
    refine qw (xs:=[.int q,msD m]) (v:=1) (d:=msD m) rfl ?_
    k_dat 0"r128"
    k_dat 0"r129"
    exact⟨six,hP _ x1⟩
  | go p vs m ha al am =>
    k_dat 0"r125"
    have a1:=a.ext x1
    refine qBO (b:=false) (fun P hp=>hp) (fun z=>by cases z) fun _=>?_
    refine qk (i:=5) ?_
    have rest:(tseq (qO (qF qi (qA (qy (qA3 (qD qJ (qB 0) (qC (Dt.int 3)))) (fun x st P=>P true st) (qAc "Hold" "source" qA8 (qB 1) (qA (qB 0) (qA (qA2 "Hold" (qB 1) "marks") qE))) [(2, "hold")]) qE)) (qI 6)) (tseq (qP (qZ (qA (qD qj (qB 5) (qC (Dt.int 65536))) (qA (qB 4) (qA (qB 6) (qA (qD qJ (qB 1) (qC (Dt.int 3))) (qA (qD qJ (qB 1) (qC (Dt.int 4))) (qA (qD qJ (qB 1) (qC (Dt.int 5))) qE)))))))) qG)) (Ed Pd) [some (exD e),some g.d,some (.ins n),some (.bl false),some (.tup (vs.map .int)),some (.int p),none] s1:=by
      refine qk (i:=6) ?_
      refine qHQ (i:=2) (j:=0) (k:=3) (xs:=[.str e.how,e.at_,.tup e.bs,.tup e.ms,.int e.n]) a1 rfl rfl rfl rfl am l2 fun s2 x2=>?_
      k_dat 0"r126"
      k_dat 0"r21"
      refine qw (xs:=[.int g.p,.tup (g.bs.map .int),msD g.m,svD g.sv,.tup (g.rs.map .int),.tup (g.cs.map .int)]) (v:=3) (d:=svD g.sv) rfl ?_
      k_dat 0"r128"
      k_dat 0"r129"
      exact⟨six,hP _ fun u o ho=>x2 _ _ (x1 _ _ ho)⟩
    obtain⟨how,at_,bs,ms,nn⟩:=e
    cases ha with
    | int =>
      refine qFq (b:=false) (fun P hp=>?_) (qBT ?_)
      · show qH _ _ _ _
        unfold qH
        simp only [qF,qA,qE,qC]
        refine rS (i:=0) (j:=1) (xs:=[.str how,.int p,.tup bs,.tup ms,.int nn]) rfl rfl _ ?_
        exact⟨by decide +kernel,hp⟩
      · exact rS (i:=0) (j:=1) (xs:=[.str how,.int p,.tup bs,.tup ms,.int nn]) rfl rfl _ rest
    | hand w x _ hx =>
      refine qFq (b:=true) (fun P hp=>?_) (qAy ?_)
      · show qH _ _ _ _
        unfold qH
        simp only [qF,qA,qE,qC]
        k_dat 0"r130"
        exact⟨by decide +kernel,hp⟩
      · refine qN4 (i:=2) (x:=x) a1 rfl (tA1 fun P hp=>?_) (by rw [hx];exact rest)
        show qD qJ _ _ _ _ _
        unfold qD
        k_dat 0"r130"
        exact qw (xs:=[.str w,.int x]) (v:=1) rfl hp
end
end KM
namespace KM
open PySem PySem.Spec PyProof.Rows L2 L3 KS K02 K85 K06
abbrev dhC:TSD:=(tseq (qa (qH (qD (qES true) (qB 11) (qC Dt.non))) (tseq (qO (qD qJ (qD qJ (qB 0) (qC (Dt.int 3))) (qB 11)) (qI 13)) (tseq (qO (qCu (qD (qg false) (qB 9) (qC (Dt.str "back"))) (qD (qES true) (qD qJ (qB 1) (qC (Dt.int 3))) (qC Dt.non))) (qI 14)) (tseq (qP (qZ (qA (qD qJ (qB 13) (qC (Dt.int 0))) (qA (qF qCJ (qA (qB 13) (qA (qB 1) (qA (qB 4) (qA (qB 14) qE))))) (qA (qF qi (qA (qB 5) qE)) (qA (qD qJ (qB 13) (qC (Dt.int 4))) (qA (qB 6) (qA (qB 7) qE)))))))) qG))) qG) qG)
abbrev qC5:TSD:=(tseq (qO (qJf "Hold" qE2 (qA (qD qJ (qB 1) (qC (Dt.int 1))) (qA (qD qJ (qB 1) (qC (Dt.int 2))) qE))) (qI 4)) (tseq (qO (qz qE) (qI 5)) (tseq (qO (qC (Dt.int 0)) (qI 6)) (tseq (qEG (qFz (qD qJ (qB 0) (qC (Dt.int 2)))) (qAS 2 (qX (qI 7) (qX (qI 8) qBj))) (tseq (qO (qD qJ (qB 8) (qC (Dt.int 0))) (qI 9)) (tseq (qO (qy (qA3 (qF K85.qAR (qA (qB 8) (qA (qC (Dt.str "x")) qE)))) (fun x st P=>P true st) (qAc "Hold" "in_hand" qAL (qB 1) (qA (qB 0) qE)) [(4, "hold")]) (qI 10)) (tseq (qO (qC Dt.non) (qI 11)) (tseq (qa (qH (qD (qB6 false) (qB 9) (qC (Dt.tup qH0)))) (tseq (qO (qF qCo (qA (qB 8) (qA (qB 10) (qA (qD qJ (qB 1) (qC (Dt.int 3))) qE)))) (qI 11)) qG) (tseq (qa (qH (qD7 qF1 (qB 9))) (tseq (qO (qF KD.qCq (qA (qB 1) (qA (qB 9) (qA (qB 10) (qA (qC7 (qH (qD (qAD fun i j=>decide (i<j)) (qB 6) (qF qAq (qA (qB 2) qE)))) (qD qJ (qB 2) (qB 6)) (qC (Dt.int 0))) qE))))) (qI 12)) (tseq (qO (qD qJ (qB 12) (qC (Dt.int 1))) (qI 1)) (tseq (qAm (qE3 (qB 5) (qD qJ (qB 12) (qC (Dt.int 2))))) (tseq (qa (qH (qD (qg true) (qD qJ (qB 12) (qC (Dt.int 0))) (qC (Dt.str "on")))) (tseq (qO (qD qJ (qF K85.qAR (qA (qB 8) (qA (qC (Dt.str "e")) qE))) (qC (Dt.int 0))) (qI 11)) qG) (tseq (qa (qH (qF KD.qBg (qA (qB 9) (qA (qB 10) (qA (qB 3) qE))))) (tseq (qO (qD qJ (qF K85.qAR (qA (qB 8) (qA (qC (Dt.str "e")) qE))) (qC (Dt.int 1))) (qI 11)) qG) (tseq (qa (qH (qD (qB6 false) (qB 9) (qC (Dt.tup KD.qNv)))) (tseq (qO (qD qJ (qD qJ (qB 1) (qC (Dt.int 1))) (qC (Dt.int 0))) (qBq (qA2 "Hold" (qB 4) "hands") (qD qJ (qB 8) (qC (Dt.int 1))))) (tseq (qML 6 (qC7 (qB3 (qH (qD (qg false) (qB 9) (qC (Dt.str "hear")))) (qH (qD (qAD fun i j=>decide (i<j)) (qB 6) (qF qAq (qA (qB 2) qE))))) (qC (Dt.int 1)) (qC (Dt.int 0)))) qG)) qG) qG)) qG)) qG)))) (tseq (qAm (qAc "Hold" "put" qH4 (qB 4) (qA (qB 8) qE))) qG)) qG)) dhC))))) (tseq (qP (qC Dt.non)) qG)))))
def dhB:TSD:=(tseq (qa (qH (qD (qB6 false) (qB 9) (qC (Dt.tup qH0)))) (tseq (qO (qF qCo (qA (qB 8) (qA (qB 10) (qA (qD qJ (qB 1) (qC (Dt.int 3))) qE)))) (qI 11)) qG) (tseq (qa (qH (qD7 qF1 (qB 9))) (tseq (qO (qF KD.qCq (qA (qB 1) (qA (qB 9) (qA (qB 10) (qA (qC7 (qH (qD (qAD fun i j=>decide (i<j)) (qB 6) (qF qAq (qA (qB 2) qE)))) (qD qJ (qB 2) (qB 6)) (qC (Dt.int 0))) qE))))) (qI 12)) (tseq (qO (qD qJ (qB 12) (qC (Dt.int 1))) (qI 1)) (tseq (qAm (qE3 (qB 5) (qD qJ (qB 12) (qC (Dt.int 2))))) (tseq (qa (qH (qD (qg true) (qD qJ (qB 12) (qC (Dt.int 0))) (qC (Dt.str "on")))) (tseq (qO (qD qJ (qF K85.qAR (qA (qB 8) (qA (qC (Dt.str "e")) qE))) (qC (Dt.int 0))) (qI 11)) qG) (tseq (qa (qH (qF KD.qBg (qA (qB 9) (qA (qB 10) (qA (qB 3) qE))))) (tseq (qO (qD qJ (qF K85.qAR (qA (qB 8) (qA (qC (Dt.str "e")) qE))) (qC (Dt.int 1))) (qI 11)) qG) (tseq (qa (qH (qD (qB6 false) (qB 9) (qC (Dt.tup KD.qNv)))) (tseq (qO (qD qJ (qD qJ (qB 1) (qC (Dt.int 1))) (qC (Dt.int 0))) (qBq (qA2 "Hold" (qB 4) "hands") (qD qJ (qB 8) (qC (Dt.int 1))))) (tseq (qML 6 (qC7 (qB3 (qH (qD (qg false) (qB 9) (qC (Dt.str "hear")))) (qH (qD (qAD fun i j=>decide (i<j)) (qB 6) (qF qAq (qA (qB 2) qE))))) (qC (Dt.int 1)) (qC (Dt.int 0)))) qG)) qG) qG)) qG)) qG)))) (tseq (qAm (qAc "Hold" "put" qH4 (qB 4) (qA (qB 8) qE))) qG)) qG)) dhC)
def dhA:TSD:=(tseq (qO (qD qJ (qB 8) (qC (Dt.int 0))) (qI 9)) (tseq (qO (qy (qA3 (qF K85.qAR (qA (qB 8) (qA (qC (Dt.str "x")) qE)))) (fun x st P=>P true st) (qAc "Hold" "in_hand" qAL (qB 1) (qA (qB 0) qE)) [(4, "hold")]) (qI 10)) (tseq (qO (qC Dt.non) (qI 11)) dhB)))
theorem qFw {kvs:List (Key×Dt)} {k:Key} {v:Dt}:(putD kvs k v).length≤kvs.length+1:=by
  unfold putD
  split
  · rw [List.length_map];omega
  · simp
section
variable {E:qBH} {st s':Sto} {Q:VD} {n h s tn gn:Nat} {a b:Dt} {rs:List Rw} {es:List Ex} {given wt:List Int} {m:Ms}
noncomputable abbrev hoD (a b:Dt) (rs:List Rw) (es:List Ex):Dt:=.tup [a,b,.tup (rs.map qS),.tup (es.map exD)]
noncomputable abbrev RH (a b:Dt) (rs:List Rw) (es:List Ex) (g:GS) (gn:Nat) (wt:List Int) (n tn hd:Nat) (x7 x8 x9 x10 x11 x12 x13 x14:Option Dt):Rho:=[some (hoD a b rs es),some g.d,some (.lst gn),some (.tup (wt.map .int)),some (.ins n),some (.lst tn),some (.int (hd:Nat)),x7,x8,x9,x10,x11,x12,x13,x14]
structure SH (st s':Sto) (n h s tn gn:Nat) (given:List Int) (m:Ms) (i:Nat):Prop where
  ha:qu s' n h s m.H
  ht:s'[tn]? = some (.rw (m.told.map .int))
  hg:K20.Has st gn (given.map .int)
  ex:qU st s'
  lh:st.length≤h
  ls:st.length≤s
  lt:st.length≤tn
  l1:m.H.hk.length≤i
  l2:m.H.sk.length≤i
  l3:m.told.length≤i
  i4:i≤400
theorem SH.grow {i:Nat} {s2:Sto} (x:SH st s' n h s tn gn given m i) (e:qU s' s2):SH st s2 n h s tn gn given m i:={ x with ha:=x.ha.ext e,ht:=e _ _ x.ht,ex:=fun j o hj=>e _ _ (x.ex _ _ hj) }
theorem stN {g:GS} {hd:Nat} {x7 x8 x9 x10 x12 x13 x14:Option Dt} (q:E.nx (RH a b rs es g gn wt n tn hd x7 x8 x9 x10 (some .non) x12 x13 x14) st):dhC E (RH a b rs es g gn wt n tn hd x7 x8 x9 x10 (some .non) x12 x13 x14) st:=by
  unfold dhC
  exact qBO (b:=false) (fun P hp=>hp) (fun z=>by cases z) fun _=>q
theorem stS {x10 x12 x13 x14:Option Dt} {c e:Nat} {r:Rw} {ex:Ex} {g':GS} {i:Nat} (sh:SH st s' n h s tn gn given m i) (he:es[e]? = some ex) (l1:ex.bs.length≤100) (l2:ex.ms.length≤100) (ou:qHG m.H m.g ex (qCa r m) g')
    (hE:∀ s2,qU st s2→E.rt (qGW ex g' m.told m.heard c) s2) :
    dhC E (RH a b rs es m.g gn wt n tn m.heard (some (.int (c:Int))) (some (qS r)) (some (.str r.w)) x10 (some (.int (e:Int))) x12 x13 x14) s':=by
  have six:(6:Nat)≤sizeLine:=by decide
  unfold dhC
  refine qBO (b:=true) (fun P hp=>hp) (fun _=>?_) (fun z=>by cases z)
  refine qk (i:=13) ?_
  unfold qD
  refine rS (i:=0) (j:=3) (xs:=[a,b,.tup (rs.map qS),.tup (es.map exD)]) rfl rfl _ ?_
  show qJ (.tup (es.map exD)) (.int (e:Int)) s' _
  refine qw (qAB (j:=e) (by rw [List.getElem?_map,he];rfl)) ?_
  refine qk (i:=14) ?_
  have bk:∀ P:VD,P (.bl (qCa r m)) s'→qCu (qD (qg false) (qB 9) (qC (Dt.str "back"))) (qD (qES true) (qD qJ (qB 1) (qC (Dt.int 3))) (qC Dt.non)) (RH a b rs es m.g gn wt n tn m.heard (some (.int (c:Int))) (some (qS r)) (some (.str r.w)) x10 (some (.int (e:Int))) x12 (some (exD ex)) x14) s' P:=by
    intro P hp
    simp only [qCu,qD,qB,qC,List.getElem?_cons_zero,List.getElem?_cons_succ]
    by_cases hw:r.w = "back"
    · have:(r.w==("back" : Str))=true:=by rw [hw];decide +kernel
      refine K22.qOn this ?_
      refine KH.qCe rfl ?_
      k_dat 0"r131"
      unfold qCa at hp
      rw [decide_eq_true hw] at hp
      cases hs:m.g.sv with
      | none=>rw [hs] at hp;exact hp
      | some z=>rw [hs] at hp;exact hp
    · have:(r.w==("back" : Str))=false:=beq_eq_false_iff_ne.mpr hw
      refine K22.qP6 this ?_
      refine KH.qAT rfl ?_
      unfold qCa at hp
      rw [decide_eq_false hw] at hp
      exact hp
  refine bk _ ?_
  show tseq (qP _) _ _ (RH a b rs es m.g gn wt n tn m.heard (some (.int (c:Int))) (some (qS r)) (some (.str r.w)) x10 (some (.int (e:Int))) x12 (some (exD ex)) (some (.bl (qCa r m)))) s'
  refine K22.seq1 ?_
  simp only [qP,qZ,qD,qC,qA,qE,qF,qB,List.getElem?_cons_zero,List.getElem?_cons_succ]
  refine qw (xs:=[.str ex.how,ex.at_,.tup ex.bs,.tup ex.ms,.int ex.n]) (v:=0) rfl ?_
  refine⟨ex,m.g,g',n,h,s,m.H,qCa r m,rfl,sh.ha,l1,l2,ou,fun s2 x2=>?_⟩
  have e2:s2[tn]? = some (.rw (m.told.map .int)):=x2 _ _ sh.ht
  simp only [qi,qd,e2,Option.map_some,SO.items]
  refine qw (xs:=[.str ex.how,ex.at_,.tup ex.bs,.tup ex.ms,.int ex.n]) (v:=4) rfl ?_
  exact⟨six,hE _ fun u o ho=>x2 _ _ (sh.ex _ _ ho)⟩
end
end KM
namespace KM
open PySem PySem.Spec PyProof.Rows L2 L3 KS K02 K85 K06
section
variable {E:qBH} {st s':Sto} {Q:VD} {n h s tn gn:Nat} {a b:Dt} {rs:List Rw} {es:List Ex} {given wt:List Int} {m:Ms}
noncomputable def qAb (w:Str):Bool:=qH0.any (fun z=>eqD 0 z (.str w)) != false
noncomputable def qAw (w:Str):Bool:=(qF1.lookup w).isSome
theorem qJN {ρ:Rho} {A C:TSD} {w:Str} {t:Bool} (h9:ρ[9]? = some (some (.str w))) (ht:qAb w=t) (q1:t=true→A E ρ s') (q2:t=false→C E ρ s'):qa (qH (qD (qB6 false) (qB 9) (qC (Dt.tup qH0)))) A C E ρ s':=by
  refine ifS (b:=t) (fun P hp=>?_) q1 q2
  simp only [qH,qD,qB,qC,h9]
  exact⟨rfl,by decide +kernel,by show P (qAb w) s';rw [ht];exact hp⟩
theorem qMI {ρ:Rho} {A C:TSD} {w:Str} {t:Bool} (h9:ρ[9]? = some (some (.str w))) (ht:qAw w=t) (q1:t=true→A E ρ s') (q2:t=false→C E ρ s'):qa (qH (qD7 qF1 (qB 9))) A C E ρ s':=by
  refine ifS (b:=t) (fun P hp=>?_) q1 q2
  simp only [qH,qD7,qB,h9]
  show P (qAw w) s'
  rw [ht];exact hp
theorem qQc {H H':Hd} {r:Rw} (p:Puts H r H'):qAb r.w=false∧qAw r.w=false:=by
  cases p with
  | keep=>exact⟨(by decide +kernel:qAb "keep" = false),(by decide +kernel:qAw "keep" = false)⟩
  | load=>exact⟨(by decide +kernel:qAb "load" = false),(by decide +kernel:qAw "load" = false)⟩
  | num=>exact⟨(by decide +kernel:qAb "num" = false),(by decide +kernel:qAw "num" = false)⟩
  | box=>exact⟨(by decide +kernel:qAb "box" = false),(by decide +kernel:qAw "box" = false)⟩
  | mark=>exact⟨(by decide +kernel:qAb "mark" = false),(by decide +kernel:qAw "mark" = false)⟩
  | yes=>exact⟨(by decide +kernel:qAb "yes" = false),(by decide +kernel:qAw "yes" = false)⟩
  | no=>exact⟨(by decide +kernel:qAb "no" = false),(by decide +kernel:qAw "no" = false)⟩
  | nought=>exact⟨(by decide +kernel:qAb "nought" = false),(by decide +kernel:qAw "nought" = false)⟩
  | high=>exact⟨(by decide +kernel:qAb "high" = false),(by decide +kernel:qAw "high" = false)⟩
  | two o=>exact⟨(by cases o<;>decide +kernel:qAb (K20.nm o)=false),(by cases o<;>decide +kernel:qAw (K20.nm o)=false)⟩
theorem qMq {H H':Hd} {r:Rw} (p:Puts H r H') {i:Nat} (h1:H.hk.length≤i) (h2:H.sk.length≤i):H'.hk.length≤i+1∧H'.sk.length≤i+1:=by
  have hk:∀ {k v},(putD H.hk k v).length≤i+1:=fun {k v}=>Nat.le_trans qFw (by omega)
  have sk:∀ {k v},(putD H.sk k v).length≤i+1:=fun {k v}=>Nat.le_trans qFw (by omega)
  cases p with
  | keep=>exact⟨Nat.le_succ_of_le h1,sk⟩
  | _=>exact⟨hk,Nat.le_succ_of_le h2⟩
variable {x7 x12 x13 x14:Option Dt} {p:Nat} {r:Rw} {i:Nat}
theorem stP {H':Hd} (sh:SH st s' n h s tn gn given m i) (hi:i<400) (ok:OkR r) (pu:Puts m.H r H')
    (hE:∀ s2,SH st s2 n h s tn gn given { m with H:=H' } (i+1)→dhC E (RH a b rs es m.g gn wt n tn m.heard x7 (some (qS r)) (some (.str r.w)) (some (.lst p)) (some .non) x12 x13 x14) s2) :
    dhB E (RH a b rs es m.g gn wt n tn m.heard x7 (some (qS r)) (some (.str r.w)) (some (.lst p)) (some .non) x12 x13 x14) s':=by
  have l1:=sh.l1
  have l2:=sh.l2
  have l3:=sh.l3
  have pw:=qQc pu
  unfold dhB
  refine K22.seq1 (qJN rfl pw.1 (fun z=>by cases z) fun _=>K22.seq1 (qMI rfl pw.2 (fun z=>by cases z) fun _=>K22.seq1 ?_))
  simp only [qAm,qAc,qB,qA,qE,List.getElem?_cons_zero,List.getElem?_cons_succ,sh.ha.ob,qOz,true_and]
  refine⟨n,h,s,m.H,H',r,rfl,sh.ha,by omega,by omega,ok,pu,fun s2 a2 x2=>?_⟩
  have le:=qMq pu l1 l2
  have n1:tn≠h:=fun e=>by have:=sh.ht;rw [e,sh.ha.hd] at this;cases this
  have n2:tn≠s:=fun e=>by have:=sh.ht;rw [e,sh.ha.sh] at this;cases this
  refine hE s2 ⟨a2,x2 _ _ n1 n2 sh.ht,sh.hg,fun j o hj=>?_,sh.lh,sh.ls,sh.lt,le.1,le.2,by show m.told.length≤i+1;omega,by omega⟩
  k_dat 0"r68"
  have:=sh.lh
  have:=sh.ls
  exact x2 _ _ (by omega) (by omega) (sh.ex _ _ hj)
theorem qPX {H:Hd} {sv:Option (Int×M3)} {r:Rw} {e:Int} (l:Last H sv r e):qAb r.w=true:=by
  cases l with
  | out=>exact (by decide +kernel:qAb "out" = true)
  | back=>exact (by decide +kernel:qAb "back" = true)
  | whn=>exact (by decide +kernel:qAb "when" = true)
theorem stL {e:Int} (sh:SH st s' n h s tn gn given m i) (hp:s'[p]? = some (.rw ((partsOf (qh r.w) r.xs "x").map (inH m.H)))) (la:Last m.H m.g.sv r e)
    (hE:dhC E (RH a b rs es m.g gn wt n tn m.heard x7 (some (qS r)) (some (.str r.w)) (some (.lst p)) (some (.int e)) x12 x13 x14) s') :
    dhB E (RH a b rs es m.g gn wt n tn m.heard x7 (some (qS r)) (some (.str r.w)) (some (.lst p)) (some .non) x12 x13 x14) s':=by
  unfold dhB
  refine K22.seq1 (qJN rfl (qPX la) (fun _=>?_) (fun z=>by cases z))
  refine qk (i:=11) ?_
  simp only [qF,qB,qA,qE,qD,qC,List.getElem?_cons_zero,List.getElem?_cons_succ]
  k_dat 0"r131"
  exact⟨r,p,m.g.sv,m.H,e,rfl,hp,la,hE⟩
theorem qRM {H:Hd} {w:KD.IW} {ps:List Int} {d:Int} (t:ItR H r w ps d):r.w=KD.iw w:=by cases t<;>rfl
theorem qSs (w:KD.IW):qAb (KD.iw w)=false∧qAw (KD.iw w)=true:=by cases w<;>decide +kernel
theorem qNU {H:Hd} {w:KD.IW} {ps:List Int} {d:Int} (t:ItR H r w ps d):ps.length=KD.arity w∧(KD.qBe w=true→r.xs[0]? = some d):=by cases t<;>exact⟨rfl,fun z=>by first | rfl | cases z⟩
theorem qKz {H:Hd} {w:KD.IW} {ps:List Int} {d:Int} (t:ItR H r w ps d):(partsOf (qh r.w) r.xs "x").map (inH H)=ps.map .int:=by
  have e0:(one 100==("x" : Str))=false:=by decide +kernel
  have e1:(one 101==("x" : Str))=false:=by decide +kernel
  k_dat 0"r65"
  cases t with
  | get d x y e a b ha hb =>
    have h:cs (qh "get")=[100,120,120,101]:=by decide +kernel
    show (partsOf (qh "get") [d,x,y,e] "x").map (inH H)=_
    unfold partsOf;rw [h]
    k_dat 0"r82"
  | set x y z e f a b c ha hb hc =>
    have h:cs (qh "set")=[120,120,120,101,101]:=by decide +kernel
    show (partsOf (qh "set") [x,y,z,e,f] "x").map (inH H)=_
    unfold partsOf;rw [h]
    simp only [List.zip_cons_cons,List.zip_nil_left,List.filter_cons,e0,e1,e2,List.filter_nil,Bool.false_eq_true,if_false,if_true,List.map_cons,List.map_nil,ha,hb,hc]
  | div d x y e a b ha hb =>
    have h:cs (qh "div")=[100,120,120,101]:=by decide +kernel
    show (partsOf (qh "div") [d,x,y,e] "x").map (inH H)=_
    unfold partsOf;rw [h]
    k_dat 0"r82"
  | tell x a ha =>
    have h:cs (qh "tell")=[120]:=by decide +kernel
    show (partsOf (qh "tell") [x] "x").map (inH H)=_
    unfold partsOf;rw [h]
    simp only [List.zip_cons_cons,List.zip_nil_left,List.filter_cons,e0,e1,e2,List.filter_nil,Bool.false_eq_true,if_false,if_true,List.map_cons,List.map_nil,ha]
  | hear d =>
    have h:cs (qh "hear")=[100]:=by decide +kernel
    show (partsOf (qh "hear") [d] "x").map (inH H)=_
    unfold partsOf;rw [h]
    simp only [List.zip_cons_cons,List.zip_nil_left,List.filter_cons,e0,e1,e2,List.filter_nil,Bool.false_eq_true,if_false,if_true,List.map_cons,List.map_nil]
  | right x y e a b ha hb =>
    have h:cs (qh "right")=[120,120,101]:=by decide +kernel
    show (partsOf (qh "right") [x,y,e] "x").map (inH H)=_
    unfold partsOf;rw [h]
    k_dat 0"r82"
theorem qIX (g:GS) (w:KD.IW) (ps:List Int) (x:Int):(KD.qAr g w ps x).2.2.length≤1∧(KD.qAr g w ps x).2.1.bs.length=g.bs.length:=by
  cases w<;>simp only [KD.qAr,qIz,setG,qJC,qDQ,onG,qGX,qMZ,qIW,next]<;>(try split)<;>simp
theorem brg (w:KD.IW):(KD.qNv.any (fun z=>eqD 0 z (.str (KD.iw w))) != false)=KD.qBe w:=by cases w<;>decide +kernel
theorem qRU {ρ:Rho} {gn hd:Nat} {given:List Int} (hg:K20.Has s' gn (given.map .int)) (h2:ρ[2]? = some (some (.lst gn))) (h6:ρ[6]? = some (some (.int (hd:Nat)))):∀ P:VD,P (.int (given.getD hd 0)) s'→qC7 (qH (qD (qAD fun i j=>decide (i<j)) (qB 6) (qF qAq (qA (qB 2) qE)))) (qD qJ (qB 2) (qB 6)) (qC (Dt.int 0)) ρ s' P:=by
  intro P hp
  obtain⟨o,ho,hi⟩:=hg
  have e:qd s' (.lst gn)=some (given.map .int):=by
    show (s'[gn]?).map SO.items=_
    rw [ho,Option.map_some,hi]
  refine qFq (b:=decide (hd<given.length)) (fun P hp=>?_) ?_
  · simp only [qH,qD,qB,h6]
    refine qNp h2 ho _ ?_
    rw [hi,List.length_map]
    show P (decide ((hd:Int)<(given.length:Int))) s'
    rw [show decide ((hd:Int)<(given.length:Int))=decide (hd<given.length) from by by_cases q:hd<given.length<;>simp [q]<;>omega]
    exact hp
  · by_cases q:hd<given.length
    · rw [decide_eq_true q]
      refine qAy ?_
      simp only [qD,qB,h2,h6]
      show (match qd s' (.lst gn) with
        | some xs=>(match atI xs (hd:Int) with
          | some d=>P d s'
          | none=>False)
        | none=>False)
      rw [e]
      have:(given.map Dt.int)[hd]? = some (.int (given.getD hd 0)):=by rw [List.getElem?_map,List.getD_eq_getElem?_getD,List.getElem?_eq_getElem q];rfl
      show (match atI (given.map Dt.int) (hd:Int) with
        | some d=>P d s'
        | none=>False)
      rw [qAB this]
      exact hp
    · rw [decide_eq_false q]
      refine qBT ?_
      have:given.getD hd 0=0:=by rw [List.getD_eq_getElem?_getD,List.getElem?_eq_none (by omega)];rfl
      rw [this] at hp
      exact hp
end
end KM
namespace KM
open PySem PySem.Spec PyProof.Rows L2 L3 KS K02 K85 K06
section
variable {E:qBH} {st s':Sto} {Q:VD} {n h s tn gn:Nat} {a b:Dt} {rs:List Rw} {es:List Ex} {given wt:List Int} {m:Ms}
variable {x7 x12 x13 x14:Option Dt} {p:Nat} {r:Rw} {i:Nat}
theorem tv {ρ:Rho} {P:VD} {i:Nat} {d:Dt} (h:ρ[i]? = some (some d)) (q:P d st):qB i ρ st P:=by
  unfold qB;rw [h];exact q
theorem qPm {ρ:Rho} {sp:RDL} {t1 t2 t3 t4:TD} (h:t1 ρ st fun d1 s1=>t2 ρ s1 fun d2 s2=>t3 ρ s2 fun d3 s3=>t4 ρ s3 fun d4 s4=>sp [d1,d2,d3,d4] s4 Q):qF sp (qA t1 (qA t2 (qA t3 (qA t4 qE)))) ρ st Q:=h
theorem qP7 {ρ:Rho} {sp:RDL} {t1 t2 t3:TD} (h:t1 ρ st fun d1 s1=>t2 ρ s1 fun d2 s2=>t3 ρ s2 fun d3 s3=>sp [d1,d2,d3] s3 Q):qF sp (qA t1 (qA t2 (qA t3 qE))) ρ st Q:=h
theorem exT {ρ:Rho} {j:Nat} {e:Int} (ok:OkR r) (h8:ρ[8]? = some (some (qS r))) (he:(partsOf (qh r.w) r.xs "e")[j]? = some e) (q:∀ s2,qU st s2→Q (.int e) s2):qD qJ (qF K85.qAR (qA (qB 8) (qA (qC (Dt.str "e")) qE))) (qC (Dt.int (j:Int))) ρ st Q:=by
  unfold qD
  refine qMh (tv h8 ?_)
  refine⟨r,_,rfl,ok,fun s2 x2=>?_⟩
  exact qw (qAB (j:=j) (by rw [List.getElem?_map,he];rfl)) (q s2 x2)
variable {w:KD.IW} {ps:List Int} {d:Int}
noncomputable abbrev R' (m:Ms) (w:KD.IW) (ps given:List Int):Res:=KD.qAr m.g w ps (given.getD m.heard 0)
theorem stI (sh:SH st s' n h s tn gn given m i) (hi:i<400) (ok:OkR r) (okg:m.g.Ok) (it:ItR m.H r w ps d) (hb:∀ v∈ps,0≤v∧v<65536) (hp:s'[p]? = some (.rw ((partsOf (qh r.w) r.xs "x").map (inH m.H)))) (pl:st.length≤p) (hpt:p≠tn) (hwt:wt.length≤100)
    (h1:(R' m w ps given).1 ≠ "on" → ∃ e,(partsOf (qh r.w) r.xs "e")[0]? = some e∧∀ s2,SH st s2 n h s tn gn given (qDa m w ps given) (i+1)→dhC E (RH a b rs es (R' m w ps given).2.1 gn wt n tn m.heard x7 (some (qS r)) (some (.str r.w)) (some (.lst p)) (some (.int e)) (some (qEs (R' m w ps given))) x13 x14) s2)
    (h2:(R' m w ps given).1 = "on" → KD.qBQ w ps wt=true→∃ e,(partsOf (qh r.w) r.xs "e")[1]? = some e∧∀ s2,SH st s2 n h s tn gn given (qDa m w ps given) (i+1)→dhC E (RH a b rs es (R' m w ps given).2.1 gn wt n tn m.heard x7 (some (qS r)) (some (.str r.w)) (some (.lst p)) (some (.int e)) (some (qEs (R' m w ps given))) x13 x14) s2)
    (h3:(R' m w ps given).1 = "on" → KD.qBQ w ps wt=false→∀ s2,SH st s2 n h s tn gn given (after m w ps given d) (i+1)→dhC E (RH a b rs es (R' m w ps given).2.1 gn wt n tn (qIU m w given.length) x7 (some (qS r)) (some (.str r.w)) (some (.lst p)) (some .non) (some (qEs (R' m w ps given))) x13 x14) s2) :
    dhB E (RH a b rs es m.g gn wt n tn m.heard x7 (some (qS r)) (some (.str r.w)) (some (.lst p)) (some .non) x12 x13 x14) s':=by
  have l1:=sh.l1
  have l2:=sh.l2
  have l3:=sh.l3
  have hw:=qRM it
  have iw:=qSs w
  rw [← hw] at iw
  have hil:=qNU it
  have hpp:s'[p]? = some (.rw (ps.map .int)):=by rw [hp,qKz it]
  have sm:=qIX m.g w ps (given.getD m.heard 0)
  have hgs:K20.Has s' gn (given.map .int):=sh.hg.ext sh.ex
  unfold dhB
  refine K22.seq1 (qJN rfl iw.1 (fun z=>by cases z) fun _=>K22.seq1 (qMI rfl iw.2 (fun _=>?_) fun z=>by cases z))
  refine qk (i:=12) (qPm (tv rfl (tv rfl (tv rfl (qRU hgs rfl rfl _ ?_)))))
  refine⟨m.g,w,p,ps,given.getD m.heard 0,by rw [hw],hpp,hil.1,hb,okg,?_⟩
  refine qk (i:=1) (rS (i:=12) (j:=1) (xs:=[.str (R' m w ps given).1,(R' m w ps given).2.1.d,.tup ((R' m w ps given).2.2.map .int)]) rfl rfl _ ?_)
  refine K22.seq1 ?_
  unfold qAm qE3
  refine tv (d:=.lst tn) rfl ?_
  refine rS (i:=12) (j:=2) (xs:=[.str (R' m w ps given).1,(R' m w ps given).2.1.d,.tup ((R' m w ps given).2.2.map .int)]) rfl rfl _ ?_
  show (match s'[tn]? with
      | some (.rw xs)=>xs.length+((R' m w ps given).2.2.map Dt.int).length≤sizeLine∧_
      | _=>False)
  rw [sh.ht]
  refine⟨by
    rw [List.length_map,List.length_map]
    have:=sm.1
    have:(1000:Nat)<sizeLine:=by decide
    show m.told.length+(KD.qAr m.g w ps (given.getD m.heard 0)).2.2.length≤sizeLine
    omega,?_⟩
  have n1:tn≠h:=fun e=>by have:=sh.ht;rw [e,sh.ha.hd] at this;cases this
  have n2:tn≠s:=fun e=>by have:=sh.ht;rw [e,sh.ha.sh] at this;cases this
  have n3:tn≠n:=fun e=>by have:=sh.ht;rw [e,sh.ha.ob] at this;cases this
  have sh2:SH st (s'.set tn (.rw (m.told.map .int++(R' m w ps given).2.2.map .int))) n h s tn gn given (qDa m w ps given) (i+1):=by
    refine⟨⟨qT sh.ha.ob n3,qT sh.ha.hd n1,qT sh.ha.sh n2,sh.ha.ne⟩,?_,sh.hg,fun j o hj=>?_,sh.lh,sh.ls,sh.lt,Nat.le_succ_of_le l1,Nat.le_succ_of_le l2,?_,by omega⟩
    · rw [ql sh.ht]
      show _=some (SO.rw ((m.told++(R' m w ps given).2.2).map Dt.int))
      rw [List.map_append]
    · k_dat 0"r68"
      have:=sh.lt
      exact qT (sh.ex _ _ hj) (by omega)
    · show (m.told++(R' m w ps given).2.2).length≤i+1
      rw [List.length_append]
      have:=sm.1
      show m.told.length+(KD.qAr m.g w ps (given.getD m.heard 0)).2.2.length≤i+1
      omega
  have hpp2:(s'.set tn (.rw (m.told.map .int++(R' m w ps given).2.2.map .int)))[p]? = some (.rw (ps.map .int)):=qT hpp (Ne.symm hpt)
  generalize s'.set tn (.rw (m.told.map .int++(R' m w ps given).2.2.map .int))=s2 at sh2 hpp2
  have w12:∀ P:VD,P (.str (R' m w ps given).1) s2→qD qJ (qB 12) (qC (Dt.int 0)) (RH a b rs es (R' m w ps given).2.1 gn wt n tn m.heard x7 (some (qS r)) (some (.str r.w)) (some (.lst p)) (some .non) (some (qEs (R' m w ps given))) x13 x14) s2 P:=rS (i:=12) (j:=0) (xs:=[.str (R' m w ps given).1,(R' m w ps given).2.1.d,.tup ((R' m w ps given).2.2.map .int)]) rfl rfl
  show tseq _ _ _ (RH a b rs es (R' m w ps given).2.1 gn wt n tn m.heard x7 (some (qS r)) (some (.str r.w)) (some (.lst p)) (some .non) (some (qEs (R' m w ps given))) x13 x14) s2
  refine K22.seq1 (ifS (st':=s2) (neS w12) (fun q=>?_) fun q=>?_)
  · obtain⟨e,he,hE⟩:=h1 (by simpa using q)
    refine qk (i:=11) (exT (j:=0) ok rfl he fun s3 x3=>?_)
    exact hE _ (sh2.grow x3)
  · have q:(R' m w ps given).1 = "on":=by simpa using q
    refine K22.seq1 (ifS (st':=s2) (b:=KD.qBQ w ps wt) (fun P hq=>?_) (fun qs=>?_) fun qs=>?_)
    · unfold qH
      refine qP7 (tv rfl (tv rfl (tv rfl ?_)))
      exact⟨w,p,ps,wt,by rw [hw],hpp2,hil.1,hwt,hq⟩
    · obtain⟨e,he,hE⟩:=h2 q qs
      refine qk (i:=11) (exT (j:=1) ok rfl he fun s3 x3=>?_)
      exact hE _ (sh2.grow x3)
    · have hE:=h3 q qs
      refine K22.seq1 (ifS (st':=s2) (b:=KD.qBe w) (fun P hq=>?_) (fun qb=>?_) fun qb=>?_)
      · simp only [qH,qD,qB,qC,List.getElem?_cons_zero,List.getElem?_cons_succ]
        refine⟨rfl,by decide +kernel,?_⟩
        rw [hw,brg]
        exact hq
      · refine K22.seq1 ?_
        refine qQe ?_
        k_dat 0"r83"
        refine qw (xs:=[.int (R' m w ps given).2.1.p,.tup ((R' m w ps given).2.1.bs.map .int),msD (R' m w ps given).2.1.m,svD (R' m w ps given).2.1.sv,.tup ((R' m w ps given).2.1.rs.map .int),.tup ((R' m w ps given).2.1.cs.map .int)]) (v:=1) (d:=.tup ((R' m w ps given).2.1.bs.map .int)) rfl ?_
        have b8:0<(R' m w ps given).2.1.bs.length:=by
          show 0<(KD.qAr m.g w ps (given.getD m.heard 0)).2.1.bs.length
          rw [sm.2,okg.b8];decide
        refine qw (v:=0) (d:=.int ((R' m w ps given).2.1.bs.getD 0 0)) (qAB (j:=0) (by rw [List.getElem?_map,List.getD_eq_getElem?_getD,List.getElem?_eq_getElem b8];rfl)) ?_
        refine qC3 (i:=4) (x:=d) sh2.ha (by show m.H.hk.length<1000;omega) rfl (rX (i:=8) (j:=0) rfl (hil.2 qb)) fun s3 a3 x3=>?_
        have m1:tn≠h:=n1
        have sh3:SH st s3 n h s tn gn given (after m w ps given d) (i+1):=by
          refine⟨?_,x3 _ _ n1 n2 sh2.ht,sh2.hg,fun j o hj=>?_,sh.lh,sh.ls,sh.lt,?_,?_,sh2.l3,sh2.i4⟩
          · show qu s3 n h s (if KD.qBe w then _ else _)
            rw [if_pos qb];exact a3
          · k_dat 0"r68"
            have:=sh.lh
            have:=sh.ls
            exact x3 _ _ (by omega) (by omega) (sh2.ex _ _ hj)
          · show (if KD.qBe w then qAn m.H d _ else m.H).hk.length≤i+1
            rw [if_pos qb]
            exact Nat.le_trans qFw (by omega)
          · show (if KD.qBe w then qAn m.H d _ else m.H).sk.length≤i+1
            rw [if_pos qb]
            exact Nat.le_succ_of_le l2
        have hg3:K20.Has s3 gn (given.map .int):=sh3.hg.ext sh3.ex
        obtain⟨o,ho,hio⟩:=hg3
        have hc:∀ P:Bool→Sto→Prop,P (qNC w&&decide (m.heard<given.length)) s3→qB3 (qH (qD (qg false) (qB 9) (qC (Dt.str "hear")))) (qH (qD (qAD fun i j=>decide (i<j)) (qB 6) (qF qAq (qA (qB 2) qE)))) (RH a b rs es (R' m w ps given).2.1 gn wt n tn m.heard x7 (some (qS r)) (some (.str r.w)) (some (.lst p)) (some .non) (some (qEs (R' m w ps given))) x13 x14) s3 P:=by
          intro P hP
          refine qRg (b1:=qNC w) (b2:=decide (m.heard<given.length)) (fun P hp=>?_) (fun _ P hp=>?_) P hP
          · refine eqS (a:=r.w) (fun P hp=>hp) P ?_
            rw [hw]
            cases w<;>exact hp
          · simp only [qH,qD,qB,List.getElem?_cons_zero,List.getElem?_cons_succ]
            refine qNp (i:=2) rfl ho _ ?_
            rw [hio,List.length_map]
            show P (decide (((m.heard:Nat):Int)<(given.length:Int))) s3
            rw [show decide (((m.heard:Nat):Int)<(given.length:Int))=decide (m.heard<given.length) from by by_cases q:m.heard<given.length<;>simp [q]<;>omega]
            exact hp
        refine K22.seq1 ?_
        unfold qML
        show qC7 _ _ _ (RH a b rs es (R' m w ps given).2.1 gn wt n tn m.heard x7 (some (qS r)) (some (.str r.w)) (some (.lst p)) (some .non) (some (qEs (R' m w ps given))) x13 x14) s3 _
        refine qFq hc ?_
        have hE3:=hE s3 sh3
        unfold qIU at hE3
        cases hcb:(qNC w&&decide (m.heard<given.length)) with
        | true =>
          rw [hcb] at hE3
          exact qAy hE3
        | false =>
          rw [hcb] at hE3
          exact qBT hE3
      · have e1:qIU m w given.length=m.heard:=by
          unfold qIU
          cases w<;>first | rfl | cases qb
        have e2:after m w ps given d=qDa m w ps given:=by
          show Ms.mk _ _ _ _=Ms.mk _ _ _ _
          rw [e1]
          simp only [qb,Bool.false_eq_true,if_false]
        rw [e1,e2] at hE
        exact hE s2 sh2
end
end KM
namespace KM
open PySem PySem.Spec PyProof.Rows L2 L3 KS K02 K85 K06
section
variable {E:qBH} {st s':Sto} {Q:VD} {n h s tn gn:Nat} {a b:Dt} {rs:List Rw} {es:List Ex} {given wt:List Int} {m m1:Ms}
variable {x7 x8 x9 x10 x11 x12 x13 x14:Option Dt} {r:Rw} {i:Nat}
theorem qSZ (sh:SH st s' n h s tn gn given m i) (hi:i<400) (ok:OkR r) (okg:m.g.Ok) (hwt:wt.length≤100) (sp:Step given wt m r none m1)
    (hE:∀ s2 x9 x10 x11 x12 x13 x14,SH st s2 n h s tn gn given m1 (i+1)→E.nx (RH a b rs es m1.g gn wt n tn m1.heard x7 (some (qS r)) x9 x10 x11 x12 x13 x14) s2) :
    dhA E (RH a b rs es m.g gn wt n tn m.heard x7 (some (qS r)) x9 x10 x11 x12 x13 x14) s':=by
  unfold dhA
  refine qk (i:=9) (rS (i:=8) (j:=0) (xs:=.str r.w::r.xs.map .int) rfl rfl _ ?_)
  refine qk (i:=10) (qDx (i:=4) (j:=8) sh.ha ok rfl rfl fun s2 p x2 hpl hp=>?_)
  refine qk (i:=11) ?_
  show dhB E (RH a b rs es m.g gn wt n tn m.heard x7 (some (qS r)) (some (.str r.w)) (some (.lst p)) (some .non) x12 x13 x14) s2
  have htl:=(List.getElem?_eq_some_iff.mp sh.ht).1
  have:=qDZ sh.ex
  have sh2:=sh.grow x2
  cases sp with
  | put H' pu=>exact stP sh2 hi ok pu fun s3 sh3=>stN (hE _ _ _ _ _ _ _ sh3)
  | item w ps d it hb h1 h2 =>
    refine stI sh2 hi ok okg it hb hp (by omega) (by omega) hwt (fun q=>absurd h1 q) (fun _ q=>absurd q (by rw [h2];decide)) fun _ _ s3 sh3=>stN (hE _ _ _ _ _ _ _ sh3)
theorem qSm {c:Nat} {e:Nat} {ex:Ex} {g':GS} (sh:SH st s' n h s tn gn given m i) (hi:i<400) (ok:OkR r) (okg:m.g.Ok) (hwt:wt.length≤100) (sp:Step given wt m r (some (e:Int)) m1)
    (he:es[e]? = some ex) (l1:ex.bs.length≤100) (l2:ex.ms.length≤100) (ou:qHG m1.H m1.g ex (qCa r m1) g')
    (hE:∀ s2,qU st s2→E.rt (qGW ex g' m1.told m1.heard c) s2) :
    dhA E (RH a b rs es m.g gn wt n tn m.heard (some (.int (c:Int))) (some (qS r)) x9 x10 x11 x12 x13 x14) s':=by
  unfold dhA
  refine qk (i:=9) (rS (i:=8) (j:=0) (xs:=.str r.w::r.xs.map .int) rfl rfl _ ?_)
  refine qk (i:=10) (qDx (i:=4) (j:=8) sh.ha ok rfl rfl fun s2 p x2 hpl hp=>?_)
  refine qk (i:=11) ?_
  show dhB E (RH a b rs es m.g gn wt n tn m.heard (some (.int (c:Int))) (some (qS r)) (some (.str r.w)) (some (.lst p)) (some .non) x12 x13 x14) s2
  have htl:=(List.getElem?_eq_some_iff.mp sh.ht).1
  have:=qDZ sh.ex
  have sh2:=sh.grow x2
  generalize hei:(e:Int)=ei at sp
  generalize hoi:some ei=oi at sp
  cases sp with
  | put=>cases hoi
  | item=>cases hoi
  | last e' la =>
    cases hoi
    subst hei
    exact stL sh2 hp la (stS sh2 he l1 l2 ou hE)
  | fault w ps d e' it hb h1 h2 =>
    cases hoi
    subst hei
    exact stI sh2 hi ok okg it hb hp (by omega) (by omega) hwt (fun _=>⟨_,h2,fun s3 sh3=>stS sh3 he l1 l2 ou hE⟩) (fun q=>absurd q h1) (fun q=>absurd q h1)
  | shut w ps d e' it hb h1 h2 h3 =>
    cases hoi
    subst hei
    exact stI sh2 hi ok okg it hb hp (by omega) (by omega) hwt (fun q=>absurd h1 q) (fun _ _=>⟨_,h3,fun s3 sh3=>stS sh3 he l1 l2 ou hE⟩) (fun _ q=>absurd q (by rw [h2];decide))
theorem qI1 {ds:List Dt} {st:Sto} {Pd:VD} (h:qCx ds st Pd):qC5 (Ed Pd) (qV ["host", "state", "given", "watched", "hold", "told", "heard", "count", "row", "word", "parts", "number", "outcome", "way", "is_back"] ds) st:=by
  obtain⟨a,b,rs,es,g,gn,given,wt,rfl,hg,okr,rl,gl,wl,m',e,r,c,ex,g',go,he,l1,l2,ou,hP⟩:=h
  show qC5 (Ed Pd) [some (hoD a b rs es),some g.d,some (.lst gn),some (.tup (wt.map .int)),none,none,none,none,none,none,none,none,none,none,none] st
  unfold qC5
  refine qk (i:=4) ?_
  simp only [qJf,qA,qE,qD,qB,qC,List.getElem?_cons_zero,List.getElem?_cons_succ]
  refine qw (xs:=[.int g.p,.tup (g.bs.map .int),msD g.m,svD g.sv,.tup (g.rs.map .int),.tup (g.cs.map .int)]) (v:=1) (d:=.tup (g.bs.map .int)) rfl ?_
  refine qw (xs:=[.int g.p,.tup (g.bs.map .int),msD g.m,svD g.sv,.tup (g.rs.map .int),.tup (g.cs.map .int)]) (v:=2) (d:=msD g.m) rfl ?_
  refine⟨st.length,g.bs,g.m,rfl,qK,fun s1 h s a1 hh hs k1=>⟨rfl,?_⟩⟩
  have hh:st.length≤h:=by rw [List.length_append] at hh;omega
  have hs:st.length≤s:=by rw [List.length_append] at hs;omega
  have x1:qU st s1:=fun j o hj=>by
    k_dat 0"r68"
    exact k1 j o (by omega) (qe hj)
  refine qk (i:=5) ?_
  unfold qz
  k_dat 0"r21"
  refine qk (i:=6) ?_
  have sh0:SH st (s1++[SO.rw []]) st.length h s s1.length gn given (start g) 0:=⟨a1.ext (.app _ _),qK,hg,fun j o hj=>qe (x1 _ _ hj),hh,hs,qDZ x1,Nat.le_refl _,Nat.le_refl _,Nat.le_refl _,by decide⟩
  show tseq (qEG _ _ dhA) _ _ (RH a b rs es g gn wt st.length s1.length 0 none none none none none none none none) (s1++[SO.rw []])
  refine K22.seq1 ?_
  unfold qEG qFz
  refine rS (i:=0) (j:=2) (xs:=[a,b,.tup (rs.map qS),.tup (es.map exD)]) rfl rfl _ ?_
  show qKy (qBP 1 (rs.map qS)) (fun _=>True) _ _ _ _ _
  refine⟨fun i ρ s2=>∃ m x7 x8 x9 x10 x11 x12 x13 x14,ρ=RH a b rs es m.g gn wt st.length s1.length m.heard x7 x8 x9 x10 x11 x12 x13 x14∧SH st s2 st.length h s s1.length gn given m i∧Go given wt i m (rs.drop i) m' e r c,
    ⟨start g,_,_,_,_,_,_,_,_,rfl,sh0,go⟩,fun _ _ _ _ _=>trivial,?_,?_⟩
  · rintro i d ρ s2 hd ⟨m,x7,x8,x9,x10,x11,x12,x13,x14,rfl,sh,gi⟩
    obtain⟨rd,hr,rfl⟩:=qCs hd
    obtain⟨r1,hr1,rfl⟩:∃ r1,rs[i]? = some r1∧rd=qS r1:=by
      rw [List.getElem?_map] at hr
      cases q:rs[i]? with
      | none=>rw [q] at hr;cases hr
      | some r1=>rw [q] at hr;exact⟨r1,rfl,(Option.some.inj hr).symm⟩
    have hil:=(List.getElem?_eq_some_iff.mp hr1).1
    have hd2:rs.drop i=r1::rs.drop (i+1):=by
      rw [List.drop_eq_getElem_cons hil]
      congr 1
      rw [List.getElem?_eq_getElem hil] at hr1
      exact Option.some.inj hr1
    have ok1:OkR r1:=okr r1 (List.mem_of_getElem? hr1)
    refine⟨rfl,?_⟩
    show dhA _ (RH a b rs es m.g gn wt st.length s1.length m.heard (some (.int ((1+i:Nat):Int))) (some (qS r1)) x9 x10 x11 x12 x13 x14) s2
    rw [hd2] at gi
    generalize hrest:rs.drop (i+1)=rest at gi
    cases gi with
    | here _ _ _ _ _ _ okg sp =>
      rw [show 1+i=i+1 by omega]
      exact qSm sh (by omega) ok1 okg wl sp he l1 l2 ou hP
    | next _ _ m1 _ _ _ _ _ _ okg sp g1 =>
      refine qSZ sh (by omega) ok1 okg wl sp fun s3 x9 x10 x11 x12 x13 x14 sh3=>?_
      exact⟨m1,_,_,_,_,_,_,_,_,rfl,sh3,by rw [hrest];exact g1⟩
  · rintro ρ s2 ⟨m,x7,x8,x9,x10,x11,x12,x13,x14,rfl,sh,gi⟩
    rw [qBk,List.length_map,List.drop_length] at gi
    cases gi
end
end KM
namespace K06
open PySem PySem.Spec PyProof.Rows L2 L3
abbrev qFL:TSD:=(tseq (qP (qD L3.qm (qD L3.qm (qDK (qB 0) qAK (qAA (qB 1))) (qZ (qA (qB 2) qE))) (qDK (qB 0) (qAA (qD L3.qm (qB 1) (qC (Dt.int 1)))) qAK))) qG)
abbrev qHk:TSD:=(tseq (qa (qDd (qH (qCC (fun i j=>decide (i≤j)) (fun i j=>decide (i<j)) (qC (Dt.int 0)) (qB 2) (qF qAq (qA (qD qJ (qB 1) (qC (Dt.int 5))) qE))))) (tseq (qP (qC (Dt.bl false))) qG) qG) (tseq (qP (qD (qg false) (qD qDC (qD qJ (qD qJ (qB 1) (qC (Dt.int 4))) (qD qAk (qB 2) (qC (Dt.int 8)))) (qB 0)) (qB 0))) qG))
abbrev qJ2:TSD:=(tseq (qP (qF qp (qA (qB 0) (qA (qC (Dt.int 0)) (qA (qD qj (qB 1) (qC (Dt.int 65536))) qE))))) qG)
abbrev qIO:TSD:=(tseq (qP (qF qEy (qA (qB 0) (qA (qD L3.qm (qD qJ (qB 0) (qC (Dt.int 0))) (qC (Dt.int 1))) qE)))) qG)
abbrev qFb:TSD:=(tseq (qP (qF qp (qA (qF qBn (qA (qB 0) qE)) (qA (qC (Dt.int 1)) (qA (qF qp (qA (qD qJ (qB 0) (qC (Dt.int 1))) (qA (qB 1) (qA (qB 2) qE)))) qE))))) qG)
abbrev qCd:TSD:=(tseq (qP (qF qp (qA (qF qAs (qA (qB 0) (qA (qB 1) (qA (qB 2) qE)))) (qA (qC (Dt.int 2)) (qA (qZ (qA (qD (qg false) (qB 2) (qC (Dt.int 0))) (qA (qD (qAD fun i j=>decide (j≤i)) (qB 2) (qC (Dt.int 32768))) (qA (qB 3) qE)))) qE))))) qG)
abbrev qMQ:TSD:=(tseq (qP (qZ (qA (qB 0) (qA (qB 1) (qA (qZ qE) qE))))) qG)
abbrev qRT:TSD:=(tseq (qP (qZ (qA (qC (Dt.str "on")) (qA (qB 0) (qA (qZ qE) qE))))) qG)
abbrev qIK:TSD:=(tseq (qa (qH (qD (qg false) (qB 3) (qC (Dt.int 0)))) (tseq (qP (qF qB1 (qA (qC (Dt.str "nought")) (qA (qB 0) qE)))) qG) qG) (tseq (qP (qF qEv (qA (qF qC1 (qA (qB 0) (qA (qB 1) (qA (qD qAk (qB 2) (qB 3)) (qA (qD (qg true) (qD qj (qB 2) (qB 3)) (qC (Dt.int 0))) qE))))) qE))) qG))
abbrev qHf:TSD:=(tseq (qa (qDd (qH (qF qGN (qA (qC (Dt.int 1)) (qA (qB 0) (qA (qB 2) qE)))))) (tseq (qP (qF qB1 (qA (qC (Dt.str "closed")) (qA (qB 0) qE)))) qG) qG) (tseq (qP (qF qEv (qA (qF qAs (qA (qB 0) (qA (qB 1) (qA (qD qJ (qD qJ (qB 0) (qC (Dt.int 5))) (qB 2)) qE)))) qE))) qG))
abbrev qHg:TSD:=(tseq (qa (qDd (qH (qF qGN (qA (qC (Dt.int 2)) (qA (qB 0) (qA (qB 2) qE)))))) (tseq (qP (qF qB1 (qA (qC (Dt.str "closed")) (qA (qB 0) qE)))) qG) qG) (tseq (qP (qF qEv (qA (qF qp (qA (qF qBn (qA (qB 0) qE)) (qA (qC (Dt.int 5)) (qA (qF qp (qA (qD qJ (qB 0) (qC (Dt.int 5))) (qA (qB 2) (qA (qB 1) qE)))) qE)))) qE))) qG))
abbrev qFu:TSD:=(tseq (qa (qDd (qH (qCC (fun i j=>decide (i≤j)) (fun i j=>decide (i<j)) (qC (Dt.int 0)) (qB 1) (qF qAq (qA (qD qJ (qB 0) (qC (Dt.int 4))) qE))))) (tseq (qP (qF qB1 (qA (qC (Dt.str "closed")) (qA (qB 0) qE)))) qG) qG) (tseq (qP (qF qEv (qA (qF qp (qA (qF qBn (qA (qB 0) qE)) (qA (qC (Dt.int 4)) (qA (qF qp (qA (qD qJ (qB 0) (qC (Dt.int 4))) (qA (qB 1) (qA (qB 2) qE)))) qE)))) qE))) qG))
section
variable {a b c d e f:Dt}
theorem at4:atI [a,b,c,d,e,f] 4=some e:=rfl
theorem at5:atI [a,b,c,d,e,f] 5=some f:=rfl
end
theorem qCe {b:Bool} {A B:Prop} (hb:b=true) (h:A):if b=true then A else B:=by subst hb;exact qAy h
theorem qJ0 {b:Bool} {A B:Prop} (hb:b=false) (h:B):if b=true then A else B:=by subst hb;exact qBT h
theorem qJj {xs:List Int} {n:Nat} (h:n<xs.length):atI (xs.map Dt.int) (n:Int)=some (.int xs[n]):=qAB (by simp [h])
theorem qMi {r:Int} {g:GS} {a:Int} (h:may r g a=true):0≤a∧a<g.cs.length:=by
  unfold may at h
  rw [Bool.and_eq_true,Bool.and_eq_true] at h
  exact⟨of_decide_eq_true h.1.1,of_decide_eq_true h.1.2⟩
theorem qNE {v r:Int} (h0:0≤v) (h1:v<8) (hr:r=1∨r=2∨r=4):eqD 8 (.int (Builtin.bitAnd v r)) (.int r)=decide (v / r%2=1):=by
  show (Builtin.bitAnd v r==r)=_
  rcases (show v=0∨v=1∨v=2∨v=3∨v=4∨v=5∨v=6∨v=7 by omega) with rfl | rfl | rfl | rfl | rfl | rfl | rfl | rfl<;>rcases hr with rfl | rfl | rfl<;>decide +kernel
theorem qHz {ds:List Dt} {st:Sto} {Pd:VD} (h:qp ds st Pd):qFL (Ed Pd) (qV ["parts", "k", "part"] ds) st:=by
  obtain⟨xs,k,d,rfl,h0,h1,h2,h⟩:=h
  simp only [tseq,qO,qP,qD,qB,qC,qI,qF,qA,qE,qZ,qz,qCu,qNn,qJn,qDd,qB3,qNt,qH,qa,qC7,qG,qAm,qEG,qA3,qAj,qDK,qAK,qAA,qAY,qCC,qAq,qi,qd,qCT,qJ,qj,qAf,L3.qm,L3.qAe,qAk,qDC,qg,qES,qB6,qAD,qV,qHP,qAS,qX,qBj,List.map_cons,List.map_nil,List.length_cons,List.length_nil,List.cons_append,List.nil_append,List.replicate,List.set,List.getElem?_cons_zero,List.getElem?_cons_succ,Option.map_some,SO.items]
  have e1:HT.sIx xs.length 0 none=0:=rfl
  have e2:HT.sIx xs.length xs.length (some k)=k.toNat:=by unfold HT.sIx;dsimp only;rw [if_neg (by omega)];omega
  have e3:HT.sIx xs.length 0 (some (k+1))=k.toNat+1:=by unfold HT.sIx;dsimp only;rw [if_neg (by omega)];omega
  have e4:HT.sIx xs.length xs.length none=xs.length:=rfl
  have c1:L3.cutD xs none (some k)=xs.take k.toNat:=by unfold L3.cutD;rw [e1,e2];simp
  have c2:L3.cutD xs (some (k+1)) none=xs.drop (k.toNat+1):=by
    unfold L3.cutD;rw [e3,e4];exact List.take_of_length_le (by rw [List.length_drop];omega)
  rw [c1,c2,e2,e3]
  have l1:(xs.take k.toNat).length=k.toNat:=by rw [List.length_take];omega
  have l2:(xs.drop (k.toNat+1)).length=xs.length - (k.toNat+1):=by rw [List.length_drop]
  have es:xs.take k.toNat++[d]++xs.drop (k.toNat+1)=xs.set k.toNat d:=by
    rw [List.set_eq_take_append_cons_drop,if_pos (by omega),List.append_assoc];rfl
  refine⟨fun z=>?_,by show 1≤sizeLine;decide,?_,fun z=>?_,?_,?_⟩
  · have:=z.2;omega
  · rw [l1];exact Nat.le_of_lt (small (by omega))
  · exact absurd z.1 (Nat.succ_ne_zero _)
  · rw [List.length_append,l1,l2]
    exact Nat.le_of_lt (small (by simp;omega))
  · rw [es];exact h
theorem qKU {ds:List Dt} {st:Sto} {Pd:VD} (h:qGN ds st Pd):qHk (Ed Pd) (qV ["right", "state", "address"] ds) st:=by
  obtain⟨r,g,a,rfl,ok,hr,h⟩:=h
  k_dat 0"r84"
  simp only [at5,at4]
  unfold may at h
  rw [List.length_map]
  by_cases h0:0≤a
  · rw [decide_eq_true h0,Bool.true_and] at h
    refine qCe (decide_eq_true h0) ?_
    by_cases h1:a<(g.cs.length:Int)
    · rw [decide_eq_true h1,Bool.true_and] at h
      refine qJ0 (by rw [decide_eq_true h1];rfl) ⟨cdiv (by decide) (by decide),?_⟩
      have hi:(a / 8).toNat<g.rs.length:=by have:=ok.c8;omega
      rw [show (a / 8:Int)=(((a / 8).toNat:Nat):Int) by omega,qJj hi]
      refine⟨rfl,rfl,?_⟩
      have hv:=ok.rb _ (List.getElem_mem hi)
      have e:g.rs.getD (a / 8).toNat 0=g.rs[(a / 8).toNat]:=by simp [List.getD,hi]
      rw [e] at h
      rw [qAW,show eqD 8 (.int (Builtin.bitAnd g.rs[(a / 8).toNat] r)) (.int r)=decide (g.rs[(a / 8).toNat] / r%2=1) from qNE hv.1 hv.2 hr]
      exact h
    · rw [decide_eq_false h1,Bool.false_and] at h
      exact qCe (by rw [decide_eq_false h1];rfl) h
  · rw [decide_eq_false h0,Bool.false_and,Bool.false_and] at h
    exact qJ0 (decide_eq_false h0) (qAy h)
theorem qLX {ds:List Dt} {st:Sto} {Pd:VD} (h:qEy ds st Pd):qJ2 (Ed Pd) (qV ["state", "place"] ds) st:=by
  obtain⟨g,q,rfl,h⟩:=h
  exact⟨by decide,_,0,.int (q%65536),rfl,by decide,by show (0:Int)<6;decide,by show 6≤200;decide,h⟩
theorem qJ4 {ds:List Dt} {st:Sto} {Pd:VD} (h:qBn ds st Pd):qIO (Ed Pd) (qV ["state"] ds) st:=by
  obtain⟨g,rfl,h⟩:=h
  exact⟨g,g.p+1,rfl,h⟩
theorem qIJ {ds:List Dt} {st:Sto} {Pd:VD} (h:qAs ds st Pd):qFb (Ed Pd) (qV ["state", "a", "number"] ds) st:=by
  obtain⟨g,a,v,rfl,h8,h0,h1,h⟩:=h
  refine⟨g,rfl,?_⟩
  refine⟨g.bs.map .int,a,.int v,rfl,h0,by rw [List.length_map,h8];exact h1,by rw [List.length_map,h8];decide,?_⟩
  refine⟨_,1,_,rfl,by decide,by show (1:Int)<6;decide,by show 6≤200;decide,?_⟩
  rw [← List.map_set]
  exact h
theorem qEp {ds:List Dt} {st:Sto} {Pd:VD} (h:qC1 ds st Pd):qCd (Ed Pd) (qV ["state", "a", "number", "carry"] ds) st:=by
  obtain⟨g,a,v,k,rfl,h8,h0,h1,h⟩:=h
  refine⟨g,a,v,rfl,h8,h0,h1,?_⟩
  refine⟨rfl,rfl,by show 3≤sizeLine;decide,?_⟩
  have e:(eqD 8 (.int v) (.int 0) != false)=decide (v=0):=by rw [qAW];rfl
  show qp [(qIW g a v).d,.int 2,.tup [.bl (eqD 8 (.int v) (.int 0) != false),.bl (decide (32768≤v)),.bl k]] st Pd
  rw [e]
  refine⟨_,2,_,rfl,by decide,by show (2:Int)<6;decide,by show 6≤200;decide,?_⟩
  exact h
theorem qM7 {ds:List Dt} {st:Sto} {Pd:VD} (h:qB1 ds st Pd):qMQ (Ed Pd) (qV ["how", "state"] ds) st:=by
  obtain⟨w,d,rfl,h⟩:=h
  exact⟨by show 0≤sizeLine;exact Nat.zero_le _,by show 3≤sizeLine;decide,h⟩
theorem qRE {ds:List Dt} {st:Sto} {Pd:VD} (h:qEv ds st Pd):qRT (Ed Pd) (qV ["state"] ds) st:=by
  obtain⟨d,rfl,h⟩:=h
  exact⟨by show 0≤sizeLine;exact Nat.zero_le _,by show 3≤sizeLine;decide,h⟩
theorem qKf {ds:List Dt} {st:Sto} {Pd:VD} (h:qJW ds st Pd):qIK (Ed Pd) (qV ["state", "a", "x", "y"] ds) st:=by
  obtain⟨g,a,x,y,rfl,h8,h0,h1,hy0,hy1,h⟩:=h
  unfold qJC at h
  refine⟨rfl,rfl,?_⟩
  by_cases c:y=0
  · subst c
    rw [if_pos rfl] at h
    exact qAy ⟨_,_,rfl,h⟩
  · rw [if_neg c] at h
    have e:(eqD 8 (.int y) (.int 0) != false)=false:=by
      rw [qAW];exact beq_eq_false_iff_ne.mpr c
    rw [e]
    refine qBT ⟨⟨by omega,by omega⟩,by omega,rfl,rfl,?_⟩
    have e2:(eqD 8 (.int (x%y)) (.int 0) != true)=decide (x%y≠0):=by
      rw [qBX]
      show (!((x%y)==0))=_
      by_cases q:x%y=0
      · simp [q]
      · simp [q]
    rw [e2]
    exact⟨g,a,_,_,rfl,h8,h0,h1,_,rfl,h⟩
theorem qKB {ds:List Dt} {st:Sto} {Pd:VD} (h:qJm ds st Pd):qHf (Ed Pd) (qV ["state", "a", "address"] ds) st:=by
  obtain⟨g,a,q,rfl,ok,h0,h1,h⟩:=h
  unfold qIz at h
  refine⟨1,g,q,rfl,ok,.inl rfl,?_⟩
  cases hm:may 1 g q with
  | false =>
    rw [hm,if_neg Bool.false_ne_true] at h
    exact qAy ⟨_,_,rfl,h⟩
  | true =>
    rw [hm,if_pos rfl] at h
    refine qBT ?_
    obtain⟨q0,q1⟩:=qMi hm
    k_dat 0"r84"
    simp only [at5]
    have hi:q.toNat<g.cs.length:=by omega
    rw [show q=((q.toNat:Nat):Int) by omega,qJj hi]
    refine⟨g,a,_,rfl,ok.b8,h0,h1,_,rfl,?_⟩
    have e:g.cs.getD q.toNat 0=g.cs[q.toNat]:=by simp [List.getD,hi]
    rw [e] at h
    exact h
theorem qKd {ds:List Dt} {st:Sto} {Pd:VD} (h:qJ3 ds st Pd):qHg (Ed Pd) (qV ["state", "number", "address"] ds) st:=by
  obtain⟨g,v,q,rfl,ok,h⟩:=h
  unfold setG at h
  refine⟨2,g,q,rfl,ok,.inr (.inl rfl),?_⟩
  cases hm:may 2 g q with
  | false =>
    rw [hm,if_neg Bool.false_ne_true] at h
    exact qAy ⟨_,_,rfl,h⟩
  | true =>
    rw [hm,if_pos rfl] at h
    refine qBT ?_
    obtain⟨q0,q1⟩:=qMi hm
    have:=ok.cm
    refine⟨g,rfl,?_⟩
    refine⟨g.cs.map .int,q,.int v,rfl,q0,by rw [List.length_map];exact q1,by rw [List.length_map];omega,?_⟩
    refine⟨_,5,_,rfl,by decide,by show (5:Int)<6;decide,by show 6≤200;decide,?_⟩
    rw [← List.map_set]
    exact⟨_,rfl,h⟩
theorem qHi {ds:List Dt} {st:Sto} {Pd:VD} (h:qDn ds st Pd):qFu (Ed Pd) (qV ["state", "page", "rights"] ds) st:=by
  obtain⟨g,q,r,rfl,ok,h⟩:=h
  unfold qDQ at h
  k_dat 0"r84"
  simp only [at4]
  rw [List.length_map]
  by_cases h0:0≤q
  · refine qCe (decide_eq_true h0) ?_
    by_cases h1:q<(g.rs.length:Int)
    · rw [if_pos ⟨h0,h1⟩] at h
      have:=ok.c8;have:=ok.cm
      refine qJ0 (by rw [decide_eq_true h1];rfl) ⟨g,rfl,?_⟩
      refine⟨g.rs.map .int,q,.int r,rfl,h0,by rw [List.length_map];exact h1,by rw [List.length_map];omega,?_⟩
      refine⟨_,4,_,rfl,by decide,by show (4:Int)<6;decide,by show 6≤200;decide,?_⟩
      rw [← List.map_set]
      exact⟨_,rfl,h⟩
    · rw [if_neg (fun z=>h1 z.2)] at h
      exact qCe (by rw [decide_eq_false h1];rfl) ⟨_,_,rfl,h⟩
  · rw [if_neg (fun z=>h0 z.1)] at h
    exact qJ0 (decide_eq_false h0) (qAy ⟨_,_,rfl,h⟩)
end K06
namespace K06
open PySem PySem.Spec PyProof.Rows L2 L3
end K06
namespace K22
open PySem PySem.Spec PyProof.Rows L2 L3 KH KS
end K22
namespace K22
open PySem PySem.Spec PyProof.Rows L2 L3 KH KS
end K22
namespace K22
open PySem PySem.Spec PyProof.Rows L2 L3 KH KS
end K22
namespace KD
open PySem PySem.Spec PyProof.Rows L2 L3 KH KS KW K20 K06
abbrev qC2:TSD:=(tseq (qa (qH (qD (qg false) (qB 1) (qC (Dt.str "get")))) (tseq (qP (qF K06.qJm (qA (qB 0) (qA (qC (Dt.int 0)) (qA (qD L3.qm (qD qJ (qB 2) (qC (Dt.int 0))) (qD qJ (qB 2) (qC (Dt.int 1)))) qE))))) qG) qG) (tseq (qa (qH (qD (qg false) (qB 1) (qC (Dt.str "set")))) (tseq (qP (qF K06.qJ3 (qA (qB 0) (qA (qD qJ (qB 2) (qC (Dt.int 2))) (qA (qD L3.qm (qD qJ (qB 2) (qC (Dt.int 0))) (qD qJ (qB 2) (qC (Dt.int 1)))) qE))))) qG) qG) (tseq (qa (qH (qD (qg false) (qB 1) (qC (Dt.str "div")))) (tseq (qP (qF K06.qJW (qA (qB 0) (qA (qC (Dt.int 0)) (qA (qD qJ (qB 2) (qC (Dt.int 0))) (qA (qD qJ (qB 2) (qC (Dt.int 1))) qE)))))) qG) qG) (tseq (qa (qH (qD (qg false) (qB 1) (qC (Dt.str "right")))) (tseq (qP (qF K06.qDn (qA (qB 0) (qA (qD qJ (qB 2) (qC (Dt.int 0))) (qA (qD qJ (qB 2) (qC (Dt.int 1))) qE))))) qG) qG) (tseq (qa (qH (qD (qg false) (qB 1) (qC (Dt.str "hear")))) (tseq (qP (qF K06.qEv (qA (qF K06.qAs (qA (qB 0) (qA (qC (Dt.int 0)) (qA (qB 3) qE)))) qE))) qG) qG) (tseq (qP (qZ (qA (qC (Dt.str "on")) (qA (qB 0) (qA (qZ (qA (qD qJ (qB 2) (qC (Dt.int 0))) qE)) qE))))) qG))))))
abbrev qBF:TSD:=(tseq (qP (qCu (qD (qg false) (qB 0) (qC (Dt.str "set"))) (qD (qB6 false) (qD qAk (qD L3.qm (qD qJ (qB 1) (qC (Dt.int 0))) (qD qJ (qB 1) (qC (Dt.int 1)))) (qC (Dt.int 8))) (qB 2)))) qG)
section
variable {E:qBH} {st:Sto} {Q:VD} {ρ:Rho}
theorem part {p:Nat} {ps:List Int} (hp:st[p]? = some (.rw (ps.map .int))) {i:Nat} (hi:i<ps.length) (q:Q (.int (ps.getD i 0)) st):qJ (.lst p) (.int (i:Nat)) st Q:=by
  obtain⟨d,ha,_,hg⟩:=qQq (xs:=ps.map Dt.int) (v:=(i:Int)) (by omega) (by rw [List.length_map];omega)
  refine qLs hp ha ?_
  rw [Int.toNat_natCast,List.getElem?_map,List.getElem?_eq_getElem hi] at hg
  have e:d = .int (ps.getD i 0):=by
    rw [← Option.some.inj hg,List.getD_eq_getElem?_getD,List.getElem?_eq_getElem hi];rfl
  rw [e];exact q
theorem qI5 {ds:List Dt} {st:Sto} {Pd:VD} (h:qCq ds st Pd):qC2 (Ed Pd) (qV ["state", "word", "parts", "heard"] ds) st:=by
  obtain⟨g,w,p,ps,h,rfl,hp,hl,hb,ok,hP⟩:=h
  have one:(1:Nat)≤sizeLine:=by decide
  have three:(3:Nat)≤sizeLine:=by decide
  have v1:∀ P:VD,P (.str (iw w)) st→qB 1 [some g.d,some (.str (iw w)),some (.lst p),some (.int h)] st P:=fun P hp=>hp
  show qC2 (Ed Pd) [some g.d,some (.str (iw w)),some (.lst p),some (.int h)] st
  unfold qC2
  refine K22.seq1 ?_
  cases w with
  | get =>
    have hl:ps.length=2:=hl
    refine K22.qDe v1 (by decide +kernel) ?_
    k_dat 0"r69"
    k_dat 0"r31"
    k_dat 0"r40"
    exact⟨g,0,_,rfl,ok,by decide,by decide,hP⟩
  | set =>
    have hl:ps.length=3:=hl
    k_dat 0"r41"
    k_dat 0"r70"
    k_dat 0"r69"
    refine part (i:=2) hp (by omega) ?_
    k_dat 0"r31"
    k_dat 0"r40"
    exact⟨g,_,_,rfl,ok,hP⟩
  | div =>
    have hl:ps.length=2:=hl
    k_dat 0"r41"
    k_dat 0"r16"
    k_dat 0"r70"
    k_dat 0"r69"
    k_dat 0"r31"
    k_dat 0"r40"
    have hy:=hb (ps.getD 1 0) (by rw [List.getD_eq_getElem?_getD,List.getElem?_eq_getElem (by omega)];exact List.getElem_mem _)
    exact⟨g,0,_,_,rfl,ok.b8,by decide,by decide,hy.1,hy.2,hP⟩
  | right =>
    have hl:ps.length=2:=hl
    k_dat 0"r41"
    k_dat 0"r16"
    k_dat 0"r16"
    k_dat 0"r70"
    k_dat 0"r69"
    k_dat 0"r31"
    k_dat 0"r40"
    exact⟨g,_,_,rfl,ok,hP⟩
  | hear =>
    k_dat 0"r41"
    k_dat 0"r16"
    k_dat 0"r16"
    k_dat 0"r16"
    k_dat 0"r70"
    exact⟨g,0,h,rfl,ok.b8,by decide,by decide,_,rfl,hP⟩
  | tell =>
    have hl:ps.length=1:=hl
    k_dat 0"r41"
    k_dat 0"r16"
    k_dat 0"r16"
    k_dat 0"r16"
    k_dat 0"r16"
    simp only [qG,tseq,qP,qZ,qA,qE,qD,qB,qC,List.getElem?_cons_zero,List.getElem?_cons_succ]
    k_dat 0"r31"
    exact⟨one,three,hP⟩
theorem qFA {ds:List Dt} {st:Sto} {Pd:VD} (h:qBg ds st Pd):qBF (Ed Pd) (qV ["word", "parts", "watched"] ds) st:=by
  obtain⟨w,p,ps,wt,rfl,hp,hl,hw,hP⟩:=h
  show qBF (Ed Pd) [some (.str (iw w)),some (.lst p),some (.tup (wt.map .int))] st
  simp only [qBF,tseq,qP,qCu,qD,qB,qC,List.getElem?_cons_zero,List.getElem?_cons_succ]
  by_cases hs:w = .set
  · subst hs
    have hl:ps.length=3:=hl
    refine K22.qOn (by decide +kernel) ?_
    refine KH.qCe rfl ?_
    k_dat 0"r31"
    k_dat 0"r40"
    refine⟨⟨by decide,by decide⟩,rfl,all_ints wt 0,?_⟩
    rw [Bool.bne_false]
    exact hP
  · refine K22.qP6 (by cases w<;>first | decide +kernel | exact absurd rfl hs) ?_
    have e:qBQ w ps wt=false:=by cases w<;>first | rfl | exact absurd rfl hs
    rw [e] at hP
    exact hP
end
end KD
namespace KM
open PySem
noncomputable def qR7:List Str:=["out", "when", "back"]
end KM
namespace L3
open PySem PySem.Spec PyProof.Rows L2
structure qq (K:W.Frag) (n:Str) (st:Stmt):Prop where
  ex:∃ f fd,W.nsIn K mainGlobals n=some (some (.ref f))∧Fun K n n st f fd
structure qCX (K:W.Frag) (C:Addr) (n q:Str) (st:Stmt):Prop where
  ex:∃ f fd,W.findIn K (.ref C) n=some (some (.ref f))∧W.isFn K (.ref f)=true∧Fun K n q st f fd
section
variable {K:W.Frag} {n q:Str} {st:Stmt} {f C:Addr} {oc:Value} {od an:Option Addr} {osl:Array (Option Value)} {kV doc pm cdv ct:Value}
theorem qq.of (a:W.nsIn K mainGlobals n=some (some (.ref f))) (l:K.lookup f=some ⟨oc,od,.func (W.fnOf n n (qAg st) (qAX st) (qL st) .none kV doc pm an cdv ct),osl⟩) (c:W.codeIn K cdv n=true) (k:W.keepIn K (.ref f)=true):qq K n st:=⟨f,_,a,qMr l c k⟩
theorem qCX.of (a:W.findIn K (.ref C) n=some (some (.ref f))) (i:W.isFn K (.ref f)=true) (l:K.lookup f=some ⟨oc,od,.func (W.fnOf n q (qAg st) (qAX st) (qL st) .none kV doc pm an cdv ct),osl⟩) (c:W.codeIn K cdv q=true) (k:W.keepIn K (.ref f)=true):qCX K C n q st:=⟨f,_,a,i,qMr l c k⟩
end
def Bnd (n q:Str) (st:Stmt) (ps:List Str):Prop:=∀ (kV doc pm:Value) (an:Option Addr) (cdv ct:Value) (us:List Value),us.length=ps.length→bindArgs (W.fnOf n q (qAg st) (qAX st) (qL st) .none kV doc pm an cdv ct) ⟨us,[]⟩=pure (ps.zip us)
section
variable {P:Program} {w:World} {K:W.Frag} {mg:Str→Option Value} {base h:Heap} {n q nm:Str} {st:Stmt} {k:Nat} {sp:RDL} {ps flds:List Str} {C:Addr}
theorem qq.ok (X:K.In h) (G:h.Ns mainGlobals mg) (a:qq K n st) (ok:∀ {f fd},Fun K n n st f fd→qx P w K mg base CX0 k f fd ps (qQ K sp)) (hb:Bnd n n st ps):qW P w K mg base n k sp:=by
  obtain⟨f,fd,h1,F⟩:=a.ex
  exact⟨f,fd,ps,ok F,W.mg_of X G h1,F.kp,F.binds hb⟩
theorem qq.zero (X:K.In h) (G:h.Ns mainGlobals mg) (a:qq K n st) (z:∀ {vs H Q E},qQ K sp vs H Q E→False) (hb:Bnd n n st ps):qW P w K mg base n k sp:=by
  obtain⟨f,fd,h1,F⟩:=a.ex
  exact⟨f,fd,ps,⟨fun vs H Q E h=>(z h).elim,fun A outer s H args us vs Q E hr he hb hv h=>(z h).elim⟩,W.mg_of X G h1,F.kp,F.binds hb⟩
theorem qCX.ok (aC:W.nsIn K mainGlobals nm=some (some (.ref C))) (CC:Cls K C) (a:qCX K C n q st) (ok:∀ {f fd},Fun K n q st f fd→qx P w K mg base CX0 k f fd ps (qQ K sp)) (hb:Bnd n q st ps):qBz P w K mg base nm n k sp:=by
  obtain⟨f,fd,h1,h2,F⟩:=a.ex
  exact⟨C,f,fd,ps,aC,CC,⟨h1,h2,F.kp⟩,ok F,F.binds hb⟩
theorem qCX.make (X:K.In h) (G:h.Ns mainGlobals mg) (aC:W.nsIn K mainGlobals nm=some (some (.ref C))) (mk:W.makesIn K C=true) (kc:W.keepIn K (.ref C)=true) (a:qCX K C "__init__" q st) (ok:∀ {f fd},Fun K "__init__" q st f fd→qx P w K mg base CX0 k f fd ps (qQ K sp)) (hb:Bnd "__init__" q st ps):qJA P w K mg base nm k sp:=by
  obtain⟨f,fd,h1,h2,F⟩:=a.ex
  exact⟨C,f,fd,ps,aC,W.mg_of X G aC,⟨mk,h1,h2,kc⟩,ok F,F.binds hb⟩
end
section
variable {n q:Str} {st:Stmt} {ps:List Str}
theorem b1 (hp:ps.length=1) (h:∀ kV doc pm an cdv ct a,bindArgs (W.fnOf n q (qAg st) (qAX st) (qL st) .none kV doc pm an cdv ct) ⟨[a],[]⟩=pure (ps.zip [a])):Bnd n q st ps:=fun _ _ _ _ _ _ us hl=>by
  rw [hp] at hl
  match us,hl with
  | [a],_=>exact h _ _ _ _ _ _ _
theorem b2 (hp:ps.length=2) (h:∀ kV doc pm an cdv ct a b,bindArgs (W.fnOf n q (qAg st) (qAX st) (qL st) .none kV doc pm an cdv ct) ⟨[a,b],[]⟩=pure (ps.zip [a,b])):Bnd n q st ps:=fun _ _ _ _ _ _ us hl=>by
  rw [hp] at hl
  match us,hl with
  | [a,b],_=>exact h _ _ _ _ _ _ _ _
theorem b3 (hp:ps.length=3) (h:∀ kV doc pm an cdv ct a b c,bindArgs (W.fnOf n q (qAg st) (qAX st) (qL st) .none kV doc pm an cdv ct) ⟨[a,b,c],[]⟩=pure (ps.zip [a,b,c])):Bnd n q st ps:=fun _ _ _ _ _ _ us hl=>by
  rw [hp] at hl
  match us,hl with
  | [a,b,c],_=>exact h _ _ _ _ _ _ _ _ _
theorem b4 (hp:ps.length=4) (h:∀ kV doc pm an cdv ct a b c d,bindArgs (W.fnOf n q (qAg st) (qAX st) (qL st) .none kV doc pm an cdv ct) ⟨[a,b,c,d],[]⟩=pure (ps.zip [a,b,c,d])):Bnd n q st ps:=fun _ _ _ _ _ _ us hl=>by
  rw [hp] at hl
  match us,hl with
  | [a,b,c,d],_=>exact h _ _ _ _ _ _ _ _ _ _
theorem b5 (hp:ps.length=5) (h:∀ kV doc pm an cdv ct a b c d e,bindArgs (W.fnOf n q (qAg st) (qAX st) (qL st) .none kV doc pm an cdv ct) ⟨[a,b,c,d,e],[]⟩=pure (ps.zip [a,b,c,d,e])):Bnd n q st ps:=fun _ _ _ _ _ _ us hl=>by
  rw [hp] at hl
  match us,hl with
  | [a,b,c,d,e],_=>exact h _ _ _ _ _ _ _ _ _ _ _
end
end L3
namespace KL
open PySem L2 L3 K02 K85 K06
def qJq:RDL:=fun ds st P=>∃ c k:Int,ds=[.int c,.int k]∧∀ x:Int,0≤x→P (.int x) st
def qAH:RDL:=fun ds st P=>∃ (c way:Int) (b:Nat) (bs:List Int),ds=[.int c,.int way,.lst b]∧st[b]? = some (.rw (bs.map .int))∧(∀ x∈bs,0<x∧x<1000000)∧bs.length≤300∧∀ (ps:List Int) st' n,qU st st'→st.length≤n→st'[n]? = some (.rw (ps.map .int))→PIn ps bs→P (.lst n) st'
def qDo:RDL:=fun ds st P=>∃ p:Int,ds=[.int p]∧∀ (v:Int) st',qU st st'→0≤v→v<65536→P (.int v) st'
def qE5:RDL:=fun ds st P=>∃ (sc:Nat) (way:Int) (ns:List Int),ds=[.lst sc,.int way]∧st[sc]? = some (.ro (ns.map .int))∧∀ (g:GS) st',qU st st'→g.Ok→g.p<65536→P g.d st'
def qE4:RDL:=fun ds st P=>∃ c way:Int,ds=[.int c,.int way]∧∀ (gs:List Int) st' n,qU st st'→st.length≤n→st'[n]? = some (.rw (gs.map .int))→gs.length≤6→(∀ v∈gs,0≤v∧v<65536)→P (.lst n) st'
def qC4:RDL:=fun ds st P=>∃ (c:Int) (n:Nat),ds=[.int c,.int (n:Int)]∧n≤16∧∀ (wt:List Int) st',qU st st'→wt.length≤n→P (.tup (wt.map .int)) st'
end KL
namespace KT
open PySem L2 L3 K02 K85 K06 KM
def isN (N:Nat) (x:Int):Prop:=0≤x∧x<(N:Int)
def isT (N M:Nat) (x:Int):Prop:=(N:Int)≤x∧x<(M:Int)
def sN (s:Int):Prop:=0≤s∧s<4
def sT (s:Int):Prop:=996≤s∧s<1000
def qAJ (v:Int):Prop:=0≤v∧v<65536
inductive TyP (N M:Nat):Rw→Prop
  | num (d v:Int):isN N d→qAJ v→TyP N M ⟨"num",[d,v]⟩
  | box (d k:Int):isN N d→0≤k∧k<8→TyP N M ⟨"box",[d,k]⟩
  | two (o:KW.Op2) (d x y:Int):o = .add∨o = .sub∨o = .mul→isN N d→isN N x→isN N y→TyP N M ⟨K20.nm o,[d,x,y]⟩
  | load (d s:Int):isN N d→sN s→TyP N M ⟨"load",[d,s]⟩
  | keep (s x:Int):sN s→isN N x→TyP N M ⟨"keep",[s,x]⟩
  | twoT (o:KW.Op2) (d x y:Int):¬ (o = .add∨o = .sub∨o = .mul)→isT N M d→isN N x→isN N y→TyP N M ⟨K20.nm o,[d,x,y]⟩
  | nought (d x:Int):isT N M d→isN N x→TyP N M ⟨"nought",[d,x]⟩
  | high (d x:Int):isT N M d→isN N x→TyP N M ⟨"high",[d,x]⟩
  | mark (d k:Int):isT N M d→0≤k∧k<3→TyP N M ⟨"mark",[d,k]⟩
  | yes (d:Int):isT N M d→TyP N M ⟨"yes",[d]⟩
  | no (d:Int):isT N M d→TyP N M ⟨"no",[d]⟩
  | loadT (d s:Int):isT N M d→sT s→TyP N M ⟨"load",[d,s]⟩
  | qFk (s x:Int):sT s→isT N M x→TyP N M ⟨"keep",[s,x]⟩
inductive TyI (N E:Nat):Rw→Prop
  | get (d x y:Int) (e:Nat):isN N d→isN N x→isN N y→e<E→TyI N E ⟨"get",[d,x,y,(e:Int)]⟩
  | set (x y z:Int) (e f:Nat):isN N x→isN N y→isN N z→e<E→f<E→TyI N E ⟨"set",[x,y,z,(e:Int),(f:Int)]⟩
  | div (d x y:Int) (e:Nat):isN N d→isN N x→isN N y→e<E→TyI N E ⟨"div",[d,x,y,(e:Int)]⟩
  | tell (x:Int):isN N x→TyI N E ⟨"tell",[x]⟩
  | hear (d:Int):isN N d→TyI N E ⟨"hear",[d]⟩
inductive Body (N M E:Nat) (it:Bool):List Rw→Prop
  | nil:Body N M E it []
  | plain (r:Rw) (rs:List Rw):TyP N M r→Body N M E it rs→Body N M E it (r::rs)
  | item (r:Rw) (rs:List Rw):it=true→TyI N E r→Body N M E it rs→Body N M E it (r::rs)
  | right (x y k:Int) (e:Nat) (rs:List Rw):it=true→isN N x→isN N y→0≤k∧k<8→e<E→Body N M E it rs→Body N M E it (⟨"num",[y,k]⟩::⟨"right",[x,y,(e:Int)]⟩::rs)
theorem Body.append {N M E:Nat} {it:Bool} {a b:List Rw} (h:Body N M E it a) (q:Body N M E it b):Body N M E it (a++b):=by
  induction h with
  | nil=>exact q
  | plain r rs p _ ih=>exact .plain r _ p ih
  | item r rs t p _ ih=>exact .item r _ t p ih
  | right x y k e rs t p1 p2 p3 p4 _ ih=>exact .right x y k e _ t p1 p2 p3 p4 ih
inductive TyL (N M E:Nat) (odd:Bool):Rw→Prop
  | whn (x:Int) (e f:Nat):isT N M x→e<E→f<E→odd=false→TyL N M E odd ⟨"when",[x,(e:Int),(f:Int)]⟩
  | out (e:Nat):e<E→odd=false→TyL N M E odd ⟨"out",[(e:Int)]⟩
  | back (e f:Nat):e<E→f<E→odd=false→TyL N M E odd ⟨"back",[(e:Int),(f:Int)]⟩
  | backO (e:Nat):e<E→odd=true→TyL N M E odd ⟨"back",[(e:Int),(E:Int)]⟩
noncomputable def qPH (N M:Nat) (a b:List Rw):List Rw:=a++(List.range (M - N)).map (fun i:Nat=>(⟨"no",[(N:Int)+(i:Int)]⟩:Rw))++b++(List.range 4).map (fun i:Nat=>(⟨"keep",[996+(i:Int),(M:Int) - 1]⟩:Rw))
def isNum (N:Nat) (r:Rw):Prop:=∃ d v:Int,r=⟨"num",[d,v]⟩∧isN N d∧qAJ v
def qI3 (N:Nat) (r:Rw):Prop:=∃ s x:Int,r=⟨"keep",[s,x]⟩∧sN s∧isN N x
def qDt (N M:Nat) (rs:List Rw):Prop:=∃ a b:List Rw,rs=qPH N M a b∧(∀ r∈a,isNum N r)∧(∀ r∈b,qI3 N r)∧a.length≤16∧b.length≤4
inductive SrN (N:Nat):Dt→Prop
  | old (k:Nat):k<8→SrN N (.tup [.str "old",.int (k:Int)])
  | shelf (s:Int):sN s→SrN N (.tup [.str "shelf",.int s])
  | hand (x:Int):isN N x→SrN N (.tup [.str "hand",.int x])
inductive SrT (N M:Nat):Dt→Prop
  | old (k:Nat):k<3→SrT N M (.tup [.str "old",.int (k:Int)])
  | shelf (s:Int):sT s→SrT N M (.tup [.str "shelf",.int s])
  | hand (x:Int):isT N M x→SrT N M (.tup [.str "hand",.int x])
inductive AtN (N:Nat):Dt→Prop
  | int (p:Int):qAJ p→AtN N (.int p)
  | hand (x:Int):isN N x→AtN N (.tup [.str "hand",.int x])
structure TyE (N M:Nat) (e:Ex):Prop where
  at_:AtN N e.at_
  bs:∀ d∈e.bs,SrN N d
  b8:e.bs.length=8
  ms:∀ d∈e.ms,SrT N M d
  m3:e.ms.length=3
structure TyO (N:Nat) (e:Ex):Prop where
  bs:∀ d∈e.bs,SrN N d
  b8:e.bs.length=8
  m3:e.ms.length≤3
structure Sz (N M:Nat):Prop where
  n1:1≤N
  nm:N<M
  m16:M≤16
structure Host (it:Bool) (N M:Nat) (rs:List Rw) (es:List Ex):Prop where
  sz:Sz N M
  ex:∃ (E:Nat) (odd:Bool) (f b:List Rw) (l:Rw),rs=f++b++[l]∧qDt N M f∧Body N M E it b∧TyL N M E odd l∧1≤E∧E≤4∧(∀ (k:Nat) e,k<E→es[k]? = some e→TyE N M e)∧(if odd=true then es.length=E+1∧∀ e,es[E]? = some e→TyO N e else es.length=E)∧b.length≤110
def qE7:RDL:=fun ds st P=>∃ (many numbers:Nat) (left:Int),ds=[.int (many:Int),.int (numbers:Int),.int left]∧Sz numbers many∧∀ rs st' n,qU st st'→st.length≤n→st'[n]? = some (.rw (rs.map qS))→qDt numbers many rs→P (.lst n) st'
def qBE:RDL:=fun ds st P=>∃ (p many numbers:Nat) (ps:List Int),ds=[.lst p,.int (many:Int),.int (numbers:Int)]∧st[p]? = some (.rw (ps.map .int))∧PIn ps qMv∧Sz numbers many∧∀ r st',qU st st'→TyP numbers many r→P (qS r) st'
def qDW:RDL:=fun ds st P=>∃ (p numbers exits:Nat) (ps:List Int),ds=[.lst p,.int (numbers:Int),.int (exits:Int)]∧st[p]? = some (.rw (ps.map .int))∧PIn ps qMv∧1≤numbers∧1≤exits∧∀ rs st' n,qU st st'→st'[n]? = some (.rw (rs.map qS))→(∀ M,Body numbers M exits true rs)→rs.length≤2→P (.lst n) st'
def qB4:RDL:=fun ds st P=>∃ (x:Int) (numbers many:Nat) (t:Bool),ds=[.int x,.int (numbers:Int),.int (many:Int),.bl t]∧Sz numbers many∧∀ d st',qU st st'→(if t=true then SrT numbers many d else SrN numbers d)→P d st'
def qG5:RDL:=fun ds st P=>∃ (p numbers many:Nat) (ps:List Int),ds=[.lst p,.int (numbers:Int),.int (many:Int)]∧st[p]? = some (.rw (ps.map .int))∧ps.length=15∧qAJ (ps.getD 1 0)∧Sz numbers many∧∀ e st',qU st st'→TyE numbers many e→P (exD e) st'
def qEz:RDL:=fun ds st P=>∃ (sc numbers many:Nat) (way:Int) (ns:List Int),ds=[.lst sc,.int way,.int (numbers:Int),.int (many:Int)]∧st[sc]? = some (.ro (ns.map .int))∧0≤way∧way<2∧Sz numbers many∧∀ (es:List Ex) st',qU st st'→1≤es.length→es.length≤4→(∀ e∈es,TyE numbers many e)→P (.tup (es.map exD)) st'
def qFD:RDL:=fun ds st P=>∃ (c way:Int) (numbers many exits:Nat),ds=[.int c,.int way,.int (numbers:Int),.int (many:Int),.int (exits:Int)]∧Sz numbers many∧1≤exits∧exits≤4∧∀ r st',qU st st'→TyL numbers many exits false r→P (qS r) st'
def qHb:RDL:=fun ds st P=>∃ (sc:Nat) (way:Int) (it:Bool) (ns:List Int),ds=[.lst sc,.int way,.bl it]∧st[sc]? = some (.ro (ns.map .int))∧ns.length≤63∧0≤way∧way<2∧∀ (N M:Nat) (rs:List Rw) (es:List Ex) (a:Int) st',qU st st'→Host it N M rs es→P (.tup [.int a,.int (M:Int),.tup (rs.map qS),.tup (es.map exD)]) st'
end KT
namespace KU
open PySem L2 L3 K02 K85 K06 KM KT
def inM (M:Nat) (x:Int):Prop:=0≤x∧x<(M:Int)
inductive DoV (M:Nat) (H:Hd):Rw→Int→Dt→Prop
  | load (d s:Int):DoV M H ⟨"load",[d,s]⟩ d (onS H s)
  | num (d v:Int):DoV M H ⟨"num",[d,v]⟩ d (.int v)
  | box (d:Int) (k:Nat) (v:Int):H.bx[k]? = some v→DoV M H ⟨"box",[d,(k:Int)]⟩ d (.int v)
  | mark (d:Int) (k:Nat) (v:Dt):(mL H.ms)[k]? = some v→DoV M H ⟨"mark",[d,(k:Int)]⟩ d v
  | yes (d:Int):DoV M H ⟨"yes",[d]⟩ d (.bl true)
  | no (d:Int):DoV M H ⟨"no",[d]⟩ d (.bl false)
  | nought (d x a:Int):inM M x→inH H x = .int a→DoV M H ⟨"nought",[d,x]⟩ d (.bl (decide (a=0)))
  | high (d x a:Int):inM M x→inH H x = .int a→qAJ a→DoV M H ⟨"high",[d,x]⟩ d (.bl (decide (32768≤a)))
  | two (o:KW.Op2) (d x y a b:Int):inM M x→inM M y→inH H x = .int a→inH H y = .int b→qAJ a→qAJ b→DoV M H ⟨K20.nm o,[d,x,y]⟩ d (K20.vD (KW.two o a b))
inductive DoP (M:Nat) (H:Hd):Rw→Hd→Prop
  | keep (s x:Int):inM M x→DoP M H ⟨"keep",[s,x]⟩ (qC8 H s (inH H x))
  | hand (r:Rw) (d:Int) (v:Dt):inM M d→DoV M H r d v→DoP M H r (qAn H d v)
inductive DoL (M:Nat) (H:Hd) (sv:Option (Int×M3)):Rw→Int→Prop
  | out (e:Int):DoL M H sv ⟨"out",[e]⟩ e
  | back (e f:Int):DoL M H sv ⟨"back",[e,f]⟩ (if sv.isNone then e else f)
  | whn (x e f:Int) (t:Bool):inM M x→inH H x = .bl t→DoL M H sv ⟨"when",[x,e,f]⟩ (if t then e else f)
inductive DoI (M:Nat) (H:Hd):Rw→KD.IW→List Int→Int→Int→Int→Prop
  | get (d x y e a b:Int):inM M d→inM M x→inM M y→inH H x = .int a→inH H y = .int b→DoI M H ⟨"get",[d,x,y,e]⟩ .get [a,b] d e 0
  | set (x y z e f a b c:Int):inM M x→inM M y→inM M z→inH H x = .int a→inH H y = .int b→inH H z = .int c→DoI M H ⟨"set",[x,y,z,e,f]⟩ .set [a,b,c] 0 e f
  | div (d x y e a b:Int):inM M d→inM M x→inM M y→inH H x = .int a→inH H y = .int b→DoI M H ⟨"div",[d,x,y,e]⟩ .div [a,b] d e 0
  | tell (x a:Int):inM M x→inH H x = .int a→DoI M H ⟨"tell",[x]⟩ .tell [a] 0 0 0
  | hear (d:Int):inM M d→DoI M H ⟨"hear",[d]⟩ .hear [] d 0 0
  | right (x y e a b:Int):inM M x→inM M y→inH H x = .int a→inH H y = .int b→DoI M H ⟨"right",[x,y,e]⟩ .right [a,b] 0 e 0
noncomputable def qCf (m:Ms) (w:KD.IW) (ps given:List Int):Bool:=decide ((KD.qAr m.g w ps (given.getD m.heard 0)).1 = "on")
inductive qEw (M:Nat) (given wt:List Int) (m:Ms):Rw→Option Int→Ms→Prop
  | put (r:Rw) (H':Hd):DoP M m.H r H'→qEw M given wt m r none { m with H:=H' }
  | last (r:Rw) (e:Int):DoL M m.H m.g.sv r e→qEw M given wt m r (some e) m
  | item (r:Rw) (w:KD.IW) (ps:List Int) (d e f:Int):DoI M m.H r w ps d e f→(∀ v∈ps,qAJ v)→m.g.Ok→qEw M given wt m r (if qCf m w ps given=true then (if KD.qBQ w ps wt=true then some f else none) else some e) (if qCf m w ps given=true then (if KD.qBQ w ps wt=true then qDa m w ps given else after m w ps given d) else qDa m w ps given)
inductive Runs (M:Nat) (given wt:List Int):Nat→Ms→List Rw→Ms→Nat→Rw→Nat→Prop
  | here (c:Nat) (m m':Ms) (r:Rw) (rs:List Rw) (e:Nat):m.g.Ok→qEw M given wt m r (some (e:Int)) m'→Runs M given wt c m (r::rs) m' e r (c+1)
  | next (c:Nat) (m m1 m':Ms) (r r':Rw) (rs:List Rw) (e c':Nat):m.g.Ok→qEw M given wt m r none m1→Runs M given wt (c+1) m1 rs m' e r' c'→Runs M given wt c m (r::rs) m' e r' c'
end KU
namespace K85
open PySem PySem.Spec PyProof.Rows L2 L3 K02
theorem qR9 (b:Bool):(b != false)=b:=by cases b<;>rfl
theorem ix0 {r:Rw} {ρ:Rho} {st:Sto} {i:Nat} (hv:ρ[i]? = some (some (qS r))):∀ P:VD,P (.str r.w) st→qD qJ (qB i) (qC (.int 0)) ρ st P:=by
  intro P hp
  simp only [qD,qB,qC,hv,qS]
  show (match atI (Dt.str r.w::r.xs.map .int) 0 with
    | some d=>P d st
    | none=>False)
  rw [show atI (Dt.str r.w::r.xs.map Dt.int) 0=some (.str r.w) from qAB (j:=0) rfl]
  exact hp
end K85
namespace K02
open PySem L2 L3
end K02
namespace K02
open PySem PySem.Spec PyProof.Rows L2 L3
end K02
namespace K02
open PySem PySem.Spec PyProof.Rows L2 L3
section
variable {st:Sto}
theorem ixV {n j:Nat} {d:Dt} {xs:List Dt} {P:VD} (hn:st[n]? = some (.rw xs)) (hd:xs[j]? = some d) (hp:P d st):qJ (.lst n) (.int (j:Int)) st P:=by
  show (match qd st (.lst n) with
      | some xs=>(match atI xs (j:Int) with
        | some d=>P d st
        | none=>False)
      | none=>False)
  have e:qd st (.lst n)=some xs:=by
    show (st[n]?).map SO.items=_
    rw [hn];rfl
  rw [e]
  show (match atI xs (j:Int) with
        | some d=>P d st
        | none=>False)
  rw [qAB hd]
  exact hp
end
end K02
namespace K85
open PySem PySem.Spec PyProof.Rows L2 L3 K02
theorem qL2 {ps bs:List Int} {i:Nat} {p b:Int} (h:PIn ps (bs.take i)) (hb:bs[i]? = some b) (h0:0≤p) (h1:p<b):PIn (ps++[p]) (bs.take (i+1)):=by
  have hil:=(List.getElem?_eq_some_iff.mp hb).1
  have hl:=h.1
  rw [List.length_take] at hl
  rw [List.take_add_one,hb]
  refine⟨by simp [h.1],fun j q c hq hc=>?_⟩
  by_cases hj:j<ps.length
  · rw [List.getElem?_append_left hj] at hq
    rw [List.getElem?_append_left (by rw [List.length_take];omega)] at hc
    exact h.2 j q c hq hc
  · have hj2:=(List.getElem?_eq_some_iff.mp hq).1
    simp at hj2
    have ej:j=ps.length:=by omega
    subst ej
    have e1:q=p:=by simpa using hq.symm
    have e2:c=b:=by
      rw [List.getElem?_append_right (by rw [List.length_take];omega)] at hc
      have:ps.length - (bs.take i).length=0:=by rw [List.length_take];omega
      rw [this] at hc
      simpa using hc.symm
    rw [e1,e2];exact⟨h0,h1⟩
theorem forR {te:TD} {g:TGD} {tb:TSD} {n:Nat} {E:qBH} {ρ:Rho} {st:Sto} (h:∀ P:VD,P (.int (n:Int)) st→te ρ st P) (hn:n<1000000) (q:qKy (qAu 0 n) (fun _=>True) g tb E ρ st):qEG (qAj te) g tb E ρ st:=by
  show te ρ st _
  refine h _ ⟨by omega,by omega,?_⟩
  rw [Int.toNat_natCast];exact q
theorem row2 {w f:Str} {a b:Int} (h:qB9.lookup w=some f) (hl:f.length=2):OkR ⟨w,[a,b]⟩:=qGb h hl.symm
theorem qHO {w f:Str} {a:Int} (h:qB9.lookup w=some f) (hl:f.length=1):OkR ⟨w,[a]⟩:=qGb h hl.symm
noncomputable abbrev RF (many numbers:Nat) (left:Int) (r:Option Dt):Rho:=[some (.int (many:Int)),some (.int (numbers:Int)),some (.int left),r]
theorem qQ0 {l x:Int} {ρ:Rho} {st:Sto} {tx:TD} {i:Nat} (hv:ρ[i]? = some (some (.int l))) (hx:∀ P:VD,P (.int x) st→tx ρ st P) (h0:0≤x):∃ b:Bool,∀ P:Bool→Sto→Prop,P b st→qH (qD (qg false) (qD qDC (qD qLe (qB i) tx) (qC (Dt.int 1))) (qC (Dt.int 0))) ρ st P:=by
  refine⟨((Builtin.bitAnd (l / 2 ^ x.toNat) 1)==0) != false,fun P hp=>?_⟩
  simp only [qH,qD,qB,qC,hv]
  refine hx _ ⟨h0,rfl,rfl,?_⟩
  exact hp
end K85
namespace K85
open PySem PySem.Spec PyProof.Rows L2 L3 K02
theorem qEE {xs:List Int} {k:Nat}:L3.cutD (xs.map Dt.int) none (some (k:Int))=(xs.take k).map Dt.int:=by
  unfold L3.cutD
  rw [HT.qCL,HT.qFU]
  simp only [List.drop_zero,List.length_map,Nat.sub_zero]
  rw [← List.map_take]
  congr 1
  rcases Nat.le_total k xs.length with h | h
  · rw [Nat.min_eq_left h]
  · rw [Nat.min_eq_right h,List.take_of_length_le h,List.take_length]
theorem qOS {ps:List Int} (h:PIn ps qMv):∃ p0 p1 p2 p3 p4 p5 p6 p7:Int,ps=[p0,p1,p2,p3,p4,p5,p6,p7]∧(0≤p0∧p0<20)∧(0≤p4∧p4<65536)∧(0≤p5∧p5<8):=by
  obtain⟨hl,hb⟩:=h
  have hl:ps.length=8:=hl
  rcases ps with _ | ⟨p0,_ | ⟨p1,_ | ⟨p2,_ | ⟨p3,_ | ⟨p4,_ | ⟨p5,_ | ⟨p6,_ | ⟨p7,_ | ⟨p8,r⟩⟩⟩⟩⟩⟩⟩⟩⟩<;>first
    | (simp at hl;done)
    | exact⟨p0,p1,p2,p3,p4,p5,p6,p7,rfl,hb 0 p0 20 rfl rfl,hb 4 p4 65536 rfl rfl,hb 5 p5 8 rfl rfl⟩
    | (simp at hl;omega)
noncomputable abbrev RPl (p:Nat) (many numbers:Nat) (w a b c n k t:Int):Rho:=[some (.lst p),some (.int (many:Int)),some (.int (numbers:Int)),some (.int w),some (.int a),some (.int b),some (.int c),some (.int n),some (.int k),some (.int t)]
theorem qNx {w f:Str} {a b c:Int} (h:qB9.lookup w=some f) (hl:f.length=3):OkR ⟨w,[a,b,c]⟩:=qGb h hl.symm
theorem qMo {a b c d:Dt} {s:Sto} {n:Nat} {x:Int} {P:VD} (hn:s[n]? = some (.rw [a,b,c,d])) (h:∀ y∈[a,b,c,d],P y s):qJ (.lst n) (.int (x%4)) s P:=by
  obtain⟨k,hk,h4⟩:∃ k:Nat,x%4=(k:Int)∧k<4:=⟨(x%4).toNat,by omega,by omega⟩
  rw [hk]
  have hy:[a,b,c,d][k]? = some ([a,b,c,d][k]'h4):=by simp [h4]
  exact ixV hn hy (h _ (List.getElem_mem h4))
end K85
namespace K85
open PySem PySem.Spec PyProof.Rows L2 L3 K02
noncomputable abbrev RI (p numbers exits:Nat) (w a b c n k f g:Int):Rho:=[some (.lst p),some (.int (numbers:Int)),some (.int (exits:Int)),some (.int w),some (.int a),some (.int b),some (.int c),some (.int n),some (.int k),some (.int f),some (.int g)]
end K85
namespace K85
open PySem PySem.Spec PyProof.Rows L2 L3 K02
theorem qSn {x0 x1 x2 x9:Option Dt} {d0 d1 d2 d3 d4 d5:Dt} {st:Sto} {P:Rho→Sto→Prop} (h:P [x0,x1,x2,some d0,some d1,some d2,some d3,some d4,some d5,x9] st) :
    qX (qI 3) (qX (qI 4) (qX (qI 5) (qX (qI 6) (qX (qI 7) (qX (qI 8) qBj))))) [d0,d1,d2,d3,d4,d5] [x0,x1,x2,none,none,none,none,none,none,x9] st P:=h
theorem qSY {x0 x1 x2 x9 x10:Option Dt} {d0 d1 d2 d3 d4 d5:Dt} {st:Sto} {P:Rho→Sto→Prop} (h:P [x0,x1,x2,some d0,some d1,some d2,some d3,some d4,some d5,x9,x10] st) :
    qX (qI 3) (qX (qI 4) (qX (qI 5) (qX (qI 6) (qX (qI 7) (qX (qI 8) qBj))))) [d0,d1,d2,d3,d4,d5] [x0,x1,x2,none,none,none,none,none,none,x9,x10] st P:=h
end K85
namespace K85
open PySem PySem.Spec PyProof.Rows L2 L3 K02
end K85
namespace KL
open PySem PySem.Spec PyProof.Rows L2 L3 KS K02 K85 K06
abbrev qDN:TSD:=(tseq (qO (qD qj (qD L3.qm (qB 0) (qD qAf (qC (Dt.int 15485863)) (qD L3.qm (qB 1) (qC (Dt.int 1))))) (qC (Dt.int 2147483647))) (qI 2)) (tseq (qO (qD qj (qD qAf (qB 2) (qB 2)) (qC (Dt.int 2147483629))) (qI 2)) (tseq (qP (qD qAk (qD qj (qD qAf (qB 2) (qD L3.qm (qD L3.qm (qB 2) (qD qAf (qC (Dt.int 7919)) (qB 1))) (qC (Dt.int 11)))) (qC (Dt.int 2147483587))) (qC (Dt.int 8)))) qG)))
abbrev qCE:TSD:=(tseq (qO (qz qE) (qI 3)) (tseq (qEG (qAj (qF qAq (qA (qB 2) qE))) (qI 4) (tseq (qa (qH (qD (qg false) (qB 1) (qC (Dt.int 0)))) (tseq (qAm (qAY (qB 3) (qD qj (qB 0) (qD qJ (qB 2) (qB 4))))) (tseq (qO (qD qAk (qB 0) (qD qJ (qB 2) (qB 4))) (qI 0)) qG)) (tseq (qAm (qAY (qB 3) (qD qj (qF KL.qJq (qA (qB 0) (qA (qB 4) qE))) (qD qJ (qB 2) (qB 4))))) qG)) qG)) (tseq (qP (qB 3)) qG)))
abbrev qB0:TSD:=(tseq (qP (qD qj (qD qJ (qz (qA (qD qj (qB 0) (qC (Dt.int 16))) (qA (qD qj (qD qAk (qB 0) (qC (Dt.int 4))) (qC (Dt.int 140))) (qA (qD qAk (qB 0) (qC (Dt.int 4))) (qA (qD L3.qAe (qC (Dt.int 65535)) (qD qj (qD qAk (qB 0) (qC (Dt.int 4))) (qC (Dt.int 3)))) qE))))) (qD qj (qB 0) (qC (Dt.int 4)))) (qC (Dt.int 65536)))) qG)
abbrev qCS:TSD:=(tseq (qO (qD qj (qB 0) (qC (Dt.int 7))) (qI 2)) (tseq (qP (qF KL.qAH (qA (qD qAk (qB 0) (qC (Dt.int 7))) (qA (qB 1) (qA (qD qAf (qz (qA (qC (Dt.int 65536)) qE)) (qB 2)) qE))))) qG))
abbrev qBl:TSD:=(tseq (qP (qF qi (qA (qy (qAj (qB 1)) (qH (qD (qg false) (qD qj (qD qAk (qB 1) (qD qKq (qC (Dt.int 1)) (qB 0))) (qC (Dt.int 2))) (qC (Dt.int 1)))) (qB 0) [(0, "cell")]) qE))) qG)
theorem qSV {b:Bool} {A B:Prop} (ha:A) (hb:B):if b=true then A else B:=by cases b<;>simp [ha,hb]
theorem qFo {st:Sto} {n j:Nat} {d:Dt} {xs:List Dt} {P:VD} (hn:st[n]? = some (.rw xs)) (hd:xs[j]? = some d) (hp:P d st):qJ (.lst n) (.int (j:Int)) st P:=qLs hn (qAB hd) hp
theorem ixA {s:Sto} {p:Nat} {ps:List Int} {v:Int} {P:VD} (hp:s[p]? = some (.rw (ps.map .int))) (h0:0≤v) (h1:v<(ps.length:Int)) (h:∀ x:Int,P (.int x) s):qJ (.lst p) (.int v) s P:=by
  obtain⟨k,rfl⟩:∃ k:Nat,v=(k:Int):=⟨v.toNat,by omega⟩
  have hk:k<ps.length:=by omega
  exact qFo (d:=.int ps[k]) hp (by rw [List.getElem?_map,List.getElem?_eq_getElem hk];rfl) (h _)
theorem qHa {ps:List Int} {n:Nat} {b:Int} (h:PIn ps (List.replicate n b)):∀ v∈ps,0≤v∧v<b:=by
  intro v hv
  obtain⟨i,hi,rfl⟩:=List.mem_iff_getElem.mp hv
  have hl:=h.1
  rw [List.length_replicate] at hl
  exact h.2 i _ b (List.getElem?_eq_getElem hi) (by rw [List.getElem?_replicate,if_pos (by omega)])
theorem qIE {ds:List Dt} {st:Sto} {Pd:VD} (h:qJq ds st Pd):qDN (Ed Pd) (qV ["cell", "k", "number"] ds) st:=by
  obtain⟨c,k,rfl,hP⟩:=h
  show qDN (Ed Pd) [some (.int c),some (.int (k:Int)),none] st
  refine qk ?_
  simp only [qD,qB,qC,L3.qm,qAf,qj,List.getElem?_cons_zero,List.getElem?_cons_succ]
  refine⟨qCw (by decide) (by decide),by decide,?_⟩
  refine qk ?_
  refine⟨qCw (Int.emod_nonneg _ (by decide)) (Int.lt_trans (Int.emod_lt_of_pos _ (by decide)) (by decide)),by decide,?_⟩
  refine qv ?_
  refine⟨qCw (by decide) (by decide),?_⟩
  refine⟨qCw (Int.emod_nonneg _ (by decide)) (Int.lt_trans (Int.emod_lt_of_pos _ (by decide)) (by decide)),by decide,cdiv (by decide) (by decide),?_⟩
  exact hP _ (Int.ediv_nonneg (Int.emod_nonneg _ (by decide)) (by decide))
noncomputable abbrev RP (c way:Int) (b f:Nat) (k:Option Dt):Rho:=[some (.int c),some (.int way),some (.lst b),some (.lst f),k]
theorem qGB {ds:List Dt} {st:Sto} {Pd:VD} (h:qAH ds st Pd):qCE (Ed Pd) (qV ["cell", "way", "bounds", "found", "k"] ds) st:=by
  obtain⟨c,way,b,bs,rfl,hb,hbs,hbl,hP⟩:=h
  show qCE (Ed Pd) [some (.int c),some (.int way),some (.lst b),none,none] st
  refine qk ⟨Nat.zero_le _,?_⟩
  show tseq _ _ (Ed Pd) (RP c way b st.length none) (st++[SO.rw []])
  have hf0:(st++[SO.rw []])[st.length]? = some (.rw []):=qK
  have hb0:(st++[SO.rw []])[b]? = some (.rw (bs.map .int)):=qe hb
  have hbn:b<st.length:=qAC hb
  have x0:qU st (st++[SO.rw []]):=.app _ _
  generalize st++[SO.rw []]=s0 at hf0 hb0 x0
  refine qv ?_
  refine forR (n:=bs.length) ?_ (by omega) ?_
  · intro P hp
    refine qNp (ρ:=RP c way b st.length none) (i:=2) (n:=b) rfl hb0 _ ?_
    show P (.int ((bs.map Dt.int).length:Int)) _
    rw [List.length_map];exact hp
  refine⟨fun i ρ s=>(∃ c' k,ρ=RP c' way b st.length k)∧qU st s∧s[b]? = some (.rw (bs.map .int))∧∃ ps:List Int,s[st.length]? = some (.rw (ps.map .int))∧PIn ps (bs.take i),⟨⟨_,_,rfl⟩,x0,hb0,[],hf0,rfl,fun j p b hp hb=>by cases hp⟩,fun _ _ _ _ _=>trivial,?_,?_⟩
  · rintro i d ρ s hd ⟨⟨c',k,rfl⟩,hx,hbs',ps,hps,hpin⟩
    k_dat 0"r22"
    rw [Int.zero_add]
    obtain⟨bb,hbb⟩:∃ bb,bs[i]? = some bb:=⟨bs[i],by simp [hi]⟩
    obtain⟨b0,b1⟩:=hbs bb (List.mem_of_getElem? hbb)
    have hil:(bs.map Dt.int)[i]? = some (.int bb):=by rw [List.getElem?_map,hbb];rfl
    have hpl:ps.length=i:=by rw [hpin.1,List.length_take];omega
    have upd:∀ (p c2:Int) (k2:Option Dt) (s1:Sto),qU s s1→0≤p→p<bb→(∃ c' k,RP c2 way b st.length k2=RP c' way b st.length k)∧qU st (s1.set st.length (.rw (ps.map .int++[.int p])))∧(s1.set st.length (.rw (ps.map .int++[.int p])))[b]? = some (.rw (bs.map .int))∧∃ ps':List Int,(s1.set st.length (.rw (ps.map .int++[.int p])))[st.length]? = some (.rw (ps'.map .int))∧PIn ps' (bs.take (i+1)):=by
      intro p c2 k2 s1 x1 p0 p1
      refine⟨⟨_,_,rfl⟩,fun j o ho=>?_,qT (x1 _ _ hbs') (by omega),ps++[p],?_,qL2 hpin hbb p0 p1⟩
      · have hj:j<st.length:=qAC ho
        exact qT (x1 _ _ (hx _ _ ho)) (by omega)
      · rw [ql (x1 _ _ hps),List.map_append];rfl
    have hlz:(ps.map Dt.int).length<sizeLine:=by rw [List.length_map,sizeLine_eq];omega
    show tseq _ _ _ (RP c' way b st.length (some (.int (i:Int)))) s
    refine qv (ifS (b:=decide (way=0)) (st':=s) (eqI fun P hp=>hp) ?_ ?_)
    · intro q
      refine qv ?_
      simp only [qAm,qAY,qD,qB,List.getElem?_cons_zero,List.getElem?_cons_succ]
      refine ixV hbs' hil ?_
      refine⟨b0,?_⟩
      simp only [hps]
      refine⟨hlz,?_⟩
      have hn0:=Int.emod_nonneg c' (show bb≠0 by omega)
      have hn1:=Int.emod_lt_of_pos c' b0
      have hu:=upd (c'%bb) (c' / bb) (some (.int (i:Int))) s (.refl _) hn0 hn1
      refine qk ?_
      simp only [qD,qB,List.getElem?_cons_zero,List.getElem?_cons_succ]
      refine ixV hu.2.2.1 hil ?_
      exact⟨cdiv b0 (by omega),hu⟩
    · intro q
      refine qv ?_
      simp only [qAm,qAY,qD,qB,qF,qA,qE,List.getElem?_cons_zero,List.getElem?_cons_succ]
      refine⟨c',(i:Int),rfl,fun x x0'=>?_⟩
      refine ixV hbs' hil ?_
      refine⟨b0,?_⟩
      simp only [hps]
      exact⟨hlz,upd (x%bb) c' (some (.int (i:Int))) s (.refl _) (Int.emod_nonneg x (show bb≠0 by omega)) (Int.emod_lt_of_pos x b0)⟩
  · rintro ρ s ⟨⟨c',k,rfl⟩,hx,hbs',ps,hps,hpin⟩
    rw [qAM,List.take_length] at hpin
    exact hP ps s _ hx (Nat.le_refl _) hps hpin
theorem qFl {ds:List Dt} {st:Sto} {Pd:VD} (h:qDo ds st Pd):qB0 (Ed Pd) (qV ["part"] ds) st:=by
  obtain⟨p,rfl,hP⟩:=h
  show qB0 (Ed Pd) [some (.int p)] st
  refine qv ?_
  simp only [qP,qD,qz,qA,qE,qB,qC,List.getElem?_cons_zero,qj,qAk,L3.qAe]
  refine⟨by decide,cdiv (by decide) (by decide),by decide,cdiv (by decide) (by decide),cdiv (by decide) (by decide),by decide,by show 4≤sizeLine;decide,by decide,?_⟩
  refine ixA (ps:=[p%16,p / 4%140,p / 4,65535 - p / 4%3]) qK (Int.emod_nonneg _ (by decide)) (by show p%4<4;exact Int.emod_lt_of_pos _ (by decide)) fun v=>?_
  exact⟨by decide,hP _ _ (.app _ _) (Int.emod_nonneg _ (by decide)) (Int.emod_lt_of_pos _ (by decide))⟩
theorem qF8 {ds:List Dt} {st:Sto} {Pd:VD} (h:qE4 ds st Pd):qCS (Ed Pd) (qV ["cell", "way", "many"] ds) st:=by
  obtain⟨c,way,rfl,hP⟩:=h
  show qCS (Ed Pd) [some (.int c),some (.int way),none] st
  refine qk ⟨by decide,?_⟩
  refine qv ?_
  simp only [qP,qF,qD,qz,qA,qE,qB,qC,List.set_cons_zero,List.set_cons_succ,List.getElem?_cons_zero,List.getElem?_cons_succ,qAk,qAf]
  refine⟨cdiv (by decide) (by decide),by show 1≤sizeLine;decide,?_⟩
  rw [qK]
  have m0:=Int.emod_nonneg c (show (7:Int)≠0 by decide)
  have m1:=Int.emod_lt_of_pos c (show (0:Int)<7 by decide)
  refine⟨m0,by omega,by show 1 * (c%7).toNat≤sizeLine;rw [sizeLine_eq];omega,?_⟩
  refine⟨_,_,_,List.replicate (c%7).toNat 65536,rfl,?_,?_,?_,fun ps s1 n x1 l1 g1 pin=>?_⟩
  · rw [qK,List.flatten_replicate_singleton,List.map_replicate]
  · intro x hx
    rw [List.eq_of_mem_replicate hx];decide
  · rw [List.length_replicate];omega
  · refine hP ps s1 n (fun j o hj=>x1 _ _ (qe (qe hj))) (by simp at l1;omega) g1 (by rw [pin.1,List.length_replicate];omega) fun v hv=>?_
    exact qHa pin v hv
theorem qEr {ds:List Dt} {st:Sto} {Pd:VD} (h:qC4 ds st Pd):qBl (Ed Pd) (qV ["cell", "pages"] ds) st:=by
  obtain⟨c,n,rfl,hn,hP⟩:=h
  show qBl (Ed Pd) [some (.int c),some (.int (n:Int))] st
  refine qv ?_
  simp only [qP,qF,qA,qE,qy,qAj,qB,qCK,List.map_cons,List.map_nil,List.getElem?_cons_zero,List.getElem?_cons_succ,Option.join_some]
  refine⟨by omega,by omega,?_⟩
  rw [Int.toNat_natCast]
  refine⟨fun i ys s=>s=st∧∃ wt:List Int,ys=wt.map .int∧wt.length≤i,⟨rfl,[],rfl,Nat.le_refl _⟩,fun _ _ _ _ _=>trivial,?_,?_⟩
  · rintro i d ys s hd ⟨rfl,wt,rfl,hl⟩
    k_dat 0"r22"
    rw [Int.zero_add]
    refine⟨by rw [List.length_map,sizeLine_eq];omega,?_⟩
    simp only [qH,qD,qB,qC,List.getElem?_cons_zero,List.getElem?_cons_succ,qKq,qAk,qj]
    have p0:(0:Int)<1 * 2 ^ (i:Int).toNat:=by
      rw [Int.one_mul];exact Int.pow_pos (by decide)
    have p1:(1:Int) * 2 ^ (i:Int).toNat<1073741824:=by
      rw [Int.one_mul,Int.toNat_natCast]
      have:∀ k:Nat,k<16→(2:Int) ^ k<1073741824:=by decide
      exact this i (by omega)
    refine⟨⟨by omega,by omega,by decide⟩,cdiv p0 p1,by decide,rfl,rfl,?_⟩
    refine qSV ?_ ?_
    · exact⟨rfl,wt++[(i:Int)],by rw [List.map_append];rfl,by simp;omega⟩
    · exact⟨rfl,wt,rfl,by omega⟩
  · rintro ys s ⟨rfl,wt,rfl,hl⟩
    rw [qAM] at hl
    simp only [qi,qd,qK,Option.map_some,SO.items]
    exact hP wt _ (.app _ _) hl
end KL
namespace KT
open PySem PySem.Spec PyProof.Rows L2 L3 K02 K85 KM
abbrev prT:TSD:=(tseq (qa (qH (qD (qAD fun i j=>decide (i<j)) (qB 3) (qC (Dt.int 3)))) (tseq (qP (qZ (qA (qC (Dt.str "num")) (qA (qB 4) (qA (qD qJ (qz (qA (qB 7) (qA (qD qj (qB 7) (qC (Dt.int 140))) (qA (qD qj (qB 7) (qC (Dt.int 8))) (qA (qD L3.qAe (qC (Dt.int 65535)) (qD qj (qB 7) (qC (Dt.int 3)))) qE))))) (qD qj (qB 8) (qC (Dt.int 4)))) qE))))) qG) qG) (tseq (qa (qH (qD (qg false) (qB 3) (qC (Dt.int 3)))) (tseq (qP (qZ (qA (qC (Dt.str "box")) (qA (qB 4) (qA (qB 8) qE))))) qG) qG) (tseq (qa (qH (qD (qAD fun i j=>decide (i<j)) (qB 3) (qC (Dt.int 7)))) (tseq (qP (qZ (qA (qD qJ (qz (qA (qC (Dt.str "add")) (qA (qC (Dt.str "sub")) (qA (qC (Dt.str "mul")) qE)))) (qD L3.qAe (qB 3) (qC (Dt.int 4)))) (qA (qB 4) (qA (qB 5) (qA (qB 6) qE)))))) qG) qG) (tseq (qa (qH (qD (qg false) (qB 3) (qC (Dt.int 7)))) (tseq (qP (qZ (qA (qC (Dt.str "load")) (qA (qB 4) (qA (qD qj (qB 8) (qC (Dt.int 4))) qE))))) qG) qG) (tseq (qa (qH (qD (qg false) (qB 3) (qC (Dt.int 8)))) (tseq (qP (qZ (qA (qC (Dt.str "keep")) (qA (qD qj (qB 8) (qC (Dt.int 4))) (qA (qB 4) qE))))) qG) qG) (tseq (qa (qH (qD (qAD fun i j=>decide (i<j)) (qB 3) (qC (Dt.int 13)))) (tseq (qP (qZ (qA (qD qJ (qz (qA (qC (Dt.str "over")) (qA (qC (Dt.str "under")) (qA (qC (Dt.str "wide")) (qA (qC (Dt.str "rest")) qE))))) (qD L3.qAe (qB 3) (qC (Dt.int 9)))) (qA (qB 9) (qA (qB 5) (qA (qB 6) qE)))))) qG) qG) (tseq (qa (qH (qD (qAD fun i j=>decide (i<j)) (qB 3) (qC (Dt.int 15)))) (tseq (qP (qZ (qA (qD qJ (qz (qA (qC (Dt.str "nought")) (qA (qC (Dt.str "high")) qE))) (qD L3.qAe (qB 3) (qC (Dt.int 13)))) (qA (qB 9) (qA (qB 5) qE))))) qG) qG) (tseq (qa (qH (qD (qg false) (qB 3) (qC (Dt.int 15)))) (tseq (qP (qZ (qA (qC (Dt.str "mark")) (qA (qB 9) (qA (qD qj (qB 8) (qC (Dt.int 3))) qE))))) qG) qG) (tseq (qa (qH (qD (qAD fun i j=>decide (i<j)) (qB 3) (qC (Dt.int 18)))) (tseq (qP (qZ (qA (qD qJ (qz (qA (qC (Dt.str "yes")) (qA (qC (Dt.str "no")) qE))) (qD L3.qAe (qB 3) (qC (Dt.int 16)))) (qA (qB 9) qE)))) qG) qG) (tseq (qa (qH (qD (qg false) (qB 3) (qC (Dt.int 18)))) (tseq (qP (qZ (qA (qC (Dt.str "load")) (qA (qB 9) (qA (qD L3.qm (qC (Dt.int 996)) (qD qj (qB 8) (qC (Dt.int 4)))) qE))))) qG) qG) (tseq (qP (qZ (qA (qC (Dt.str "keep")) (qA (qD L3.qm (qC (Dt.int 996)) (qD qj (qB 8) (qC (Dt.int 4)))) (qA (qB 9) qE))))) qG)))))))))))
abbrev qA4:TSD:=(tseq (qO (qAE (qB 0) qAK (qAA (qC (Dt.int 6)))) (qAS 6 (qX (qI 3) (qX (qI 4) (qX (qI 5) (qX (qI 6) (qX (qI 7) (qX (qI 8) qBj)))))))) (tseq (qO (qD qj (qB 4) (qB 2)) (qI 4)) (tseq (qO (qD qj (qB 5) (qB 2)) (qI 5)) (tseq (qO (qD qj (qB 6) (qB 2)) (qI 6)) (tseq (qO (qD L3.qm (qB 2) (qD qj (qD qJ (qB 0) (qC (Dt.int 1))) (qD L3.qAe (qB 1) (qB 2)))) (qI 9)) prT)))))
abbrev irT:TSD:=(tseq (qa (qH (qD (qAD fun i j=>decide (i<j)) (qB 3) (qC (Dt.int 4)))) (tseq (qP (qz (qA (qZ (qA (qC (Dt.str "get")) (qA (qB 4) (qA (qB 5) (qA (qB 6) (qA (qB 9) qE)))))) qE))) qG) qG) (tseq (qa (qH (qD (qAD fun i j=>decide (i<j)) (qB 3) (qC (Dt.int 8)))) (tseq (qP (qz (qA (qZ (qA (qC (Dt.str "set")) (qA (qB 4) (qA (qB 5) (qA (qB 6) (qA (qB 9) (qA (qB 10) qE))))))) qE))) qG) qG) (tseq (qa (qH (qD (qAD fun i j=>decide (i<j)) (qB 3) (qC (Dt.int 12)))) (tseq (qP (qz (qA (qZ (qA (qC (Dt.str "div")) (qA (qB 4) (qA (qB 5) (qA (qB 6) (qA (qB 9) qE)))))) qE))) qG) qG) (tseq (qa (qH (qD (qAD fun i j=>decide (i<j)) (qB 3) (qC (Dt.int 14)))) (tseq (qP (qz (qA (qZ (qA (qC (Dt.str "tell")) (qA (qB 4) qE))) qE))) qG) qG) (tseq (qa (qH (qD (qAD fun i j=>decide (i<j)) (qB 3) (qC (Dt.int 17)))) (tseq (qP (qz (qA (qZ (qA (qC (Dt.str "hear")) (qA (qB 4) qE))) qE))) qG) qG) (tseq (qP (qz (qA (qZ (qA (qC (Dt.str "num")) (qA (qB 5) (qA (qB 8) qE)))) (qA (qZ (qA (qC (Dt.str "right")) (qA (qB 4) (qA (qB 5) (qA (qB 9) qE))))) qE)))) qG))))))
abbrev qBC:TSD:=(tseq (qO (qAE (qB 0) qAK (qAA (qC (Dt.int 6)))) (qAS 6 (qX (qI 3) (qX (qI 4) (qX (qI 5) (qX (qI 6) (qX (qI 7) (qX (qI 8) qBj)))))))) (tseq (qO (qD qj (qB 4) (qB 1)) (qI 4)) (tseq (qO (qD qj (qB 5) (qB 1)) (qI 5)) (tseq (qO (qD qj (qB 6) (qB 1)) (qI 6)) (tseq (qO (qD qj (qD qJ (qB 0) (qC (Dt.int 6))) (qB 2)) (qI 9)) (tseq (qO (qD qj (qD qJ (qB 0) (qC (Dt.int 7))) (qB 2)) (qI 10)) irT))))))
theorem qG0 {N M:Nat} {y:Dt} {n a:Int} (ha:isN N a) (hn:qAJ n) (hy:y∈[Dt.int n,.int (n%140),.int (n%8),.int (65535 - n%3)]):∃ v,y = .int v∧TyP N M ⟨"num",[a,v]⟩:=by
  have hn0:=hn.1
  have hn1:=hn.2
  simp only [List.mem_cons,List.not_mem_nil,or_false] at hy
  rcases hy with rfl | rfl | rfl | rfl
  · exact⟨_,rfl,.num _ _ ha hn⟩
  · k_dat 0"r85"
  · k_dat 0"r85"
  · k_dat 0"r85"
theorem qRR {Pd:VD} {st:Sto} {p many numbers:Nat} {w:Nat} {a b c n k t:Int} (hw:w<20) (ha:isN numbers a) (hb:isN numbers b) (hc:isN numbers c) (hn:qAJ n) (hk:0≤k∧k<8) (ht:isT numbers many t) (hP:∀ r st',qU st st'→TyP numbers many r→Pd (qS r) st'):prT (Ed Pd) (RPl p many numbers (w:Int) a b c n k t) st:=by
  have z1:∀ m:Nat,m≤10→m≤sizeLine:=fun m hm=>by rw [sizeLine_eq];omega
  unfold prT
  rcases w with _ | _ | _ | _ | _ | _ | _ | _ | _ | _ | _ | _ | _ | _ | _ | _ | _ | _ | _ | _ | w
  · k_dat 0"r3"
    k_dat 0"r9"
    refine qv ?_
    k_dat 0"r86"
    refine qMo qK fun y hy=>?_
    obtain⟨v,rfl,tv⟩:=qG0 (M:=many) ha hn hy
    k_dat 0"r87"
  · k_dat 0"r3"
    k_dat 0"r9"
    refine qv ?_
    k_dat 0"r86"
    refine qMo qK fun y hy=>?_
    obtain⟨v,rfl,tv⟩:=qG0 (M:=many) ha hn hy
    k_dat 0"r87"
  · k_dat 0"r3"
    k_dat 0"r9"
    refine qv ?_
    k_dat 0"r86"
    refine qMo qK fun y hy=>?_
    obtain⟨v,rfl,tv⟩:=qG0 (M:=many) ha hn hy
    k_dat 0"r87"
  · k_dat 0"r3"
    refine skp (fun P hp=>hp) ?_
    k_dat 0"r42"
    refine qv ?_
    exact⟨z1 3 (by decide),hP ⟨"box",[a,k]⟩ _ (.refl _) (.box _ _ ha hk)⟩
  · k_dat 0"r3"
    k_dat 0"r5"
    k_dat 0"r9"
    refine qv ?_
    refine⟨z1 3 (by decide),?_⟩
    k_dat 0"r14"
    k_dat 0"r71"
    refine ixV (j:=0) (xs:=[Dt.str "add",Dt.str "sub",Dt.str "mul"]) qK rfl ?_
    exact⟨z1 4 (by decide),hP ⟨"add",[a,b,c]⟩ _ (.app _ _) (.two .add _ _ _ (.inl rfl) ha hb hc)⟩
  · k_dat 0"r3"
    k_dat 0"r5"
    k_dat 0"r9"
    refine qv ?_
    refine⟨z1 3 (by decide),?_⟩
    k_dat 0"r14"
    k_dat 0"r72"
    refine ixV (j:=1) (xs:=[Dt.str "add",Dt.str "sub",Dt.str "mul"]) qK rfl ?_
    exact⟨z1 4 (by decide),hP ⟨"sub",[a,b,c]⟩ _ (.app _ _) (.two .sub _ _ _ (.inr (.inl rfl)) ha hb hc)⟩
  · k_dat 0"r3"
    k_dat 0"r5"
    k_dat 0"r9"
    refine qv ?_
    refine⟨z1 3 (by decide),?_⟩
    k_dat 0"r14"
    show qJ (.lst st.length) (.int ((2:Nat):Int)) _ _
    refine ixV (j:=2) (xs:=[Dt.str "add",Dt.str "sub",Dt.str "mul"]) qK rfl ?_
    exact⟨z1 4 (by decide),hP ⟨"mul",[a,b,c]⟩ _ (.app _ _) (.two .mul _ _ _ (.inr (.inr rfl)) ha hb hc)⟩
  · k_dat 0"r3"
    k_dat 0"r5"
    k_dat 0"r42"
    refine qv ?_
    exact⟨by decide,z1 3 (by decide),hP ⟨"load",[a,k%4]⟩ _ (.refl _) (.load _ _ ha ⟨by omega,by omega⟩)⟩
  · k_dat 0"r3"
    k_dat 0"r5"
    k_dat 0"r42"
    refine qv ?_
    exact⟨by decide,z1 3 (by decide),hP ⟨"keep",[k%4,a]⟩ _ (.refl _) (.keep _ _ ⟨by omega,by omega⟩ ha)⟩
  · k_dat 0"r3"
    k_dat 0"r5"
    k_dat 0"r9"
    refine qv ?_
    refine⟨z1 4 (by decide),?_⟩
    k_dat 0"r14"
    k_dat 0"r71"
    refine ixV (j:=0) (xs:=[Dt.str "over",Dt.str "under",Dt.str "wide",Dt.str "rest"]) qK rfl ?_
    exact⟨z1 4 (by decide),hP ⟨"over",[t,b,c]⟩ _ (.app _ _) (.twoT .over _ _ _ (by rintro (h | h | h)<;>cases h) ht hb hc)⟩
  · k_dat 0"r3"
    k_dat 0"r5"
    k_dat 0"r9"
    refine qv ?_
    refine⟨z1 4 (by decide),?_⟩
    k_dat 0"r14"
    k_dat 0"r72"
    refine ixV (j:=1) (xs:=[Dt.str "over",Dt.str "under",Dt.str "wide",Dt.str "rest"]) qK rfl ?_
    exact⟨z1 4 (by decide),hP ⟨"under",[t,b,c]⟩ _ (.app _ _) (.twoT .under _ _ _ (by rintro (h | h | h)<;>cases h) ht hb hc)⟩
  · k_dat 0"r3"
    k_dat 0"r5"
    k_dat 0"r9"
    refine qv ?_
    refine⟨z1 4 (by decide),?_⟩
    k_dat 0"r14"
    show qJ (.lst st.length) (.int ((2:Nat):Int)) _ _
    refine ixV (j:=2) (xs:=[Dt.str "over",Dt.str "under",Dt.str "wide",Dt.str "rest"]) qK rfl ?_
    exact⟨z1 4 (by decide),hP ⟨"wide",[t,b,c]⟩ _ (.app _ _) (.twoT .wide _ _ _ (by rintro (h | h | h)<;>cases h) ht hb hc)⟩
  · k_dat 0"r3"
    k_dat 0"r5"
    k_dat 0"r9"
    refine qv ?_
    refine⟨z1 4 (by decide),?_⟩
    k_dat 0"r14"
    show qJ (.lst st.length) (.int ((3:Nat):Int)) _ _
    refine ixV (j:=3) (xs:=[Dt.str "over",Dt.str "under",Dt.str "wide",Dt.str "rest"]) qK rfl ?_
    exact⟨z1 4 (by decide),hP ⟨"rest",[t,b,c]⟩ _ (.app _ _) (.twoT .rest _ _ _ (by rintro (h | h | h)<;>cases h) ht hb hc)⟩
  · k_dat 0"r3"
    k_dat 0"r5"
    k_dat 0"r9"
    refine qv ?_
    refine⟨z1 2 (by decide),?_⟩
    k_dat 0"r14"
    k_dat 0"r71"
    refine ixV (j:=0) (xs:=[Dt.str "nought",Dt.str "high"]) qK rfl ?_
    exact⟨z1 3 (by decide),hP ⟨"nought",[t,b]⟩ _ (.app _ _) (.nought _ _ ht hb)⟩
  · k_dat 0"r3"
    k_dat 0"r5"
    k_dat 0"r9"
    refine qv ?_
    refine⟨z1 2 (by decide),?_⟩
    k_dat 0"r14"
    k_dat 0"r72"
    refine ixV (j:=1) (xs:=[Dt.str "nought",Dt.str "high"]) qK rfl ?_
    exact⟨z1 3 (by decide),hP ⟨"high",[t,b]⟩ _ (.app _ _) (.high _ _ ht hb)⟩
  · k_dat 0"r3"
    k_dat 0"r5"
    k_dat 0"r42"
    refine qv ?_
    exact⟨by decide,z1 3 (by decide),hP ⟨"mark",[t,k%3]⟩ _ (.refl _) (.mark _ _ ht (by omega))⟩
  · k_dat 0"r3"
    k_dat 0"r5"
    k_dat 0"r9"
    refine qv ?_
    refine⟨z1 2 (by decide),?_⟩
    k_dat 0"r14"
    k_dat 0"r71"
    refine ixV (j:=0) (xs:=[Dt.str "yes",Dt.str "no"]) qK rfl ?_
    exact⟨z1 2 (by decide),hP ⟨"yes",[t]⟩ _ (.app _ _) (.yes _ ht)⟩
  · k_dat 0"r3"
    k_dat 0"r5"
    k_dat 0"r9"
    refine qv ?_
    refine⟨z1 2 (by decide),?_⟩
    k_dat 0"r14"
    k_dat 0"r72"
    refine ixV (j:=1) (xs:=[Dt.str "yes",Dt.str "no"]) qK rfl ?_
    exact⟨z1 2 (by decide),hP ⟨"no",[t]⟩ _ (.app _ _) (.no _ ht)⟩
  · k_dat 0"r3"
    k_dat 0"r5"
    k_dat 0"r42"
    refine qv ?_
    exact⟨by decide,z1 3 (by decide),hP ⟨"load",[t,996+k%4]⟩ _ (.refl _) (.loadT _ _ ht ⟨by omega,by omega⟩)⟩
  · k_dat 0"r3"
    k_dat 0"r5"
    refine qv ?_
    exact⟨by decide,z1 3 (by decide),hP ⟨"keep",[996+k%4,t]⟩ _ (.refl _) (.qFk _ _ ⟨by omega,by omega⟩ ht)⟩
  · omega
theorem qGo {N:Nat} {x:Int} (h:1≤N):isN N (x%(N:Int)):=⟨Int.emod_nonneg _ (by omega),Int.emod_lt_of_pos _ (by omega)⟩
theorem qPk {N M:Nat} {x:Int} (h:N<M):isT N M ((N:Int)+x%((M:Int) - (N:Int))):=by
  have h0:=Int.emod_nonneg x (show (M:Int) - (N:Int)≠0 by omega)
  have h1:=Int.emod_lt_of_pos x (show 0<(M:Int) - (N:Int) by omega)
  exact⟨by omega,by omega⟩
theorem qDX {ds:List Dt} {st:Sto} {Pd:VD} (h:qBE ds st Pd):qA4 (Ed Pd) (qV ["parts", "many", "numbers", "word", "one", "two", "three", "number", "k", "truth"] ds) st:=by
  obtain⟨p,many,numbers,ps,rfl,hp,hpin,sz,hP⟩:=h
  have n1:=sz.n1
  have n2:=sz.nm
  obtain⟨p0,p1,p2,p3,p4,p5,p6,p7,rfl,w20,b4,b5⟩:=qOS hpin
  show qA4 (Ed Pd) [some (.lst p),some (.int (many:Int)),some (.int (numbers:Int)),none,none,none,none,none,none,none] st
  refine qv ?_
  simp only [qO,qAE,qB,qAK,qAA,qC,List.getElem?_cons_zero,hp]
  k_dat 0"r132"
  rw [hc]
  have x1:qU st (st++[SO.rw ([p0,p1,p2,p3,p4,p5].map Dt.int)]):=.app _ _
  have hp1:=x1 _ _ hp
  have hsq:qd (st++[SO.rw ([p0,p1,p2,p3,p4,p5].map Dt.int)]) (.lst st.length)=some ([p0,p1,p2,p3,p4,p5].map Dt.int):=by
    show ((st++[SO.rw ([p0,p1,p2,p3,p4,p5].map Dt.int)])[st.length]?).map SO.items=_
    rw [qK];rfl
  unfold qAS
  rw [hsq]
  generalize st++[SO.rw ([p0,p1,p2,p3,p4,p5].map Dt.int)]=s1 at x1 hp1 hsq
  refine⟨rfl,?_⟩
  refine qSn ?_
  show tseq _ _ (Ed Pd) [some (.lst p),some (.int (many:Int)),some (.int (numbers:Int)),some (.int p0),some (.int p1),some (.int p2),some (.int p3),some (.int p4),some (.int p5),none] s1
  k_dat 0"r32"
  k_dat 0"r32"
  k_dat 0"r32"
  refine qk ?_
  simp only [qD,qB,qC,L3.qm,L3.qAe,qj,List.getElem?_cons_zero,List.getElem?_cons_succ,List.set_cons_succ,List.set_cons_zero]
  refine ixV (j:=1) (d:=.int p1) hp1 rfl ?_
  refine⟨by show (0:Int)<(many:Int) - (numbers:Int);omega,?_⟩
  obtain⟨w,hw,w2⟩:∃ w:Nat,p0=(w:Int)∧w<20:=⟨p0.toNat,by omega,by omega⟩
  subst hw
  exact qRR w2 (qGo n1) (qGo n1) (qGo n1) b4 b5 (qPk n2) fun r s' hx hr=>hP r s' (x1.trans hx) hr
theorem qRx {Pd:VD} {st:Sto} {p numbers exits:Nat} {w a b c n k:Int} {e f:Nat} (ha:isN numbers a) (hb:isN numbers b) (hc:isN numbers c) (hk:0≤k∧k<8) (he:e<exits) (hf:f<exits) (hP:∀ rs st' n,qU st st'→st'[n]? = some (.rw (rs.map qS))→(∀ M,Body numbers M exits true rs)→rs.length≤2→Pd (.lst n) st'):irT (Ed Pd) (RI p numbers exits w a b c n k (e:Int) (f:Int)) st:=by
  have z1:∀ m:Nat,m≤10→m≤sizeLine:=fun m hm=>by rw [sizeLine_eq];omega
  have one:∀ r:Rw,TyI numbers exits r→∀ M,Body numbers M exits true [r]:=fun r hr M=>.item r [] rfl hr .nil
  unfold irT
  refine qBO (b:=decide (w<4)) (st':=st) (fun P hp=>hp) (fun _=>?_) fun _=>?_
  · refine qv ?_
    exact⟨z1 5 (by decide),z1 1 (by decide),hP [⟨"get",[a,b,c,(e:Int)]⟩] _ _ (.app _ _) qK (one _ (.get _ _ _ _ ha hb hc he)) (by simp)⟩
  refine qBO (b:=decide (w<8)) (st':=st) (fun P hp=>hp) (fun _=>?_) fun _=>?_
  · refine qv ?_
    exact⟨z1 6 (by decide),z1 1 (by decide),hP [⟨"set",[a,b,c,(e:Int),(f:Int)]⟩] _ _ (.app _ _) qK (one _ (.set _ _ _ _ _ ha hb hc he hf)) (by simp)⟩
  refine qBO (b:=decide (w<12)) (st':=st) (fun P hp=>hp) (fun _=>?_) fun _=>?_
  · refine qv ?_
    exact⟨z1 5 (by decide),z1 1 (by decide),hP [⟨"div",[a,b,c,(e:Int)]⟩] _ _ (.app _ _) qK (one _ (.div _ _ _ _ ha hb hc he)) (by simp)⟩
  refine qBO (b:=decide (w<14)) (st':=st) (fun P hp=>hp) (fun _=>?_) fun _=>?_
  · refine qv ?_
    exact⟨z1 2 (by decide),z1 1 (by decide),hP [⟨"tell",[a]⟩] _ _ (.app _ _) qK (one _ (.tell _ ha)) (by simp)⟩
  refine qBO (b:=decide (w<17)) (st':=st) (fun P hp=>hp) (fun _=>?_) fun _=>?_
  · refine qv ?_
    exact⟨z1 2 (by decide),z1 1 (by decide),hP [⟨"hear",[a]⟩] _ _ (.app _ _) qK (one _ (.hear _ ha)) (by simp)⟩
  · refine qv ?_
    exact⟨z1 3 (by decide),z1 4 (by decide),z1 2 (by decide),hP [⟨"num",[b,k]⟩,⟨"right",[a,b,(e:Int)]⟩] _ _ (.app _ _) qK (fun M=>.right _ _ _ _ _ rfl ha hb hk he .nil) (by simp)⟩
theorem qDs {ds:List Dt} {st:Sto} {Pd:VD} (h:qDW ds st Pd):qBC (Ed Pd) (qV ["parts", "numbers", "exits", "word", "one", "two", "three", "number", "k", "first", "then"] ds) st:=by
  obtain⟨p,numbers,exits,ps,rfl,hp,hpin,n1,n2,hP⟩:=h
  obtain⟨p0,p1,p2,p3,p4,p5,p6,p7,rfl,w20,b4,b5⟩:=qOS hpin
  show qBC (Ed Pd) [some (.lst p),some (.int (numbers:Int)),some (.int (exits:Int)),none,none,none,none,none,none,none,none] st
  refine qv ?_
  simp only [qO,qAE,qB,qAK,qAA,qC,List.getElem?_cons_zero,hp]
  k_dat 0"r132"
  rw [hc]
  have x1:qU st (st++[SO.rw ([p0,p1,p2,p3,p4,p5].map Dt.int)]):=.app _ _
  have hp1:=x1 _ _ hp
  have hsq:qd (st++[SO.rw ([p0,p1,p2,p3,p4,p5].map Dt.int)]) (.lst st.length)=some ([p0,p1,p2,p3,p4,p5].map Dt.int):=by
    show ((st++[SO.rw ([p0,p1,p2,p3,p4,p5].map Dt.int)])[st.length]?).map SO.items=_
    rw [qK];rfl
  unfold qAS
  rw [hsq]
  generalize st++[SO.rw ([p0,p1,p2,p3,p4,p5].map Dt.int)]=s1 at x1 hp1 hsq
  refine⟨rfl,?_⟩
  refine qSY ?_
  show tseq _ _ (Ed Pd) [some (.lst p),some (.int (numbers:Int)),some (.int (exits:Int)),some (.int p0),some (.int p1),some (.int p2),some (.int p3),some (.int p4),some (.int p5),none,none] s1
  k_dat 0"r32"
  k_dat 0"r32"
  k_dat 0"r32"
  refine qk ?_
  k_dat 0"r133"
  refine ixV (j:=6) (d:=.int p6) hp1 rfl ?_
  refine⟨by show (0:Int)<(exits:Int);omega,?_⟩
  refine qk ?_
  k_dat 0"r133"
  refine ixV (j:=7) (d:=.int p7) hp1 rfl ?_
  refine⟨by show (0:Int)<(exits:Int);omega,?_⟩
  have m6:=Int.emod_nonneg p6 (show (exits:Int)≠0 by omega)
  have m6':=Int.emod_lt_of_pos p6 (show (0:Int)<(exits:Int) by omega)
  have m7:=Int.emod_nonneg p7 (show (exits:Int)≠0 by omega)
  have m7':=Int.emod_lt_of_pos p7 (show (0:Int)<(exits:Int) by omega)
  obtain⟨e,he,e1⟩:∃ e:Nat,p6%(exits:Int)=(e:Int)∧e<exits:=⟨(p6%(exits:Int)).toNat,by omega,by omega⟩
  obtain⟨f,hf,f1⟩:∃ f:Nat,p7%(exits:Int)=(f:Int)∧f<exits:=⟨(p7%(exits:Int)).toNat,by omega,by omega⟩
  rw [he,hf]
  exact qRx (qGo n1) (qGo n1) (qGo n1) b5 e1 f1 fun rs s' n hx hr hb hl=>hP rs s' n (x1.trans hx) hr hb hl
end KT
namespace K85
open PySem PySem.Spec PyProof.Rows L2 L3 K02
theorem z10:∀ m:Nat,m≤20→m≤sizeLine:=fun m hm=>by rw [sizeLine_eq];omega
theorem ixP {s:Sto} {p j:Nat} {ps:List Int} {P:VD} (hp:s[p]? = some (.rw (ps.map .int))) (hj:j<ps.length) (h:∀ v:Int,P (.int v) s):qJ (.lst p) (.int (j:Int)) s P :=
  ixV (d:=.int ps[j]) hp (by rw [List.getElem?_map,List.getElem?_eq_getElem hj];rfl) (h _)
noncomputable abbrev RX (p numbers many:Nat) (h pl b m:Option Dt):Rho:=[some (.lst p),some (.int (numbers:Int)),some (.int (many:Int)),h,pl,b,m]
end K85
namespace KL
open PySem PySem.Spec PyProof.Rows L2 L3 KS K02 K85 K06
abbrev lsH:TSD:=(tseq (qP (qZ (qA (qD qj (qD qJ (qB 2) (qC (Dt.int 2))) (qD qJ (qz (qA (qC (Dt.int 65536)) (qA (qC (Dt.int 200)) qE))) (qD qj (qD qAk (qD qJ (qB 2) (qC (Dt.int 4))) (qC (Dt.int 2))) (qC (Dt.int 2))))) (qA (qF qi (qA (qB 7) qE)) (qA (qF qi (qA (qB 8) qE)) (qA (qB 9) (qA (qF qi (qA (qB 5) qE)) (qA (qF qi (qA (qB 4) qE)) qE)))))))) qG)
abbrev lsG:TSD:=(tseq (qO (qD qJ (qz (qA (qC Dt.non) (qA (qZ (qA (qD qJ (qB 2) (qC (Dt.int 3))) (qA (qF qi (qA (qy (qA3 (qAE (qB 6) (qAA (qC (Dt.int 11))) qAK)) (fun x st P=>P true st) (qD (qg false) (qB 0) (qC (Dt.int 1))) []) qE)) qE))) qE))) (qD qj (qD qJ (qB 2) (qC (Dt.int 4))) (qC (Dt.int 2)))) (qI 9)) lsH)
abbrev lsF:TSD:=(tseq (qO (qy (qA3 (qAE (qB 6) (qAA (qC (Dt.int 8))) (qAA (qC (Dt.int 11))))) (fun x st P=>P true st) (qD (qg false) (qB 0) (qC (Dt.int 1))) []) (qI 8)) lsG)
abbrev lsE:TSD:=(tseq (qO (qy (qA3 (qAE (qB 6) qAK (qAA (qC (Dt.int 8))))) (fun x st P=>P true st) (qF KL.qDo (qA (qB 0) qE)) []) (qI 7)) lsF)
abbrev lsD:TSD:=(tseq (qO (qF KL.qAH (qA (qF K85.qo (qA (qB 0) (qA (qC (Dt.int 3)) qE))) (qA (qB 1) (qA (qD L3.qm (qD qAf (qz (qA (qC (Dt.int 262144)) qE)) (qC (Dt.int 8))) (qD qAf (qz (qA (qC (Dt.int 2)) qE)) (qC (Dt.int 6)))) qE)))) (qI 6)) lsE)
abbrev lsC:TSD:=(tseq (qa (qH (qD (qAD fun i j=>decide (j<i)) (qD qJ (qB 2) (qC (Dt.int 5))) (qC (Dt.int 0)))) (tseq (qO (qF KL.qAH (qA (qF K85.qo (qA (qB 0) (qA (qC (Dt.int 2)) qE))) (qA (qB 1) (qA (qD qAf (qz (qA (qC (Dt.int 8)) qE)) (qD qAk (qB 3) (qC (Dt.int 8)))) qE)))) (qI 5)) qG) qG) lsD)
abbrev lsB:TSD:=(tseq (qO (qF KL.qAH (qA (qF K85.qo (qA (qB 0) (qA (qC (Dt.int 1)) qE))) (qA (qB 1) (qA (qD qAf (qz (qA (qC (Dt.int 65536)) qE)) (qB 3)) qE)))) (qI 4)) (tseq (qO (qD qAf (qz (qA (qC (Dt.int 7)) qE)) (qD qAk (qB 3) (qC (Dt.int 8)))) (qI 5)) lsC))
abbrev qCG:TSD:=(tseq (qO (qF KL.qAH (qA (qF K85.qo (qA (qB 0) (qA (qC (Dt.int 0)) qE))) (qA (qB 1) (qA (qz (qA (qC (Dt.int 2)) (qA (qC (Dt.int 17)) (qA (qC (Dt.int 65536)) (qA (qC (Dt.int 65536)) (qA (qC (Dt.int 8)) (qA (qC (Dt.int 3)) qE))))))) qE)))) (qI 2)) (tseq (qO (qD qAf (qD qJ (qz (qA (qD L3.qm (qC (Dt.int 1)) (qD qj (qD qJ (qB 2) (qC (Dt.int 1))) (qC (Dt.int 16)))) (qA (qD qj (qD qJ (qB 2) (qC (Dt.int 1))) (qC (Dt.int 3))) qE))) (qD qJ (qB 2) (qC (Dt.int 0)))) (qC (Dt.int 8))) (qI 3)) lsB))
theorem qLd {xs:List Int} {k:Nat}:L3.cutD (xs.map Dt.int) (some (k:Int)) none=(xs.drop k).map Dt.int:=by
  unfold L3.cutD
  rw [HT.qFU,HT.qCL,← List.map_drop,List.length_map]
  rcases Nat.le_total k xs.length with h | h
  · rw [Nat.min_eq_left h,List.take_of_length_le (by simp)]
  · rw [Nat.min_eq_right h,List.drop_of_length_le (by simp:xs.length≤xs.length),List.drop_of_length_le h];simp
theorem qNI {xs:List Int} {a b:Nat}:L3.cutD (xs.map Dt.int) (some (a:Int)) (some ((a+b:Nat):Int))=((xs.drop a).take b).map Dt.int:=by
  unfold L3.cutD
  rw [HT.qCL,HT.qCL,← List.map_drop,← List.map_take,List.length_map]
  congr 1
  rcases Nat.le_total a xs.length with h | h
  · rw [Nat.min_eq_left h]
    rcases Nat.le_total (a+b) xs.length with h2 | h2
    · rw [Nat.min_eq_left h2];congr 1;omega
    · rw [Nat.min_eq_right h2,List.take_of_length_le (by simp),List.take_of_length_le (by simp;omega)]
  · rw [Nat.min_eq_right h,List.drop_of_length_le (by omega:xs.length≤xs.length),List.drop_of_length_le h];simp
theorem qSE {items:List Dt} {ok:Sto→Prop} {te:TD} {cρ:Rho} {st:Sto} {Fin:List Dt→Sto→Prop} (Rl:Nat→Dt→Prop) (hok:∀ s,qU st s→ok s) (hl:items.length≤1000)
    (hs:∀ (i:Nat) d s,items[i]? = some d→qU st s→∀ P:VD,(∀ y s',qU s s'→Rl i y→P y s')→te (some d::cρ) s P)
    (hF:∀ ys s',qU st s'→ys.length=items.length→(∀ (i:Nat) y,ys[i]? = some y→Rl i y)→Fin ys s'):qEb items ok (fun x st P=>P true st) te cρ st Fin:=by
  refine⟨fun i ys s=>qU st s∧ys.length=i∧∀ (j:Nat) y,ys[j]? = some y→Rl j y,⟨.refl _,rfl,fun j y hj=>by cases hj⟩,fun i ys s _ h=>hok s h.1,?_,?_⟩
  · rintro i d ys s hd ⟨hx,hyl,hy⟩
    have hil:=(List.getElem?_eq_some_iff.mp hd).1
    refine⟨by rw [hyl,sizeLine_eq];omega,qAy ?_⟩
    refine hs i d s hd hx _ fun y s' x' r=>⟨hx.trans x',by simp [hyl],fun j z hz=>?_⟩
    rcases Nat.lt_trichotomy j ys.length with hj | hj | hj
    · rw [List.getElem?_append_left hj] at hz;exact hy j z hz
    · subst hj
      rw [List.getElem?_concat_length] at hz
      cases hz;rw [hyl];exact r
    · rw [List.getElem?_eq_none (by simp;omega)] at hz;cases hz
  · rintro ys s ⟨hx,hyl,hy⟩
    exact hF ys s hx hyl hy
theorem allI {ys:List Dt} {Q:Int→Prop} (h:∀ (i:Nat) y,ys[i]? = some y→∃ v:Int,y = .int v∧Q v):∃ vs:List Int,ys=vs.map .int∧∀ v∈vs,Q v:=by
  induction ys with
  | nil=>exact⟨[],rfl,fun v hv=>by cases hv⟩
  | cons y ys ih =>
    obtain⟨v,rfl,q⟩:=h 0 _ rfl
    obtain⟨vs,rfl,hv⟩:=ih fun i y hy=>h (i+1) y hy
    refine⟨v::vs,rfl,fun z hz=>?_⟩
    rcases List.mem_cons.mp hz with rfl | hz
    · exact q
    · exact hv z hz
theorem allB {ys:List Dt} (h:∀ (i:Nat) y,ys[i]? = some y→∃ v:Bool,y = .bl v):∃ vs:List Bool,ys=vs.map .bl:=by
  induction ys with
  | nil=>exact⟨[],rfl⟩
  | cons y ys ih =>
    obtain⟨v,rfl⟩:=h 0 _ rfl
    obtain⟨vs,rfl⟩:=ih fun i y hy=>h (i+1) y hy
    exact⟨v::vs,rfl⟩
theorem three {ys:List Dt} (h:∀ (i:Nat) y,ys[i]? = some y→∃ v:Bool,y = .bl v) (hl:ys.length=3):∃ m:M3,ys=[.bl m.1,.bl m.2.1,.bl m.2.2]:=by
  obtain⟨vs,rfl⟩:=allB h
  rw [List.length_map] at hl
  rcases vs with _ | ⟨a,_ | ⟨b,_ | ⟨c,_ | ⟨d,r⟩⟩⟩⟩
  · cases hl
  · cases hl
  · cases hl
  · exact⟨(a,b,c),rfl⟩
  · simp at hl
theorem six {ps:List Int} (h:PIn ps [2,17,65536,65536,8,3]):∃ p0 p1 p2 p3 p4 p5:Int,ps=[p0,p1,p2,p3,p4,p5]∧(0≤p0∧p0<2)∧(0≤p1∧p1<17)∧(0≤p2∧p2<65536)∧(0≤p3∧p3<65536)∧(0≤p4∧p4<8):=by
  obtain⟨hl,hb⟩:=h
  have hl:ps.length=6:=hl
  rcases ps with _ | ⟨p0,_ | ⟨p1,_ | ⟨p2,_ | ⟨p3,_ | ⟨p4,_ | ⟨p5,_ | ⟨p6,r⟩⟩⟩⟩⟩⟩⟩<;>first
    | (simp at hl;done)
    | exact⟨p0,p1,p2,p3,p4,p5,rfl,hb 0 p0 2 rfl rfl,hb 1 p1 17 rfl rfl,hb 2 p2 65536 rfl rfl,hb 3 p3 65536 rfl rfl,hb 4 p4 8 rfl rfl⟩
    | (simp at hl;omega)
noncomputable abbrev RSt (sc:Nat) (way:Int) (n:Nat) (a b c d e f g:Option Dt):Rho:=[some (.lst sc),some (.int way),some (.lst n),a,b,c,d,e,f,g]
theorem of2 {s:Sto} {n:Nat} {a b:Dt} {x:Int} {P:VD} (hn:s[n]? = some (.rw [a,b])) (h0:0≤x) (h1:x<2) (ha:P a s) (hb:P b s):qJ (.lst n) (.int x) s P:=by
  rcases (show x=0∨x=1 by omega) with rfl | rfl
  · exact qFo (j:=0) hn rfl ha
  · exact qFo (j:=1) hn rfl hb
section
variable {sc n:Nat} {way:Int} {p0 p1 p2 p3 p4 p5:Int} {s:Sto} {Pd:VD}
theorem qLt {nb nm nr nc:Nat} {bs rs cs:List Int} {m:M3} {x3 x6:Option Dt} {sv:Option (Int×M3)} (hn:s[n]? = some (.rw ([p0,p1,p2,p3,p4,p5].map .int))) (hb:s[nb]? = some (.rw (bs.map .int))) (hm:s[nm]? = some (.rw [.bl m.1,.bl m.2.1,.bl m.2.2])) (hr:s[nr]? = some (.rw (rs.map .int))) (hc:s[nc]? = some (.rw (cs.map .int))) (h2:0≤p2∧p2<65536)
    (hP:∀ p s',qU s s'→0≤p→p<65536→Pd (GS.mk p bs m sv rs cs).d s'):lsH (Ed Pd) (RSt sc way n x3 (some (.lst nc)) (some (.lst nr)) x6 (some (.lst nb)) (some (.lst nm)) (some (svD sv))) s:=by
  refine qv ?_
  simp only [qP,qZ,qF,qD,qz,qA,qE,qB,qC,List.getElem?_cons_zero,List.getElem?_cons_succ]
  refine qFo (j:=2) hn rfl ?_
  refine⟨by show 2≤sizeLine;rw [sizeLine_eq];omega,?_⟩
  refine qFo (j:=4) (qe hn) rfl ?_
  refine⟨cdiv (by decide) (by decide),by decide,?_⟩
  have fin:∀ (y:Int),0<y→y≤65536→qj (.int p2) (.int y) (s++[SO.rw [.int 65536,.int 200]]) fun d0 s0=>qi [.lst nb] s0 fun d1 s1=>qi [.lst nm] s1 fun d2 s2=>qi [.lst nr] s2 fun d3 s3=>qi [.lst nc] s3 fun d4 s4=>6≤sizeLine∧Pd (.tup [d0,d1,d2,svD sv,d3,d4]) s4:=by
    intro y y0 y1
    refine⟨y0,?_⟩
    have e:∀ (j:Nat) o,s[j]? = some o→qd (s++[SO.rw [.int 65536,.int 200]]) (.lst j)=some o.items:=fun j o h=>by show ((s++_)[j]?).map SO.items=_;rw [qe h];rfl
    simp only [qi,e _ _ hb,e _ _ hm,e _ _ hr,e _ _ hc]
    refine⟨by rw [sizeLine_eq];omega,?_⟩
    refine hP (p2%y) _ (.app _ _) (Int.emod_nonneg _ (by omega)) ?_
    have:=Int.emod_lt_of_pos p2 y0
    omega
  refine of2 qK (Int.emod_nonneg _ (by decide)) (Int.emod_lt_of_pos _ (by decide)) ?_ ?_
  · exact fin 65536 (by decide) (by decide)
  · exact fin 200 (by decide) (by decide)
theorem qOT {xs:List Int} {ok:Sto→Prop} {Fin:List Dt→Sto→Prop} (hok:∀ s',qU s s'→ok s') (hl:xs.length≤1000) (hF:∀ ys s',qU s s'→ys.length=xs.length→(∀ (i:Nat) y,ys[i]? = some y→∃ v:Bool,y = .bl v)→Fin ys s'):qEb (xs.map Dt.int) ok (fun x st P=>P true st) (qD (qg false) (qB 0) (qC (Dt.int 1))) [] s Fin:=by
  refine qSE (fun _ y=>∃ v:Bool,y = .bl v) hok (by rw [List.length_map];exact hl) (fun i d s' hd hx P hp=>?_) fun ys s' x yl yr=>hF ys s' x (by rw [yl,List.length_map]) yr
  obtain⟨x,-,rfl⟩:∃ x,xs[i]? = some x∧.int x=d:=by simpa using hd
  exact⟨rfl,rfl,hp _ _ (.refl _) ⟨_,rfl⟩⟩
theorem qAa {s:Sto} {j:Nat} {xs:List Dt} (h:s[j]? = some (.rw xs)):qd s (.lst j)=some xs:=by show (s[j]?).map SO.items=_;rw [h];rfl
theorem qQO {nb nm nr nc np:Nat} {bs rs cs ps:List Int} {m:M3} {x3:Option Dt} (hn:s[n]? = some (.rw ([p0,p1,p2,p3,p4,p5].map .int))) (hb:s[nb]? = some (.rw (bs.map .int))) (hm:s[nm]? = some (.rw [.bl m.1,.bl m.2.1,.bl m.2.2])) (hr:s[nr]? = some (.rw (rs.map .int))) (hc:s[nc]? = some (.rw (cs.map .int))) (hp:s[np]? = some (.rw (ps.map .int))) (pl:ps.length=14) (h2:0≤p2∧p2<65536)
    (hP:∀ p sv s',qU s s'→0≤p→p<65536→Pd (GS.mk p bs m sv rs cs).d s'):lsG (Ed Pd) (RSt sc way n x3 (some (.lst nc)) (some (.lst nr)) (some (.lst np)) (some (.lst nb)) (some (.lst nm)) none) s:=by
  refine qk ?_
  simp only [qZ,qF,qD,qz,qA,qE,qB,qC,qy,qA3,qAE,qAA,qAK,qCK,List.map_nil,List.getElem?_cons_zero,List.getElem?_cons_succ]
  refine qFo (j:=3) hn rfl ?_
  simp only [hp,SO.items]
  rw [show (11:Int)=((11:Nat):Int) from rfl,qLd,qAa qK]
  refine qOT (fun s' hx=>by rw [qAa (hx _ _ qK)]) (by simp;omega) fun ys s' x yl yr=>?_
  have hx:qU s s':=fun j o hj=>x _ _ (qe hj)
  obtain⟨m',rfl⟩:=three yr (by rw [yl];simp [pl])
  simp only [qi,qAa qK]
  refine⟨z10 2 (by decide),z10 2 (by decide),?_⟩
  refine qFo (j:=4) (qe (qe (hx _ _ hn))) rfl ?_
  k_dat 0"r21"
  have hx2:∀ a b:SO,qU s (s'++[a]++[b]):=fun a b j o hj=>qe (qe (hx _ _ hj))
  refine of2 qK (Int.emod_nonneg _ (by decide)) (Int.emod_lt_of_pos _ (by decide)) ?_ ?_
  · refine qLt (sv:=none) (hx2 _ _ _ _ hn) (hx2 _ _ _ _ hb) (hx2 _ _ _ _ hm) (hx2 _ _ _ _ hr) (hx2 _ _ _ _ hc) h2 fun p s2 x2=>hP p _ s2 ?_
    exact fun j o hj=>x2 _ _ (hx2 _ _ _ _ hj)
  · refine qLt (sv:=some (p3,m')) (hx2 _ _ _ _ hn) (hx2 _ _ _ _ hb) (hx2 _ _ _ _ hm) (hx2 _ _ _ _ hr) (hx2 _ _ _ _ hc) h2 fun p s2 x2=>hP p _ s2 ?_
    exact fun j o hj=>x2 _ _ (hx2 _ _ _ _ hj)
theorem qPZ {nb nr nc np:Nat} {bs rs cs ps:List Int} {x3:Option Dt} (hn:s[n]? = some (.rw ([p0,p1,p2,p3,p4,p5].map .int))) (hb:s[nb]? = some (.rw (bs.map .int))) (hr:s[nr]? = some (.rw (rs.map .int))) (hc:s[nc]? = some (.rw (cs.map .int))) (hp:s[np]? = some (.rw (ps.map .int))) (pl:ps.length=14) (h2:0≤p2∧p2<65536)
    (hP:∀ p m sv s',qU s s'→0≤p→p<65536→Pd (GS.mk p bs m sv rs cs).d s'):lsF (Ed Pd) (RSt sc way n x3 (some (.lst nc)) (some (.lst nr)) (some (.lst np)) (some (.lst nb)) none none) s:=by
  refine qk ?_
  k_dat 0"r134"
  simp only [hp,SO.items]
  rw [show (11:Int)=((8+3:Nat):Int) from rfl,show (8:Int)=((8:Nat):Int) from rfl,qNI,qAa qK]
  refine qOT (fun s' hx=>by rw [qAa (hx _ _ qK)]) (by simp;omega) fun ys s' x yl yr=>?_
  obtain⟨m,rfl⟩:=three yr (by rw [yl];simp [pl])
  have hx:∀ a:SO,qU s (s'++[a]):=fun a j o hj=>qe (x _ _ (qe hj))
  refine qQO (m:=m) (hx _ _ _ hn) (hx _ _ _ hb) qK (hx _ _ _ hr) (hx _ _ _ hc) (hx _ _ _ hp) pl h2 fun p sv s2 x2=>hP p m sv s2 ?_
  exact fun j o hj=>x2 _ _ (hx _ _ _ hj)
theorem qO3 {nr nc np:Nat} {rs cs ps:List Int} {x3:Option Dt} (hn:s[n]? = some (.rw ([p0,p1,p2,p3,p4,p5].map .int))) (hr:s[nr]? = some (.rw (rs.map .int))) (hc:s[nc]? = some (.rw (cs.map .int))) (hp:s[np]? = some (.rw (ps.map .int))) (pl:ps.length=14) (h2:0≤p2∧p2<65536)
    (hP:∀ p bs m sv s',qU s s'→0≤p→p<65536→bs.length=8→(∀ v∈bs,0≤v∧v<65536)→Pd (GS.mk p bs m sv rs cs).d s'):lsE (Ed Pd) (RSt sc way n x3 (some (.lst nc)) (some (.lst nr)) (some (.lst np)) none none none) s:=by
  refine qk ?_
  k_dat 0"r134"
  simp only [hp,SO.items]
  rw [show (8:Int)=((8:Nat):Int) from rfl,K85.qEE,qAa qK]
  refine qSE (fun _ y=>∃ v:Int,y = .int v∧0≤v∧v<65536) (fun s' hx=>by rw [qAa (hx _ _ qK)]) (by simp;omega) (fun i d s' hd hx P hq=>?_) fun ys s' x yl yr=>?_
  · obtain⟨v,-,rfl⟩:∃ v,(ps.take 8)[i]? = some v∧.int v=d:=by
      rw [List.getElem?_map] at hd
      cases h:(ps.take 8)[i]? with
      | none=>rw [h] at hd;cases hd
      | some v=>rw [h] at hd;exact⟨v,rfl,by simpa using hd⟩
    exact⟨v,rfl,fun v s' x h0 h1=>hq _ _ x ⟨v,rfl,h0,h1⟩⟩
  obtain⟨bs,rfl,hb⟩:=allI yr
  have hx:∀ a:SO,qU s (s'++[a]):=fun a j o hj=>qe (x _ _ (qe hj))
  refine qPZ (bs:=bs) (hx _ _ _ hn) qK (hx _ _ _ hr) (hx _ _ _ hc) (hx _ _ _ hp) pl h2 fun p m sv s2 x2 h0 h1=>hP p bs m sv s2 ?_ h0 h1 (by simpa [pl] using yl) hb
  exact fun j o hj=>x2 _ _ (hx _ _ _ hj)
theorem qQ2 {sc:Nat} {ns:List Int} {s:Sto} {ρ:Rho} {k:Nat} {P:VD} (h0:ρ[0]? = some (some (.lst sc))) (hs:s[sc]? = some (.ro (ns.map .int))) (h:∀ c:Int,P (.int c) s):qF K85.qo (qA (qB 0) (qA (qC (Dt.int (k:Int))) qE)) ρ s P:=by
  simp only [qF,qA,qE,qB,qC,h0]
  exact⟨sc,k,ns,rfl,hs,fun c=>h c⟩
theorem qHB {sc:Nat} {way:Int} {ns bs:List Int} {s:Sto} {ρ:Rho} {k:Nat} {tb:TD} {P:VD} (h0:ρ[0]? = some (some (.lst sc))) (h1:ρ[1]? = some (some (.int way))) (hs:s[sc]? = some (.ro (ns.map .int)))
    (hb:∀ Q:VD,(∀ n s',qU s s'→s'[n]? = some (.rw (bs.map .int))→Q (.lst n) s')→tb ρ s Q) (hbs:∀ x∈bs,0<x∧x<1000000) (hl:bs.length≤300)
    (h:∀ (ps:List Int) n s',qU s s'→s'[n]? = some (.rw (ps.map .int))→PIn ps bs→P (.lst n) s'):qF qAH (qA (qF K85.qo (qA (qB 0) (qA (qC (Dt.int (k:Int))) qE))) (qA (qB 1) (qA tb qE))) ρ s P:=by
  refine qQ2 h0 hs fun c=>?_
  refine KM.tv h1 ?_
  refine hb _ fun n s' x hn=>?_
  exact⟨c,way,n,bs,rfl,hn,hbs,hl,fun ps s2 n2 x2 _ g2 pin=>h ps n2 s2 (fun j o hj=>x2 _ _ (x _ _ hj)) g2 pin⟩
theorem qMV {s:Sto} {ρ:Rho} {b:Int} {m:Nat} {tk:TD} {Q:VD} (hk:∀ (P:VD) s',qU s s'→P (.int (m:Int)) s'→tk ρ s' P) (hm:m≤1000) (h:∀ n s',qU s s'→s'[n]? = some (.rw ((List.replicate m b).map .int))→Q (.lst n) s'):qD qAf (qz (qA (qC (Dt.int b)) qE)) tk ρ s Q:=by
  simp only [qD,qz,qA,qE,qC]
  refine⟨z10 1 (by decide),?_⟩
  refine hk _ _ (.app _ _) ?_
  show qAf _ _ _ _
  simp only [qAf]
  rw [qK]
  refine⟨by omega,by omega,by show 1 * (m:Int).toNat≤sizeLine;rw [sizeLine_eq];omega,?_⟩
  refine h _ _ (fun j o hj=>qe (qe hj)) ?_
  rw [qK,List.flatten_replicate_singleton,List.map_replicate,Int.toNat_natCast]
theorem qMg {nr nc:Nat} {rs cs ns:List Int} {x3:Option Dt} (hsc:s[sc]? = some (.ro (ns.map .int))) (hn:s[n]? = some (.rw ([p0,p1,p2,p3,p4,p5].map .int))) (hr:s[nr]? = some (.rw (rs.map .int))) (hc:s[nc]? = some (.rw (cs.map .int))) (h2:0≤p2∧p2<65536)
    (hP:∀ p bs m sv s',qU s s'→0≤p→p<65536→bs.length=8→(∀ v∈bs,0≤v∧v<65536)→Pd (GS.mk p bs m sv rs cs).d s'):lsD (Ed Pd) (RSt sc way n x3 (some (.lst nc)) (some (.lst nr)) none none none none) s:=by
  refine qk ?_
  refine qHB (sc:=sc) (way:=way) (bs:=List.replicate 8 262144++List.replicate 6 2) (k:=3) rfl rfl hsc ?_ ?_ (by decide) fun ps np s' x hp pin=>?_
  · intro Q hQ
    show qD qAf _ _ _ s fun d1 s1=>qD qAf _ _ _ s1 fun d2 s2=>L3.qm d1 d2 s2 Q
    refine qMV (m:=8) (fun P s' _ hp=>hp) (by decide) fun n1 s1 x1 g1=>?_
    refine qMV (m:=6) (fun P s' _ hp=>hp) (by decide) fun n2 s2 x2 g2=>?_
    simp only [L3.qm,x2 _ _ g1,g2]
    refine⟨by rw [sizeLine_eq];simp,?_⟩
    refine hQ _ _ (fun j o hj=>qe (x2 _ _ (x1 _ _ hj))) ?_
    rw [qK,List.map_append]
  · intro x hx
    rcases List.mem_append.mp hx with hx | hx<;>rw [List.eq_of_mem_replicate hx]<;>decide
  · refine qO3 (x _ _ hn) (x _ _ hr) (x _ _ hc) hp (by rw [pin.1];decide) h2 fun p bs m sv s2 x2=>hP p bs m sv s2 ?_
    exact fun j o hj=>x2 _ _ (x _ _ hj)
theorem qPY {nr nc k:Nat} {cs ns:List Int} (hsc:s[sc]? = some (.ro (ns.map .int))) (hn:s[n]? = some (.rw ([p0,p1,p2,p3,p4,p5].map .int))) (hr:s[nr]? = some (.rw ((List.replicate k 7).map .int))) (hc:s[nc]? = some (.rw (cs.map .int))) (hk:k≤16) (h2:0≤p2∧p2<65536)
    (hP:∀ p bs m sv rs s',qU s s'→0≤p→p<65536→bs.length=8→(∀ v∈bs,0≤v∧v<65536)→rs.length=k→(∀ v∈rs,0≤v∧v<8)→Pd (GS.mk p bs m sv rs cs).d s'):lsC (Ed Pd) (RSt sc way n (some (.int ((k * 8:Nat):Int))) (some (.lst nc)) (some (.lst nr)) none none none none) s:=by
  refine qBO (b:=decide (0<p5)) (st':=s) ?_ (fun _=>?_) fun _=>?_
  · intro P hp
    simp only [qH,qD,qB,qC,List.getElem?_cons_zero,List.getElem?_cons_succ]
    refine qFo (j:=5) hn rfl ?_
    exact hp
  · refine qk ?_
    refine qHB (sc:=sc) (way:=way) (bs:=List.replicate k 8) (k:=2) rfl rfl hsc ?_ ?_ (by rw [List.length_replicate];omega) fun ps np s' x hp pin=>?_
    · intro Q hQ
      refine qMV (m:=k) (fun P s' _ hp=>?_) (by omega) hQ
      show qK7 _ _∧P _ s'
      k_dat 0"r73"
      rw [show ((k * 8:Nat):Int) / 8=(k:Int) by omega]
      exact hp
    · intro x hx
      rw [List.eq_of_mem_replicate hx];decide
    · refine qMg (x _ _ hsc) (x _ _ hn) hp (x _ _ hc) h2 fun p bs m sv s2 x2 h0 h1 hb hv=>hP p bs m sv ps s2 (fun j o hj=>x2 _ _ (x _ _ hj)) h0 h1 hb hv (by rw [pin.1,List.length_replicate]) ?_
      exact qHa pin
  · refine qMg hsc hn hr hc h2 fun p bs m sv s2 x2 h0 h1 hb hv=>hP p bs m sv _ s2 x2 h0 h1 hb hv (by rw [List.length_replicate]) ?_
    intro v hv
    rw [List.eq_of_mem_replicate hv];decide
theorem qOh {k:Nat} {ns:List Int} (hsc:s[sc]? = some (.ro (ns.map .int))) (hn:s[n]? = some (.rw ([p0,p1,p2,p3,p4,p5].map .int))) (hk:k≤16) (h2:0≤p2∧p2<65536)
    (hP:∀ (g:GS) s',qU s s'→g.Ok→g.p<65536→Pd g.d s'):lsB (Ed Pd) (RSt sc way n (some (.int ((k * 8:Nat):Int))) none none none none none none) s:=by
  refine qk ?_
  refine qHB (sc:=sc) (way:=way) (bs:=List.replicate (k * 8) 65536) (k:=1) rfl rfl hsc ?_ ?_ (by rw [List.length_replicate];omega) fun ps np s' x hp pin=>?_
  · intro Q hQ
    exact qMV (m:=k * 8) (fun P s' _ hp=>hp) (by omega) hQ
  · intro x hx
    rw [List.eq_of_mem_replicate hx];decide
  refine qk ?_
  refine qMV (m:=k) (fun P s' _ hp=>?_) (by omega) fun nr s1 x1 g1=>?_
  · show qK7 _ _∧P _ s'
    k_dat 0"r73"
    rw [show ((k * 8:Nat):Int) / 8=(k:Int) by omega]
    exact hp
  have hx:qU s s1:=fun j o hj=>x1 _ _ (x _ _ hj)
  have pl:ps.length=k * 8:=by rw [pin.1,List.length_replicate]
  refine qPY (hx _ _ hsc) (hx _ _ hn) g1 (x1 _ _ hp) hk h2 fun p bs m sv rs s2 x2 h0 h1 hb hv rl rv=>?_
  exact hP _ _ (fun j o hj=>x2 _ _ (hx _ _ hj)) ⟨h0,hb,hv,by show ps.length=8 * rs.length;omega,by show ps.length≤128;omega,qHa pin,rv⟩ h1
theorem qGA {ds:List Dt} {st:Sto} {Pd:VD} (h:qE5 ds st Pd):qCG (Ed Pd) (qV ["script", "way", "sizes", "many", "cells", "rights", "parts", "boxes", "marks", "saved"] ds) st:=by
  obtain⟨sc,way,ns,rfl,hsc,hP⟩:=h
  show qCG (Ed Pd) [some (.lst sc),some (.int way),none,none,none,none,none,none,none,none] st
  refine qk ?_
  refine qHB (sc:=sc) (way:=way) (bs:=[2,17,65536,65536,8,3]) (k:=0) rfl rfl hsc ?_ (by decide) (by decide) fun ps n s' x hp pin=>?_
  · intro Q hQ
    refine⟨z10 6 (by decide),?_⟩
    exact hQ _ _ (.app _ _) qK
  obtain⟨p0,p1,p2,p3,p4,p5,rfl,h0,h1,h2,h3,h4⟩:=six pin
  have fin:∀ (v:Int) s1,qU s' s1→0≤v→v≤16→qAf (.int v) (.int 8) s1 fun d s2=>lsB (Ed Pd) (RSt sc way n (some d) none none none none none none) s2:=by
    intro v s1 x1 v0 v1
    refine⟨qCw (by omega) (by omega),?_⟩
    obtain⟨k,rfl⟩:∃ k:Nat,v=(k:Int):=⟨v.toNat,by omega⟩
    rw [show (k:Int) * 8=((k * 8:Nat):Int) by omega]
    exact qOh (x1 _ _ (x _ _ hsc)) (x1 _ _ hp) (by omega) h2 fun g s2 x2=>hP g s2 fun j o hj=>x2 _ _ (x1 _ _ (x _ _ hj))
  refine qk ?_
  simp only [qD,qz,qA,qE,qB,qC,List.set_cons_zero,List.set_cons_succ,List.getElem?_cons_zero,List.getElem?_cons_succ]
  refine qFo (j:=1) hp rfl ?_
  k_dat 0"r21"
  simp only [L3.qm]
  refine qFo (j:=1) hp rfl ?_
  refine⟨by decide,z10 2 (by decide),?_⟩
  refine qFo (j:=0) (qe hp) rfl ?_
  refine of2 qK h0.1 h0.2 ?_ ?_
  · exact fin _ _ (.app _ _) (by omega) (by omega)
  · exact fin _ _ (.app _ _) (by omega) (by omega)
end
end KL
namespace KT
open PySem PySem.Spec PyProof.Rows L2 L3 K02 K85 KM
abbrev qAx:TSD:=(tseq (qO (qy (qAj (qB 1)) (qH (qD (qg false) (qD qDC (qD qLe (qB 1) (qB 0)) (qC (Dt.int 1))) (qC (Dt.int 0)))) (qZ (qA (qC (Dt.str "num")) (qA (qB 0) (qA (qD L3.qm (qD qAf (qC (Dt.int 3)) (qB 0)) (qC (Dt.int 1))) qE)))) [(2, "left_out")]) (qI 3)) (tseq (qO (qD L3.qm (qB 3) (qy (qLJ (qB 1) (qB 0)) (fun x st P=>P true st) (qZ (qA (qC (Dt.str "no")) (qA (qB 0) qE))) [])) (qI 3)) (tseq (qO (qD L3.qm (qB 3) (qy (qAj (qC (Dt.int 4))) (qH (qD (qg false) (qD qDC (qD qLe (qB 1) (qD L3.qm (qC (Dt.int 16)) (qB 0))) (qC (Dt.int 1))) (qC (Dt.int 0)))) (qZ (qA (qC (Dt.str "keep")) (qA (qB 0) (qA (qD qj (qB 0) (qB 2)) qE)))) [(2, "left_out"),(1, "numbers")])) (qI 3)) (tseq (qP (qD L3.qm (qB 3) (qy (qAj (qC (Dt.int 4))) (fun x st P=>P true st) (qZ (qA (qC (Dt.str "keep")) (qA (qD L3.qm (qC (Dt.int 996)) (qB 0)) (qA (qD L3.qAe (qB 1) (qC (Dt.int 1))) qE)))) [(0, "many")]))) qG))))
abbrev qBu:TSD:=(tseq (qO (qD qj (qB 0) (qC (Dt.int 3))) (qI 4)) (tseq (qO (qD qAk (qB 0) (qC (Dt.int 3))) (qI 0)) (tseq (qa (qH (qD (qg false) (qB 4) (qC (Dt.int 0)))) (tseq (qP (qZ (qA (qC (Dt.str "old")) (qA (qD qj (qB 0) (qD qJ (qz (qA (qC (Dt.int 8)) (qA (qC (Dt.int 3)) qE))) (qF qDi (qA (qB 3) qE)))) qE)))) qG) qG) (tseq (qa (qH (qD (qg false) (qB 4) (qC (Dt.int 1)))) (tseq (qP (qZ (qA (qC (Dt.str "shelf")) (qA (qD L3.qm (qD qJ (qz (qA (qC (Dt.int 0)) (qA (qC (Dt.int 996)) qE))) (qF qDi (qA (qB 3) qE))) (qD qj (qB 0) (qC (Dt.int 4)))) qE)))) qG) qG) (tseq (qP (qZ (qA (qC (Dt.str "hand")) (qA (qD qJ (qz (qA (qD qj (qB 0) (qB 1)) (qA (qD L3.qm (qB 1) (qD qj (qB 0) (qD L3.qAe (qB 2) (qB 1)))) qE))) (qF qDi (qA (qB 3) qE))) qE)))) qG)))))
theorem qOB (Q:Rw→Prop) {items:List Dt} {tc:TBD} {te:TD} {cρ:Rho} {st:Sto} {Fin:List Dt→Sto→Prop} (hl:items.length≤100)
    (hs:∀ (i:Nat) d,items[i]? = some d→∃ (b:Bool) (r:Rw),Q r∧(∀ P:Bool→Sto→Prop,P b st→tc (some d::cρ) st P)∧∀ P:VD,P (qS r) st→te (some d::cρ) st P)
    (hF:∀ rs:List Rw,(∀ r∈rs,Q r)→rs.length≤items.length→Fin (rs.map qS) st):qEb items (fun _=>True) tc te cρ st Fin:=by
  refine⟨fun i ys s=>s=st∧∃ rs:List Rw,ys=rs.map qS∧(∀ r∈rs,Q r)∧rs.length≤i,⟨rfl,[],rfl,(by intro r hr;cases hr),Nat.le_refl _⟩,fun _ _ _ _ _=>trivial,?_,?_⟩
  · rintro i d ys s hd ⟨rfl,rs,rfl,ho,hle⟩
    have hil:=(List.getElem?_eq_some_iff.mp hd).1
    obtain⟨b,r,hr,h1,h2⟩:=hs i d hd
    refine⟨by rw [List.length_map,sizeLine_eq];omega,h1 _ ?_⟩
    cases b with
    | true =>
      refine qAy (h2 _ ⟨rfl,rs++[r],by rw [List.map_append];rfl,?_,by simp;omega⟩)
      intro q hq
      rcases List.mem_append.mp hq with hq | hq
      · exact ho q hq
      · have:q=r:=by simpa using hq
        rw [this];exact hr
    | false=>exact qBT ⟨rfl,rs,rfl,ho,by omega⟩
  · rintro ys s ⟨rfl,rs,rfl,ho,hle⟩
    exact hF rs ho hle
theorem qRV {n:Nat} {a:Int} {f:Nat→Rw} {te:TD} {cρ:Rho} {st:Sto} {Fin:List Dt→Sto→Prop} (hl:n≤100) (hs:∀ (i:Nat),i<n→∀ P:VD,P (qS (f i)) st→te (some (.int (a+(i:Int)))::cρ) st P)
    (hF:Fin (((List.range n).map f).map qS) st):qEb (qAu a n) (fun _=>True) (fun x st P=>P true st) te cρ st Fin:=by
  refine⟨fun i ys s=>s=st∧ys=((List.range i).map f).map qS,⟨rfl,rfl⟩,fun _ _ _ _ _=>trivial,?_,?_⟩
  · rintro i d ys s hd ⟨rfl,rfl⟩
    k_dat 0"r22"
    refine⟨by simp only [List.length_map,List.length_range,sizeLine_eq];omega,qAy (hs i hi _ ⟨rfl,?_⟩)⟩
    rw [List.range_succ,List.map_append,List.map_append];rfl
  · rintro ys s ⟨rfl,rfl⟩
    rw [qAM]
    exact hF
theorem qDT {ds:List Dt} {st:Sto} {Pd:VD} (h:qE7 ds st Pd):qAx (Ed Pd) (qV ["many", "numbers", "left_out", "rows"] ds) st:=by
  obtain⟨many,numbers,left,rfl,sz,hP⟩:=h
  have h1:=sz.n1
  have h2:=sz.nm
  have h3:=sz.m16
  show qAx (Ed Pd) [some (.int (many:Int)),some (.int (numbers:Int)),some (.int left),none] st
  refine qk ?_
  show (-(2 ^ 62)≤(numbers:Int)∧(numbers:Int)<2 ^ 62∧qEb (qAu 0 (numbers:Int).toNat) (fun _=>True) _ _ _ st _)
  refine⟨by omega,by omega,?_⟩
  rw [Int.toNat_natCast]
  refine qOB (isNum numbers) (by rw [qAM];omega) (fun i d hd=>?_) fun rs1 o1 l1=>?_
  · k_dat 0"r22"
    rw [Int.zero_add]
    obtain⟨b,hb⟩:=qQ0 (l:=left) (x:=(i:Int)) (ρ:=[some (.int (i:Int)),some (.int left)]) (st:=st) (tx:=qB 0) (i:=1) rfl (fun P hp=>hp) (by omega)
    refine⟨b,⟨"num",[(i:Int),3 * (i:Int)+1]⟩,⟨_,_,rfl,⟨by omega,by omega⟩,⟨by omega,by omega⟩⟩,hb,fun P hp=>?_⟩
    refine⟨qCw (by decide) (by decide),by show 3≤sizeLine;rw [sizeLine_eq];decide,?_⟩
    exact hp
  rw [qAM] at l1
  show tseq _ _ (Ed Pd) (RF many numbers left (some (.lst st.length))) (st++[SO.rw (rs1.map qS)])
  have g1:(st++[SO.rw (rs1.map qS)])[st.length]? = some (.rw (rs1.map qS)):=qK
  have x1:qU st (st++[SO.rw (rs1.map qS)]):=.app _ _
  generalize st++[SO.rw (rs1.map qS)]=s1 at g1 x1
  generalize st.length=n1 at g1
  have cat:∀ {s:Sto} {n:Nat} {rs rs2:List Rw} {P:VD},s[n]? = some (.rw (rs.map qS))→rs.length+rs2.length≤100→(∀ s' n',qU s s'→s.length≤n'→s'[n']? = some (.rw ((rs++rs2).map qS))→P (.lst n') s')→L3.qm (.lst n) (.lst s.length) (s++[SO.rw (rs2.map qS)]) P:=by
    intro s n rs rs2 P hn hl hP
    show (match (s++[SO.rw (rs2.map qS)])[n]?,(s++[SO.rw (rs2.map qS)])[s.length]? with
      | some (.rw xs),some (.rw ys)=>_
      | _,_=>False)
    rw [qe hn,qK]
    refine⟨by rw [List.length_map,List.length_map,sizeLine_eq];omega,hP _ _ ((qU.app _ _).trans (.app _ _)) (by simp) ?_⟩
    rw [qK,List.map_append]
  refine qk ?_
  have em:((many:Int) - (numbers:Int)).toNat=many - numbers:=by omega
  simp only [qD,qB,qy,qLJ,List.getElem?_cons_zero,List.getElem?_cons_succ,qCK,List.map_nil,em]
  refine⟨⟨by omega,by omega,by omega,by omega⟩,?_⟩
  refine qRV (f:=fun i:Nat=>(⟨"no",[(numbers:Int)+(i:Int)]⟩:Rw)) (by omega) (fun i hi=>?_) ?_
  · intro P hp
    exact⟨by show 2≤sizeLine;rw [sizeLine_eq];decide,hp⟩
  have l2:((List.range (many - numbers)).map fun i:Nat=>(⟨"no",[(numbers:Int)+(i:Int)]⟩:Rw)).length≤16:=by simp;omega
  generalize hrs2:((List.range (many - numbers)).map fun i:Nat=>(⟨"no",[(numbers:Int)+(i:Int)]⟩:Rw))=rs2 at l2
  refine cat g1 (by omega) fun s2 n2 x2 f2 g2=>?_
  have l12:(rs1++rs2).length≤32:=by rw [List.length_append];omega
  generalize hra:rs1++rs2=ra at g2 l12
  show tseq _ _ (Ed Pd) (RF many numbers left (some (.lst n2))) s2
  refine qk ?_
  simp only [qD,qB,qy,qAj,qC,List.getElem?_cons_zero,List.getElem?_cons_succ,qCK,List.map_cons,List.map_nil,Option.join_some]
  refine⟨by decide,by decide,?_⟩
  refine qOB (qI3 numbers) (by rw [qAM];decide) (fun i d hd=>?_) fun rs3 o3 l3=>?_
  · k_dat 0"r22"
    have hi:i<4:=hi
    rw [Int.zero_add]
    obtain⟨b,hb⟩:=qQ0 (l:=left) (x:=16+(i:Int)) (ρ:=[some (.int (i:Int)),some (.int left),some (.int (numbers:Int))]) (st:=s2) (tx:=qD L3.qm (qC (Dt.int 16)) (qB 0)) (i:=1) rfl (fun P hp=>hp) (by omega)
    refine⟨b,⟨"keep",[(i:Int),(i:Int)%(numbers:Int)]⟩,⟨_,_,rfl,⟨by omega,by omega⟩,qGo h1⟩,hb,fun P hp=>?_⟩
    exact⟨by show (0:Int)<(numbers:Int);omega,by show 3≤sizeLine;rw [sizeLine_eq];decide,hp⟩
  rw [qAM] at l3
  have l3:rs3.length≤4:=l3
  refine cat g2 (by omega) fun s3 n3 x3 f3 g3=>?_
  have l13:(ra++rs3).length≤36:=by rw [List.length_append];omega
  generalize hrb:ra++rs3=rb at g3 l13
  show tseq _ _ (Ed Pd) (RF many numbers left (some (.lst n3))) s3
  refine qv ?_
  simp only [qP,qD,qB,qy,qAj,qC,List.getElem?_cons_zero,List.getElem?_cons_succ,qCK,List.map_cons,List.map_nil,Option.join_some]
  refine⟨by decide,by decide,?_⟩
  refine qRV (n:=4) (f:=fun i:Nat=>(⟨"keep",[996+(i:Int),(many:Int) - 1]⟩:Rw)) (by decide) (fun i hi=>?_) ?_
  · intro P hp
    rw [Int.zero_add]
    exact⟨by show 3≤sizeLine;rw [sizeLine_eq];decide,hp⟩
  refine cat g3 (by simp;omega) fun s4 n4 x4 f4 g4=>?_
  refine hP _ _ _ (x1.trans (x2.trans (x3.trans x4))) (Nat.le_trans (qDZ (x1.trans (x2.trans x3))) f4) g4 ?_
  refine⟨rs1,rs3,?_,o1,o3,by omega,l3⟩
  rw [← hrb,← hra,← hrs2];rfl
theorem qFE {ds:List Dt} {st:Sto} {Pd:VD} (h:qB4 ds st Pd):qBu (Ed Pd) (qV ["part", "numbers", "many", "truth", "way"] ds) st:=by
  obtain⟨x,numbers,many,t,rfl,sz,hP⟩:=h
  have n1:=sz.n1
  have n2:=sz.nm
  show qBu (Ed Pd) [some (.int x),some (.int (numbers:Int)),some (.int (many:Int)),some (.bl t),none] st
  refine qk ⟨by decide,?_⟩
  refine qk ⟨cdiv (by decide) (by decide),?_⟩
  show tseq _ _ (Ed Pd) [some (.int (x / 3)),some (.int (numbers:Int)),some (.int (many:Int)),some (.bl t),some (.int (x%3))] st
  generalize x / 3=y
  refine qBO (b:=decide (x%3=0)) (st':=st) (eqI fun P hp=>hp) (fun _=>?_) fun _=>?_
  · refine qv ?_
    k_dat 0"r88"
    refine⟨z10 2 (by decide),?_⟩
    cases t with
    | true =>
      refine ixV (j:=1) qK rfl ⟨by decide,z10 2 (by decide),hP _ _ (.app _ _) ?_⟩
      obtain⟨k,hk,k1⟩:∃ k:Nat,y%3=(k:Int)∧k<3:=⟨(y%3).toNat,by omega,by omega⟩
      rw [hk];exact .old k k1
    | false =>
      refine ixV (j:=0) qK rfl ⟨by decide,z10 2 (by decide),hP _ _ (.app _ _) ?_⟩
      obtain⟨k,hk,k1⟩:∃ k:Nat,y%8=(k:Int)∧k<8:=⟨(y%8).toNat,by omega,by omega⟩
      rw [hk];exact .old k k1
  refine qBO (b:=decide (x%3=1)) (st':=st) (eqI fun P hp=>hp) (fun _=>?_) fun _=>?_
  · refine qv ?_
    k_dat 0"r88"
    refine⟨z10 2 (by decide),?_⟩
    cases t with
    | true=>exact ixV (j:=1) qK rfl ⟨by decide,z10 2 (by decide),hP _ _ (.app _ _) (.shelf _ ⟨by omega,by omega⟩)⟩
    | false=>exact ixV (j:=0) qK rfl ⟨by decide,z10 2 (by decide),hP _ _ (.app _ _) (.shelf _ ⟨by omega,by omega⟩)⟩
  · refine qv ?_
    k_dat 0"r88"
    refine⟨by show (0:Int)<(numbers:Int);omega,?_⟩
    refine⟨by show (0:Int)<(many:Int) - (numbers:Int);omega,z10 2 (by decide),?_⟩
    cases t with
    | true=>exact ixV (j:=1) qK rfl ⟨z10 2 (by decide),hP _ _ (.app _ _) (.hand _ (qPk n2))⟩
    | false=>exact ixV (j:=0) qK rfl ⟨z10 2 (by decide),hP _ _ (.app _ _) (.hand _ (qGo n1))⟩
end KT
namespace K85
open PySem PySem.Spec PyProof.Rows L2 L3 K02
noncomputable def xB:List Int:=[6,65536,32,96,96,96,96,96,96,96,96,96,96,96,61]
noncomputable abbrev RL (sc:Nat) (way:Int) (numbers many f:Nat) (k c p:Option Dt):Rho:=[some (.lst sc),some (.int way),some (.int (numbers:Int)),some (.int (many:Int)),some (.lst f),k,c,p]
theorem bounds {ρ:Rho} {s:Sto} {P:VD} (h:∀ s' n,qU s s'→s'[n]? = some (.rw (xB.map .int))→P (.lst n) s'):qD L3.qm (qD L3.qm (qz (qA (qC (Dt.int 6)) (qA (qC (Dt.int 65536)) (qA (qC (Dt.int 32)) qE)))) (qD qAf (qz (qA (qC (Dt.int 96)) qE)) (qC (Dt.int 11)))) (qz (qA (qC (Dt.int 61)) qE)) ρ s P:=by
  simp only [qD,qz,qA,qE,qC]
  refine⟨z10 3 (by decide),z10 1 (by decide),?_⟩
  have g1:(s++[SO.rw [Dt.int 6,Dt.int 65536,Dt.int 32]])[s.length]? = some (.rw [Dt.int 6,Dt.int 65536,Dt.int 32]):=qK
  have x1:qU s (s++[SO.rw [Dt.int 6,Dt.int 65536,Dt.int 32]]):=.app _ _
  generalize s++[SO.rw [Dt.int 6,Dt.int 65536,Dt.int 32]]=s1 at g1 x1
  generalize s.length=n1 at g1
  show (match (s1++[SO.rw [Dt.int 96]])[s1.length]? with
    | some (.rw xs)=>_
    | _=>False)
  rw [qK]
  refine⟨by decide,by decide,z10 11 (by decide),?_⟩
  have g2:=qe (x:=SO.rw [Dt.int 96]) g1
  have x2:=x1.trans (qU.app s1 (SO.rw [Dt.int 96]))
  generalize s1++[SO.rw [Dt.int 96]]=s2 at g2 x2
  show (match (s2++[SO.rw (List.replicate (11:Int).toNat [Dt.int 96]).flatten])[n1]?,(s2++[SO.rw (List.replicate (11:Int).toNat [Dt.int 96]).flatten])[s2.length]? with
    | some (.rw xs),some (.rw ys)=>_
    | _,_=>False)
  rw [qe g2,qK]
  refine⟨z10 14 (by decide),?_⟩
  have x3:=x2.trans ((qU.app s2 (SO.rw (List.replicate (11:Int).toNat [Dt.int 96]).flatten)))
  generalize s2++[SO.rw (List.replicate (11:Int).toNat [Dt.int 96]).flatten]=s3 at x3
  refine⟨z10 1 (by decide),?_⟩
  generalize he:[Dt.int 6,Dt.int 65536,Dt.int 32]++(List.replicate (11:Int).toNat [Dt.int 96]).flatten=ls
  have g4:(s3++[SO.rw ls])[s3.length]? = some (.rw ls):=qK
  have x4:=x3.trans (qU.app s3 (SO.rw ls))
  generalize s3++[SO.rw ls]=s4 at g4 x4
  generalize s3.length=n3 at g4
  show (match (s4++[SO.rw [Dt.int 61]])[n3]?,(s4++[SO.rw [Dt.int 61]])[s4.length]? with
    | some (.rw xs),some (.rw ys)=>_
    | _,_=>False)
  rw [qe g4,qK]
  refine⟨by rw [← he];exact z10 15 (by decide),h _ _ (x4.trans ((qU.app _ _).trans (.app _ _))) ?_⟩
  rw [qK,← he];rfl
theorem qSa {x0 x1 x2 x3 x4:Option Dt} {d0 d1 d2 d3:Dt} {st:Sto} {P:Rho→Sto→Prop} (h:P [x0,x1,x2,x3,x4,some d0,some d1,some d2,some d3] st) :
    qX (qI 5) (qX (qI 6) (qX (qI 7) (qX (qI 8) qBj))) [d0,d1,d2,d3] [x0,x1,x2,x3,x4,none,none,none,none] st P:=h
end K85
namespace KT
open PySem PySem.Spec PyProof.Rows L2 L3 K02 K85 KM
abbrev exT:TSD:=(tseq (qO (qF qi (qA (qy (qAj (qC (Dt.int 8))) (fun x st P=>P true st) (qF KT.qB4 (qA (qD qJ (qB 3) (qD L3.qm (qC (Dt.int 3)) (qB 0))) (qA (qB 2) (qA (qB 1) (qA (qC (Dt.bl false)) qE))))) [(2, "many"),(1, "numbers"),(0, "parts")]) qE)) (qI 5)) (tseq (qO (qF qi (qA (qy (qAj (qC (Dt.int 3))) (fun x st P=>P true st) (qF KT.qB4 (qA (qD qJ (qB 3) (qD L3.qm (qC (Dt.int 11)) (qB 0))) (qA (qB 2) (qA (qB 1) (qA (qC (Dt.bl true)) qE))))) [(2, "many"),(1, "numbers"),(0, "parts")]) qE)) (qI 6)) (tseq (qP (qZ (qA (qB 3) (qA (qB 4) (qA (qB 5) (qA (qB 6) (qA (qD qj (qD qJ (qB 0) (qC (Dt.int 14))) (qC (Dt.int 61))) qE))))))) qG)))
abbrev qCk:TSD:=(tseq (qO (qD qJ (qz (qA (qC (Dt.str "on")) (qA (qC (Dt.str "halt")) (qA (qC (Dt.str "bad")) (qA (qC (Dt.str "closed")) (qA (qC (Dt.str "nought")) (qA (qC (Dt.str "shut")) qE))))))) (qD qj (qD qJ (qB 0) (qC (Dt.int 0))) (qC (Dt.int 6)))) (qI 3)) (tseq (qO (qD qJ (qB 0) (qC (Dt.int 1))) (qI 4)) (tseq (qa (qH (qD (qg false) (qD qj (qD qJ (qB 0) (qC (Dt.int 2))) (qC (Dt.int 2))) (qC (Dt.int 1)))) (tseq (qO (qZ (qA (qC (Dt.str "hand")) (qA (qD qj (qD qAk (qD qJ (qB 0) (qC (Dt.int 2))) (qC (Dt.int 2))) (qB 1)) qE))) (qI 4)) qG) qG) exT)))
abbrev xlB:TSD:=(tseq (qO (qD L3.qm (qF K85.qo (qA (qB 0) (qA (qD L3.qm (qC (Dt.int 6)) (qB 5)) qE))) (qD qAf (qD L3.qm (qD qAf (qB 1) (qC (Dt.int 31))) (qC (Dt.int 1))) (qB 5))) (qI 6)) (tseq (qO (qF KL.qAH (qA (qB 6) (qA (qB 1) (qA (qD L3.qm (qD L3.qm (qz (qA (qC (Dt.int 6)) (qA (qC (Dt.int 65536)) (qA (qC (Dt.int 32)) qE)))) (qD qAf (qz (qA (qC (Dt.int 96)) qE)) (qC (Dt.int 11)))) (qz (qA (qC (Dt.int 61)) qE))) qE)))) (qI 7)) (tseq (qAm (qAY (qB 4) (qF KT.qG5 (qA (qB 7) (qA (qB 2) (qA (qB 3) qE)))))) qG)))
abbrev qA7:TSD:=(tseq (qO (qz qE) (qI 4)) (tseq (qEG (qAj (qD L3.qm (qC (Dt.int 1)) (qD qj (qF K85.qo (qA (qB 0) (qA (qC (Dt.int 5)) qE))) (qC (Dt.int 4))))) (qI 5) xlB) (tseq (qP (qF qi (qA (qB 4) qE))) qG)))
abbrev qBM:TSD:=(tseq (qO (qF KL.qAH (qA (qB 0) (qA (qB 1) (qA (qz (qA (qC (Dt.int 4)) (qA (qC (Dt.int 16)) (qA (qB 4) (qA (qB 4) qE))))) qE)))) (qAS 4 (qX (qI 5) (qX (qI 6) (qX (qI 7) (qX (qI 8) qBj)))))) (tseq (qa (qH (qD (qAD fun i j=>decide (i<j)) (qB 5) (qC (Dt.int 2)))) (tseq (qP (qZ (qA (qC (Dt.str "when")) (qA (qD L3.qm (qB 2) (qD qj (qB 6) (qD L3.qAe (qB 3) (qB 2)))) (qA (qB 7) (qA (qB 8) qE)))))) qG) qG) (tseq (qP (qD qJ (qz (qA (qZ (qA (qC (Dt.str "out")) (qA (qB 7) qE))) (qA (qZ (qA (qC (Dt.str "back")) (qA (qB 7) (qA (qB 8) qE)))) qE))) (qD L3.qAe (qB 5) (qC (Dt.int 2))))) qG)))
theorem sources {s:Sto} {p numbers many n off:Nat} {t:Bool} {ps:List Int} {Fin:List Dt→Sto→Prop} (hp:s[p]? = some (.rw (ps.map .int))) (hn:off+n≤ps.length) (hn2:n≤20) (sz:Sz numbers many)
    (hF:∀ ys s',qU s s'→ys.length=n→(∀ d∈ys,if t=true then SrT numbers many d else SrN numbers d)→Fin ys s'):qEb (qAu 0 n) (fun _=>True) (fun x st P=>P true st) (qF qB4 (qA (qD qJ (qB 3) (qD L3.qm (qC (Dt.int (off:Int))) (qB 0))) (qA (qB 2) (qA (qB 1) (qA (qC (Dt.bl t)) qE))))) [some (.int (many:Int)),some (.int (numbers:Int)),some (.lst p)] s Fin:=by
  refine⟨fun i ys s'=>qU s s'∧ys.length=i∧∀ d∈ys,if t=true then SrT numbers many d else SrN numbers d,⟨.refl _,rfl,fun d hd=>by cases hd⟩,fun _ _ _ _ _=>trivial,?_,?_⟩
  · rintro i d ys s' hd ⟨hx,hl,hy⟩
    k_dat 0"r22"
    rw [Int.zero_add]
    refine⟨by rw [hl,sizeLine_eq];omega,qAy ?_⟩
    simp only [qF,qA,qE,qD,qB,qC,List.getElem?_cons_zero,List.getElem?_cons_succ,L3.qm]
    have e:(off:Int)+(i:Int)=((off+i:Nat):Int):=by omega
    rw [e]
    refine ixP (hx _ _ hp) (by omega) fun v=>?_
    refine⟨v,numbers,many,t,rfl,sz,fun d' s2 x2 q=>⟨hx.trans x2,by simp [hl],fun d hd=>?_⟩⟩
    rcases List.mem_append.mp hd with hd | hd
    · exact hy d hd
    · have:d=d':=by simpa using hd
      rw [this];exact q
  · rintro ys s' ⟨hx,hl,hy⟩
    rw [qAM] at hl
    exact hF ys s' hx hl hy
theorem qQU {a b c d e f:Str} {s:Sto} {n:Nat} {x:Int} {P:VD} (hn:s[n]? = some (.rw [.str a,.str b,.str c,.str d,.str e,.str f])) (h:∀ y:Str,P (.str y) s):qJ (.lst n) (.int (x%6)) s P:=by
  obtain⟨k,hk,h4⟩:∃ k:Nat,x%6=(k:Int)∧k<6:=⟨(x%6).toNat,by omega,by omega⟩
  rw [hk]
  rcases (show k=0∨k=1∨k=2∨k=3∨k=4∨k=5 by omega) with rfl | rfl | rfl | rfl | rfl | rfl<;>exact ixV hn rfl (h _)
theorem qLr {Pd:VD} {s:Sto} {p numbers many:Nat} {ps:List Int} {h:Str} {pl:Dt} (hp:s[p]? = some (.rw (ps.map .int))) (hl:ps.length=15) (sz:Sz numbers many) (hpl:AtN numbers pl) (hP:∀ e s',qU s s'→TyE numbers many e→Pd (exD e) s'):exT (Ed Pd) (RX p numbers many (some (.str h)) (some pl) none none) s:=by
  show tseq _ _ (Ed Pd) _ s
  refine qk ?_
  k_dat 0"r135"
  refine⟨by decide,by decide,?_⟩
  refine sources (off:=3) (n:=8) (t:=false) hp (by omega) (by decide) sz fun ys s1 x1 yl yt=>?_
  show (match ((s1++[SO.rw ys])[s1.length]?).map SO.items with
    | some xs=>_
    | none=>False)
  rw [qK]
  have x1':qU s (s1++[SO.rw ys]):=x1.trans (.app _ _)
  generalize s1++[SO.rw ys]=s2 at x1'
  show tseq _ _ (Ed Pd) (RX p numbers many (some (.str h)) (some pl) (some (.tup ys)) none) s2
  refine qk ?_
  k_dat 0"r135"
  refine⟨by decide,by decide,?_⟩
  refine sources (off:=11) (n:=3) (t:=true) (x1' _ _ hp) (by omega) (by decide) sz fun zs s3 x3 zl zt=>?_
  show (match ((s3++[SO.rw zs])[s3.length]?).map SO.items with
    | some xs=>_
    | none=>False)
  rw [qK]
  have x3':qU s (s3++[SO.rw zs]):=x1'.trans (x3.trans (.app _ _))
  generalize s3++[SO.rw zs]=s4 at x3'
  show tseq _ _ (Ed Pd) (RX p numbers many (some (.str h)) (some pl) (some (.tup ys)) (some (.tup zs))) s4
  refine qv ?_
  simp only [qP,qZ,qA,qE,qD,qB,qC,List.getElem?_cons_zero,List.getElem?_cons_succ]
  refine ixP (j:=14) (x3' _ _ hp) (by omega) fun v=>?_
  exact⟨by decide,z10 5 (by decide),hP ⟨h,pl,ys,zs,_⟩ _ x3' ⟨hpl,yt,yl,zt,zl⟩⟩
theorem qHE {ds:List Dt} {st:Sto} {Pd:VD} (h:qG5 ds st Pd):qCk (Ed Pd) (qV ["parts", "numbers", "many", "how", "place", "boxes", "marks"] ds) st:=by
  obtain⟨p,numbers,many,ps,rfl,hp,hl,h16,sz,hP⟩:=h
  have n1:=sz.n1
  show qCk (Ed Pd) (RX p numbers many none none none none) st
  refine qk ?_
  simp only [qD,qz,qA,qE,qB,qC,List.getElem?_cons_zero,List.getElem?_cons_succ]
  refine⟨z10 6 (by decide),?_⟩
  have x1:qU st (st++[SO.rw [Dt.str "on",Dt.str "halt",Dt.str "bad",Dt.str "closed",Dt.str "nought",Dt.str "shut"]]):=.app _ _
  refine ixP (j:=0) (x1 _ _ hp) (by omega) fun v=>?_
  k_dat 0"r21"
  refine qQU qK fun h=>?_
  generalize st++[SO.rw [Dt.str "on",Dt.str "halt",Dt.str "bad",Dt.str "closed",Dt.str "nought",Dt.str "shut"]]=s1 at x1
  show tseq _ _ (Ed Pd) (RX p numbers many (some (.str h)) none none none) s1
  refine qk ?_
  k_dat 0"r83"
  have e1:(ps.map Dt.int)[1]? = some (.int (ps.getD 1 0)):=by rw [List.getElem?_map,List.getElem?_eq_getElem (by omega),List.getD_eq_getElem?_getD,List.getElem?_eq_getElem (by omega)];rfl
  refine ixV (j:=1) (x1 _ _ hp) e1 ?_
  generalize ps.getD 1 0=v1 at h16 e1
  show tseq _ _ (Ed Pd) (RX p numbers many (some (.str h)) (some (.int v1)) none none) s1
  have hp1:=x1 _ _ hp
  have hv2:(ps.map Dt.int)[2]? = some (.int (ps[2]'(by omega))):=by rw [List.getElem?_map,List.getElem?_eq_getElem (by omega)];rfl
  refine qBO (b:=decide ((ps[2]'(by omega))%2=1)) (st':=s1) (eqI fun P hp=>?_) (fun _=>?_) fun _=>?_
  · k_dat 0"r83"
    exact ixV (j:=2) hp1 hv2 ⟨by decide,hp⟩
  · refine qk ?_
    simp only [qZ,qA,qE,qD,qB,qC,List.getElem?_cons_zero,List.getElem?_cons_succ]
    refine ixP (j:=2) hp1 (by omega) fun v=>?_
    refine⟨cdiv (by decide) (by decide),by show (0:Int)<(numbers:Int);omega,z10 2 (by decide),?_⟩
    exact qLr hp1 hl sz (.hand _ (qGo n1)) fun e s' hx=>hP e s' (x1.trans hx)
  · exact qLr hp1 hl sz (.int _ h16) fun e s' hx=>hP e s' (x1.trans hx)
theorem qDg {ds:List Dt} {st:Sto} {Pd:VD} (h:qEz ds st Pd):qA7 (Ed Pd) (qV ["script", "way", "numbers", "many", "found", "k", "cell", "parts"] ds) st:=by
  obtain⟨sc,numbers,many,way,ns,rfl,hsc,w0,w1,sz,hP⟩:=h
  show qA7 (Ed Pd) [some (.lst sc),some (.int way),some (.int (numbers:Int)),some (.int (many:Int)),none,none,none,none] st
  refine qk ⟨Nat.zero_le _,?_⟩
  have hf0:(st++[SO.rw []])[st.length]? = some (.rw []):=qK
  have x0:qU st (st++[SO.rw []]):=.app _ _
  show tseq _ _ (Ed Pd) (RL sc way numbers many st.length none none none) (st++[SO.rw []])
  generalize st++[SO.rw []]=s0 at hf0 x0
  refine qv ?_
  show qF qo _ (RL sc way numbers many st.length none none none) s0 _
  refine⟨sc,5,ns,rfl,x0 _ _ hsc,fun x=>?_⟩
  k_dat 0"r21"
  obtain⟨m,hm,m1,m2⟩:∃ m:Nat,1+x%4=(m:Int)∧1≤m∧m≤4:=⟨(1+x%4).toNat,by omega,by omega,by omega⟩
  show (-(2 ^ 62)≤1+x%4∧1+x%4<2 ^ 62∧qKy (qAu 0 (1+x%4).toNat) (fun _=>True) (qI 5) xlB _ _ s0)
  rw [hm]
  refine⟨by omega,by omega,?_⟩
  rw [Int.toNat_natCast]
  refine⟨fun i ρ s=>(∃ k c p,ρ=RL sc way numbers many st.length k c p)∧qU st s∧∃ es:List Ex,s[st.length]? = some (.rw (es.map exD))∧es.length=i∧∀ e∈es,TyE numbers many e,⟨⟨_,_,_,rfl⟩,x0,[],hf0,rfl,(by intro e he;cases he)⟩,fun _ _ _ _ _=>trivial,?_,?_⟩
  · rintro i d ρ s hd ⟨⟨k,c,p,rfl⟩,hx,es,hes,hel,hfive⟩
    k_dat 0"r22"
    rw [Int.zero_add]
    show tseq _ _ _ (RL sc way numbers many st.length (some (.int (i:Int))) c p) s
    refine qk ?_
    simp only [qD,qF,qA,qE,qB,qC,List.getElem?_cons_zero,List.getElem?_cons_succ,L3.qm,qAf]
    refine⟨sc,6+i,ns,(by
      have e:(6:Int)+(i:Int)=((6+i:Nat):Int):=by omega
      rw [e]),hx _ _ hsc,fun y=>?_⟩
    refine⟨qLn (by decide) (by decide),qLn (by omega) (by omega),?_⟩
    show tseq _ _ _ (RL sc way numbers many st.length (some (.int (i:Int))) (some (.int (y+(way * 31+1) * (i:Int)))) p) s
    generalize y+(way * 31+1) * (i:Int)=cell
    refine qk ?_
    k_dat 0"r89"
    refine bounds fun s1 nb x1 hnb=>?_
    refine⟨cell,way,nb,xB,rfl,hnb,by decide,by decide,fun ps s2 np x2 _ hnp hpin=>?_⟩
    show tseq _ _ _ (RL sc way numbers many st.length (some (.int (i:Int))) (some (.int cell)) (some (.lst np))) s2
    refine qv ?_
    simp only [qAm,qAY,qF,qA,qE,qB,List.getElem?_cons_zero,List.getElem?_cons_succ]
    have h16:qAJ (ps.getD 1 0):=by
      have hl:ps.length=15:=hpin.1
      have e1:ps[1]? = some (ps.getD 1 0):=by rw [List.getD_eq_getElem?_getD,List.getElem?_eq_getElem (by omega)];rfl
      exact hpin.2 1 _ 65536 e1 rfl
    refine⟨np,numbers,many,ps,rfl,hnp,hpin.1,h16,sz,fun ex s3 x3 tx=>?_⟩
    have hes3:=x3 _ _ (x2 _ _ (x1 _ _ hes))
    simp only [hes3]
    refine⟨by rw [List.length_map,hel,sizeLine_eq];omega,⟨_,_,_,rfl⟩,fun j o ho=>?_,es++[ex],by rw [KM.ql hes3,List.map_append];rfl,by simp [hel],fun q hq=>?_⟩
    · have hj:j<st.length:=qAC ho
      exact qT (x3 _ _ (x2 _ _ (x1 _ _ (hx _ _ ho)))) (by omega)
    · rcases List.mem_append.mp hq with hq | hq
      · exact hfive q hq
      · have:q=ex:=by simpa using hq
        rw [this];exact tx
  · rintro ρ s ⟨⟨k,c,p,rfl⟩,hx,es,hes,hel,hfive⟩
    rw [qAM] at hel
    show (match (s[st.length]?).map SO.items with
      | some xs=>Pd (.tup xs) s
      | none=>False)
    rw [hes]
    exact hP es s hx (by omega) (by omega) hfive
theorem qEO {ds:List Dt} {st:Sto} {Pd:VD} (h:qFD ds st Pd):qBM (Ed Pd) (qV ["cell", "way", "numbers", "many", "exits", "word", "hand", "first", "then"] ds) st:=by
  obtain⟨c,way,numbers,many,exits,rfl,sz,e1,e2,hP⟩:=h
  have n2:=sz.nm
  show qBM (Ed Pd) [some (.int c),some (.int way),some (.int (numbers:Int)),some (.int (many:Int)),some (.int (exits:Int)),none,none,none,none] st
  refine qv ?_
  simp only [qO,qF,qz,qA,qE,qB,qC,List.getElem?_cons_zero,List.getElem?_cons_succ]
  k_dat 0"r43"
  refine⟨c,way,st.length,[4,16,(exits:Int),(exits:Int)],rfl,qK,?_,by show 4≤300;decide,fun ps s1 n x1 _ hn hpin=>?_⟩
  · intro x hx
    simp only [List.mem_cons,List.not_mem_nil,or_false] at hx
    omega
  have x1':qU st s1:=(qU.app _ _).trans x1
  have hl:ps.length=4:=hpin.1
  obtain⟨p0,p1,p2,p3,rfl⟩:∃ p0 p1 p2 p3,ps=[p0,p1,p2,p3]:=by
    rcases ps with _ | ⟨p0,_ | ⟨p1,_ | ⟨p2,_ | ⟨p3,_ | ⟨p4,r⟩⟩⟩⟩⟩<;>first
      | (simp at hl;done)
      | exact⟨p0,p1,p2,p3,rfl⟩
      | (simp at hl;omega)
  obtain⟨w0,w1⟩:=hpin.2 0 p0 4 rfl rfl
  have q2:=hpin.2 2 p2 (exits:Int) rfl rfl
  have q3:=hpin.2 3 p3 (exits:Int) rfl rfl
  obtain⟨e,he,ee⟩:∃ e:Nat,p2=(e:Int)∧e<exits:=⟨p2.toNat,by omega,by omega⟩
  obtain⟨f,hf,ff⟩:∃ f:Nat,p3=(f:Int)∧f<exits:=⟨p3.toNat,by omega,by omega⟩
  subst he hf
  have hsq:qd s1 (.lst n)=some ([p0,p1,(e:Int),(f:Int)].map Dt.int):=by
    show (s1[n]?).map SO.items=_
    rw [hn];rfl
  simp only [qAS,hsq]
  refine⟨rfl,?_⟩
  refine K85.qSa ?_
  show tseq _ _ (Ed Pd) [some (.int c),some (.int way),some (.int (numbers:Int)),some (.int (many:Int)),some (.int (exits:Int)),some (.int p0),some (.int p1),some (.int (e:Int)),some (.int (f:Int))] s1
  refine qBO (b:=decide (p0<2)) (st':=s1) (fun P hp=>hp) (fun _=>?_) fun q=>?_
  · refine qv ?_
    refine⟨by show (0:Int)<(many:Int) - (numbers:Int);omega,z10 4 (by decide),?_⟩
    exact hP ⟨"when",[(numbers:Int)+p1%((many:Int) - (numbers:Int)),(e:Int),(f:Int)]⟩ s1 x1' (.whn _ _ _ (qPk n2) ee ff rfl)
  · have q:=of_decide_eq_false q
    refine qv ?_
    simp only [qP,qD,qz,qZ,qA,qE,qB,qC,L3.qAe,List.getElem?_cons_zero,List.getElem?_cons_succ]
    refine⟨z10 2 (by decide),z10 3 (by decide),z10 2 (by decide),?_⟩
    have hc:p0 - 2=((0:Nat):Int)∨p0 - 2=((1:Nat):Int):=by omega
    rcases hc with hc | hc
    · rw [hc]
      exact ixV (j:=0) qK rfl (hP ⟨"out",[(e:Int)]⟩ _ (x1'.trans (.app _ _)) (.out _ ee rfl))
    · rw [hc]
      exact ixV (j:=1) qK rfl (hP ⟨"back",[(e:Int),(f:Int)]⟩ _ (x1'.trans (.app _ _)) (.back _ _ ee ff rfl))
end KT
namespace K85
open PySem PySem.Spec PyProof.Rows L2 L3 K02
theorem qIj {s0 s:Sto} {rn:Nat} {o:SO} (hx:qU s0 s) (hn:s0.length≤rn):qU s0 (s.set rn o):=fun j o ho=>by
  have hj:=qAC ho
  exact qT (hx _ _ ho) (by omega)
theorem qMG {n:Nat}:ixN (n+1) (-1)=some n:=by
  unfold ixN
  rw [if_neg (by omega),if_pos (by omega)]
  congr 1
  omega
end K85
namespace K85
open PySem PySem.Spec PyProof.Rows L2 L3 K02
theorem qQt {a b:Sto} (hx:qU a b):a.length≤b.length:=by
  rcases Nat.lt_or_ge b.length a.length with q | q
  · have h5:=hx b.length a[b.length] (by simp [q])
    exact absurd (qAC h5) (Nat.lt_irrefl _)
  · exact q
end K85
namespace KT
open PySem PySem.Spec PyProof.Rows L2 L3 K02 K85 KM
abbrev hoE:TSD:=(tseq (qP (qZ (qA (qD qj (qF K85.qo (qA (qB 0) (qA (qC (Dt.int 10)) qE))) (qC (Dt.int 65536))) (qA (qB 4) (qA (qF qi (qA (qB 8) qE)) (qA (qB 6) qE)))))) qG)
abbrev hoB:TSD:=(tseq (qO (qF KL.qAH (qA (qD qAk (qB 9) (qC (Dt.int 3))) (qA (qB 1) (qA (qz (qA (qC (Dt.int 20)) (qA (qC (Dt.int 16)) (qA (qC (Dt.int 16)) (qA (qC (Dt.int 16)) (qA (qC (Dt.int 65536)) (qA (qC (Dt.int 8)) (qA (qC (Dt.int 4)) (qA (qC (Dt.int 4)) qE))))))))) qE)))) (qI 10)) (tseq (qa (qB3 (qH (qB 2)) (qH (qD (qg false) (qD qj (qB 9) (qC (Dt.int 3))) (qC (Dt.int 1))))) (tseq (qO (qD L3.qm (qB 8) (qF KT.qDW (qA (qB 10) (qA (qB 5) (qA (qF qAq (qA (qB 6) qE)) qE))))) (qI 8)) qG) (tseq (qAm (qAY (qB 8) (qF KT.qBE (qA (qB 10) (qA (qB 4) (qA (qB 5) qE)))))) qG)) qG))
abbrev hoU:TSD:=(tseq (qa (qB3 (qH (qD (qg false) (qD qJ (qD qJ (qB 8) (qJ8 (qC (Dt.int 1)))) (qC (Dt.int 0))) (qC (Dt.str "back")))) (qH (qD (qg false) (qD qj (qF K85.qo (qA (qB 0) (qA (qC (Dt.int 9)) qE))) (qC (Dt.int 2))) (qC (Dt.int 1))))) (tseq (qO (qD L3.qm (qAE (qD qJ (qB 8) (qJ8 (qC (Dt.int 1)))) qAK (qAA (qC (Dt.int 2)))) (qZ (qA (qF qAq (qA (qB 6) qE)) qE))) (qQh (qB 8) (qJ8 (qC (Dt.int 1))))) (tseq (qO (qZ (qA (qZ (qA (qC (Dt.str "old")) (qA (qC (Dt.int 7)) qE))) (qA (qZ (qA (qC (Dt.str "hand")) (qA (qC (Dt.int 0)) qE))) (qA (qZ (qA (qC (Dt.str "shelf")) (qA (qC (Dt.int 2)) qE))) qE)))) (qI 11)) (tseq (qO (qD L3.qm (qB 6) (qZ (qA (qZ (qA (qC (Dt.str "on")) (qA (qZ (qA (qC (Dt.str "hand")) (qA (qD L3.qAe (qB 4) (qC (Dt.int 1))) qE))) (qA (qD qJ (qD qJ (qB 6) (qC (Dt.int 0))) (qC (Dt.int 2))) (qA (qB 11) (qA (qC (Dt.int 7)) qE)))))) qE))) (qI 6)) qG))) qG) hoE)
abbrev hoT:TSD:=(tseq (qAm (qAY (qB 8) (qF KT.qFD (qA (qD qAk (qF K85.qo (qA (qB 0) (qA (qC (Dt.int 10)) qE))) (qC (Dt.int 2))) (qA (qB 1) (qA (qB 5) (qA (qB 4) (qA (qF qAq (qA (qB 6) qE)) qE)))))))) hoU)
abbrev hoL:TSD:=(tseq (qEG (qA3 (qAE (qB 0) (qAA (qC (Dt.int 11))) (qAA (qC (Dt.int 63))))) (qI 9) hoB) hoT)
abbrev qCv:TSD:=(tseq (qO (qD qAk (qF K85.qo (qA (qB 0) (qA (qC (Dt.int 5)) qE))) (qC (Dt.int 4))) (qI 3)) (tseq (qO (qD L3.qm (qC (Dt.int 3)) (qD qj (qB 3) (qC (Dt.int 14)))) (qI 4)) (tseq (qO (qD L3.qm (qC (Dt.int 1)) (qD qj (qD qAk (qB 3) (qC (Dt.int 14))) (qD L3.qAe (qB 4) (qC (Dt.int 1))))) (qI 5)) (tseq (qO (qF KT.qEz (qA (qB 0) (qA (qB 1) (qA (qB 5) (qA (qB 4) qE))))) (qI 6)) (tseq (qO (qD qAf (qD qj (qD qAk (qB 3) (qC (Dt.int 800))) (qD qKq (qC (Dt.int 1)) (qC (Dt.int 20)))) (qF qDi (qA (qD (qg false) (qD qj (qD qAk (qB 3) (qC (Dt.int 200))) (qC (Dt.int 4))) (qC (Dt.int 1))) qE))) (qI 7)) (tseq (qO (qF KT.qE7 (qA (qB 4) (qA (qB 5) (qA (qB 7) qE)))) (qI 8)) hoL))))))
noncomputable abbrev RHo (sc:Nat) (way:Int) (t:Bool) (z:Int) (many numbers:Nat) (es:List Ex) (left:Int) (rn:Nat) (c p o:Option Dt):Rho:=[some (.lst sc),some (.int way),some (.bl t),some (.int z),some (.int (many:Int)),some (.int (numbers:Int)),some (.tup (es.map exD)),some (.int left),some (.lst rn),c,p,o]
abbrev Pk (Pd:VD) (s0:Sto) (t:Bool) (N M:Nat):Prop:=∀ (rs:List Rw) (es:List Ex) (a:Int) st',qU s0 st'→Host t N M rs es→Pd (.tup [.int a,.int (M:Int),.tup (rs.map qS),.tup (es.map exD)]) st'
theorem qMH {Pd:VD} {s0 s:Sto} {sc:Nat} {way:Int} {t:Bool} {z:Int} {M N rn:Nat} {es:List Ex} {left:Int} {c p o:Option Dt} {rs:List Rw} {ns:List Int} (x0:qU s0 s) (hsc:s0[sc]? = some (.ro (ns.map .int))) (hr:s[rn]? = some (.rw (rs.map qS))) (hh:Host t N M rs es) (hP:Pk Pd s0 t N M):hoE (Ed Pd) (RHo sc way t z M N es left rn c p o) s:=by
  show tseq _ _ (Ed Pd) _ s
  refine qv ?_
  simp only [qP,qZ,qA,qE,qD,qF,qC,qB,List.getElem?_cons_zero,List.getElem?_cons_succ]
  refine⟨sc,10,ns,rfl,x0 _ _ hsc,fun x=>?_⟩
  k_dat 0"r21"
  show (match (s[rn]?).map SO.items with
    | some xs=>_
    | none=>False)
  rw [hr]
  exact⟨z10 4 (by decide),hP rs es _ s x0 hh⟩
theorem qPP {Pd:VD} {s0 s:Sto} {sc:Nat} {way:Int} {t:Bool} {z:Int} {many numbers rn:Nat} {es:List Ex} {left:Int} {c p o:Option Dt} {fs bs:List Rw} {r:Rw} {ns:List Int} (x0:qU s0 s) (hn0:s0.length≤rn) (hsc:s0[sc]? = some (.ro (ns.map .int))) (hr:s[rn]? = some (.rw ((fs++bs++[r]).map qS))) (he1:1≤es.length) (hes:es.length≤4) (h5:∀ e∈es,TyE numbers many e) (sz:Sz numbers many) (hfs:qDt numbers many fs) (hbs:Body numbers many es.length t bs) (hbl:bs.length≤110) (hr0:TyL numbers many es.length false r) (hP:Pk Pd s0 t numbers many) :
    hoU (Ed Pd) (RHo sc way t z many numbers es left rn c p o) s:=by
  have h5':∀ (k:Nat) e,k<es.length→es[k]? = some e→TyE numbers many e:=fun k e _ hk=>h5 e (List.mem_of_getElem? hk)
  have hh:Host t numbers many (fs++bs++[r]) es:=⟨sz,es.length,false,fs,bs,r,rfl,hfs,hbs,hr0,he1,hes,h5',rfl,hbl⟩
  generalize hrs:fs++bs=rs at hr hh
  have hlast:atI ((rs++[r]).map qS) (-1)=some (qS r):=by rw [List.map_append];exact qLj _ _
  have ixLast:∀ {s':Sto} {P:VD},s'[rn]? = some (.rw ((rs++[r]).map qS))→P (qS r) s'→qJ (.lst rn) (.int (-1)) s' P:=fun {s' P} hs hp=>by
    show (match (s'[rn]?).map SO.items with
      | some xs=>(match atI xs (-1) with
        | some d=>P d s'
        | none=>False)
      | none=>False)
    rw [hs]
    show (match atI ((rs++[r]).map qS) (-1) with
        | some d=>P d s'
        | none=>False)
    rw [hlast];exact hp
  have w0:∀ {s':Sto} {P:VD},P (.str r.w) s'→qJ (qS r) (.int 0) s' P:=fun {s' P} hp=>by
    show (match atI (Dt.str r.w::r.xs.map .int) 0 with
      | some d=>P d s'
      | none=>False)
    rw [show atI (Dt.str r.w::r.xs.map Dt.int) 0=some (.str r.w) from qAB (j:=0) rfl]
    exact hp
  have fin:hoE (Ed Pd) (RHo sc way t z many numbers es left rn c p o) s:=qMH x0 hsc hr hh hP
  show tseq _ _ (Ed Pd) _ s
  refine qv ?_
  simp only [qa,qB3,qH,qD,qB,qC,qJ8,qF,qA,qE,List.getElem?_cons_zero,List.getElem?_cons_succ]
  refine ixLast hr (w0 ?_)
  refine⟨rfl,rfl,?_⟩
  have eb:eqD 8 (.str r.w) (.str "back")=(r.w==Str.ofString "back"):=rfl
  rw [eb,qR9]
  cases hb:(r.w==Str.ofString "back") with
  | false=>exact qBT (qBT fin)
  | true =>
    refine qAy ?_
    refine⟨sc,9,ns,rfl,x0 _ _ hsc,fun x=>?_⟩
    refine⟨by decide,rfl,rfl,?_⟩
    have ec:eqD 8 (.int (x%2)) (.int 1)=decide (x%2=1):=by show (x%2==1)=_;by_cases q:x%2=1<;>simp [q]
    rw [ec,qR9]
    by_cases q:x%2=1
    · rw [decide_eq_true q]
      refine qAy ?_
      obtain⟨e0,f0,hre,ee⟩:∃ (e0:Nat) (f0:Int),r=⟨Str.ofString "back",[(e0:Int),f0]⟩∧e0<es.length:=by
        cases hr0 with
        | whn x e f h1 h2 h3 h4=>exact absurd hb (by show ¬ (Str.ofString "when" == Str.ofString "back")=true;decide +kernel)
        | out e h1 h2=>exact absurd hb (by show ¬ (Str.ofString "out" == Str.ofString "back")=true;decide +kernel)
        | back e f h1 h2 h3=>exact⟨e,_,rfl,h1⟩
        | backO e h1 h2=>cases h2
      subst hre
      generalize hx1:(e0:Int)=x1 at *
      generalize f0=x2 at *
      refine qv ?_
      simp only [qO,qAE,qD,qB,qC,qJ8,qAK,qAA,qZ,qF,qA,qE,qQh,List.getElem?_cons_zero,List.getElem?_cons_succ]
      refine ixLast hr ?_
      have hcut:L3.cutD [Dt.str "back",Dt.int x1,Dt.int x2] none (some 2)=[Dt.str "back",Dt.int x1]:=rfl
      show [Dt.int ((es.map exD).length:Int)].length≤sizeLine∧L3.qm (.tup (L3.cutD [Dt.str "back",Dt.int x1,Dt.int x2] none (some 2))) (.tup [Dt.int ((es.map exD).length:Int)]) s _
      rw [hcut]
      refine⟨z10 1 (by decide),?_⟩
      simp only [L3.qm]
      refine⟨z10 3 (by decide),?_⟩
      have hix:ixN ((rs++[(⟨Str.ofString "back",[x1,x2]⟩:Rw)]).map qS).length (-1)=some rs.length:=by
        have e:((rs++[(⟨Str.ofString "back",[x1,x2]⟩:Rw)]).map qS).length=rs.length+1:=by simp
        rw [e];exact qMG
      simp only [hr,hix]
      have hset:((rs++[(⟨Str.ofString "back",[x1,x2]⟩:Rw)]).map qS).set rs.length (qS ⟨Str.ofString "back",[x1,((es.map exD).length:Int)]⟩)=(rs++[(⟨Str.ofString "back",[x1,((es.map exD).length:Int)]⟩:Rw)]).map qS:=by simp
      have hrow:Dt.tup ([Dt.str "back",Dt.int x1]++[Dt.int ((es.map exD).length:Int)])=qS ⟨Str.ofString "back",[x1,((es.map exD).length:Int)]⟩:=rfl
      rw [hrow,hset]
      have hr':(s.set rn (.rw ((rs++[(⟨Str.ofString "back",[x1,((es.map exD).length:Int)]⟩:Rw)]).map qS)))[rn]? = some (.rw ((rs++[(⟨Str.ofString "back",[x1,((es.map exD).length:Int)]⟩:Rw)]).map qS)):=KM.ql hr
      have xs0:qU s0 (s.set rn (.rw ((rs++[(⟨Str.ofString "back",[x1,((es.map exD).length:Int)]⟩:Rw)]).map qS))):=qIj x0 hn0
      generalize s.set rn (.rw ((rs++[(⟨Str.ofString "back",[x1,((es.map exD).length:Int)]⟩:Rw)]).map qS))=s1 at hr' xs0
      refine qk ?_
      refine⟨z10 2 (by decide),z10 2 (by decide),z10 2 (by decide),z10 3 (by decide),?_⟩
      refine qk ?_
      simp only [qD,qZ,qC,qA,qE,qB,List.getElem?_cons_zero,List.getElem?_cons_succ,List.set_cons_succ,List.set_cons_zero]
      obtain⟨ex,er,hes0⟩:∃ e0 er,es=e0::er:=by
        cases es with
        | nil=>simp at he1
        | cons e0 er=>exact⟨e0,er,rfl⟩
      refine⟨z10 2 (by decide),?_⟩
      show (match atI (es.map exD) 0 with
        | some d=>_
        | none=>False)
      rw [show atI (es.map exD) 0=some (exD ex) from by rw [hes0];exact qAB (j:=0) rfl]
      show (match atI [.str ex.how,ex.at_,.tup ex.bs,.tup ex.ms,.int ex.n] 2 with
        | some d=>_
        | none=>False)
      rw [show atI [.str ex.how,ex.at_,.tup ex.bs,.tup ex.ms,.int ex.n] 2=some (.tup ex.bs) from qAB (j:=2) rfl]
      refine⟨z10 5 (by decide),z10 1 (by decide),?_⟩
      refine⟨by show (es.map exD).length+1≤sizeLine;exact z10 _ (by rw [List.length_map];omega),?_⟩
      have tex:TyE numbers many ex:=h5 ex (by rw [hes0];simp)
      let odd:Ex:=⟨"on",.tup [.str "hand",.int ((many:Int) - 1)],ex.bs,[.tup [.str "old",.int 7],.tup [.str "hand",.int 0],.tup [.str "shelf",.int 2]],7⟩
      have hh2:Host t numbers many (rs++[(⟨Str.ofString "back",[x1,((es.map exD).length:Int)]⟩:Rw)]) (es++[odd]):=by
        refine⟨sz,es.length,true,fs,bs,_,by rw [hrs],hfs,hbs,by rw [← hx1,List.length_map];exact .backO _ ee rfl,he1,hes,fun k e hk he=>?_,?_,hbl⟩
        · rw [List.getElem?_append_left hk] at he;exact h5' k e hk he
        · refine⟨by simp,fun e he=>?_⟩
          rw [List.getElem?_concat_length] at he
          cases he
          exact⟨tex.bs,tex.b8,Nat.le_refl 3⟩
      have e9:(es.map exD)++[Dt.tup [.str "on",.tup [.str "hand",.int ((many:Int) - 1)],.tup ex.bs,.tup [.tup [.str "old",.int 7],.tup [.str "hand",.int 0],.tup [.str "shelf",.int 2]],.int 7]]=(es++[odd]).map exD:=by rw [List.map_append];rfl
      rw [e9]
      exact qMH (es:=es++[odd]) xs0 hsc hr' hh2 hP
    · rw [decide_eq_false q]
      exact qBT fin
theorem qPt {Pd:VD} {s0 s:Sto} {sc:Nat} {way:Int} {t:Bool} {z:Int} {many numbers rn:Nat} {es:List Ex} {left:Int} {c p o:Option Dt} {fs bs:List Rw} {ns:List Int} (x0:qU s0 s) (hn0:s0.length≤rn) (hsc:s0[sc]? = some (.ro (ns.map .int))) (hr:s[rn]? = some (.rw ((fs++bs).map qS))) (he1:1≤es.length) (hes:es.length≤4) (h5:∀ e∈es,TyE numbers many e) (sz:Sz numbers many) (hfs:qDt numbers many fs) (hfl:fs.length≤40) (hbs:Body numbers many es.length t bs) (hbl:bs.length≤110) (hP:Pk Pd s0 t numbers many) :
    hoT (Ed Pd) (RHo sc way t z many numbers es left rn c p o) s:=by
  show tseq _ _ (Ed Pd) _ s
  refine qv ?_
  simp only [qAm,qAY,qF,qA,qE,qD,qB,qC,qAq,qd,List.getElem?_cons_zero,List.getElem?_cons_succ]
  refine⟨sc,10,ns,rfl,x0 _ _ hsc,fun x=>?_⟩
  k_dat 0"r73"
  show qFD [.int (x / 2),.int way,.int (numbers:Int),.int (many:Int),.int ((es.map exD).length:Int)] s _
  rw [List.length_map]
  refine⟨x / 2,way,numbers,many,es.length,rfl,sz,he1,hes,fun r s1 x1 ok=>?_⟩
  have h1:=x1 _ _ hr
  simp only [h1]
  refine⟨by rw [List.length_map,List.length_append,sizeLine_eq];omega,?_⟩
  refine qPP (s0:=s0) (fs:=fs) (bs:=bs) (r:=r) (qIj (x0.trans x1) hn0) hn0 hsc ?_ he1 hes h5 sz hfs hbs hbl ok hP
  rw [KM.ql h1,List.map_append (l₂:=[r])];rfl
theorem qO0 {Pd:VD} {s0 s:Sto} {sc:Nat} {way:Int} {t:Bool} {z:Int} {many numbers rn:Nat} {es:List Ex} {left:Int} {fs:List Rw} {ns:List Int} (x0:qU s0 s) (hn0:s0.length≤rn) (hsc:s0[sc]? = some (.ro (ns.map .int))) (hnl:ns.length≤63) (hr:s[rn]? = some (.rw (fs.map qS))) (he1:1≤es.length) (hes:es.length≤4) (h5:∀ e∈es,TyE numbers many e) (sz:Sz numbers many) (hfs:qDt numbers many fs) (hfl:fs.length≤40) (hP:Pk Pd s0 t numbers many) :
    hoL (Ed Pd) (RHo sc way t z many numbers es left rn none none none) s:=by
  have n1:=sz.n1
  have hsc1:=x0 _ _ hsc
  obtain⟨cut,hcut⟩:∃ cut:List Int,L3.cutD (SO.ro (ns.map Dt.int)).items (some 11) (some 63)=cut.map .int∧cut.length≤52:=by
    refine⟨(ns.drop (HT.sIx (ns.map Dt.int).length 0 (some 11))).take (HT.sIx (ns.map Dt.int).length (ns.map Dt.int).length (some 63) - HT.sIx (ns.map Dt.int).length 0 (some 11)),?_,?_⟩
    · show L3.cutD (ns.map Dt.int) (some 11) (some 63)=_
      unfold L3.cutD
      rw [List.map_take,List.map_drop]
    · rw [List.length_take,List.length_drop]
      have e1:HT.sIx (ns.map Dt.int).length 0 (some 11)=min 11 (ns.map Dt.int).length:=HT.qCL _ _ 11
      have e2:HT.sIx (ns.map Dt.int).length (ns.map Dt.int).length (some 63)=min 63 (ns.map Dt.int).length:=HT.qCL _ _ 63
      rw [e1,e2,List.length_map];omega
  obtain⟨hcut,hcl⟩:=hcut
  show tseq _ _ (Ed Pd) _ s
  refine qv ?_
  simp only [qEG,qA3,qAE,qB,qAA,qC,List.getElem?_cons_zero,hsc1]
  rw [hcut]
  have g1:(s++[SO.rw (cut.map .int)])[s.length]? = some (.rw (cut.map .int)):=qK
  have x1:qU s (s++[SO.rw (cut.map .int)]):=.app _ _
  have hrn:rn<s.length:=qAC hr
  generalize hsl:s.length=sl at g1 hrn
  generalize s++[SO.rw (cut.map .int)]=s1 at g1 x1
  have sq:∀ {s':Sto},s'[sl]? = some (.rw (cut.map .int))→qd s' (.lst sl)=some (cut.map .int):=fun {s'} h=>by
    show (s'[sl]?).map SO.items=_
    rw [h];rfl
  show (match qd s1 (.lst sl) with
    | some xs=>qKy xs (fun st'=>qd st' (.lst sl)=some xs) (qI 9) hoB _ _ s1
    | none=>False)
  rw [sq g1]
  refine⟨fun i ρ s'=>(∃ rn c p,ρ=RHo sc way t z many numbers es left rn c p none∧s0.length≤rn∧rn≠sl∧∃ bs,s'[rn]? = some (.rw ((fs++bs).map qS))∧Body numbers many es.length t bs∧bs.length≤2 * i)∧qU s0 s'∧s'[sl]? = some (.rw (cut.map .int)),⟨⟨rn,_,_,rfl,hn0,by omega,[],by rw [List.append_nil];exact x1 _ _ hr,.nil,Nat.zero_le _⟩,x0.trans x1,g1⟩,fun _ _ _ _ q=>sq q.2.2,?_,?_⟩
  · rintro i d ρ s' hd ⟨⟨rn,c,p,rfl,hrn0,hrs,bs,hr',hbs,hbl⟩,hx,hsl'⟩
    obtain⟨v,hv,rfl⟩:∃ v,cut[i]? = some v∧d = .int v:=by
      rw [List.getElem?_map] at hd
      cases e:cut[i]? with
      | none=>rw [e] at hd;cases hd
      | some v=>rw [e] at hd;exact⟨v,rfl,(Option.some.inj hd).symm⟩
    have hil:=(List.getElem?_eq_some_iff.mp hv).1
    show tseq _ _ _ (RHo sc way t z many numbers es left rn (some (.int v)) p none) s'
    refine qk ?_
    simp only [qF,qA,qE,qD,qz,qB,qC,List.getElem?_cons_zero,List.getElem?_cons_succ]
    refine⟨cdiv (by decide) (by decide),z10 8 (by decide),?_⟩
    refine⟨v / 3,way,s'.length,qMv,rfl,qK,by decide,by decide,fun ps s2 np x2 _ hnp hpin=>?_⟩
    have x2':qU s' s2:=(qU.app _ _).trans x2
    have hr2:=x2' _ _ hr'
    show tseq _ _ _ (RHo sc way t z many numbers es left rn (some (.int v)) (some (.lst np)) none) s2
    refine qv (ifS (b:=t&&decide (v%3=1)) (st':=s2) (qRg (fun P hp=>hp) fun _=>eqI fun P hp=>⟨by decide,hp⟩) (fun ht=>?_) fun _=>?_)
    · have ht:t=true:=by simpa using (Bool.and_eq_true_iff.mp ht).1
      refine qk ?_
      simp only [qD,qF,qA,qE,qB,qAq,qd,List.getElem?_cons_zero,List.getElem?_cons_succ]
      show qDW [.lst np,.int (numbers:Int),.int ((es.map exD).length:Int)] s2 _
      rw [List.length_map]
      refine⟨np,numbers,es.length,ps,rfl,hnp,hpin,n1,he1,fun rs2 s3 n3 x3 hrs2 hb2 hl2=>?_⟩
      have hr3:=x3 _ _ hr2
      simp only [L3.qm,hr3,hrs2]
      refine⟨by rw [List.length_map,List.length_map,List.length_append,sizeLine_eq];omega,?_⟩
      have hxx:qU s0 s3:=hx.trans (x2'.trans x3)
      have hsl3:=x3 _ _ (x2' _ _ hsl')
      refine⟨⟨s3.length,_,_,rfl,qQt hxx,(by have:=qAC hsl3;omega),bs++rs2,?_,hbs.append (ht ▸ hb2 many),by rw [List.length_append];omega⟩,hxx.trans (.app _ _),qe hsl3⟩
      rw [qK,← List.map_append,List.append_assoc]
    · refine qv ?_
      simp only [qAm,qAY,qF,qA,qE,qB,List.getElem?_cons_zero,List.getElem?_cons_succ]
      show qBE [.lst np,.int (many:Int),.int (numbers:Int)] s2 _
      refine⟨np,many,numbers,ps,rfl,hnp,hpin,sz,fun r s3 x3 ok=>?_⟩
      have hr3:=x3 _ _ hr2
      simp only [hr3]
      have hxx:qU s0 s3:=hx.trans (x2'.trans x3)
      refine⟨by rw [List.length_map,List.length_append,sizeLine_eq];omega,⟨rn,_,_,rfl,hrn0,hrs,bs++[r],?_,hbs.append (.plain r [] ok .nil),by simp;omega⟩,qIj hxx hrn0,qT (x3 _ _ (x2' _ _ hsl')) hrs⟩
      rw [KM.ql hr3,← List.append_assoc,List.map_append (l₂:=[r])];rfl
  · rintro ρ s' ⟨⟨rn,c,p,rfl,hrn0,hrs,bs,hr',hbs,hbl⟩,hx,hsl'⟩
    rw [List.length_map] at hbl
    exact qPt hx hrn0 hsc hr' he1 hes h5 sz hfs hfl hbs (by omega) hP
theorem qHW {ds:List Dt} {st:Sto} {Pd:VD} (h:qHb ds st Pd):qCv (Ed Pd) (qV ["script", "way", "items", "sizes", "many", "numbers", "exits", "left_out", "rows", "cell", "parts", "odd"] ds) st:=by
  obtain⟨sc,way,t,ns,rfl,hsc,hnl,w0,w1,hP⟩:=h
  show qCv (Ed Pd) [some (.lst sc),some (.int way),some (.bl t),none,none,none,none,none,none,none,none,none] st
  refine qk ?_
  simp only [qD,qF,qA,qE,qB,qC,List.getElem?_cons_zero,List.getElem?_cons_succ]
  refine⟨sc,5,ns,rfl,hsc,fun x=>⟨cdiv (by decide) (by decide),?_⟩⟩
  show tseq _ _ (Ed Pd) [some (.lst sc),some (.int way),some (.bl t),some (.int (x / 4)),none,none,none,none,none,none,none,none] st
  generalize x / 4=z
  refine qk ⟨by decide,?_⟩
  obtain⟨many,hm,m1,m2⟩:∃ m:Nat,3+z%14=(m:Int)∧3≤m∧m≤16:=⟨(3+z%14).toNat,by omega,by omega,by omega⟩
  simp only [L3.qm,hm]
  show tseq _ _ (Ed Pd) [some (.lst sc),some (.int way),some (.bl t),some (.int z),some (.int (many:Int)),none,none,none,none,none,none,none] st
  refine qk ?_
  simp only [qD,qB,qC,qAk,qj,L3.qm,L3.qAe,List.getElem?_cons_zero,List.getElem?_cons_succ]
  refine⟨cdiv (by decide) (by decide),by show (0:Int)<(many:Int) - 1;omega,?_⟩
  have hmod0:=Int.emod_nonneg (z / 14) (show (many:Int) - 1≠0 by omega)
  have hmod1:=Int.emod_lt_of_pos (z / 14) (show (0:Int)<(many:Int) - 1 by omega)
  obtain⟨numbers,hn,n1,n2⟩:∃ m:Nat,1+z / 14%((many:Int) - 1)=(m:Int)∧1≤m∧m<many:=⟨(1+z / 14%((many:Int) - 1)).toNat,by omega,by omega,by omega⟩
  rw [hn]
  show tseq _ _ (Ed Pd) [some (.lst sc),some (.int way),some (.bl t),some (.int z),some (.int (many:Int)),some (.int (numbers:Int)),none,none,none,none,none,none] st
  refine qk ?_
  k_dat 0"r89"
  have sz:Sz numbers many:=⟨n1,n2,m2⟩
  refine⟨sc,numbers,many,way,ns,rfl,hsc,w0,w1,sz,fun es s1 x1 he1 hes h5=>?_⟩
  show tseq _ _ (Ed Pd) [some (.lst sc),some (.int way),some (.bl t),some (.int z),some (.int (many:Int)),some (.int (numbers:Int)),some (.tup (es.map exD)),none,none,none,none,none] s1
  refine qk ?_
  simp only [qD,qF,qA,qE,qB,qC,qAk,qj,qKq,List.getElem?_cons_zero,List.getElem?_cons_succ]
  refine⟨cdiv (by decide) (by decide),⟨by decide,by decide,by decide⟩,by decide,cdiv (by decide) (by decide),by decide,rfl,rfl,?_⟩
  refine⟨.inl ?_,?_⟩
  · have h0:=Int.emod_nonneg (z / 800) (show (1:Int) * 2 ^ (20:Int).toNat≠0 by decide)
    have h1:=Int.emod_lt_of_pos (z / 800) (show (0:Int)<1 * 2 ^ (20:Int).toNat by decide)
    have h2:(1:Int) * 2 ^ (20:Int).toNat=1048576:=by decide
    rw [h2] at h0 h1 ⊢
    omega
  generalize (z / 800%(1 * 2 ^ (20:Int).toNat) * _:Int)=left
  show tseq _ _ (Ed Pd) [some (.lst sc),some (.int way),some (.bl t),some (.int z),some (.int (many:Int)),some (.int (numbers:Int)),some (.tup (es.map exD)),some (.int left),none,none,none,none] s1
  refine qk ?_
  k_dat 0"r89"
  refine⟨many,numbers,left,rfl,sz,fun rs s2 rn x2 hle hr hf=>?_⟩
  refine qO0 (s0:=s1) x2 hle (x1 _ _ hsc) hnl hr he1 hes h5 sz hf ?_ fun rs es a st' hx hh=>hP numbers many rs es a st' (x1.trans hx) hh
  obtain⟨a,b,rfl,-,-,la,lb⟩:=hf
  simp only [qPH,List.length_append,List.length_map,List.length_range]
  omega
end KT
namespace KU
open PySem PySem.Spec PyProof.Rows L2 L3 K02 K85 K06 KM KT
section
variable {st:Sto} {h M:Nat} {m:Ms} {hn sn cn rn tn:Nat} {L:List Dt} {ρ:Rho} {P:VD}
theorem qSt {r:Rw} {s:Sto} (hp:P (.str r.w) s):qJ (qS r) (.int 0) s P:=ix0 (r:=r) (ρ:=[some (qS r)]) (i:=0) rfl P hp
theorem qJz {xs:List Dt} {j:Nat} {d:Dt} {s:Sto} (hj:xs[j]? = some d) (hp:P d s):qJ (.tup xs) (.int (j:Int)) s P:=rS (ρ:=[some (.tup xs)]) (i:=0) rfl hj P hp
end
end KU
namespace K62
open PySem L2 L3 K02 K85 K06 KM
end K62
namespace K62
open PySem L2 L3 K02 K85 K06 KM
theorem qHN {xs:List Int} {i:Nat} {v w:Int} (h:w∈xs.set i v):w=v∨w∈xs:=by
  rcases List.mem_or_eq_of_mem_set h with h | h
  · exact .inr h
  · exact .inl h
theorem getD_in {xs:List Int} {Q:Int→Prop} (h:∀ v∈xs,Q v) (h0:Q 0) (i:Nat):Q (xs.getD i 0):=by
  rw [List.getD_eq_getElem?_getD]
  cases e:xs[i]? with
  | none=>exact h0
  | some v=>exact h v (List.mem_of_getElem? e)
theorem qJa {g:GS} (ok:g.Ok):(next g).Ok:=⟨Int.emod_nonneg _ (by decide),ok.b8,ok.bb,ok.c8,ok.cm,ok.cb,ok.rb⟩
theorem qIi {g:GS} (ok:g.Ok) (a v:Int) (hv:0≤v∧v<65536):(qIW g a v).Ok :=
  ⟨Int.emod_nonneg _ (by decide),by show (g.bs.set _ _).length=8;rw [List.length_set];exact ok.b8,fun w hw=>by rcases qHN hw with rfl | hw;exact hv;exact ok.bb w hw,ok.c8,ok.cm,ok.cb,ok.rb⟩
theorem qQW {g:GS} (ok:g.Ok) (a v:Int) (k:Bool) (hv:0≤v∧v<65536):(qMZ g a v k).Ok :=
  have h:=qIi ok a v hv
  ⟨h.p0,h.b8,h.bb,h.c8,h.cm,h.cb,h.rb⟩
theorem qPM {a b:Int} (ha:0≤a) (hb:0≤b):a / b≤a:=Int.ediv_le_self b ha
end K62
namespace K62
open PySem PySem.Spec PyProof.Rows L2 L3 KS K02 K85 K06 KM KL
theorem gIx {g:GS} {ρ:Rho} {i j:Nat} {s:Sto} {d:Dt} {P:VD} (hi:ρ[i]? = some (some g.d)) (hj:[.int g.p,.tup (g.bs.map .int),msD g.m,svD g.sv,.tup (g.rs.map .int),.tup (g.cs.map .int)][j]? = some d) (h:P d s):qD qJ (qB i) (qC (Dt.int (j:Int))) ρ s P:=rS hi hj _ h
end K62
namespace K62
open PySem PySem.Spec PyProof.Rows L2 L3 KS K02 K85 K06 KM KL
theorem qSL {g:GS} {j:Nat} {s:Sto} {d:Dt} {P:VD} (hj:[.int g.p,.tup (g.bs.map .int),msD g.m,svD g.sv,.tup (g.rs.map .int),.tup (g.cs.map .int)][j]? = some d) (h:P d s):qJ g.d (.int (j:Int)) s P:=gIx (ρ:=[some g.d]) (i:=0) rfl hj h
end K62
namespace K62
open PySem PySem.Spec PyProof.Rows L2 L3 KS K02 K85 K06 KM KL
end K62
namespace KU
open PySem PySem.Spec PyProof.Rows L2 L3 K02 K85 K06 KM KT
theorem qJb (kvs:List (Key×Dt)) (k k':Key) (d:Dt):qC9 (putD kvs k d) k'=if k'=k then some d else qC9 kvs k':=by
  unfold putD
  by_cases ha:(kvs.any fun kv=>decide (kv.1=k))=true
  · rw [if_pos ha]
    induction kvs with
    | nil=>cases ha
    | cons kv kvs ih =>
      unfold qC9
      rw [List.map_cons,List.find?_cons,List.find?_cons]
      by_cases hk:kv.1=k
      · rw [if_pos hk]
        by_cases hq:k'=k
        · rw [if_pos hq]
          have:decide ((kv.1,d).1=k')=true:=by simp [hk,hq]
          rw [this];rfl
        · rw [if_neg hq]
          have e1:decide ((kv.1,d).1=k')=false:=by simp;rw [hk];exact fun e=>hq e.symm
          have e2:decide (kv.1=k')=false:=by simp;rw [hk];exact fun e=>hq e.symm
          rw [e1]
          by_cases hb:(kvs.any fun kv=>decide (kv.1=k))=true
          · have:=ih hb
            rw [if_neg hq] at this
            exact this
          · show qC9 _ k'=qC9 _ k'
            have e3:kvs.map (fun kv=>if kv.1=k then (kv.1,d) else kv)=kvs:=by
              conv=>rhs;rw [← List.map_id kvs]
              apply List.map_congr_left
              intro z hz
              have:¬ z.1=k:=fun e=>hb (List.any_eq_true.mpr ⟨z,hz,by simpa using e⟩)
              rw [if_neg this];rfl
            rw [e3]
      · rw [if_neg hk]
        have hb:(kvs.any fun kv=>decide (kv.1=k))=true:=by
          rw [List.any_cons] at ha
          simpa [hk] using ha
        have:=ih hb
        cases hd:decide (kv.1=k') with
        | true =>
          have hkk:kv.1=k':=by simpa using hd
          have hq:¬ k'=k:=fun e=>hk (hkk.trans e)
          rw [if_neg hq]
        | false=>exact this
  · rw [if_neg ha]
    have hn:∀ z∈kvs,¬ z.1=k:=fun z hz e=>ha (List.any_eq_true.mpr ⟨z,hz,by simpa using e⟩)
    unfold qC9
    rw [List.find?_append]
    by_cases hq:k'=k
    · rw [if_pos hq]
      have e:kvs.find? (fun kv=>decide (kv.1=k'))=none:=by
        rw [List.find?_eq_none]
        intro z hz
        rw [hq];simpa using hn z hz
      rw [e,hq]
      simp
    · rw [if_neg hq]
      cases kvs.find? (fun kv=>decide (kv.1=k')) with
      | some z=>rfl
      | none =>
        have:decide (k=k')=false:=by simp;exact fun e=>hq e.symm
        simp [this]
theorem qBS (H:Hd) (d x:Int) (v:Dt):inH (qAn H d v) x=if x=d then v else inH H x:=by
  unfold inH qAn
  rw [qJb]
  by_cases h:x=d
  · rw [if_pos h,if_pos (by rw [h])];rfl
  · rw [if_neg h,if_neg (by intro e;exact h (Sum.inl.inj e))]
theorem qBm (H:Hd) (d x:Int) (v:Dt):onS (qC8 H d v) x=if x=d then v else onS H x:=by
  unfold onS qC8
  rw [qJb]
  by_cases h:x=d
  · rw [if_pos h,if_pos (by rw [h])];rfl
  · rw [if_neg h,if_neg (by intro e;exact h (Sum.inl.inj e))]
section
variable {st:Sto} {h M:Nat} {m:Ms} {hn sn cn rn tn:Nat} {L:List Dt} {Pd:VD} {r:Rw} {wt:List Int}
theorem qNY {m:Ms} {w:KD.IW} {ps given:List Int} {r:Res} (e:KD.qAr m.g w ps (given.getD m.heard 0)=r) (hs:r.1=Str.ofString "on"):qCf m w ps given=true:=by unfold qCf;rw [e];exact decide_eq_true hs
end
end KU
namespace KU
open PySem PySem.Spec PyProof.Rows L2 L3 K02 K85 K06 KM KT
end KU
namespace KU
open PySem PySem.Spec PyProof.Rows L2 L3 K02 K85 K06 KM KT
noncomputable def qQ9 (w:Str):Bool:=[Str.ofString "get",Str.ofString "set",Str.ofString "div",Str.ofString "tell",Str.ofString "hear",Str.ofString "right"].any fun z=>z==w
theorem qQ8 {M:Nat} {H:Hd} {r:Rw} {w:KD.IW} {ps:List Int} {d e f:Int} (q:DoI M H r w ps d e f):((r.w==Str.ofString "out")=false∧(r.w==Str.ofString "when")=false∧(r.w==Str.ofString "back")=false)∧qQ9 r.w=true:=by
  cases q<;>exact⟨⟨by dsimp only;decide +kernel,by dsimp only;decide +kernel,by dsimp only;decide +kernel⟩,by dsimp only;decide +kernel⟩
end KU
namespace KU
open PySem PySem.Spec PyProof.Rows L2 L3 K02 K85 K06 KM KT
theorem qLi (g:GS) (w:KD.IW) (ps:List Int) (x:Int):(KD.qAr g w ps x).2.1.sv=g.sv:=by
  cases w<;>simp only [KD.qAr,qIz,setG,qJC,qDQ,onG,qGX,qMZ,qIW,next]<;>(try split)<;>rfl
theorem qM9 {M:Nat} {given wt:List Int} {c0:Nat} {m m':Ms} {l:List Rw} {e c:Nat} {r:Rw} (q:Runs M given wt c0 m l m' e r c):c0<c∧l[c - 1 - c0]? = some r∧c≤c0+l.length:=by
  induction q with
  | here c m m' r rs e ok d=>exact⟨Nat.lt_succ_self _,by simp,by simp⟩
  | next c m m1 m' r r' rs e c' ok d q ih =>
    obtain⟨h1,h2,h3⟩:=ih
    refine⟨by omega,?_,by simp;omega⟩
    have:c' - 1 - c=(c' - 1 - (c+1))+1:=by omega
    rw [this,List.getElem?_cons_succ];exact h2
section
variable {st:Sto} {h M:Nat} {m:Ms} {hn sn cn rn tn:Nat} {L:List Dt} {Pd:VD} {wt given:List Int} {gn:Nat} {g:GS} {host:Dt} {c:Int} {x6:Option Dt} {how:Str} {n:Int}
theorem tnx {E:qBH} {ρ:Rho} {s:Sto} (h:E.nx ρ s):qG E ρ s:=h
end
end KU
namespace KU
open PySem PySem.Spec PyProof.Rows L2 L3 K02 K85 K06 KM KT
end KU
namespace KU
open PySem L2 L3 K02 K85 K06 KM KT
theorem qMt {M:Nat} {H:Hd} {r:Rw} {d:Int} {v:Dt} (q:DoV M H r d v):Puts H r (qAn H d v):=by
  cases q with
  | load d s=>exact .load _ _
  | num d v=>exact .num _ _
  | box d k v h=>exact .box _ _ _ h
  | mark d k v h=>exact .mark _ _ _ h
  | yes d=>exact .yes _
  | no d=>exact .no _
  | nought d x a hx ha=>exact .nought _ _ _ ha
  | high d x a hx ha h16=>exact .high _ _ _ ha
  | two o d x y a b hx hy ha hb a16 b16=>exact .two _ _ _ _ _ _ ha hb a16.1 a16.2 b16.1 b16.2
theorem qLh {M:Nat} {H H':Hd} {r:Rw} (q:DoP M H r H'):Puts H r H':=by
  cases q with
  | keep s x hx=>exact .keep _ _
  | hand r0 d v hd dv=>exact qMt dv
theorem qMT {M:Nat} {H:Hd} {sv:Option (Int×M3)} {r:Rw} {e:Int} (q:DoL M H sv r e):Last H sv r e:=by
  cases q with
  | out e=>exact .out _
  | back e f=>exact .back _ _
  | whn x e f t hx ht=>exact .whn _ _ _ _ ht
theorem qGt {M:Nat} {H:Hd} {r:Rw} {w:KD.IW} {ps:List Int} {d e f:Int} (q:DoI M H r w ps d e f):ItR H r w ps d:=by
  cases q with
  | get d x y e a b hd hx hy ha hb=>exact .get _ _ _ _ _ _ ha hb
  | set x y z e f a b c hx hy hz ha hb hc=>exact .set _ _ _ _ _ _ _ _ ha hb hc
  | div d x y e a b hd hx hy ha hb=>exact .div _ _ _ _ _ _ ha hb
  | tell x a hx ha=>exact .tell _ _ ha
  | hear d hd=>exact .hear _
  | right x y e a b hx hy ha hb=>exact .right _ _ _ _ _ ha hb
theorem qDm {w:Str} {xs:List Int} {l:List Nat} (h:cs (qh w)=l):partsOf (qh w) xs "e" = ((xs.zip l).filter fun p=>one p.2==("e" : Str)).map (·.1):=by unfold partsOf;rw [h]
theorem qOM {M:Nat} {m:Ms} {r:Rw} {w:KD.IW} {ps given:List Int} {d e f:Int} (q:DoI M m.H r w ps d e f) (ho:qCf m w ps given=false):(partsOf (qh r.w) r.xs "e")[0]? = some e:=by
  have e0:(one 100==("e" : Str))=false:=by decide +kernel
  have e1:(one 101==("e" : Str))=true:=by decide +kernel
  have e2:(one 120==("e" : Str))=false:=by decide +kernel
  cases q with
  | get d x y e a b hd hx hy ha hb =>
    rw [qDm (l:=[100,120,120,101]) (by dsimp only;decide +kernel)]
    k_dat 0"r44"
  | set x y z e f a b c hx hy hz ha hb hc =>
    rw [qDm (l:=[120,120,120,101,101]) (by dsimp only;decide +kernel)]
    k_dat 0"r44"
  | div d x y e a b hd hx hy ha hb =>
    rw [qDm (l:=[100,120,120,101]) (by dsimp only;decide +kernel)]
    k_dat 0"r44"
  | tell x a hx ha=>cases (show qCf m .tell [a] given=true from qNY (m:=m) rfl rfl).symm.trans ho
  | hear d hd=>cases (show qCf m .hear [] given=true from qNY (m:=m) rfl rfl).symm.trans ho
  | right x y e a b hx hy ha hb =>
    rw [qDm (l:=[120,120,101]) (by dsimp only;decide +kernel)]
    k_dat 0"r44"
theorem qOR {M:Nat} {H:Hd} {r:Rw} {w:KD.IW} {ps wt:List Int} {d e f:Int} (q:DoI M H r w ps d e f) (hs:KD.qBQ w ps wt=true):(partsOf (qh r.w) r.xs "e")[1]? = some f:=by
  have e0:(one 100==("e" : Str))=false:=by decide +kernel
  have e1:(one 101==("e" : Str))=true:=by decide +kernel
  have e2:(one 120==("e" : Str))=false:=by decide +kernel
  cases q with
  | set x y z e f a b c hx hy hz ha hb hc =>
    rw [qDm (l:=[120,120,120,101,101]) (by dsimp only;decide +kernel)]
    k_dat 0"r44"
  | _=>cases hs
theorem qGK {M:Nat} {given wt:List Int} {m m':Ms} {r:Rw} {o:Option Int} (q:qEw M given wt m r o m'):Step given wt m r o m':=by
  cases q with
  | put H' dp=>exact .put _ _ (qLh dp)
  | last e dl=>exact .last _ _ (qMT dl)
  | item w ps d e f di hps ok =>
    cases ho:qCf m w ps given with
    | false=>exact .fault _ _ _ d _ (qGt di) hps (by simpa [qCf] using ho) (qOM di ho)
    | true =>
      have he:(KD.qAr m.g w ps (given.getD m.heard 0)).1 = "on":=by simpa [qCf] using ho
      cases hs:KD.qBQ w ps wt with
      | true=>exact .shut _ _ _ d _ (qGt di) hps he hs (qOR di hs)
      | false=>exact .item _ _ _ _ (qGt di) hps he hs
theorem qJc {M:Nat} {given wt:List Int} {c0:Nat} {m m':Ms} {l:List Rw} {e c:Nat} {r:Rw} (q:Runs M given wt c0 m l m' e r c):Go given wt c0 m l m' e r c:=by
  induction q with
  | here c m m' r rs e ok d=>exact .here _ _ _ _ _ _ ok (qGK d)
  | next c m m1 m' r r' rs e c' ok d q ih=>exact .next _ _ _ _ _ _ _ _ _ ok (qGK d) ih
structure Ty (N M:Nat) (m:Ms):Prop where
  hN:∀ x,isN N x→∃ v,inH m.H x = .int v∧qAJ v
  hT:∀ x,isT N M x→∃ b,inH m.H x = .bl b
  sN:∀ s,KT.sN s→∃ v,onS m.H s = .int v∧qAJ v
  sT:∀ s,KT.sT s→∃ b,onS m.H s = .bl b
  b8:m.H.bx.length=8
  bb:∀ v∈m.H.bx,qAJ v
  ok:m.g.Ok
theorem qAO {N M:Nat} {x:Int} (sz:Sz N M) (h:isN N x):inM M x:=⟨h.1,by have:=h.2;have:=sz.nm;omega⟩
theorem qDD {N M:Nat} {x:Int} (h:isT N M x):inM M x:=⟨by have:=h.1;omega,h.2⟩
section
variable {N M E:Nat} {m:Ms} {given wt:List Int}
theorem Ty.putN (t:Ty N M m) {d v:Int} (hd:isN N d) (hv:qAJ v) {m':Ms} (e1:m'.H=qAn m.H d (.int v)) (ok:m'.g.Ok):Ty N M m':=by
  refine⟨?_,?_,?_,?_,by rw [e1];exact t.b8,by rw [e1];exact t.bb,ok⟩
  · intro x hx
    rw [e1,qBS]
    by_cases q:x=d
    · rw [if_pos q];exact⟨v,rfl,hv⟩
    · rw [if_neg q];exact t.hN x hx
  · intro x hx
    rw [e1,qBS,if_neg (by have:=hd.2;have:=hx.1;omega)];exact t.hT x hx
  · rw [e1];exact t.sN
  · rw [e1];exact t.sT
theorem Ty.qIl (t:Ty N M m) {d:Int} {b:Bool} (hd:isT N M d) {m':Ms} (e1:m'.H=qAn m.H d (.bl b)) (ok:m'.g.Ok):Ty N M m':=by
  refine⟨?_,?_,?_,?_,by rw [e1];exact t.b8,by rw [e1];exact t.bb,ok⟩
  · intro x hx
    rw [e1,qBS,if_neg (by have:=hd.1;have:=hx.2;omega)];exact t.hN x hx
  · intro x hx
    rw [e1,qBS]
    by_cases q:x=d
    · rw [if_pos q];exact⟨b,rfl⟩
    · rw [if_neg q];exact t.hT x hx
  · rw [e1];exact t.sN
  · rw [e1];exact t.sT
theorem Ty.shN (t:Ty N M m) {s v:Int} (hs:KT.sN s) (hv:qAJ v) {m':Ms} (e1:m'.H=qC8 m.H s (.int v)) (ok:m'.g.Ok):Ty N M m':=by
  k_dat 0"r136"
  · intro x hx
    rw [e1,qBm]
    by_cases q:x=s
    · rw [if_pos q];exact⟨v,rfl,hv⟩
    · rw [if_neg q];exact t.sN x hx
  · intro x hx
    rw [e1,qBm,if_neg (by have:=hs.2;have:=hx.1;omega)];exact t.sT x hx
theorem Ty.shT (t:Ty N M m) {s:Int} {b:Bool} (hs:KT.sT s) {m':Ms} (e1:m'.H=qC8 m.H s (.bl b)) (ok:m'.g.Ok):Ty N M m':=by
  k_dat 0"r136"
  · intro x hx
    rw [e1,qBm,if_neg (by have:=hs.1;have:=hx.2;omega)];exact t.sN x hx
  · intro x hx
    rw [e1,qBm]
    by_cases q:x=s
    · rw [if_pos q];exact⟨b,rfl⟩
    · rw [if_neg q];exact t.sT x hx
theorem qRj {o:KW.Op2} {a b:Int} (ho:o = .add∨o = .sub∨o = .mul):∃ v,KW.two o a b = .n v∧qAJ v:=by
  rcases ho with rfl | rfl | rfl
  · k_dat 0"r90"
  · k_dat 0"r90"
  · k_dat 0"r90"
theorem qRW {o:KW.Op2} {a b:Int} (ho:¬ (o = .add∨o = .sub∨o = .mul)):∃ v,KW.two o a b = .b v:=by
  cases o with
  | add=>exact absurd (.inl rfl) ho
  | sub=>exact absurd (.inr (.inl rfl)) ho
  | mul=>exact absurd (.inr (.inr rfl)) ho
  | over=>exact⟨_,rfl⟩
  | under=>exact⟨_,rfl⟩
  | wide=>exact⟨_,rfl⟩
  | rest=>exact⟨_,rfl⟩
theorem plain (sz:Sz N M) (t:Ty N M m) {r:Rw} (p:TyP N M r):∃ H',DoP M m.H r H'∧Ty N M { m with H:=H' }:=by
  cases p with
  | num d v hd hv=>exact⟨_,.hand _ _ _ (qAO sz hd) (.num _ _),t.putN hd hv rfl t.ok⟩
  | box d k hd hk =>
    obtain⟨j,rfl⟩:∃ j:Nat,k=(j:Int):=⟨k.toNat,by omega⟩
    have hj:j<m.H.bx.length:=by rw [t.b8];omega
    exact⟨_,.hand _ _ _ (qAO sz hd) (.box _ j m.H.bx[j] (List.getElem?_eq_getElem hj)),t.putN hd (t.bb _ (List.getElem_mem hj)) rfl t.ok⟩
  | two o d x y ho hd hx hy =>
    k_dat 0"r18"
    k_dat 0"r45"
    obtain⟨v,hv,v16⟩:=qRj (a:=a) (b:=b) ho
    exact⟨_,.hand _ _ _ (qAO sz hd) (.two o d x y a b (qAO sz hx) (qAO sz hy) ha hb a16 b16),t.putN hd v16 (by rw [hv];rfl) t.ok⟩
  | load d s hd hs =>
    obtain⟨v,hv,v16⟩:=t.sN s hs
    exact⟨_,.hand _ _ _ (qAO sz hd) (.load _ _),t.putN hd v16 (by rw [hv]) t.ok⟩
  | keep s x hs hx =>
    obtain⟨v,hv,v16⟩:=t.hN x hx
    exact⟨_,.keep _ _ (qAO sz hx),t.shN hs v16 (by rw [hv]) t.ok⟩
  | twoT o d x y ho hd hx hy =>
    k_dat 0"r18"
    k_dat 0"r45"
    obtain⟨v,hv⟩:=qRW (a:=a) (b:=b) ho
    exact⟨_,.hand _ _ _ (qDD hd) (.two o d x y a b (qAO sz hx) (qAO sz hy) ha hb a16 b16),t.qIl hd (by rw [hv];rfl) t.ok⟩
  | nought d x hd hx =>
    k_dat 0"r18"
    exact⟨_,.hand _ _ _ (qDD hd) (.nought _ _ a (qAO sz hx) ha),t.qIl hd rfl t.ok⟩
  | high d x hd hx =>
    k_dat 0"r18"
    exact⟨_,.hand _ _ _ (qDD hd) (.high _ _ a (qAO sz hx) ha a16),t.qIl hd rfl t.ok⟩
  | mark d k hd hk =>
    obtain⟨j,rfl⟩:∃ j:Nat,k=(j:Int):=⟨k.toNat,by omega⟩
    obtain⟨b,hb⟩:∃ b,(mL m.H.ms)[j]? = some (.bl b):=by
      rcases (show j=0∨j=1∨j=2 by omega) with rfl | rfl | rfl<;>exact⟨_,rfl⟩
    exact⟨_,.hand _ _ _ (qDD hd) (.mark _ j _ hb),t.qIl hd rfl t.ok⟩
  | yes d hd=>exact⟨_,.hand _ _ _ (qDD hd) (.yes _),t.qIl hd rfl t.ok⟩
  | no d hd=>exact⟨_,.hand _ _ _ (qDD hd) (.no _),t.qIl hd rfl t.ok⟩
  | loadT d s hd hs =>
    obtain⟨b,hb⟩:=t.sT s hs
    exact⟨_,.hand _ _ _ (qDD hd) (.load _ _),t.qIl hd (by rw [hb]) t.ok⟩
  | qFk s x hs hx =>
    obtain⟨b,hb⟩:=t.hT x hx
    exact⟨_,.keep _ _ (qDD hx),t.shT hs (by rw [hb]) t.ok⟩
end
end KU
namespace KU
open PySem L2 L3 K02 K85 K06 KM KT
theorem qNS {g:GS} {w:KD.IW} {ps:List Int} {x:Int} (ok:g.Ok) (hps:∀ v∈ps,qAJ v) (h8:w = .right→ps.getD 1 0<8) (hx:qAJ x):(KD.qAr g w ps x).2.1.Ok:=by
  have hp:∀ i,qAJ (ps.getD i 0):=fun i=>K62.getD_in (Q:=qAJ) hps (by unfold qAJ;decide) i
  cases w with
  | get =>
    show (qIz g 0 _).2.1.Ok
    unfold qIz
    split
    · exact K62.qIi ok _ _ (K62.getD_in (Q:=fun v=>0≤v∧v<65536) ok.cb (by decide) _)
    · exact ok
  | set =>
    show (setG g (ps.getD 2 0) _).2.1.Ok
    unfold setG
    split
    · have n:=K62.qJa ok
      refine⟨n.p0,n.b8,n.bb,?_,?_,?_,n.rb⟩
      · show (g.cs.set _ _).length=_;rw [List.length_set];exact n.c8
      · show (g.cs.set _ _).length≤_;rw [List.length_set];exact n.cm
      · intro v hv
        rcases K62.qHN hv with rfl | hv
        · exact hp 2
        · exact ok.cb v hv
    · exact ok
  | div =>
    show (qJC g 0 (ps.getD 0 0) (ps.getD 1 0)).2.1.Ok
    unfold qJC
    split
    · exact ok
    · have a:=hp 0
      have b:=hp 1
      refine K62.qQW ok _ _ _ ⟨Int.ediv_nonneg a.1 b.1,?_⟩
      have:=K62.qPM a.1 b.1
      have:=a.2
      omega
  | tell=>exact ok
  | hear=>exact K62.qIi ok _ _ hx
  | right =>
    show (qDQ g (ps.getD 0 0) (ps.getD 1 0)).2.1.Ok
    unfold qDQ
    split
    · have n:=K62.qJa ok
      refine⟨n.p0,n.b8,n.bb,?_,n.cm,n.cb,?_⟩
      · show _=8 * (g.rs.set _ _).length;rw [List.length_set];exact n.c8
      · intro v hv
        rcases K62.qHN hv with rfl | hv
        · exact⟨(hp 1).1,h8 rfl⟩
        · exact ok.rb v hv
    · exact ok
section
variable {N M E:Nat} {m:Ms} {given wt:List Int}
def Out (N M E:Nat) (given wt:List Int) (m:Ms) (r:Rw):Prop:=∃ o m',qEw M given wt m r o m'∧Ty N M m'∧m'.g.sv=m.g.sv∧(o=none∨∃ e:Nat,e<E∧o=some (e:Int))∧decide (r.w = "back")=false
theorem qB8 (t:Ty N M m) (hg:∀ v∈given,qAJ v) {r:Rw} {w:KD.IW} {ps:List Int} {d e f:Int} (di:DoI M m.H r w ps d e f) (hps:∀ v∈ps,qAJ v) (h8:w = .right→ps.getD 1 0<8) (hd:KD.qBe w=true→isN N d) (he:qCf m w ps given=false→∃ e':Nat,e'<E∧e=(e':Int)) (hf:KD.qBQ w ps wt=true→∃ f':Nat,f'<E∧f=(f':Int)):Out N M E given wt m r:=by
  have hx:qAJ (given.getD m.heard 0):=K62.getD_in (Q:=qAJ) hg (by unfold qAJ;decide) _
  have ok2:=qNS t.ok hps h8 hx
  have sv2:=qLi m.g w ps (given.getD m.heard 0)
  have tl:Ty N M (qDa m w ps given):=⟨t.hN,t.hT,t.sN,t.sT,t.b8,t.bb,ok2⟩
  have ta:Ty N M (after m w ps given d):=by
    cases hb:KD.qBe w with
    | true =>
      refine t.putN (hd hb) (v:=(KD.qAr m.g w ps (given.getD m.heard 0)).2.1.bs.getD 0 0) ?_ ?_ ok2
      · exact K62.getD_in (Q:=qAJ) ok2.bb (by unfold qAJ;decide) _
      · show (if KD.qBe w=true then _ else _)=_;rw [hb];rfl
    | false =>
      have e1:(after m w ps given d).H=m.H:=by show (if KD.qBe w=true then _ else _)=_;rw [hb];rfl
      exact⟨by rw [e1];exact t.hN,by rw [e1];exact t.hT,by rw [e1];exact t.sN,by rw [e1];exact t.sT,by rw [e1];exact t.b8,by rw [e1];exact t.bb,ok2⟩
  have nb:decide (r.w = "back")=false:=by rw [← K02.qO7];exact (qQ8 di).1.2.2
  refine⟨_,_,.item r w ps d e f di hps t.ok,?_,?_,?_,nb⟩
  · cases qCf m w ps given with
    | false=>exact tl
    | true =>
      cases KD.qBQ w ps wt with
      | true=>exact tl
      | false=>exact ta
  · cases qCf m w ps given with
    | false=>exact sv2
    | true =>
      cases KD.qBQ w ps wt with
      | true=>exact sv2
      | false=>exact sv2
  · cases ho:qCf m w ps given with
    | false =>
      obtain⟨e',h1,rfl⟩:=he ho
      exact .inr ⟨e',h1,rfl⟩
    | true =>
      cases hs:KD.qBQ w ps wt with
      | true =>
        obtain⟨f',h1,rfl⟩:=hf hs
        exact .inr ⟨f',h1,rfl⟩
      | false=>exact .inl rfl
theorem qLD {a b:Int} (ha:qAJ a) (hb:qAJ b):∀ v∈[a,b],qAJ v:=fun v hv=>by
  simp only [List.mem_cons,List.not_mem_nil,or_false] at hv
  rcases hv with rfl | rfl
  · exact ha
  · exact hb
theorem item (sz:Sz N M) (t:Ty N M m) (hg:∀ v∈given,qAJ v) {r:Rw} (p:TyI N E r):Out N M E given wt m r:=by
  cases p with
  | get d x y e hd hx hy he =>
    k_dat 0"r18"
    k_dat 0"r45"
    exact qB8 t hg (.get _ _ _ _ a b (qAO sz hd) (qAO sz hx) (qAO sz hy) ha hb) (qLD a16 b16) nofun (fun _=>hd) (fun _=>⟨e,he,rfl⟩) nofun
  | set x y z e f hx hy hz he hf =>
    k_dat 0"r18"
    k_dat 0"r45"
    obtain⟨c,hc,c16⟩:=t.hN z hz
    refine qB8 t hg (.set _ _ _ _ _ a b c (qAO sz hx) (qAO sz hy) (qAO sz hz) ha hb hc) (fun v hv=>?_) nofun nofun (fun _=>⟨e,he,rfl⟩) (fun _=>⟨f,hf,rfl⟩)
    simp only [List.mem_cons,List.not_mem_nil,or_false] at hv
    rcases hv with rfl | rfl | rfl
    · exact a16
    · exact b16
    · exact c16
  | div d x y e hd hx hy he =>
    k_dat 0"r18"
    k_dat 0"r45"
    exact qB8 t hg (.div _ _ _ _ a b (qAO sz hd) (qAO sz hx) (qAO sz hy) ha hb) (qLD a16 b16) nofun (fun _=>hd) (fun _=>⟨e,he,rfl⟩) nofun
  | tell x hx =>
    k_dat 0"r18"
    refine qB8 t hg (.tell _ a (qAO sz hx) ha) (fun v hv=>?_) nofun nofun (fun q=>?_) nofun
    · rw [List.mem_singleton] at hv;rw [hv];exact a16
    · cases (show qCf m .tell [a] given=true from qNY (m:=m) rfl rfl).symm.trans q
  | hear d hd =>
    refine qB8 t hg (.hear _ (qAO sz hd)) (fun v hv=>by cases hv) nofun (fun _=>hd) (fun q=>?_) nofun
    cases (show qCf m .hear [] given=true from qNY (m:=m) rfl rfl).symm.trans q
theorem right (sz:Sz N M) (t:Ty N M m) (hg:∀ v∈given,qAJ v) {x y k:Int} {e:Nat} (hx:isN N x) (hy:isN N y) (hk:0≤k∧k<8) (he:e<E) (hyk:inH m.H y = .int k):Out N M E given wt m ⟨"right",[x,y,(e:Int)]⟩:=by
  k_dat 0"r18"
  exact qB8 t hg (.right _ _ _ a k (qAO sz hx) (qAO sz hy) ha hyk) (qLD a16 ⟨hk.1,by omega⟩) (fun _=>hk.2) nofun (fun _=>⟨e,he,rfl⟩) nofun
def qPE (N M E:Nat) (given wt:List Int) (c:Nat) (m:Ms) (b:List Rw):Prop :=
  (∃ (m':Ms) (e:Nat) (r:Rw) (c':Nat),e<E∧Ty N M m'∧m'.g.sv=m.g.sv∧decide (r.w = "back")=false∧∀ rest,Runs M given wt c m (b++rest) m' e r c') ∨
  (∃ m1:Ms,Ty N M m1∧m1.g.sv=m.g.sv∧∀ rest m' e r c',Runs M given wt (c+b.length) m1 rest m' e r c'→Runs M given wt c m (b++rest) m' e r c')
theorem Out.qR2 {r:Rw} {b:List Rw} {c:Nat} (t:Ty N M m) (q:Out N M E given wt m r) (ih:∀ m1,Ty N M m1→m1.g.sv=m.g.sv→qEw M given wt m r none m1→qPE N M E given wt (c+1) m1 b):qPE N M E given wt c m (r::b):=by
  obtain⟨o,m1,d,t1,sv1,ho,nb⟩:=q
  rcases ho with rfl | ⟨e,he,rfl⟩
  · rcases ih m1 t1 sv1 d with ⟨m',e,r',c',he,t',sv',nb',ru⟩ | ⟨m2,t2,sv2,ru⟩
    · exact .inl ⟨m',e,r',c',he,t',sv'.trans sv1,nb',fun rest=>.next _ _ _ _ _ _ _ _ _ t.ok d (ru rest)⟩
    · refine .inr ⟨m2,t2,sv2.trans sv1,fun rest m' e r' c' q=>.next _ _ _ _ _ _ _ _ _ t.ok d (ru rest m' e r' c' ?_)⟩
      have:c+1+b.length=c+(r::b).length:=by simp;omega
      rw [this];exact q
  · exact .inl ⟨m1,e,r,c+1,he,t1,sv1,nb,fun rest=>.here _ _ _ _ _ _ t.ok d⟩
theorem body {it:Bool} (sz:Sz N M) (hg:∀ v∈given,qAJ v) {b:List Rw} (bo:Body N M E it b):∀ (c:Nat) (m:Ms),Ty N M m→qPE N M E given wt c m b:=by
  induction bo with
  | nil=>exact fun c m t=>.inr ⟨m,t,rfl,fun rest m' e r c' q=>q⟩
  | plain r rs p _ ih =>
    intro c m t
    obtain⟨H',dp,t'⟩:=plain sz t p
    have d:qEw M given wt m r none { m with H:=H' }:=.put _ _ dp
    rcases ih (c+1) _ t' with ⟨m',e,r',c',he,t2,sv2,nb',ru⟩ | ⟨m2,t2,sv2,ru⟩
    · k_dat 0"r137"
    · k_dat 0"r138"
      have:c+1+rs.length=c+(r::rs).length:=by simp;omega
      rw [this];exact q
  | item r rs _ p _ ih =>
    intro c m t
    exact (item sz t hg p).qR2 t fun m1 t1 _ _=>ih (c+1) m1 t1
  | right x y k e rs _ hx hy hk he _ ih =>
    intro c m t
    have d:qEw M given wt m ⟨"num",[y,k]⟩ none { m with H:=qAn m.H y (.int k) }:=.put _ _ (.hand _ _ _ (qAO sz hy) (.num _ _))
    have t':Ty N M { m with H:=qAn m.H y (.int k) }:=t.putN hy ⟨hk.1,by omega⟩ rfl t.ok
    have hyk:inH (qAn m.H y (.int k)) y = .int k:=by rw [qBS,if_pos rfl]
    have th:=(right (given:=given) (wt:=wt) sz t' hg hx hy hk he hyk).qR2 (c:=c+1) t' fun m1 t1 _ _=>ih (c+1+1) m1 t1
    rcases th with ⟨m',e,r',c',he,t2,sv2,nb',ru⟩ | ⟨m2,t2,sv2,ru⟩
    · k_dat 0"r137"
    · k_dat 0"r138"
      have:∀ a b:Nat,c+1+(rs.length+1)=c+(rs.length+1+1):=fun _ _=>by omega
      simp only [List.length_cons] at q ⊢
      rw [this 0 0];exact q
end
end KU
namespace KU
open PySem L2 L3 K02 K85 K06 KM KT
structure Wt (N M j k:Nat) (m:Ms):Prop where
  hN:∀ x,isN N x→∃ v,inH m.H x = .int v∧qAJ v
  hT:∀ x,(N:Int)≤x→x<(N:Int)+(j:Int)→∃ b,inH m.H x = .bl b
  sN:∀ s,KT.sN s→∃ v,onS m.H s = .int v∧qAJ v
  sT:∀ s,996≤s→s<996+(k:Int)→∃ b,onS m.H s = .bl b
  b8:m.H.bx.length=8
  bb:∀ v∈m.H.bx,qAJ v
  ok:m.g.Ok
def Pass (M c:Nat) (m:Ms) (l:List Rw) (m1:Ms):Prop:=∀ given wt rest m' e r c',Runs M given wt (c+l.length) m1 rest m' e r c'→Runs M given wt c m (l++rest) m' e r c'
theorem Pass.nil {M c:Nat} {m:Ms}:Pass M c m [] m:=fun _ _ _ _ _ _ _ q=>q
theorem Pass.cons {M c:Nat} {m m1:Ms} {H':Hd} {r:Rw} {l:List Rw} (ok:m.g.Ok) (dp:DoP M m.H r H') (q:Pass M (c+1) { m with H:=H' } l m1):Pass M c m (r::l) m1:=fun given wt rest m' e r' c' h=>by
  refine .next _ _ _ _ _ _ _ _ _ ok (.put _ _ dp) (q given wt rest m' e r' c' ?_)
  have:c+1+l.length=c+(r::l).length:=by simp;omega
  rw [this];exact h
theorem Pass.app {M c:Nat} {m m1 m2:Ms} {a b:List Rw} (p:Pass M c m a m1) (q:Pass M (c+a.length) m1 b m2):Pass M c m (a++b) m2:=fun given wt rest m' e r' c' h=>by
  rw [List.append_assoc]
  refine p given wt (b++rest) m' e r' c' (q given wt rest m' e r' c' ?_)
  rw [List.length_append,← Nat.add_assoc] at h
  exact h
section
variable {N M j k c:Nat} {m:Ms}
theorem Wt.num (w:Wt N M j k m) {d v:Int} (hd:isN N d) (hv:qAJ v):Wt N M j k { m with H:=qAn m.H d (.int v) }:=by
  refine⟨?_,?_,w.sN,w.sT,w.b8,w.bb,w.ok⟩
  · intro x hx
    show ∃ v',inH (qAn m.H d (.int v)) x = .int v'∧_
    rw [qBS]
    by_cases q:x=d
    · rw [if_pos q];exact⟨v,rfl,hv⟩
    · rw [if_neg q];exact w.hN x hx
  · intro x h1 h2
    show ∃ b,inH (qAn m.H d (.int v)) x = .bl b
    rw [qBS,if_neg (by have:=hd.2;omega)];exact w.hT x h1 h2
theorem Wt.no (w:Wt N M j k m):Wt N M (j+1) k { m with H:=qAn m.H ((N:Int)+(j:Int)) (.bl false) }:=by
  refine⟨?_,?_,w.sN,w.sT,w.b8,w.bb,w.ok⟩
  · intro x hx
    show ∃ v',inH (qAn m.H _ (.bl false)) x = .int v'∧_
    rw [qBS,if_neg (by have:=hx.2;omega)];exact w.hN x hx
  · intro x h1 h2
    show ∃ b,inH (qAn m.H _ (.bl false)) x = .bl b
    rw [qBS]
    by_cases q:x=(N:Int)+(j:Int)
    · rw [if_pos q];exact⟨_,rfl⟩
    · rw [if_neg q];exact w.hT x h1 (by omega)
theorem Wt.keep (w:Wt N M j k m) {s x:Int} (hs:KT.sN s) (hx:isN N x):Wt N M j k { m with H:=qC8 m.H s (inH m.H x) }:=by
  obtain⟨v,hv,v16⟩:=w.hN x hx
  refine⟨w.hN,w.hT,?_,?_,w.b8,w.bb,w.ok⟩
  · intro y hy
    show ∃ v',onS (qC8 m.H s (inH m.H x)) y = .int v'∧_
    rw [qBm]
    by_cases q:y=s
    · rw [if_pos q];exact⟨v,hv,v16⟩
    · rw [if_neg q];exact w.sN y hy
  · intro y h1 h2
    show ∃ b,onS (qC8 m.H s (inH m.H x)) y = .bl b
    rw [qBm,if_neg (by have:=hs.2;omega)];exact w.sT y h1 h2
theorem Wt.qFk (w:Wt N M j k m) {x:Int} (h1:(N:Int)≤x) (h2:x<(N:Int)+(j:Int)):Wt N M j (k+1) { m with H:=qC8 m.H (996+(k:Int)) (inH m.H x) }:=by
  obtain⟨b,hb⟩:=w.hT x h1 h2
  refine⟨w.hN,w.hT,?_,?_,w.b8,w.bb,w.ok⟩
  · intro y hy
    show ∃ v',onS (qC8 m.H (996+(k:Int)) (inH m.H x)) y = .int v'∧_
    rw [qBm,if_neg (by have:=hy.2;omega)];exact w.sN y hy
  · intro y q1 q2
    show ∃ b,onS (qC8 m.H (996+(k:Int)) (inH m.H x)) y = .bl b
    rw [qBm]
    by_cases q:y=996+(k:Int)
    · rw [if_pos q];exact⟨b,hb⟩
    · rw [if_neg q];exact w.sT y q1 (by omega)
theorem nums (sz:Sz N M):∀ (a:List Rw) (c:Nat) (m:Ms),(∀ r∈a,isNum N r)→Wt N M j k m→∃ m1,Wt N M j k m1∧(m1.g=m.g∧m1.told=m.told∧m1.heard=m.heard)∧Pass M c m a m1
  | [],c,m,_,w=>⟨m,w,⟨rfl,rfl,rfl⟩,.nil⟩
  | r::a,c,m,h,w=>by
    obtain⟨d,v,rfl,hd,hv⟩:=h r List.mem_cons_self
    obtain⟨m1,w1,e1,p1⟩:=nums sz a (c+1) _ (fun q hq=>h q (List.mem_cons_of_mem _ hq)) (w.num hd hv)
    exact⟨m1,w1,e1,.cons w.ok (.hand _ _ _ (qAO sz hd) (.num _ _)) p1⟩
theorem keeps (sz:Sz N M):∀ (a:List Rw) (c:Nat) (m:Ms),(∀ r∈a,qI3 N r)→Wt N M j k m→∃ m1,Wt N M j k m1∧(m1.g=m.g∧m1.told=m.told∧m1.heard=m.heard)∧Pass M c m a m1
  | [],c,m,_,w=>⟨m,w,⟨rfl,rfl,rfl⟩,.nil⟩
  | r::a,c,m,h,w=>by
    obtain⟨s,x,rfl,hs,hx⟩:=h r List.mem_cons_self
    obtain⟨m1,w1,e1,p1⟩:=keeps sz a (c+1) _ (fun q hq=>h q (List.mem_cons_of_mem _ hq)) (w.keep hs hx)
    exact⟨m1,w1,e1,.cons w.ok (.keep _ _ (qAO sz hx)) p1⟩
theorem nos (w:Wt N M 0 k m):∀ j:Nat,N+j≤M→∃ m1,Wt N M j k m1∧(m1.g=m.g∧m1.told=m.told∧m1.heard=m.heard)∧Pass M c m ((List.range j).map fun i:Nat=>(⟨"no",[(N:Int)+(i:Int)]⟩:Rw)) m1
  | 0,_=>⟨m,w,⟨rfl,rfl,rfl⟩,.nil⟩
  | j+1,hj=>by
    obtain⟨m1,w1,e1,p1⟩:=nos w j (by omega)
    refine⟨_,w1.no,e1,?_⟩
    rw [List.range_succ,List.map_append]
    exact p1.app (.cons w1.ok (.hand _ _ _ ⟨by omega,by omega⟩ (.no _)) .nil)
theorem qLI (sz:Sz N M) (w:Wt N M (M - N) 0 m):∀ k:Nat,∃ m1,Wt N M (M - N) k m1∧(m1.g=m.g∧m1.told=m.told∧m1.heard=m.heard)∧Pass M c m ((List.range k).map fun i:Nat=>(⟨"keep",[996+(i:Int),(M:Int) - 1]⟩:Rw)) m1
  | 0=>⟨m,w,⟨rfl,rfl,rfl⟩,.nil⟩
  | k+1=>by
    have nm:=sz.nm
    obtain⟨m1,w1,e1,p1⟩:=qLI sz w k
    refine⟨_,w1.qFk (x:=(M:Int) - 1) (by omega) (by omega),e1,?_⟩
    rw [List.range_succ,List.map_append]
    exact p1.app (.cons w1.ok (.keep _ _ ⟨by omega,by omega⟩) .nil)
theorem first (sz:Sz N M) {f:List Rw} (hf:qDt N M f) (w:Wt N M 0 0 m):∃ m1,Ty N M m1∧(m1.g=m.g∧m1.told=m.told∧m1.heard=m.heard)∧Pass M c m f m1:=by
  obtain⟨a,b,rfl,ha,hb,-,-⟩:=hf
  have nm:=sz.nm
  obtain⟨m1,w1,e1,p1⟩:=nums sz a c m ha w
  obtain⟨m2,w2,e2,p2⟩:=nos (c:=c+a.length) w1 (M - N) (by omega)
  obtain⟨m3,w3,e3,p3⟩:=keeps sz b (c+(a++(List.range (M - N)).map fun i:Nat=>(⟨"no",[(N:Int)+(i:Int)]⟩:Rw)).length) m2 hb w2
  obtain⟨m4,w4,e4,p4⟩:=qLI (c:=c+(a++(List.range (M - N)).map (fun i:Nat=>(⟨"no",[(N:Int)+(i:Int)]⟩:Rw))++b).length) sz w3 4
  refine⟨m4,⟨w4.hN,?_,w4.sN,?_,w4.b8,w4.bb,w4.ok⟩,⟨e4.1.trans (e3.1.trans (e2.1.trans e1.1)),e4.2.1.trans (e3.2.1.trans (e2.2.1.trans e1.2.1)),e4.2.2.trans (e3.2.2.trans (e2.2.2.trans e1.2.2))⟩,?_⟩
  · intro x hx
    exact w4.hT x hx.1 (by have:=hx.2;omega)
  · intro s hs
    exact w4.sT s hs.1 (by have:=hs.2;omega)
  · exact ((p1.app p2).app p3).app p4
theorem qH6 {g:GS} (ok:g.Ok):Wt N M 0 0 (start g):=by
  refine⟨fun x _=>⟨0,rfl,by unfold qAJ;decide⟩,fun x h1 h2=>by omega,fun x _=>⟨0,rfl,by unfold qAJ;decide⟩,fun x h1 h2=>by omega,ok.b8,ok.bb,ok⟩
theorem last (t:Ty N M m) {E:Nat} {odd:Bool} {l:Rw} (tl:TyL N M E odd l):∃ e:Nat,DoL M m.H m.g.sv l (e:Int)∧((e<E∧(odd=true→qCa l m=false))∨(e=E∧odd=true∧qCa l m=true)):=by
  cases tl with
  | whn x e f hx he hf ho =>
    obtain⟨b,hb⟩:=t.hT x hx
    have dl:DoL M m.H m.g.sv ⟨"when",[x,(e:Int),(f:Int)]⟩ _:=.whn x (e:Int) (f:Int) b (qDD hx) hb
    cases b with
    | true=>exact⟨e,dl,.inl ⟨he,fun q=>by rw [ho] at q;cases q⟩⟩
    | false=>exact⟨f,dl,.inl ⟨hf,fun q=>by rw [ho] at q;cases q⟩⟩
  | out e he ho=>exact⟨e,.out _,.inl ⟨he,fun q=>by rw [ho] at q;cases q⟩⟩
  | back e f he hf ho =>
    have dl:DoL M m.H m.g.sv ⟨"back",[(e:Int),(f:Int)]⟩ _:=.back (e:Int) (f:Int)
    cases hs:m.g.sv with
    | none=>rw [hs] at dl;exact⟨e,dl,.inl ⟨he,fun q=>by rw [ho] at q;cases q⟩⟩
    | some q=>rw [hs] at dl;exact⟨f,dl,.inl ⟨hf,fun q=>by rw [ho] at q;cases q⟩⟩
  | backO e he ho =>
    have dl:DoL M m.H m.g.sv ⟨"back",[(e:Int),(E:Int)]⟩ _:=.back (e:Int) (E:Int)
    have bk:qCa ⟨"back",[(e:Int),(E:Int)]⟩ m=m.g.sv.isSome:=by
      show (decide ((Str.ofString "back") = "back")&&_)=_
      rw [decide_eq_true rfl];rfl
    cases hs:m.g.sv with
    | none=>rw [hs] at dl bk;exact⟨e,dl,.inl ⟨he,fun _=>bk⟩⟩
    | some q=>rw [hs] at dl bk;exact⟨E,dl,.inr ⟨rfl,ho,bk⟩⟩
end
end KU
namespace KU
open PySem L2 L3 K02 K85 K06 KM KT
theorem qGI {H:Hd} {old ss vs:List Dt} {s v:Dt} (h:qHq H old s v) (q:qG2 H old ss vs):qG2 H old (s::ss) (v::vs):=by
  refine⟨by simp [q.1],fun i s' v' h1 h2=>?_⟩
  cases i with
  | zero=>cases h1;cases h2;exact h
  | succ i=>exact q.2 i s' v' h1 h2
section
variable {N M:Nat} {m:Ms}
theorem qPb (t:Ty N M m):∀ {ss:List Dt},(∀ d∈ss,SrN N d)→∃ vs:List Int,qG2 m.H (m.H.bx.map .int) ss (vs.map .int)
  | [],_=>⟨[],rfl,fun i s v h=>by cases h⟩
  | s :: ss,h=>by
    obtain⟨vs,q⟩:=qPb t fun d hd=>h d (List.mem_cons_of_mem _ hd)
    have:∃ v:Int,qHq m.H (m.H.bx.map .int) s (.int v):=by
      cases h s List.mem_cons_self with
      | old k hk =>
        have hj:k<m.H.bx.length:=by rw [t.b8];exact hk
        exact⟨m.H.bx[k],.old k _ (by rw [List.getElem?_map,List.getElem?_eq_getElem hj];rfl)⟩
      | shelf x hx =>
        obtain⟨v,hv,-⟩:=t.sN x hx
        exact⟨v,hv ▸ .shelf x⟩
      | hand x hx =>
        obtain⟨v,hv,-⟩:=t.hN x hx
        exact⟨v,hv ▸ .hand x⟩
    obtain⟨v,hv⟩:=this
    exact⟨v::vs,qGI hv q⟩
theorem qRn (t:Ty N M m):∀ {ss:List Dt},(∀ d∈ss,SrT N M d)→∃ vs:List Bool,qG2 m.H (mL m.H.ms) ss (vs.map .bl)
  | [],_=>⟨[],rfl,fun i s v h=>by cases h⟩
  | s :: ss,h=>by
    obtain⟨vs,q⟩:=qRn t fun d hd=>h d (List.mem_cons_of_mem _ hd)
    have:∃ v:Bool,qHq m.H (mL m.H.ms) s (.bl v):=by
      cases h s List.mem_cons_self with
      | old k hk =>
        obtain⟨b,hb⟩:∃ b,(mL m.H.ms)[k]? = some (.bl b):=by
          rcases (show k=0∨k=1∨k=2 by omega) with rfl | rfl | rfl<;>exact⟨_,rfl⟩
        exact⟨b,.old k _ hb⟩
      | shelf x hx =>
        obtain⟨v,hv⟩:=t.sT x hx
        exact⟨v,hv ▸ .shelf x⟩
      | hand x hx =>
        obtain⟨v,hv⟩:=t.hT x hx
        exact⟨v,hv ▸ .hand x⟩
    obtain⟨v,hv⟩:=this
    exact⟨v::vs,qGI hv q⟩
theorem qSH (t:Ty N M m) {ss:List Dt} (h:∀ d∈ss,SrT N M d) (hl:ss.length=3):∃ mk:M3,qG2 m.H (mL m.H.ms) ss (mL mk):=by
  obtain⟨vs,q⟩:=qRn t h
  have l3:vs.length=3:=by have:=q.1;rw [List.length_map] at this;omega
  rcases vs with _ | ⟨a,_ | ⟨b,_ | ⟨c,_ | ⟨d,r⟩⟩⟩⟩
  · cases l3
  · cases l3
  · cases l3
  · exact⟨(a,b,c),q⟩
  · simp at l3
theorem qND (t:Ty N M m) {ex:Ex} (te:TyE N M ex):∃ g',qHG m.H m.g ex false g':=by
  obtain⟨vs,q1⟩:=qPb t te.bs
  obtain⟨mk,q2⟩:=qSH t te.ms te.m3
  have:∃ p,At m.H ex.at_ p:=by
    generalize ex.at_=d,te.at_=h
    cases h with
    | int p hp=>exact⟨p,.int p⟩
    | hand x hx =>
      obtain⟨v,hv,-⟩:=t.hN x hx
      exact⟨v,.hand _ x v hv⟩
  obtain⟨p,hp⟩:=this
  exact⟨_,.go p vs mk hp q1 q2⟩
theorem qSh (t:Ty N M m) {d:Dt} (h:AtN N d) {p:Int} (q:At m.H d p):qAJ p:=by
  cases h with
  | int p hp=>cases q;exact hp
  | hand x hx =>
    obtain⟨v,hv,v16⟩:=t.hN x hx
    cases q with
    | hand w x p h =>
      rw [hv] at h
      cases h
      exact v16
theorem qGk (t:Ty N M m) {ex:Ex} (hb:∀ d∈ex.bs,SrN N d) (hs:m.g.sv.isSome=true):∃ g',qHG m.H m.g ex true g':=by
  obtain⟨vs,q1⟩:=qPb t hb
  cases h:m.g.sv with
  | none=>rw [h] at hs;cases hs
  | some q =>
    obtain⟨q,mk⟩:=q
    exact⟨_,.back q mk vs h q1⟩
theorem qMm (sz:Sz N M) {d:Dt} (h:SrN N d) {x:Int} (e:d = .tup [.str "hand",.int x]):inM M x:=by
  cases h with
  | old k hk =>
    injection e with e
    injection e with e _
    injection e with e
    exact absurd e (by decide +kernel)
  | shelf s hs =>
    injection e with e
    injection e with e _
    injection e with e
    exact absurd e (by decide +kernel)
  | hand y hy =>
    injection e with e
    injection e with _ e
    injection e with e _
    injection e with e
    rw [← e];exact qAO sz hy
theorem qPS {d:Dt} (h:SrT N M d) {x:Int} (e:d = .tup [.str "hand",.int x]):inM M x:=by
  cases h with
  | old k hk =>
    injection e with e
    injection e with e _
    injection e with e
    exact absurd e (by decide +kernel)
  | shelf s hs =>
    injection e with e
    injection e with e _
    injection e with e
    exact absurd e (by decide +kernel)
  | hand y hy =>
    injection e with e
    injection e with _ e
    injection e with e _
    injection e with e
    rw [← e];exact qDD hy
theorem qRH (sz:Sz N M) {d:Dt} (h:AtN N d):AtN M d:=by
  cases h with
  | int p hp=>exact .int p hp
  | hand x hx=>exact .hand x (qAO sz hx)
structure qFd (M:Nat) (es:List Ex) (m':Ms) (e:Nat) (r:Rw) (ex:Ex) (g':GS):Prop where
  ex_:es[e]? = some ex
  l1:ex.bs.length≤100
  l2:ex.ms.length≤100
  ou:qHG m'.H m'.g ex (qCa r m') g'
  h16:qCa r m'=false→∀ p,At m'.H ex.at_ p→qAJ p
  hM:∀ d∈ex.bs,∀ x:Int,d = .tup [.str "hand",.int x]→inM M x
  hM2:qCa r m'=false→(∀ d∈ex.ms,∀ x:Int,d = .tup [.str "hand",.int x]→inM M x)∧AtN M ex.at_
theorem qE9 (sz:Sz N M) (t:Ty N M m) {es:List Ex} {ex:Ex} {e:Nat} {r:Rw} (he:es[e]? = some ex) (te:TyE N M ex):∃ g',qFd M es m e r ex g':=by
  have lb:=te.b8
  have lm:=te.m3
  have hM:∀ d∈ex.bs,∀ x:Int,d = .tup [.str "hand",.int x]→inM M x:=fun d hd x e=>qMm sz (te.bs d hd) e
  have hM2:(∀ d∈ex.ms,∀ x:Int,d = .tup [.str "hand",.int x]→inM M x)∧AtN M ex.at_:=⟨fun d hd x e=>qPS (te.ms d hd) e,qRH sz te.at_⟩
  cases hb:qCa r m with
  | false =>
    obtain⟨g',ou⟩:=qND t te
    exact⟨g',he,by omega,by omega,by rw [hb];exact ou,fun _ p q=>qSh t te.at_ q,hM,fun _=>hM2⟩
  | true =>
    have hs:m.g.sv.isSome=true:=by unfold qCa at hb;exact (Bool.and_eq_true_iff.mp hb).2
    obtain⟨g',ou⟩:=qGk t te.bs hs
    exact⟨g',he,by omega,by omega,by rw [hb];exact ou,fun q=>absurd (hb.symm.trans q) (by decide),hM,fun _=>hM2⟩
theorem qLG (sz:Sz N M) (t:Ty N M m) {es:List Ex} {ex:Ex} {e:Nat} {r:Rw} (he:es[e]? = some ex) (te:TyO N ex) (hb:qCa r m=true):∃ g',qFd M es m e r ex g':=by
  have lb:=te.b8
  have lm:=te.m3
  have hs:m.g.sv.isSome=true:=by unfold qCa at hb;exact (Bool.and_eq_true_iff.mp hb).2
  obtain⟨g',ou⟩:=qGk t te.bs hs
  exact⟨g',he,by omega,by omega,by rw [hb];exact ou,fun q=>absurd (hb.symm.trans q) (by decide),fun d hd x e=>qMm sz (te.bs d hd) e,fun q=>absurd (hb.symm.trans q) (by decide)⟩
theorem okP {r:Rw} (p:TyP N M r):OkR r:=by
  cases p with
  | two o d x y ho hd hx hy=>cases o<;>exact qNx (f:= "dxx") (by decide +kernel) (by decide +kernel)
  | twoT o d x y ho hd hx hy=>cases o<;>exact qNx (f:= "dxx") (by decide +kernel) (by decide +kernel)
  | num d v hd hv=>exact row2 (f:= "dn") (by decide +kernel) (by decide +kernel)
  | box d k hd hk=>exact row2 (f:= "dn") (by decide +kernel) (by decide +kernel)
  | load d s hd hs=>exact row2 (f:= "ds") (by decide +kernel) (by decide +kernel)
  | keep s x hs hx=>exact row2 (f:= "sx") (by decide +kernel) (by decide +kernel)
  | nought d x hd hx=>exact row2 (f:= "dx") (by decide +kernel) (by decide +kernel)
  | high d x hd hx=>exact row2 (f:= "dx") (by decide +kernel) (by decide +kernel)
  | mark d k hd hk=>exact row2 (f:= "dn") (by decide +kernel) (by decide +kernel)
  | yes d hd=>exact qHO (f:= "d") (by decide +kernel) (by decide +kernel)
  | no d hd=>exact qHO (f:= "d") (by decide +kernel) (by decide +kernel)
  | loadT d s hd hs=>exact row2 (f:= "ds") (by decide +kernel) (by decide +kernel)
  | qFk s x hs hx=>exact row2 (f:= "sx") (by decide +kernel) (by decide +kernel)
theorem okI {E:Nat} {r:Rw} (p:TyI N E r):OkR r:=by
  cases p with
  | get d x y e hd hx hy he=>exact qGb (f:= "dxxe") (by decide +kernel) (show (4:Nat)=(Str.ofString "dxxe").length by decide +kernel)
  | set x y z e f hx hy hz he hf=>exact qGb (f:= "xxxee") (by decide +kernel) (show (5:Nat)=(Str.ofString "xxxee").length by decide +kernel)
  | div d x y e hd hx hy he=>exact qGb (f:= "dxxe") (by decide +kernel) (show (4:Nat)=(Str.ofString "dxxe").length by decide +kernel)
  | tell x hx=>exact qHO (f:= "x") (by decide +kernel) (by decide +kernel)
  | hear d hd=>exact qHO (f:= "d") (by decide +kernel) (by decide +kernel)
theorem okL {E:Nat} {odd:Bool} {r:Rw} (p:TyL N M E odd r):OkR r:=by
  cases p with
  | whn x e f hx he hf ho=>exact qNx (f:= "xee") (by decide +kernel) (by decide +kernel)
  | out e he ho=>exact qHO (f:= "e") (by decide +kernel) (by decide +kernel)
  | back e f he hf ho=>exact row2 (f:= "ee") (by decide +kernel) (by decide +kernel)
  | backO e he ho=>exact row2 (f:= "ee") (by decide +kernel) (by decide +kernel)
theorem okB {E:Nat} {it:Bool} {b:List Rw} (bo:Body N M E it b):∀ r∈b,OkR r:=by
  induction bo with
  | nil=>exact fun r hr=>by cases hr
  | plain r rs p _ ih =>
    intro q hq
    k_dat 0"r24"
    · exact okP p
    · exact ih q hq
  | item r rs _ p _ ih =>
    intro q hq
    k_dat 0"r24"
    · exact okI p
    · exact ih q hq
  | right x y k e rs _ hx hy hk he _ ih =>
    intro q hq
    k_dat 0"r24"
    · exact row2 (f:= "dn") (by decide +kernel) (by decide +kernel)
    · k_dat 0"r24"
      · exact qNx (f:= "xxe") (by decide +kernel) (by decide +kernel)
      · exact ih q hq
theorem okF {f:List Rw} (hf:qDt N M f):∀ r∈f,OkR r:=by
  obtain⟨a,b,rfl,ha,hb,-,-⟩:=hf
  intro r hr
  k_dat 0"r11"
  · k_dat 0"r11"
    · k_dat 0"r11"
      · obtain⟨d,v,rfl,-,-⟩:=ha r hr
        exact row2 (f:= "dn") (by decide +kernel) (by decide +kernel)
      · k_dat 0"r33"
        exact qHO (f:= "d") (by decide +kernel) (by decide +kernel)
    · obtain⟨s,x,rfl,-,-⟩:=hb r hr
      exact row2 (f:= "sx") (by decide +kernel) (by decide +kernel)
  · k_dat 0"r33"
    exact row2 (f:= "sx") (by decide +kernel) (by decide +kernel)
theorem qJt {it:Bool} {rs:List Rw} {es:List Ex} (hh:Host it N M rs es):(∀ r∈rs,OkR r)∧rs.length≤160:=by
  obtain⟨E,odd,f,b,l,rfl,hf,hb,hl,-,-,-,-,hbl⟩:=hh.ex
  refine⟨fun r hr=>?_,?_⟩
  · k_dat 0"r11"
    · k_dat 0"r11"
      · exact okF hf r hr
      · exact okB hb r hr
    · rw [List.mem_singleton] at hr;rw [hr];exact okL hl
  · obtain⟨a,b',rfl,-,-,la,lb⟩:=hf
    have m16:=hh.sz.m16
    simp only [qPH,List.length_append,List.length_map,List.length_range,List.length_singleton]
    omega
theorem qKw {it:Bool} {rs:List Rw} {es:List Ex} (hh:Host it N M rs es) {E:Nat} {odd:Bool} {l:Rw} (hl:TyL N M E odd l) (t:Ty N M m) (hes:∀ (k:Nat) e,k<E→es[k]? = some e→TyE N M e) (hel:if odd=true then es.length=E+1∧∀ e,es[E]? = some e→TyO N e else es.length=E):∃ (e:Nat) (ex:Ex) (g':GS),DoL M m.H m.g.sv l (e:Int)∧qFd M es m e l ex g':=by
  obtain⟨e,dl,h | ⟨rfl,ho,hb⟩⟩:=last t hl
  · have el:e<es.length:=by
      cases odd with
      | true=>have:=hel.1;omega
      | false=>have:es.length=E:=hel;omega
    obtain⟨g',le⟩:=qE9 (r:=l) hh.sz t (List.getElem?_eq_getElem el) (hes e _ h.1 (List.getElem?_eq_getElem el))
    exact⟨e,_,g',dl,le⟩
  · subst ho
    have el:e<es.length:=by have:=hel.1;omega
    obtain⟨g',le⟩:=qLG (r:=l) hh.sz t (List.getElem?_eq_getElem el) (hel.2 _ (List.getElem?_eq_getElem el)) hb
    exact⟨e,_,g',dl,le⟩
theorem qMs {it:Bool} {rs:List Rw} {es:List Ex} {g:GS} {given wt:List Int} (hh:Host it N M rs es) (ok:g.Ok) (hg:∀ v∈given,qAJ v):∃ (m':Ms) (e:Nat) (r:Rw) (c:Nat) (ex:Ex) (g':GS),Runs M given wt 0 (start g) rs m' e r c∧qFd M es m' e r ex g':=by
  obtain⟨E,odd,f,b,l,rfl,hf,hb,hl,h1,h4,hes,hel,hbl⟩:=hh.ex
  obtain⟨m1,t1,e1,p1⟩:=first (c:=0) hh.sz hf (qH6 ok)
  rcases body (given:=given) (wt:=wt) hh.sz hg hb (0+f.length) m1 t1 with ⟨m',e,r,c',he,t',sv',nb,ru⟩ | ⟨m2,t2,sv2,ru⟩
  · have el:e<es.length:=by
      cases odd with
      | true=>have:=hel.1;omega
      | false=>have:es.length=E:=hel;omega
    obtain⟨g',le⟩:=qE9 (r:=r) hh.sz t' (List.getElem?_eq_getElem el) (hes e _ he (List.getElem?_eq_getElem el))
    refine⟨m',e,r,c',_,g',?_,le⟩
    rw [List.append_assoc]
    exact p1 given wt _ m' e r c' (ru [l])
  · obtain⟨e,ex,g',dl,le⟩:=qKw hh hl t2 hes hel
    refine⟨m2,e,l,0+f.length+b.length+1,ex,g',?_,le⟩
    rw [List.append_assoc]
    exact p1 given wt _ m2 e l _ (ru [l] m2 e l _ (.here _ _ _ _ _ _ t2.ok (.last _ _ dl)))
end
end KU
namespace K86
open PySem L2 L3 K02 K85 K06 KM KT KU
theorem qGe {n:Int} {r:Rw}:∀ (rs:List Rw) (k i:Nat),rs[i]? = some r→(eOf r).contains n=true→((k+i:Nat):Int)∈qAI k rs n
  | [],k,i,h,_=>by cases h
  | q::rs,k,0,h,c=>by
    have:q=r:=by simpa using h
    subst this
    unfold qAI
    rw [if_pos c];exact List.mem_cons_self
  | q::rs,k,i+1,h,c=>by
    have ih:=qGe rs (k+1) i h c
    have e:((k+1+i:Nat):Int)=((k+(i+1):Nat):Int):=by omega
    rw [e] at ih
    unfold qAI
    split
    · exact List.mem_cons_of_mem _ ih
    · exact ih
theorem eo {w:Str} {xs:List Int} {l:List Nat} (h:cs (qh w)=l):eOf ⟨w,xs⟩=((xs.zip l).filter fun p=>one p.2==("e" : Str)).map (·.1):=by show partsOf (qh w) xs "e" = _;unfold partsOf;rw [h]
theorem e0:(one 100==("e" : Str))=false:=by decide +kernel
theorem e1:(one 101==("e" : Str))=true:=by decide +kernel
theorem e2:(one 120==("e" : Str))=false:=by decide +kernel
theorem e3:(one 110==("e" : Str))=false:=by decide +kernel
theorem e4:(one 115==("e" : Str))=false:=by decide +kernel
theorem qMD (e:Int):eOf ⟨"out",[e]⟩=[e]:=by rw [eo (l:=[101]) (by decide +kernel)];simp [List.filter_cons,e1]
theorem qNd (e f:Int):eOf ⟨"back",[e,f]⟩=[e,f]:=by rw [eo (l:=[101,101]) (by decide +kernel)];simp [List.filter_cons,e1]
theorem qM6 (x e f:Int):eOf ⟨"when",[x,e,f]⟩=[e,f]:=by rw [eo (l:=[120,101,101]) (by decide +kernel)];simp [List.filter_cons,e1,e2]
theorem con {xs:List Int} {j:Nat} {e:Int} (h:xs[j]? = some e):xs.contains e=true:=List.contains_iff_mem.mpr (List.mem_of_getElem? h)
theorem qOp {M:Nat} {given wt:List Int} {m m':Ms} {r:Rw} {e:Int} {o:Option Int} (d:qEw M given wt m r o m') (ho:o=some e):(eOf r).contains e=true:=by
  cases d with
  | put H' dp=>cases ho
  | last e' dl =>
    cases ho
    cases dl with
    | out e=>rw [qMD];exact con (j:=0) rfl
    | back e f =>
      rw [qNd]
      split
      · exact con (j:=0) rfl
      · exact con (j:=1) rfl
    | whn x e f t hx ht =>
      rw [qM6]
      split
      · exact con (j:=0) rfl
      · exact con (j:=1) rfl
  | item w ps d e' f di hps ok =>
    cases h1:qCf m w ps given with
    | false =>
      rw [h1] at ho
      cases ho
      exact con (qOM di h1)
    | true =>
      rw [h1] at ho
      cases h2:KD.qBQ w ps wt with
      | true =>
        rw [h2] at ho
        cases ho
        exact con (qOR di h2)
      | false=>rw [h2] at ho;cases ho
theorem qOl {M:Nat} {given wt:List Int} {c0:Nat} {m m':Ms} {l:List Rw} {e c:Nat} {r:Rw} (q:Runs M given wt c0 m l m' e r c):(eOf r).contains (e:Int)=true:=by
  induction q with
  | here c m m' r rs e ok d=>exact qOp d rfl
  | next c m m1 m' r r' rs e c' ok d q ih=>exact ih
noncomputable def qCZ (es:List Ex):List Ex:=(List.range es.length).map fun k:Nat=>{ (es.getD k ⟨"",.non,[],[],0⟩) with n:=(k:Int) }
theorem qFv {es:List Ex} {k:Nat} {e:Ex} (h:(qCZ es)[k]? = some e):∃ e0,es[k]? = some e0∧e={ e0 with n:=(k:Int) }:=by
  have hk:k<es.length:=by have:=(List.getElem?_eq_some_iff.mp h).1;simpa [qCZ] using this
  refine⟨es[k],List.getElem?_eq_getElem hk,?_⟩
  have:(qCZ es)[k]? = some { (es.getD k ⟨"",.non,[],[],0⟩) with n:=(k:Int) }:=by simp [qCZ,hk]
  rw [this] at h
  cases h
  rw [List.getD_eq_getElem?_getD,List.getElem?_eq_getElem hk];rfl
theorem qGd (es:List Ex):(qCZ es).length=es.length:=by simp [qCZ]
theorem qIf {it:Bool} {N M:Nat} {rs:List Rw} {es:List Ex} (hh:Host it N M rs es):Host it N M rs (qCZ es):=by
  obtain⟨sz,E,odd,f,b,l,rfl,hf,hb,hl,h1,h4,hes,hel,hbl⟩:=hh
  refine⟨sz,E,odd,f,b,l,rfl,hf,hb,hl,h1,h4,fun k e hk he=>?_,?_,hbl⟩
  · obtain⟨e0,q,rfl⟩:=qFv he
    have t:=hes k e0 hk q
    exact⟨t.at_,t.bs,t.b8,t.ms,t.m3⟩
  · cases odd with
    | false=>show (qCZ es).length=E;rw [qGd];exact hel
    | true =>
      refine⟨by rw [qGd];exact hel.1,fun e he=>?_⟩
      obtain⟨e0,q,rfl⟩:=qFv he
      have t:=hel.2 e0 q
      exact⟨t.bs,t.b8,t.m3⟩
noncomputable def qJV:List Str:=["get", "set", "div", "right", "when", "back", "out"]
noncomputable def qEU (w:Str):Bool:=!(qJV.any fun z=>z==w)
noncomputable def qAQ (r:Rw):Bool:=qEU r.w
theorem kT {w:Str} {xs:List Int} (h:qEU w=true):qAQ ⟨w,xs⟩=true:=h
theorem kF {w:Str} {xs:List Int} (h:qEU w=false):¬ qAQ ⟨w,xs⟩=true:=fun q=>by rw [show qAQ ⟨w,xs⟩=qEU w from rfl,h] at q;cases q
inductive Calm (N M:Nat):List Rw→Prop
  | nil:Calm N M []
  | plain (r:Rw) (rs:List Rw):TyP N M r→Calm N M rs→Calm N M (r::rs)
  | tell (x:Int) (rs:List Rw):isN N x→Calm N M rs→Calm N M (⟨"tell",[x]⟩::rs)
  | hear (d:Int) (rs:List Rw):isN N d→Calm N M rs→Calm N M (⟨"hear",[d]⟩::rs)
theorem qRa {N M:Nat} {r:Rw} (p:TyP N M r):qAQ r=true:=by
  cases p with
  | two o d x y ho hd hx hy=>cases o<;>exact kT (by decide +kernel)
  | twoT o d x y ho hd hx hy=>cases o<;>exact kT (by decide +kernel)
  | num d v hd hv=>exact kT (by decide +kernel)
  | box d k hd hk=>exact kT (by decide +kernel)
  | load d s hd hs=>exact kT (by decide +kernel)
  | keep s x hs hx=>exact kT (by decide +kernel)
  | nought d x hd hx=>exact kT (by decide +kernel)
  | high d x hd hx=>exact kT (by decide +kernel)
  | mark d k hd hk=>exact kT (by decide +kernel)
  | yes d hd=>exact kT (by decide +kernel)
  | no d hd=>exact kT (by decide +kernel)
  | loadT d s hd hs=>exact kT (by decide +kernel)
  | qFk s x hs hx=>exact kT (by decide +kernel)
theorem qNg {N M E:Nat} {it:Bool} {b:List Rw} (bo:Body N M E it b):Calm N M (b.filter qAQ):=by
  induction bo with
  | nil=>exact .nil
  | plain r rs p _ ih=>rw [List.filter_cons,if_pos (qRa p)];exact .plain r _ p ih
  | item r rs _ p _ ih =>
    cases p with
    | get d x y e hd hx hy he=>rw [List.filter_cons,if_neg (kF (by decide +kernel))];exact ih
    | set x y z e f hx hy hz he hf=>rw [List.filter_cons,if_neg (kF (by decide +kernel))];exact ih
    | div d x y e hd hx hy he=>rw [List.filter_cons,if_neg (kF (by decide +kernel))];exact ih
    | tell x hx=>rw [List.filter_cons,if_pos (kT (by decide +kernel))];exact .tell x _ hx ih
    | hear d hd=>rw [List.filter_cons,if_pos (kT (by decide +kernel))];exact .hear d _ hd ih
  | right x y k e rs _ hx hy hk he _ ih =>
    rw [List.filter_cons,if_pos (kT (by decide +kernel)),List.filter_cons,if_neg (kF (by decide +kernel))]
    exact .plain _ _ (.num _ _ hy ⟨hk.1,by omega⟩) ih
theorem qQx {N M:Nat} {f:List Rw} (hf:qDt N M f):f.filter qAQ=f:=by
  obtain⟨a,b,rfl,ha,hb,-,-⟩:=hf
  rw [List.filter_eq_self]
  intro r hr
  k_dat 0"r11"
  · k_dat 0"r11"
    · k_dat 0"r11"
      · obtain⟨d,v,rfl,-,-⟩:=ha r hr
        exact kT (by decide +kernel)
      · k_dat 0"r33"
        exact kT (by decide +kernel)
    · obtain⟨s,x,rfl,-,-⟩:=hb r hr
      exact kT (by decide +kernel)
  · k_dat 0"r33"
    exact kT (by decide +kernel)
theorem qRe {N M E:Nat} {odd:Bool} {l:Rw} (h:TyL N M E odd l):qAQ l=false:=by
  cases h with
  | whn x e f hx he hf ho=>exact (by decide +kernel:qEU "when" = false)
  | out e he ho=>exact (by decide +kernel:qEU "out" = false)
  | back e f he hf ho=>exact (by decide +kernel:qEU "back" = false)
  | backO e he ho=>exact (by decide +kernel:qEU "back" = false)
theorem qLg {N M:Nat} {given wt:List Int} (sz:Sz N M) (hg:∀ v∈given,qAJ v) {b:List Rw} (bo:Calm N M b):∀ (c:Nat) (m:Ms),Ty N M m→∃ m1:Ms,Ty N M m1∧∀ rest m' e r c',Runs M given wt (c+b.length) m1 rest m' e r c'→Runs M given wt c m (b++rest) m' e r c':=by
  have one:∀ {r:Rw} {rs:List Rw} {c:Nat} {m m1:Ms},m.g.Ok→qEw M given wt m r none m1→(∃ m2:Ms,Ty N M m2∧∀ rest m' e r c',Runs M given wt (c+1+rs.length) m2 rest m' e r c'→Runs M given wt (c+1) m1 (rs++rest) m' e r c')→∃ m2:Ms,Ty N M m2∧∀ rest m' e r' c',Runs M given wt (c+(r::rs).length) m2 rest m' e r' c'→Runs M given wt c m (r::rs++rest) m' e r' c':=by
    intro r rs c m m1 ok d ⟨m2,t2,q⟩
    refine⟨m2,t2,fun rest m' e r' c' h=>.next _ _ _ _ _ _ _ _ _ ok d (q rest m' e r' c' ?_)⟩
    have:c+1+rs.length=c+(r::rs).length:=by simp;omega
    rw [this];exact h
  induction bo with
  | nil=>exact fun c m t=>⟨m,t,fun rest m' e r c' q=>q⟩
  | plain r rs p _ ih =>
    intro c m t
    obtain⟨H',dp,t'⟩:=KU.plain sz t p
    exact one t.ok (.put _ _ dp) (ih (c+1) _ t')
  | tell x rs hx _ ih =>
    intro c m t
    obtain⟨o,m1,d,t1,-,ho,-⟩:=KU.item (E:=0) (given:=given) (wt:=wt) sz t hg (TyI.tell x hx)
    rcases ho with rfl | ⟨e,he,-⟩
    · exact one t.ok d (ih (c+1) _ t1)
    · omega
  | hear x rs hx _ ih =>
    intro c m t
    obtain⟨o,m1,d,t1,-,ho,-⟩:=KU.item (E:=0) (given:=given) (wt:=wt) sz t hg (TyI.hear x hx)
    rcases ho with rfl | ⟨e,he,-⟩
    · exact one t.ok d (ih (c+1) _ t1)
    · omega
end K86
namespace K62
open PySem PySem.Spec PyProof.Rows L2 L3 KS K02 K85 K06 KM KL
end K62
namespace K62
open PySem PySem.Spec PyProof.Rows L2 L3 KS K02 K85 K06 KM KL
end K62
namespace K61
open PySem PySem.Spec PyProof.Rows L2 L3 KS K02 K85 K06 KM KL KT KU
end K61
namespace K86
open PySem PySem.Spec PyProof.Rows L2 L3 KS K02 K85 K06 KM KL KT KU
abbrev qLl:TSD:=(tseq (qO (qD qj (qF K85.qo (qA (qB 0) (qA (qC (Dt.int 10)) qE))) (qC (Dt.int 2))) (qI 1)) (tseq (qO (qF KL.qE5 (qA (qB 0) (qA (qB 1) qE))) (qI 2)) (tseq (qO (qF KT.qHb (qA (qB 0) (qA (qB 1) (qA (qC (Dt.bl true)) qE)))) (qAS 4 (qX (qI 3) (qX (qI 4) (qX (qI 5) (qX (qI 6) qBj)))))) (tseq (qO (qF KL.qE4 (qA (qF K85.qo (qA (qB 0) (qA (qC (Dt.int 4)) qE))) (qA (qB 1) qE))) (qI 7)) (tseq (qO (qF KL.qC4 (qA (qD qAk (qF K85.qo (qA (qB 0) (qA (qC (Dt.int 4)) qE))) (qC (Dt.int 11))) (qA (qF qAq (qA (qD qJ (qB 2) (qC (Dt.int 4))) qE)) qE))) (qI 8)) (tseq (qO (qF qi (qA (qy (qAj (qF qAq (qA (qB 6) qE))) (fun x st P=>P true st) (qD L3.qm (qAE (qD qJ (qB 1) (qB 0)) qAK (qAA (qC (Dt.int 4)))) (qZ (qA (qB 0) qE))) [(6, "exits")]) qE)) (qI 6)) (tseq (qO (qF KM.qCx (qA (qZ (qA (qB 3) (qA (qB 4) (qA (qB 5) (qA (qB 6) qE))))) (qA (qB 2) (qA (qB 7) (qA (qB 8) qE))))) (qI 9)) (tseq (qa (qH (qD (qB6 true) (qD qJ (qB 9) (qC (Dt.int 5))) (qF K85.qCg (qA (qZ (qA (qB 3) (qA (qB 4) (qA (qB 5) (qA (qB 6) qE))))) (qA (qD qJ (qB 9) (qC (Dt.int 3))) qE))))) (tseq (qP (qC (Dt.bl false))) qG) qG) (tseq (qO (qF qi (qA (qy (qA3 (qB 5)) (qH (qD (qB6 true) (qD qJ (qB 0) (qC (Dt.int 0))) (qZ (qA (qC (Dt.str "get")) (qA (qC (Dt.str "set")) (qA (qC (Dt.str "div")) (qA (qC (Dt.str "right")) (qA (qC (Dt.str "when")) (qA (qC (Dt.str "back")) (qA (qC (Dt.str "out")) qE)))))))))) (qB 0) []) qE)) (qI 10)) (tseq (qO (qD L3.qm (qB 10) (qZ (qA (qZ (qA (qC (Dt.str "out")) (qA (qC (Dt.int 0)) qE))) qE))) (qI 10)) (tseq (qa (qH (qD (qg true) (qF K85.qCg (qA (qZ (qA (qB 3) (qA (qB 4) (qA (qB 10) (qA (qB 6) qE))))) (qA (qC (Dt.int 0)) qE))) (qZ (qA (qF qAq (qA (qB 10) qE)) qE)))) (tseq (qP (qC (Dt.bl false))) qG) qG) (tseq (qP (qD (qg false) (qD qJ (qF KM.qCx (qA (qZ (qA (qB 3) (qA (qB 4) (qA (qB 10) (qA (qB 6) qE))))) (qA (qB 2) (qA (qB 7) (qA (qB 8) qE))))) (qC (Dt.int 5))) (qF qAq (qA (qB 10) qE)))) qG))))))))))))
theorem qNT {w:Str} {a b:Int} (h:cs (qh w)=[100,110]):eOf ⟨w,[a,b]⟩=[]:=by rw [eo h];simp [List.filter_cons,e0,e3]
theorem qRb {w:Str} {a b:Int} (h:cs (qh w)=[100,120]):eOf ⟨w,[a,b]⟩=[]:=by rw [eo h];simp [List.filter_cons,e0,e2]
theorem qRI {w:Str} {a b:Int} (h:cs (qh w)=[100,115]):eOf ⟨w,[a,b]⟩=[]:=by rw [eo h];simp [List.filter_cons,e0,e4]
theorem qNK {w:Str} {a b:Int} (h:cs (qh w)=[115,120]):eOf ⟨w,[a,b]⟩=[]:=by rw [eo h];simp [List.filter_cons,e2,e4]
theorem qOJ {w:Str} {a b c:Int} (h:cs (qh w)=[100,120,120]):eOf ⟨w,[a,b,c]⟩=[]:=by rw [eo h];simp [List.filter_cons,e0,e2]
theorem q_d {w:Str} {a:Int} (h:cs (qh w)=[100]):eOf ⟨w,[a]⟩=[]:=by rw [eo h];simp [List.filter_cons,e0]
theorem q_x {w:Str} {a:Int} (h:cs (qh w)=[120]):eOf ⟨w,[a]⟩=[]:=by rw [eo h];simp [List.filter_cons,e2]
theorem qOU {N M:Nat} {r:Rw} (p:TyP N M r):eOf r=[]:=by
  cases p with
  | two o d x y ho hd hx hy=>cases o<;>exact qOJ (by decide +kernel)
  | twoT o d x y ho hd hx hy=>cases o<;>exact qOJ (by decide +kernel)
  | num d v hd hv=>exact qNT (by decide +kernel)
  | box d k hd hk=>exact qNT (by decide +kernel)
  | load d s hd hs=>exact qRI (by decide +kernel)
  | keep s x hs hx=>exact qNK (by decide +kernel)
  | nought d x hd hx=>exact qRb (by decide +kernel)
  | high d x hd hx=>exact qRb (by decide +kernel)
  | mark d k hd hk=>exact qNT (by decide +kernel)
  | yes d hd=>exact q_d (by decide +kernel)
  | no d hd=>exact q_d (by decide +kernel)
  | loadT d s hd hs=>exact qRI (by decide +kernel)
  | qFk s x hs hx=>exact qNK (by decide +kernel)
theorem qPx {N M:Nat} {b:List Rw} (c:Calm N M b):∀ r∈b,eOf r=[]∧OkR r:=by
  induction c with
  | nil=>exact fun r hr=>by cases hr
  | plain r rs p _ ih =>
    intro q hq
    k_dat 0"r24"
    · exact⟨qOU p,okP p⟩
    · exact ih q hq
  | tell x rs hx _ ih =>
    intro q hq
    k_dat 0"r24"
    · exact⟨q_x (by decide +kernel),qHO (f:= "x") (by decide +kernel) (by decide +kernel)⟩
    · exact ih q hq
  | hear x rs hx _ ih =>
    intro q hq
    k_dat 0"r24"
    · exact⟨q_d (by decide +kernel),qHO (f:= "d") (by decide +kernel) (by decide +kernel)⟩
    · exact ih q hq
theorem qOb {N M:Nat} {f:List Rw} (hf:qDt N M f):∀ r∈f,eOf r=[]:=by
  obtain⟨a,b,rfl,ha,hb,-,-⟩:=hf
  intro r hr
  k_dat 0"r11"
  · k_dat 0"r11"
    · k_dat 0"r11"
      · obtain⟨d,v,rfl,-,-⟩:=ha r hr
        exact qNT (by decide +kernel)
      · k_dat 0"r33"
        exact q_d (by decide +kernel)
    · obtain⟨s,x,rfl,-,-⟩:=hb r hr
      exact qNK (by decide +kernel)
  · k_dat 0"r33"
    exact qNK (by decide +kernel)
theorem qHo {n:Int}:∀ (rs:List Rw) (k:Nat),(∀ r∈rs,eOf r=[])→qAI k rs n=[]
  | [],k,_=>rfl
  | r::rs,k,h=>by
    unfold qAI
    rw [h r List.mem_cons_self,if_neg (by simp)]
    exact qHo rs (k+1) fun q hq=>h q (List.mem_cons_of_mem _ hq)
noncomputable def qBK (rs:List Rw):List Rw:=rs.filter qAQ++[⟨"out",[0]⟩]
theorem qKM {it:Bool} {N M:Nat} {rs:List Rw} {es:List Ex} {g:GS} {given wt:List Int} (hh:Host it N M rs es) (ok:g.Ok) (hg:∀ v∈given,qAJ v):(∀ r∈qBK rs,OkR r)∧(qBK rs).length≤160∧qAI 1 (qBK rs) 0=[((qBK rs).length:Int)]∧∃ (m':Ms) (ex:Ex) (g':GS),Runs M given wt 0 (start g) (qBK rs) m' 0 ⟨"out",[0]⟩ (qBK rs).length∧qFd M es m' 0 ⟨"out",[0]⟩ ex g':=by
  have hok:=qJt hh
  have hh0:=hh
  obtain⟨sz,E,odd,f,b,l,rfl,hf,hb,hl,h1,h4,hes,hel,hbl⟩:=hh
  have ef:(f++b++[l]).filter qAQ=f++b.filter qAQ:=by
    rw [List.filter_append,List.filter_append,qQx hf]
    have:[l].filter qAQ=[]:=by rw [List.filter_cons,if_neg (by rw [qRe hl];exact Bool.false_ne_true)];rfl
    rw [this,List.append_nil]
  have es0:qBK (f++b++[l])=f++b.filter qAQ++[⟨"out",[0]⟩]:=by unfold qBK;rw [ef]
  have cb:=qNg hb
  have qc:=qPx cb
  have qf:=qOb hf
  have o1:OkR ⟨"out",[0]⟩:=qHO (w:=Str.ofString "out") (f:= "e") (by decide +kernel) (by decide +kernel)
  rw [es0]
  refine⟨fun r hr=>?_,?_,?_,?_⟩
  · k_dat 0"r11"
    · k_dat 0"r11"
      · exact okF hf r hr
      · exact (qc r hr).2
    · rw [List.mem_singleton] at hr;rw [hr];exact o1
  · have h2:=hok.2
    have h3:=List.length_filter_le qAQ b
    simp only [List.length_append,List.length_singleton] at h2 ⊢
    omega
  · rw [qCV,qHo _ 1 (fun r hr=>(List.mem_append.mp hr).elim (qf r) fun h=>(qc r h).1),qMD]
    rw [if_pos (by simp)]
    have e:((1+(f++b.filter qAQ).length:Nat):Int)=((f++b.filter qAQ++[(⟨"out",[0]⟩:Rw)]).length:Int):=by rw [List.length_append (bs:=[_])];simp;omega
    rw [← e];rfl
  · obtain⟨m1,t1,-,p1⟩:=first (c:=0) sz hf (qH6 ok)
    obtain⟨m2,t2,ru⟩:=qLg (given:=given) (wt:=wt) sz hg cb (0+f.length) m1 t1
    have el:0<es.length:=by
      cases odd with
      | true=>have:=hel.1;omega
      | false=>have:es.length=E:=hel;omega
    obtain⟨g',le⟩:=qE9 (r:=⟨"out",[0]⟩) sz t2 (List.getElem?_eq_getElem el) (hes 0 _ (by omega) (List.getElem?_eq_getElem el))
    refine⟨m2,_,g',?_,le⟩
    have e:(f++b.filter qAQ++[(⟨"out",[0]⟩:Rw)]).length=0+f.length+(b.filter qAQ).length+1:=by simp only [List.length_append,List.length_singleton];omega
    rw [e,List.append_assoc]
    exact p1 given wt _ m2 0 _ _ (ru _ m2 0 _ _ (.here _ _ _ _ _ _ t2.ok (.last _ _ (.out _))))
noncomputable abbrev RW6 (way:Int) (g:GS) (a:Int) (M:Nat) (rs:List Rw) (ex:Dt) (gn wn fn sh:Option Dt):Rho:=[some (.lst 0),some (.int way),some g.d,some (.int a),some (.int (M:Int)),some (.tup (rs.map qS)),some ex,gn,wn,fn,sh]
theorem qSJ (e:Ex):L3.cutD [.str e.how,e.at_,.tup e.bs,.tup e.ms,.int e.n] none (some 4)=[.str e.how,e.at_,.tup e.bs,.tup e.ms]:=rfl
theorem qSo {es:List Ex} {ρ:Rho} {s:Sto} {P:VD} (h6:ρ[6]? = some (some (.tup (es.map exD)))) (hl:es.length≤100) (hp:∀ s',qU s s'→P (.tup ((qCZ es).map exD)) s'):qF qi (qA (qy (qAj (qF qAq (qA (qB 6) qE))) (fun x st P=>P true st) (qD L3.qm (qAE (qD qJ (qB 1) (qB 0)) qAK (qAA (qC (Dt.int 4)))) (qZ (qA (qB 0) qE))) [(6, "exits")]) qE) ρ s P:=by
  simp only [qF,qA,qE,qy,qAj,qB,h6,qAq,qd,qCK,List.map_cons,List.map_nil,Option.join_some,List.length_map]
  refine⟨by omega,by omega,?_⟩
  rw [Int.toNat_natCast]
  refine⟨fun i ys s'=>s'=s∧ys=((List.range i).map fun k:Nat=>exD { (es.getD k ⟨"",.non,[],[],0⟩) with n:=(k:Int) }),⟨rfl,rfl⟩,fun _ _ _ _ _=>trivial,?_,?_⟩
  · rintro i d ys s' hd ⟨rfl,rfl⟩
    k_dat 0"r22"
    rw [Int.zero_add]
    refine⟨by rw [List.length_map,List.length_range,sizeLine_eq];omega,qAy ?_⟩
    simp only [qD,qAE,qZ,qAK,qAA,qA,qE,qB,qC,List.getElem?_cons_zero,List.getElem?_cons_succ]
    refine qJz (j:=i) (d:=exD es[i]) (by rw [List.getElem?_map,List.getElem?_eq_getElem hi];rfl) ?_
    show [Dt.int (i:Int)].length≤sizeLine∧L3.qm (.tup (L3.cutD [.str es[i].how,es[i].at_,.tup es[i].bs,.tup es[i].ms,.int es[i].n] none (some 4))) (.tup [.int (i:Int)]) s' _
    rw [qSJ]
    refine⟨z10 1 (by decide),z10 5 (by decide),rfl,?_⟩
    rw [List.range_succ,List.map_append]
    have:es.getD i ⟨"",.non,[],[],0⟩=es[i]:=by rw [List.getD_eq_getElem?_getD,List.getElem?_eq_getElem hi];rfl
    show _=_++[exD { (es.getD i ⟨"",.non,[],[],0⟩) with n:=(i:Int) }]
    rw [this];rfl
  · rintro ys s' ⟨rfl,rfl⟩
    rw [qAM]
    simp only [qi,KL.qAa qK]
    have e:(qCZ es).map exD=(List.range es.length).map fun k:Nat=>exD { (es.getD k ⟨"",.non,[],[],0⟩) with n:=(k:Int) }:=by unfold qCZ;rw [List.map_map];rfl
    have h:=hp _ (qU.app s' (SO.rw ((List.range es.length).map fun k:Nat=>exD { (es.getD k ⟨"",.non,[],[],0⟩) with n:=(k:Int) })))
    rw [e] at h
    exact h
theorem qPo {rs:List Rw} {ρ:Rho} {s:Sto} {P:VD} (h5:ρ[5]? = some (some (.tup (rs.map qS)))) (hl:rs.length≤200) (hp:∀ s',qU s s'→P (.tup ((rs.filter qAQ).map qS)) s'):qF qi (qA (qy (qA3 (qB 5)) (qH (qD (qB6 true) (qD qJ (qB 0) (qC (Dt.int 0))) (qZ (qA (qC (Dt.str "get")) (qA (qC (Dt.str "set")) (qA (qC (Dt.str "div")) (qA (qC (Dt.str "right")) (qA (qC (Dt.str "when")) (qA (qC (Dt.str "back")) (qA (qC (Dt.str "out")) qE)))))))))) (qB 0) []) qE) ρ s P:=by
  simp only [qF,qA,qE,qy,qA3,qB,h5,qd,qCK,List.map_nil]
  refine⟨fun i ys s'=>s'=s∧ys=((rs.take i).filter qAQ).map qS,⟨rfl,rfl⟩,fun _ _ _ _ _=>trivial,?_,?_⟩
  · rintro i d ys s' hd ⟨rfl,rfl⟩
    have hi:i<rs.length:=by have:=(List.getElem?_eq_some_iff.mp hd).1;rwa [List.length_map] at this
    have ed:d=qS rs[i]:=by rw [List.getElem?_map,List.getElem?_eq_getElem hi] at hd;exact (Option.some.inj hd).symm
    subst ed
    have hfl:=List.length_filter_le qAQ (rs.take i)
    rw [List.length_take] at hfl
    refine⟨by rw [List.length_map,sizeLine_eq];omega,?_⟩
    simp only [qH,qD,qZ,qA,qE,qB,qC,List.getElem?_cons_zero]
    refine qSt ?_
    refine⟨z10 7 (by decide),rfl,rfl,?_⟩
    have ek:([Dt.str "get",.str "set",.str "div",.str "right",.str "when",.str "back",.str "out"].any (fun z=>eqD 0 z (.str rs[i].w)) != true)=qAQ rs[i]:=by
      show ((qJV.any fun z=>z==rs[i].w) != true) = !(qJV.any fun z=>z==rs[i].w)
      cases (qJV.any fun z=>z==rs[i].w)<;>rfl
    rw [ek]
    have et:(rs.take (i+1)).filter qAQ=(rs.take i).filter qAQ++(if qAQ rs[i]=true then [rs[i]] else []):=by
      rw [List.take_succ,List.getElem?_eq_getElem hi,List.filter_append]
      congr 1
      show List.filter qAQ [rs[i]]=_
      rw [List.filter_cons];rfl
    cases hk:qAQ rs[i] with
    | true =>
      rw [hk] at et
      refine qAy ⟨rfl,?_⟩
      rw [et,List.map_append];rfl
    | false =>
      rw [hk] at et
      refine qBT ⟨rfl,?_⟩
      rw [et];simp
  · rintro ys s' ⟨rfl,rfl⟩
    rw [List.length_map,List.take_length]
    simp only [qi,KL.qAa qK]
    exact hp _ (.app _ _)
theorem qQH {ds:List Dt} {st:Sto} {Pd:VD} (h:qH3 ds st Pd):qLl (Ed Pd) (qV ["script", "way", "state", "place", "many", "rows", "exits", "given", "watched", "found", "short"] ds) st:=by
  obtain⟨ns,rfl,rfl,hl,hP⟩:=h
  show qLl (Ed Pd) [some (.lst 0),none,none,none,none,none,none,none,none,none,none] [SO.ro (ns.map .int)]
  refine qk ?_
  simp only [qD,qF,qA,qE,qB,qC,List.getElem?_cons_zero,List.getElem?_cons_succ]
  refine⟨0,10,ns,rfl,rfl,fun x=>⟨by decide,?_⟩⟩
  have w0:=Int.emod_nonneg x (show (2:Int)≠0 by decide)
  have w1:=Int.emod_lt_of_pos x (show (0:Int)<2 by decide)
  generalize x%2=way at w0 w1
  refine qk ?_
  simp only [qF,qA,qE,qB,qC,List.set_cons_zero,List.set_cons_succ,List.getElem?_cons_zero,List.getElem?_cons_succ]
  refine⟨0,way,ns,rfl,rfl,fun g s1 x1 ok gp=>?_⟩
  have h0:s1[0]? = some (.ro (ns.map .int)):=x1 _ _ rfl
  refine qv ?_
  simp only [qO,qF,qA,qE,qB,qC,List.set_cons_zero,List.set_cons_succ,List.getElem?_cons_zero,List.getElem?_cons_succ]
  refine⟨0,way,true,ns,rfl,h0,hl,w0,w1,fun N M rs es a s2 x2 hh=>?_⟩
  simp only [qAS,qd,qX,qI,qBj]
  refine⟨rfl,?_⟩
  show tseq _ _ (Ed Pd) (RW6 way g a M rs (.tup (es.map exD)) none none none none) s2
  refine qk ?_
  simp only [qF,qA,qE,qB,qC,List.getElem?_cons_zero,List.getElem?_cons_succ]
  refine⟨0,4,ns,rfl,x2 _ _ h0,fun y=>?_⟩
  refine⟨y,way,rfl,fun gs s3 gn x3 l3 g3 gl gv=>?_⟩
  refine qk ?_
  simp only [qD,qF,qA,qE,qB,qC,List.set_cons_zero,List.set_cons_succ,List.getElem?_cons_zero,List.getElem?_cons_succ]
  refine⟨0,4,ns,rfl,x3 _ _ (x2 _ _ h0),fun z=>?_⟩
  k_dat 0"r73"
  refine K62.qSL (j:=4) rfl ?_
  simp only [qAq,qd,List.length_map]
  have hr16:g.rs.length≤16:=by have:=ok.c8;have:=ok.cm;omega
  refine⟨z / 11,g.rs.length,rfl,hr16,fun wt s4 x4 hw=>?_⟩
  have g4:s4[gn]? = some (.rw (gs.map .int)):=x4 _ _ g3
  show tseq _ _ (Ed Pd) (RW6 way g a M rs (.tup (es.map exD)) (some (.lst gn)) (some (.tup (wt.map .int))) none none) s4
  have hel:es.length≤5:=by
    obtain⟨sz,E,odd,f,b,l,-,-,-,-,-,h4,-,hel,-⟩:=hh
    cases odd with
    | true=>have:=hel.1;omega
    | false=>have:es.length=E:=hel;omega
  have hh':=qIf hh
  refine qk ?_
  refine qSo rfl (by omega) fun s5 x5=>?_
  have hgv:∀ v∈gs,qAJ v:=fun v hv=>gv v hv
  obtain⟨m',e,r,c,ex,g',ru,le⟩:=qMs (given:=gs) (wt:=wt) hh' ok hgv
  obtain⟨hok,hrl⟩:=qJt hh'
  obtain⟨so,sl,st0,m2,ex2,g2,ru2,le2⟩:=qKM (given:=gs) (wt:=wt) hh' ok hgv
  have go:=qJc ru
  have go2:=qJc ru2
  have en:ex.n=(e:Int):=by obtain⟨e0,-,rfl⟩:=qFv le.ex_;rfl
  have ra:=qM9 ru
  have hin:(c:Int)∈qAI 1 rs (e:Int):=by
    have q:=qGe rs 1 (c - 1) (by simpa using ra.2.1) (qOl ru)
    have e9:1+(c - 1)=c:=by omega
    rw [e9] at q;exact q
  generalize hes:qCZ es=es' at le le2
  have g5:s5[gn]? = some (.rw (gs.map .int)):=x5 _ _ g4
  show tseq _ _ (Ed Pd) (RW6 way g a M rs (.tup (es'.map exD)) (some (.lst gn)) (some (.tup (wt.map .int))) none none) s5
  refine qk ?_
  simp only [qF,qZ,qA,qE,qB,List.getElem?_cons_zero,List.getElem?_cons_succ]
  k_dat 0"r43"
  refine⟨.int a,.int (M:Int),rs,es',g,gn,gs,wt,rfl,⟨_,g5,rfl⟩,hok,by omega,by omega,by omega,m',e,r,c,ex,g',go,le.ex_,le.l1,le.l2,le.ou,fun s6 x6=>?_⟩
  have d5:∀ {s:Sto} {P:VD},P (.int (c:Int)) s→qJ (qGW ex g' m'.told m'.heard c) (.int 5) s P:=fun {s P} hp=>qJz (xs:=[.str ex.how,g'.d,.tup (m'.told.map .int),.int ex.n,.int (m'.heard:Int),.int (c:Int)]) (j:=5) rfl hp
  have d3:∀ {s:Sto} {P:VD},P (.int (e:Int)) s→qJ (qGW ex g' m'.told m'.heard c) (.int 3) s P:=fun {s P} hp=>qJz (xs:=[.str ex.how,g'.d,.tup (m'.told.map .int),.int ex.n,.int (m'.heard:Int),.int (c:Int)]) (j:=3) (d:=.int (e:Int)) (by rw [← en];rfl) hp
  generalize qGW ex g' m'.told m'.heard c=found at d5 d3
  show tseq _ _ (Ed Pd) (RW6 way g a M rs (.tup (es'.map exD)) (some (.lst gn)) (some (.tup (wt.map .int))) (some found) none) s6
  refine qv ?_
  simp only [qa,qH,qD,qF,qZ,qA,qE,qB,qC,List.getElem?_cons_zero,List.getElem?_cons_succ]
  refine d5 ?_
  k_dat 0"r43"
  refine d3 ?_
  refine⟨rs,(e:Int),.int a,.int (M:Int),.tup (es'.map exD),rfl,hok,by omega,fun s7 x7=>?_⟩
  show okD 0 (.int (c:Int))=true∧((qAI 1 rs (e:Int)).map Dt.int).all (okD 0)=true∧_
  refine⟨rfl,by rw [List.all_map,List.all_eq_true];intro _ _;rfl,?_⟩
  have hany:(((qAI 1 rs (e:Int)).map Dt.int).any (fun z=>eqD 0 z (.int (c:Int))) != true)=false:=by
    rw [anyI,List.contains_iff_mem.mpr hin];rfl
  rw [hany]
  refine qBT (tnx ?_)
  dsimp only
  have g7:s7[gn]? = some (.rw (gs.map .int)):=x7 _ _ (x6 _ _ g5)
  refine qk ?_
  refine qPo rfl (by omega) fun s8 x8=>?_
  refine qk ?_
  simp only [qD,qZ,qA,qE,qB,qC,List.set_cons_zero,List.set_cons_succ,List.getElem?_cons_zero,List.getElem?_cons_succ]
  refine⟨z10 2 (by decide),z10 1 (by decide),?_⟩
  simp only [L3.qm]
  have es9:(rs.filter qAQ).map qS++[Dt.tup [.str "out",.int 0]]=(qBK rs).map qS:=by unfold qBK;rw [List.map_append];rfl
  have sl9:((rs.filter qAQ).map qS).length+[Dt.tup [.str "out",.int 0]].length≤sizeLine:=by
    rw [← List.length_append,es9,List.length_map,sizeLine_eq];omega
  refine⟨sl9,?_⟩
  rw [es9]
  have g8:s8[gn]? = some (.rw (gs.map .int)):=x8 _ _ g7
  show tseq _ _ (Ed Pd) (RW6 way g a M rs (.tup (es'.map exD)) (some (.lst gn)) (some (.tup (wt.map .int))) (some found) (some (.tup ((qBK rs).map qS)))) s8
  generalize qBK rs=sr at so sl st0 ru2 go2
  refine qv ?_
  simp only [qa,qH,qD,qF,qZ,qA,qE,qB,qC,List.getElem?_cons_zero,List.getElem?_cons_succ]
  k_dat 0"r43"
  refine⟨sr,0,.int a,.int (M:Int),.tup (es'.map exD),rfl,so,by omega,fun s9 x9=>?_⟩
  rw [st0]
  simp only [qAq,qd,List.length_map]
  refine⟨z10 1 (by decide),rfl,rfl,?_⟩
  have eq9:(eqD 8 (.tup [Dt.int (sr.length:Int)]) (.tup [.int (sr.length:Int)]) != true)=false:=by
    rw [L3.qDY (n:=8) rfl];rfl
  show (if (eqD 8 (.tup [Dt.int (sr.length:Int)]) (.tup [.int (sr.length:Int)]) != true)=true then _ else _)
  rw [eq9]
  refine qBT (tnx ?_)
  dsimp only
  have g9:s9[gn]? = some (.rw (gs.map .int)):=x9 _ _ g8
  refine qv ?_
  simp only [qP,qD,qF,qZ,qA,qE,qB,qC,List.getElem?_cons_zero,List.getElem?_cons_succ]
  k_dat 0"r43"
  refine⟨.int a,.int (M:Int),sr,es',g,gn,gs,wt,rfl,⟨_,g9,rfl⟩,so,by omega,by omega,by omega,m2,0,_,_,ex2,g2,go2,le2.ex_,le2.l1,le2.l2,le2.ou,fun s10 x10=>?_⟩
  refine qJz (xs:=[.str ex2.how,g2.d,.tup (m2.told.map .int),.int ex2.n,.int (m2.heard:Int),.int (sr.length:Int)]) (j:=5) rfl ?_
  simp only [qAq,qd,List.length_map]
  refine⟨rfl,rfl,?_⟩
  have eqa:(eqD 8 (.int (sr.length:Int)) (.int (sr.length:Int)) != false)=true:=by
    rw [L3.qDY (n:=8) rfl];rfl
  rw [eqa]
  exact hP s10
end K86
namespace K86
open PySem PySem.Spec PyProof.Rows L2 L3
local macro_rules | `(tactic| k_dat $x:ident "e")=>`(tactic| (case $x:ident=>walk_at "d_e"))
local macro_rules | `(tactic| k_dat $x:ident "r")=>`(tactic| (case $x:ident=>rfl))
local macro_rules | `(tactic| k_dat $x:ident "m")=>`(tactic| (case $x:ident=>assumption))
local macro_rules | `(tactic| k_dat $x:ident "d")=>`(tactic| (case $x:ident=>decide))
local macro_rules | `(tactic| k_dat $x:ident "a")=>`(tactic| (case $x:ident=>walk_at "d_a"))
local macro_rules | `(tactic| k_dat $x:ident "t")=>`(tactic| (case $x:ident=>walk_at "d_t"))
local macro_rules | `(tactic| k_dat $x:ident "s")=>`(tactic| (case $x:ident=>walk_at "d_ss"))
local macro_rules | `(tactic| k_dat $x:ident "i")=>`(tactic| (case $x:ident=>walk_at "d_i"))
local macro_rules | `(tactic| k_dat $x:ident "n")=>`(tactic| (case $x:ident=>first | exact qIg _ | with_unfolding_all rfl))
local macro_rules | `(tactic| k_dat $n:num "zv0")=>`(tactic| ((with_reducible refine' qPR $n ?n ?v ?d ?c);k_dat n "r";(case v=>first | exact Or.inl rfl | exact Or.inr (Or.inl rfl));k_dat d "d";k_dat c "d"))
local macro_rules | `(tactic| k_dat $n:num "zc0")=>`(tactic| ((with_reducible refine' qHY $n _ ?hc ?N ?S ?hx ?nd ?i ?f ?e ?y ?yl ?sw ?hs);k_dat y "r";k_dat hc "r";k_dat N "m";(case S=>exact qHc (by assumption) (by rfl));k_dat hx "r";(case nd=>decide +kernel);k_dat sw "r";k_dat yl "r";k_dat i "i";(case f=>(intro _ _ _ _;walk_at "d_if"));(case e=>(intro _ _ _ _;walk_at "d_e"));(case hs=>(intro _;rfl))))
local macro_rules | `(tactic| k_dat $n:num "zc1")=>`(tactic| ((with_reducible refine' qHY $n _ ?hc ?N ?S ?hx ?nd ?i ?f ?e ?y ?yl ?sw ?hs);k_dat y "r";k_dat hc "r";k_dat N "m";(case S=>exact qFM (by assumption) (by rfl));k_dat hx "r";(case nd=>decide +kernel);k_dat sw "r";k_dat yl "r";k_dat i "i";(case f=>(intro _ _ _ _;walk_at "d_if"));(case e=>(intro _ _ _ _;walk_at "d_e"));(case hs=>(intro _;rfl))))
local macro_rules | `(tactic| k_dat $n:num "zc2")=>`(tactic| ((with_reducible refine' qHY $n [] ?hc ?N ?S ?hx ?nd ?i ?f ?e ?y ?yl ?sw ?hs);k_dat y "r";k_dat hc "r";k_dat N "m";(case S=>exact qIS (by rfl));k_dat hx "r";(case nd=>decide +kernel);k_dat sw "r";k_dat yl "r";k_dat i "i";(case f=>(intro _ _ _ _;walk_at "d_if"));(case e=>(intro _ _ _ _;walk_at "d_e"));(case hs=>(intro _;rfl))))
local macro_rules | `(tactic| k_dat $n:num "zs0")=>`(tactic| ((with_reducible refine' qPh $n ?N ?e ?i ?x ?s ?f);k_dat i "r";k_dat s "r";k_dat N "m";(case x=>first | exact Or.inl rfl | exact Or.inr rfl);(case f=>first | exact .inl rfl | exact .inr rfl);k_dat e "e"))
local macro_rules | `(tactic| k_dat $n:num "zg0")=>`(tactic| ((with_reducible refine' qG8 $n ?nd ?n ?x ?f);k_dat n "r";k_dat nd "m";(case x=>first | exact Or.inl rfl | exact Or.inr rfl);(case f=>first | exact .inl rfl | exact .inr rfl)))
local macro_rules | `(tactic| k_dat $n:num "za0")=>`(tactic| ((with_reducible refine' qPJ $n ?N ?e ?i ?x ?f);k_dat i "r";k_dat N "m";(case x=>first | exact Or.inl rfl | exact Or.inr rfl);(case f=>first | exact .inl rfl | exact .inr rfl);k_dat e "e"))
local macro_rules | `(tactic| k_dat $n:num "zu0")=>`(tactic| ((with_reducible refine' qGf $n ?c ?g ?n ?s);k_dat n "r";k_dat c "r";(case g=>walk_at "d_gs");k_dat s "r"))
local macro_rules | `(tactic| k_dat $l:ident "s0")=>`(tactic| ((with_reducible refine' $l ?v ?r);k_dat v "e";(case r=>walk_at "d_pk")))
local macro_rules | `(tactic| k_dat $l:ident "s1")=>`(tactic| ((with_reducible refine' $l ?a ?b);k_dat a "e";k_dat b "e"))
local macro_rules | `(tactic| k_dat $l:ident "s2")=>`(tactic| ((with_reducible refine' $l ?a);k_dat a "e"))
local macro_rules | `(tactic| k_dat $l:ident "s3")=>`(tactic| ((with_reducible refine' $l ?a ?b ?h1 ?h2 ?h3 ?h4 ?h5);k_dat a "e";k_dat b "e";k_dat h1 "r";k_dat h2 "r";k_dat h3 "r";k_dat h4 "r";k_dat h5 "r"))
local macro_rules | `(tactic| k_dat $l:ident "s4")=>`(tactic| ((with_reducible refine' $l ?f ?n ?r ?a ?g ?db ?he ?hpl);k_dat f "m";k_dat n "r";(case r=>walk_at "d_room");k_dat a "a";k_dat g "r";k_dat db "d";k_dat he "r";k_dat hpl "r"))
local macro_rules | `(tactic| k_dat $l:ident "s5")=>`(tactic| ((with_reducible refine' $l ?hu ?a ?b ?m);(case hu=>walk_at "d_hu");k_dat a "e";k_dat b "e";k_dat m "n"))
local macro_rules | `(tactic| k_dat $l:ident "s6")=>`(tactic| ((with_reducible refine' $l ?a ?b ?m);k_dat a "e";k_dat b "e";k_dat m "n"))
local macro_rules | `(tactic| k_dat $l:ident "s7")=>`(tactic| ((with_reducible refine' $l ?c ?m ?a ?g ?he ?hpl);k_dat c "r";k_dat m "m";k_dat a "a";k_dat g "r";k_dat he "r";k_dat hpl "r"))
local macro_rules | `(tactic| k_dat $l:ident "s8")=>`(tactic| ((with_reducible refine' $l ?a);k_dat a "a"))
local macro_rules | `(tactic| k_dat $l:ident "s9")=>`(tactic| ((with_reducible refine' $l ?a ?l ?h);k_dat a "e";(case l=>walk_at "d_o");(case h=>walk_at "d_o")))
local macro_rules | `(tactic| k_dat $l:ident "s10")=>`(tactic| ((with_reducible refine' $l ?m ?a ?g ?he ?hpl);k_dat m "m";k_dat a "a";k_dat g "r";k_dat he "r";k_dat hpl "r"))
local macro_rules | `(tactic| k_dat $l:ident "s11")=>`(tactic| ((with_reducible refine' $l ?m ?g);k_dat m "m";k_dat g "r"))
local macro_rules | `(tactic| k_dat $l:ident "s12")=>`(tactic| ((with_reducible refine' $l ?a ?b ?c ?m);k_dat a "e";k_dat b "e";k_dat c "e";(case m=>with_unfolding_all rfl)))
local macro_rules | `(tactic| k_dat $l:ident "s13")=>`(tactic| ((with_reducible refine' $l ?hu ?a ?b ?m);(case hu=>exact hu1 (by assumption));k_dat a "e";k_dat b "e";k_dat m "n"))
local macro_rules | `(tactic| k_dat $l:ident "s14")=>`(tactic| ((with_reducible refine' $l ?T ?i ?g ?d ?s);k_dat T "m";k_dat g "r";k_dat d "d";(case s=>exact fun _ _=>rfl);k_dat i "e"))
local macro_rules | `(tactic| k_dat $l:ident "s15")=>`(tactic| ((with_reducible refine' $l ?a);k_dat a "t"))
local macro_rules | `(tactic| k_dat $l:ident "s16")=>`(tactic| ((with_reducible refine' $l ?T ?i ?g ?d ?m);k_dat T "m";k_dat g "r";k_dat d "d";k_dat i "e";k_dat m "n"))
local macro_rules | `(tactic| k_dat $l:ident "s17")=>`(tactic| ((with_reducible refine' $l ?a ?b);k_dat a "t";(case b=>walk_at "d_w")))
local macro_rules | `(tactic| k_dat $l:ident "s18")=>`(tactic| ((with_reducible refine' $l ?m ?a ?g ?s);k_dat m "m";k_dat a "e";k_dat g "r";k_dat s "r"))
local macro_rules | `(tactic| walk_at "d_room")=>`(tactic| first
  | exact qAd.mono (by assumption) (by decide)
  | exact qAd.mono (by assumption) (by omega))
local macro_rules | `(tactic| walk_at "d_hu")=>`(tactic| first
  | exact qSS (by assumption))
local macro_rules | `(tactic| walk_at "d_ps")=>`(tactic| first
  | (with_reducible exact dps_nil)
  | ((with_reducible refine' dps_cons ?v ?r);k_dat v "e";(case r=>walk_at "d_ps")))
local macro_rules | `(tactic| walk_at "d_e")=>`(tactic| first
  | (with_reducible exact qP5)
  | (with_reducible exact qP3)
  | (with_reducible exact qRQ)
  | (with_reducible exact qQp)
  | ((with_reducible show DE _ (.Name _ _) _);first
      | (k_dat 0 "zv0")
      | (k_dat 1 "zv0")
      | (k_dat 2 "zv0")
      | (k_dat 3 "zv0")
      | (k_dat 4 "zv0")
      | (k_dat 5 "zv0")
      | (k_dat 6 "zv0")
      | (k_dat 7 "zv0")
      | (k_dat 8 "zv0")
      | (k_dat 9 "zv0")
      | (k_dat 10 "zv0")
      | (k_dat 11 "zv0")
      | (k_dat 12 "zv0")
      | (k_dat 13 "zv0")
      | (k_dat 14 "zv0")
      | (k_dat 15 "zv0"))
  | (k_dat qQD "s2")
  | (k_dat qKs "s3")
  | (k_dat qPc "s1")
  | (k_dat qP8 "s1")
  | (k_dat qPi "s1")
  | (k_dat qPN "s1")
  | (k_dat qOj "s1")
  | (k_dat qPI "s1")
  | (k_dat qQ1 "s5")
  | (k_dat qRi "s5")
  | (k_dat qQw "s6")
  | (k_dat qQy "s6")
  | (k_dat qRd "s6")
  | (k_dat qLZ "s6")
  | (k_dat qQs "s8")
  | (k_dat qPq "s8")
  | (k_dat qKP "s9")
  | (k_dat qMW "s9")
  | ((with_reducible refine' qRo ?a ?b ?s);k_dat a "e";k_dat b "e";(case s=>exact fun _ _=>rfl))
  | ((with_reducible refine' qMk ?f ?r ?a ?g ?db ?he ?hpl);k_dat f "m";(case r=>walk_at "d_room");k_dat a "a";k_dat g "r";k_dat db "d";k_dat he "r";k_dat hpl "r")
  | (k_dat qO2 "s10")
  | (k_dat qKJ "s10")
  | (k_dat qMa "s10")
  | (k_dat qPw "s10")
  | (k_dat qI9 "s11")
  | ((with_reducible refine' qPz ?f ?g ?db);(case f=>first | assumption | exact qKF.con (by assumption));k_dat g "r";k_dat db "d")
  | (k_dat qKg "s3")
  | (k_dat qPB "s1")
  | (k_dat qQJ "s2")
  | ((with_reducible refine' qRL ?c ?a ?b);k_dat c "t";k_dat a "e";k_dat b "e")
  | ((with_reducible refine' qGw _ ?hc ?S ?hx ?nd ?i ?f ?e ?hs);k_dat hc "r";(case S=>exact qHc (by assumption) (by rfl));k_dat hx "r";(case nd=>decide +kernel);k_dat i "i";(case f=>(intro _ _ _ _;walk_at "d_if"));(case e=>(intro _ _ _ _;walk_at "d_e"));(case hs=>(intro _;rfl)))
  | ((with_reducible refine' qGw _ ?hc ?S ?hx ?nd ?i ?f ?e ?hs);k_dat hc "r";(case S=>exact qFM (by assumption) (by rfl));k_dat hx "r";(case nd=>decide +kernel);k_dat i "i";(case f=>(intro _ _ _ _;walk_at "d_if"));(case e=>(intro _ _ _ _;walk_at "d_e"));(case hs=>(intro _;rfl)))
  | ((with_reducible refine' qGw [] ?hc ?S ?hx ?nd ?i ?f ?e ?hs);k_dat hc "r";(case S=>exact qIS (by rfl));k_dat hx "r";(case nd=>decide +kernel);k_dat i "i";(case f=>(intro _ _ _ _;walk_at "d_if"));(case e=>(intro _ _ _ _;walk_at "d_e"));(case hs=>(intro _;rfl)))
  | (with_reducible exact qLO)
  | ((with_reducible refine' qK9 ?hu ?a ?b ?c ?m);(case hu=>exact hu1 (by assumption));k_dat a "e";k_dat b "e";k_dat c "e";(case m=>exact⟨rfl,rfl,rfl,rfl⟩))
  | ((with_reducible refine' qPO ?c ?f ?a ?b);k_dat c "m";k_dat f "d";k_dat a "e";k_dat b "r")
  | ((with_reducible refine' qN6 ?f ?r ?o ?a ?g ?h ?t);k_dat f "m";(case r=>walk_at "d_room");k_dat o "e";k_dat a "a";k_dat g "r";k_dat h "r";k_dat t "r")
  | (k_dat qKm "s14")
  | ((with_reducible refine' qNz ?f ?r ?a ?g ?d ?he ?hpl);k_dat f "m";(case r=>walk_at "d_room");k_dat a "a";k_dat g "r";k_dat d "d";k_dat he "r";k_dat hpl "r")
  | (k_dat qOw "s1")
  | (k_dat qPU "s1")
  | ((with_reducible refine' qFj _ ?hc ?S ?hx ?hy ?nd ?i ?f ?e ?hs);k_dat hc "r";(case S=>exact qHc (by assumption) (by rfl));k_dat hx "r";k_dat hy "r";(case nd=>decide +kernel);k_dat i "i";(case f=>(intro _ _ _ _;walk_at "d_if"));(case e=>(intro _ _ _ _;walk_at "d_e"));(case hs=>(intro _;rfl)))
  | ((with_reducible refine' qFj _ ?hc ?S ?hx ?hy ?nd ?i ?f ?e ?hs);k_dat hc "r";(case S=>exact qFM (by assumption) (by rfl));k_dat hx "r";k_dat hy "r";(case nd=>decide +kernel);k_dat i "i";(case f=>(intro _ _ _ _;walk_at "d_if"));(case e=>(intro _ _ _ _;walk_at "d_e"));(case hs=>(intro _;rfl)))
  | ((with_reducible refine' qFj [] ?hc ?S ?hx ?hy ?nd ?i ?f ?e ?hs);k_dat hc "r";(case S=>exact qIS (by rfl));k_dat hx "r";k_dat hy "r";(case nd=>decide +kernel);k_dat i "i";(case f=>(intro _ _ _ _;walk_at "d_if"));(case e=>(intro _ _ _ _;walk_at "d_e"));(case hs=>(intro _;rfl))))
local macro_rules | `(tactic| walk_at "d_a")=>`(tactic| first
  | (with_reducible exact qDI)
  | ((with_reducible refine' qBU ?a ?b ?h);k_dat a "e";k_dat b "a";k_dat h "r"))
local macro_rules | `(tactic| walk_at "d_o")=>`(tactic| first
  | (with_reducible exact qNm)
  | (k_dat qM4 "s2"))
local macro_rules | `(tactic| walk_at "d_t")=>`(tactic| first
  | (k_dat qQG "s15")
  | ((with_reducible refine' qK5 (qLC ?a ?b));k_dat a "t";(case b=>walk_at "d_w"))
  | (k_dat qQi "s5")
  | (k_dat qPv "s5")
  | (k_dat qOr "s6")
  | (k_dat qQF "s6")
  | (k_dat qOo "s6")
  | (k_dat qKp "s6")
  | (k_dat qQR "s6")
  | (k_dat qKi "s6")
  | (k_dat qKO "s12")
  | (k_dat qIY "s16")
  | ((with_reducible refine' qQL ?a ?h);k_dat a "e";(case h=>(intro _;rfl))))
local macro_rules | `(tactic| walk_at "d_w")=>`(tactic| first
  | (k_dat qLC "s17")
  | (k_dat qNV "s15"))
local macro_rules | `(tactic| walk_at "d_if")=>`(tactic| first
  | (with_reducible exact qNH)
  | (k_dat qNW "s15"))
local macro_rules | `(tactic| walk_at "d_i")=>`(tactic| first
  | ((with_reducible refine' qPW ?m ?a ?b ?g ?s ?s2 ?hpl);k_dat m "m";k_dat a "e";k_dat b "e";k_dat g "r";k_dat s "r";k_dat s2 "r";k_dat hpl "r")
  | ((with_reducible refine' qLa ?m ?a ?b ?g ?s ?hall ?hks ?hpl ?hbk);k_dat m "m";k_dat a "e";k_dat b "e";k_dat g "r";k_dat s "r";k_dat hall "r";k_dat hks "r";k_dat hpl "r";(case hbk=>exact⟨_,rfl⟩))
  | ((with_reducible refine' qKH ?m ?a ?b ?g ?s ?s2);k_dat m "m";k_dat a "e";k_dat b "e";k_dat g "r";k_dat s "r";k_dat s2 "r")
  | (k_dat qKD "s18")
  | (k_dat qPV "s2"))
local macro_rules | `(tactic| walk_at "d_g")=>`(tactic| first
  | (k_dat 0 "zg0")
  | (k_dat 1 "zg0")
  | (k_dat 2 "zg0")
  | (k_dat 3 "zg0")
  | (k_dat 4 "zg0")
  | (k_dat 5 "zg0")
  | (k_dat 6 "zg0")
  | (k_dat 7 "zg0")
  | (k_dat 8 "zg0")
  | (k_dat 9 "zg0")
  | (k_dat 10 "zg0")
  | (k_dat 11 "zg0")
  | (k_dat 12 "zg0")
  | (k_dat 13 "zg0")
  | (k_dat 14 "zg0")
  | (k_dat 15 "zg0")
  | (k_dat 1 "zu0")
  | (k_dat 2 "zu0")
  | (k_dat 3 "zu0")
  | (k_dat 4 "zu0")
  | (k_dat 5 "zu0")
  | (k_dat 6 "zu0")
  | (k_dat 7 "zu0")
  | (k_dat 8 "zu0")
  | ((with_reducible refine' qQK ?a ?b ?h);k_dat a "e";k_dat b "e";(case h=>(intro _;rfl))))
local macro_rules | `(tactic| walk_at "d_gs")=>`(tactic| first
  | (with_reducible exact qJx)
  | ((with_reducible refine' qFV ?a ?b ?h);(case a=>walk_at "d_g");(case b=>walk_at "d_gs");k_dat h "r"))
local macro_rules | `(tactic| walk_at "d_s")=>`(tactic| first
  | (k_dat qOs "s2")
  | ((with_reducible refine' qR0 ?c ?a ?b);k_dat c "t";k_dat a "s";k_dat b "s")
  | ((with_reducible refine' qNu ?a ?h);k_dat h "r";k_dat a "e")
  | ((with_reducible refine' qP9 ?p ?c ?i ?g ?b ?h);(case p=>exact PassesOwn.never);k_dat c "r";k_dat i "i";(case g=>walk_at "d_g");k_dat b "s";(case h=>(intro _;rfl)))
  | ((with_reducible show DS _ (.Assign [.Name _ _] (.ListComp _ _ _ _) _) _);first
      | (k_dat 0 "zc0")
      | (k_dat 0 "zc1")
      | (k_dat 0 "zc2")
      | (k_dat 1 "zc0")
      | (k_dat 1 "zc1")
      | (k_dat 1 "zc2")
      | (k_dat 2 "zc0")
      | (k_dat 2 "zc1")
      | (k_dat 2 "zc2")
      | (k_dat 3 "zc0")
      | (k_dat 3 "zc1")
      | (k_dat 3 "zc2")
      | (k_dat 4 "zc0")
      | (k_dat 4 "zc1")
      | (k_dat 4 "zc2")
      | (k_dat 5 "zc0")
      | (k_dat 5 "zc1")
      | (k_dat 5 "zc2")
      | (k_dat 6 "zc0")
      | (k_dat 6 "zc1")
      | (k_dat 6 "zc2")
      | (k_dat 7 "zc0")
      | (k_dat 7 "zc1")
      | (k_dat 7 "zc2")
      | (k_dat 8 "zc0")
      | (k_dat 8 "zc1")
      | (k_dat 8 "zc2")
      | (k_dat 9 "zc0")
      | (k_dat 9 "zc1")
      | (k_dat 9 "zc2")
      | (k_dat 10 "zc0")
      | (k_dat 10 "zc1")
      | (k_dat 10 "zc2")
      | (k_dat 11 "zc0")
      | (k_dat 11 "zc1")
      | (k_dat 11 "zc2")
      | (k_dat 12 "zc0")
      | (k_dat 12 "zc1")
      | (k_dat 12 "zc2")
      | (k_dat 13 "zc0")
      | (k_dat 13 "zc1")
      | (k_dat 13 "zc2")
      | (k_dat 14 "zc0")
      | (k_dat 14 "zc1")
      | (k_dat 14 "zc2")
      | (k_dat 15 "zc0")
      | (k_dat 15 "zc1")
      | (k_dat 15 "zc2"))
  | ((with_reducible show DS _ (.Assign [.Name _ _] _ _) _);first
      | (k_dat 0 "zs0")
      | (k_dat 1 "zs0")
      | (k_dat 2 "zs0")
      | (k_dat 3 "zs0")
      | (k_dat 4 "zs0")
      | (k_dat 5 "zs0")
      | (k_dat 6 "zs0")
      | (k_dat 7 "zs0")
      | (k_dat 8 "zs0")
      | (k_dat 9 "zs0")
      | (k_dat 10 "zs0")
      | (k_dat 11 "zs0")
      | (k_dat 12 "zs0")
      | (k_dat 13 "zs0")
      | (k_dat 14 "zs0")
      | (k_dat 15 "zs0"))
  | ((with_reducible refine' qNq ?hu ?a ?b ?v ?s);(case hu=>exact hu1 (by assumption));k_dat s "r";k_dat v "e";k_dat a "e";k_dat b "e")
  | ((with_reducible refine' qQV ?c ?f ?o ?v ?s);k_dat c "m";k_dat f "d";k_dat s "r";k_dat v "e";k_dat o "e")
  | ((with_reducible refine' qQQ ?e ?g ?s ?w ?h);k_dat s "r";k_dat w "r";k_dat h "r";k_dat e "e";(case g=>walk_at "d_g"))
  | ((with_reducible show DS _ (.AugAssign (.Name _ _) _ _ _) _);first
      | (k_dat 0 "za0")
      | (k_dat 1 "za0")
      | (k_dat 2 "za0")
      | (k_dat 3 "za0")
      | (k_dat 4 "za0")
      | (k_dat 5 "za0")
      | (k_dat 6 "za0")
      | (k_dat 7 "za0")
      | (k_dat 8 "za0")
      | (k_dat 9 "za0")
      | (k_dat 10 "za0")
      | (k_dat 11 "za0")
      | (k_dat 12 "za0")
      | (k_dat 13 "za0")
      | (k_dat 14 "za0")
      | (k_dat 15 "za0")))
local macro_rules | `(tactic| walk_at "d_ss")=>`(tactic| first
  | (with_reducible exact qMz)
  | ((with_reducible refine' qIC ?a ?b);(case a=>walk_at "d_s");k_dat b "s"))
set_option hygiene false in
local macro_rules | `(tactic| k_dat ($a,$t,$r) "k")=>`(tactic| (have nd:=($a).nd;refine qPu F $a (fun ds st Pd h=>by first | (obtain⟨_,rfl,_⟩:=h;rfl) | (obtain⟨_,_,rfl,_⟩:=h;rfl) | (obtain⟨_,_,_,rfl,_⟩:=h;rfl) | (obtain⟨_,_,_,_,rfl,_⟩:=h;rfl) | (obtain⟨_,_,_,_,_,rfl,_⟩:=h;rfl) | (obtain⟨_,_,_,_,_,_,rfl,_⟩:=h;rfl) | (obtain⟨_,_,_,_,_,_,_,rfl,_⟩:=h;rfl) | (obtain⟨_,_,_,_,_,_,_,_,rfl,_⟩:=h;rfl) | (obtain⟨_,_,_,_,_,_,_,_,_,_,_,rfl,_⟩:=h;rfl) | (obtain⟨_,_,_,_,_,_,_,_,_,_,_,_,rfl,_⟩:=h;rfl) | (obtain⟨_,_,_,_,_,_,_,_,_,_,_,_,_,_,rfl,_⟩:=h;rfl) | (obtain⟨_,_,_,_,_,_,_,_,_,_,_,_,_,_,_,_,rfl,_⟩:=h;rfl) | (obtain⟨_,_,_,_,_,_,_,_,_,_,_,_,_,_,_,_,_,_,rfl,_⟩:=h;rfl)) fun cdv A outer s H E hr=>?_;refine⟨$t,?t,fun ds st Pd h=>$r h⟩;(case t=>(refine' qIC ?a ?b;(case a=>walk_at "d_s");(case b=>walk_at "d_ss")))))
local macro_rules | `(tactic| k_dat 0 "c")=>`(tactic| exact⟨rfl,rfl,rfl,by decide +kernel,rfl,by decide +kernel,by decide +kernel⟩)
noncomputable def top (i:Nat):Stmt:=PySem.Challenge.pw_asitruns_k86_whole_left_where_told.main.body.getD i (.Pass ⟨0,0,0,0⟩)
noncomputable abbrev qDM:Stmt:=top 9
noncomputable abbrev qFx:Stmt:=top 10
noncomputable abbrev qHC:Stmt:=top 11
noncomputable abbrev qFe:Stmt:=top 12
noncomputable abbrev qDS:Stmt:=top 13
noncomputable abbrev qBZ:Stmt:=top 14
noncomputable abbrev qIp:Stmt:=top 15
noncomputable abbrev qQA:Stmt:=top 16
noncomputable abbrev qBJ:Stmt:=top 17
noncomputable abbrev qFT:Stmt:=top 18
noncomputable abbrev qFJ:Stmt:=top 19
noncomputable abbrev qFB:Stmt:=top 20
noncomputable abbrev qDO:Stmt:=top 21
noncomputable abbrev qD6:Stmt:=top 23
noncomputable abbrev qDH:Stmt:=top 28
noncomputable abbrev qDy:Stmt:=top 30
noncomputable abbrev qEA:Stmt:=top 33
noncomputable abbrev qBy:Stmt:=top 34
noncomputable abbrev qBN:Stmt:=inClass (top 36) 0
noncomputable abbrev qBc:Stmt:=inClass (top 36) 1
noncomputable abbrev qBL:Stmt:=inClass (top 36) 2
noncomputable abbrev qDR:Stmt:=inClass (top 36) 3
noncomputable abbrev qBv:Stmt:=inClass (top 36) 4
noncomputable abbrev qCB:Stmt:=top 37
noncomputable abbrev qCh:Stmt:=top 38
noncomputable abbrev qEB:Stmt:=top 39
noncomputable abbrev qDJ:Stmt:=top 41
noncomputable abbrev qCO:Stmt:=top 42
noncomputable abbrev qBf:Stmt:=top 43
noncomputable abbrev qBx:Stmt:=top 44
noncomputable abbrev qCD:Stmt:=top 45
noncomputable abbrev qCP:Stmt:=top 46
noncomputable abbrev qBb:Stmt:=top 47
noncomputable abbrev qAz:Stmt:=top 48
noncomputable abbrev qA6:Stmt:=top 49
noncomputable abbrev qA5:Stmt:=top 50
noncomputable abbrev qB2:Stmt:=top 51
noncomputable abbrev qCm:Stmt:=top 52
noncomputable abbrev qBA:Stmt:=top 53
noncomputable abbrev qBI:Stmt:=top 54
noncomputable abbrev qCn:Stmt:=top 55
noncomputable abbrev qGn:Stmt:=top 56
section
variable {P:Program} {w:World} {K:W.Frag} {mg:Str→Option Value} {base:Heap} {f:Addr} {fd:FuncData}
theorem qIb:qR ["parts", "k", "part"] ["parts", "k", "part"] (qL qDM):=by k_dat 0 "c"
theorem qJT (F:Fun K "replaced" "replaced" qDM f fd)  : qx P w K mg base CX0 1 f fd ["parts", "k", "part"] (qQ K K06.qp):=by
  k_dat (qIb,K06.qFL,K06.qHz) "k"
theorem qMS:qR ["right", "state", "address"] ["right", "state", "address"] (qL qFx):=by k_dat 0 "c"
theorem qMc (F:Fun K "may_be" "may_be" qFx f fd) (gI4:qAt K mg "RIGHTS" (.int 4)) (gI5:qAt K mg "CELLS" (.int 5)) (m3:mg "len" = none):qx P w K mg base CX0 1 f fd ["right", "state", "address"] (qQ K K06.qGN):=by
  k_dat (qMS,K06.qHk,K06.qKU) "k"
theorem qN3:qR ["state", "place"] ["state", "place"] (qL qHC):=by k_dat 0 "c"
theorem qMx (F:Fun K "moved" "moved" qHC f fd) (gI0:qAt K mg "PLACE" (.int 0)) (dreplaced:qW P w K mg base "replaced" 1 K06.qp):qx P w K mg base CX0 2 f fd ["state", "place"] (qQ K K06.qEy):=by
  k_dat (qN3,K06.qJ2,K06.qLX) "k"
theorem qL6:qR ["state"] ["state"] (qL qFe):=by k_dat 0 "c"
theorem qLW (F:Fun K "one_on" "one_on" qFe f fd) (gI0:qAt K mg "PLACE" (.int 0)) (dmoved:qW P w K mg base "moved" 2 K06.qEy):qx P w K mg base CX0 3 f fd ["state"] (qQ K K06.qBn):=by
  k_dat (qL6,K06.qIO,K06.qJ4) "k"
theorem qIa:qR ["state", "a", "number"] ["state", "a", "number"] (qL qDS):=by k_dat 0 "c"
theorem qIs (F:Fun K "with_box" "with_box" qDS f fd) (gI1:qAt K mg "BOXES" (.int 1)) (dreplaced:qW P w K mg base "replaced" 1 K06.qp) (done_on:qW P w K mg base "one_on" 3 K06.qBn):qx P w K mg base CX0 4 f fd ["state", "a", "number"] (qQ K K06.qAs):=by
  k_dat (qIa,K06.qFb,K06.qIJ) "k"
theorem qFS:qR ["state", "a", "number", "carry"] ["state", "a", "number", "carry"] (qL qBZ):=by k_dat 0 "c"
theorem qFW (F:Fun K "with_outcome" "with_outcome" qBZ f fd) (gI2:qAt K mg "MARKS" (.int 2)) (dreplaced:qW P w K mg base "replaced" 1 K06.qp) (dwith_box:qW P w K mg base "with_box" 4 K06.qAs):qx P w K mg base CX0 5 f fd ["state", "a", "number", "carry"] (qQ K K06.qC1):=by
  k_dat (qFS,K06.qCd,K06.qEp) "k"
theorem qQN:qR ["how", "state"] ["how", "state"] (qL qIp):=by k_dat 0 "c"
theorem qPd (F:Fun K "left" "left" qIp f fd)  : qx P w K mg base CX0 1 f fd ["how", "state"] (qQ K K06.qB1):=by
  k_dat (qQN,K06.qMQ,K06.qM7) "k"
theorem qSR:qR ["state"] ["state"] (qL qQA):=by k_dat 0 "c"
theorem qSj (F:Fun K "on" "on" qQA f fd)  : qx P w K mg base CX0 1 f fd ["state"] (qQ K K06.qEv):=by
  k_dat (qSR,K06.qRT,K06.qRE) "k"
theorem qEg:qR ["word", "x", "y"] ["word", "x", "y"] (qL qBJ):=by k_dat 0 "c"
theorem qEe (F:Fun K "plain_outcome" "plain_outcome" qBJ f fd)  : qx P w K mg base CX0 1 f fd ["word", "x", "y"] (qQ K K20.qBE):=by
  k_dat (qEg,K20.qCW,K20.qD9) "k"
theorem qLk:qR ["state", "a", "x", "y"] ["state", "a", "x", "y"] (qL qFT):=by k_dat 0 "c"
theorem qLm (F:Fun K "do_div" "do_div" qFT f fd) (dwith_outcome:qW P w K mg base "with_outcome" 5 K06.qC1) (dleft:qW P w K mg base "left" 1 K06.qB1) (don:qW P w K mg base "on" 1 K06.qEv):qx P w K mg base CX0 6 f fd ["state", "a", "x", "y"] (qQ K K06.qJW):=by
  k_dat (qLk,K06.qIK,K06.qKf) "k"
theorem qLp:qR ["state", "a", "address"] ["state", "a", "address"] (qL qFJ):=by k_dat 0 "c"
theorem qMM (F:Fun K "do_get" "do_get" qFJ f fd) (gI5:qAt K mg "CELLS" (.int 5)) (gI6:qAt K mg "READ" (.int 1)) (dmay_be:qW P w K mg base "may_be" 1 K06.qGN) (dwith_box:qW P w K mg base "with_box" 4 K06.qAs) (dleft:qW P w K mg base "left" 1 K06.qB1) (don:qW P w K mg base "on" 1 K06.qEv):qx P w K mg base CX0 6 f fd ["state", "a", "address"] (qQ K K06.qJm):=by
  k_dat (qLp,K06.qHf,K06.qKB) "k"
theorem qMC:qR ["state", "number", "address"] ["state", "number", "address"] (qL qFB):=by k_dat 0 "c"
theorem qMb (F:Fun K "do_set" "do_set" qFB f fd) (gI5:qAt K mg "CELLS" (.int 5)) (gI7:qAt K mg "WRITTEN" (.int 2)) (dreplaced:qW P w K mg base "replaced" 1 K06.qp) (dmay_be:qW P w K mg base "may_be" 1 K06.qGN) (done_on:qW P w K mg base "one_on" 3 K06.qBn) (dleft:qW P w K mg base "left" 1 K06.qB1) (don:qW P w K mg base "on" 1 K06.qEv):qx P w K mg base CX0 6 f fd ["state", "number", "address"] (qQ K K06.qJ3):=by
  k_dat (qMC,K06.qHg,K06.qKd) "k"
theorem qJI:qR ["state", "page", "rights"] ["state", "page", "rights"] (qL qDO):=by k_dat 0 "c"
theorem qIm (F:Fun K "do_right" "do_right" qDO f fd) (gI4:qAt K mg "RIGHTS" (.int 4)) (m3:mg "len" = none) (dreplaced:qW P w K mg base "replaced" 1 K06.qp) (done_on:qW P w K mg base "one_on" 3 K06.qBn) (dleft:qW P w K mg base "left" 1 K06.qB1) (don:qW P w K mg base "on" 1 K06.qEv):qx P w K mg base CX0 6 f fd ["state", "page", "rights"] (qQ K K06.qDn):=by
  k_dat (qJI,K06.qFu,K06.qHi) "k"
theorem qKT:qR ["word", "named", "x", "y"] ["word", "named"] (qL qD6):=by k_dat 0 "c"
theorem qKS (F:Fun K "made_of" "made_of" qD6 f fd) (dplain_outcome:qW P w K mg base "plain_outcome" 1 K20.qBE):qx P w K mg base CX0 2 f fd ["word", "named"] (qQ K K20.qED):=by
  k_dat (qKT,K20.qGZ,K20.qIy) "k"
theorem qIZ:qR ["row", "sign"] ["row", "sign"] (qL qDH):=by k_dat 0 "c"
theorem qJJ (F:Fun K "parts_of" "parts_of" qDH f fd) (m1:mg "tuple" = none) (m14:mg "zip" = none) (tD0:TopD w K mg "FORMS" K85.qB9):qx P w K mg base CX0 1 f fd ["row", "sign"] (qQ K K85.qAR):=by
  have hint0:Hint [(1, "sign")]:=⟨trivial⟩
  k_dat (qIZ,K85.qCU,K85.qID) "k"
theorem qKc:qR ["host", "number"] ["host", "number"] (qL qDy):=by k_dat 0 "c"
theorem qKY (F:Fun K "rows_to" "rows_to" qDy f fd) (m1:mg "tuple" = none) (m6:mg "enumerate" = none) (dparts_of:qW P w K mg base "parts_of" 1 K85.qAR):qx P w K mg base CX0 2 f fd ["host", "number"] (qQ K K85.qCg):=by
  have hint0:Hint [(1, "number")]:=⟨trivial⟩
  k_dat (qKc,K85.qCy,K85.qIt) "k"
theorem qJ5:qR ["state", "word", "parts", "heard"] ["state", "word", "parts", "heard"] (qL qEA):=by k_dat 0 "c"
theorem qKl (F:Fun K "do_item" "do_item" qEA f fd) (dwith_box:qW P w K mg base "with_box" 4 K06.qAs) (don:qW P w K mg base "on" 1 K06.qEv) (ddo_div:qW P w K mg base "do_div" 6 K06.qJW) (ddo_get:qW P w K mg base "do_get" 6 K06.qJm) (ddo_set:qW P w K mg base "do_set" 6 K06.qJ3) (ddo_right:qW P w K mg base "do_right" 6 K06.qDn):qx P w K mg base CX0 7 f fd ["state", "word", "parts", "heard"] (qQ K KD.qCq):=by
  k_dat (qJ5,KD.qC2,KD.qI5) "k"
theorem qGE:qR ["word", "parts", "watched"] ["word", "parts", "watched"] (qL qBy):=by k_dat 0 "c"
theorem qGH (F:Fun K "is_shutting" "is_shutting" qBy f fd)  : qx P w K mg base CX0 1 f fd ["word", "parts", "watched"] (qQ K KD.qBg):=by
  k_dat (qGE,KD.qBF,KD.qFA) "k"
theorem qEi:qR ["self", "boxes", "marks"] ["self", "boxes", "marks"] (qL qBN):=by k_dat 0 "c"
theorem qEq (F:Fun K "__init__" "Hold.__init__" qBN f fd) (cC:qDE K "Hold" ["hands", "shelf", "boxes", "marks"]):qx P w K mg base CX0 1 f fd ["self", "boxes", "marks"] (qQ K KM.qE2):=by
  k_dat (qEi,KM.qAp,KM.qEM) "k"
theorem qFK:qR ["self", "x"] ["self", "x"] (qL qBc):=by k_dat 0 "c"
theorem qFi (F:Fun K "in_hand" "Hold.in_hand" qBc f fd) (cC:qDE K "Hold" ["hands", "shelf", "boxes", "marks"]):qx P w K mg base CX0 1 f fd ["self", "x"] (qQ K KM.qAL):=by
  k_dat (qFK,KM.qA0,KM.qEt) "k"
theorem qEm:qR ["self", "s"] ["self", "s"] (qL qBL):=by k_dat 0 "c"
theorem qEf (F:Fun K "on_shelf" "Hold.on_shelf" qBL f fd) (cC:qDE K "Hold" ["hands", "shelf", "boxes", "marks"]):qx P w K mg base CX0 1 f fd ["self", "s"] (qQ K KM.qA9):=by
  k_dat (qEm,KM.qAo,KM.qEP) "k"
theorem qJK:qR ["self", "row", "word"] ["self", "row"] (qL qDR):=by k_dat 0 "c"
theorem qIr (F:Fun K "put" "Hold.put" qDR f fd) (dmade_of:qW P w K mg base "made_of" 2 K20.qED) (dparts_of:qW P w K mg base "parts_of" 1 K85.qAR) (cC:qDE K "Hold" ["hands", "shelf", "boxes", "marks"]) (mHold_in_hand:qBz P w K mg base "Hold" "in_hand" 1 KM.qAL) (mHold_on_shelf:qBz P w K mg base "Hold" "on_shelf" 1 KM.qA9):qx P w K mg base CX0 3 f fd ["self", "row"] (qQ K KM.qH4):=by
  have hint0:Hint [(0, "self")]:=⟨trivial⟩
  k_dat (qJK,KM.qCN,KM.qH2) "k"
theorem qF5:qR ["self", "source", "old", "where"] ["self", "source", "old"] (qL qBv):=by k_dat 0 "c"
theorem qGF (F:Fun K "source" "Hold.source" qBv f fd) (cC:qDE K "Hold" ["hands", "shelf", "boxes", "marks"]) (mHold_in_hand:qBz P w K mg base "Hold" "in_hand" 1 KM.qAL) (mHold_on_shelf:qBz P w K mg base "Hold" "on_shelf" 1 KM.qA9):qx P w K mg base CX0 2 f fd ["self", "source", "old"] (qQ K KM.qA8):=by
  k_dat (qF5,KM.qBD,KM.qF0) "k"
theorem qHK:qR ["row", "parts", "saved"] ["row", "parts", "saved"] (qL qCB):=by k_dat 0 "c"
theorem qHd (F:Fun K "number_out" "number_out" qCB f fd)  : qx P w K mg base CX0 1 f fd ["row", "parts", "saved"] (qQ K KM.qCo):=by
  k_dat (qHK,KM.qBR,KM.qF7) "k"
theorem qHe:qR ["way", "state", "hold", "is_back", "boxes", "place", "marks"] ["way", "state", "hold", "is_back"] (qL qCh):=by k_dat 0 "c"
theorem qHy (F:Fun K "state_out" "state_out" qCh f fd) (gI3:qAt K mg "SAVED" (.int 3)) (gI4:qAt K mg "RIGHTS" (.int 4)) (gI5:qAt K mg "CELLS" (.int 5)) (m1:mg "tuple" = none) (m2:mg "isinstance" = none) (cC:qDE K "Hold" ["hands", "shelf", "boxes", "marks"]) (mHold_in_hand:qBz P w K mg base "Hold" "in_hand" 1 KM.qAL) (mHold_source:qBz P w K mg base "Hold" "source" 2 KM.qA8):qx P w K mg base CX0 3 f fd ["way", "state", "hold", "is_back"] (qQ K KM.qCJ):=by
  have hint0:Hint [(2, "hold")]:=⟨trivial⟩
  k_dat (qHe,KM.qBp,KM.qGs) "k"
theorem qKN:qR ["host", "state", "given", "watched", "hold", "told", "heard", "count", "row", "word", "parts", "number", "outcome", "way", "is_back"] ["host", "state", "given", "watched"] (qL qEB):=by k_dat 0 "c"
theorem qKZ (F:Fun K "do_host" "do_host" qEB f fd) (gT0:qKF K mg "LAST" KM.qH0) (gT1:qKF K mg "BRINGING" KD.qNv) (gI1:qAt K mg "BOXES" (.int 1)) (gI2:qAt K mg "MARKS" (.int 2)) (gI3:qAt K mg "SAVED" (.int 3)) (m1:mg "tuple" = none) (m3:mg "len" = none) (m6:mg "enumerate" = none) (tN0:qNX w K mg "ITEMS" KM.qF1) (dparts_of:qW P w K mg base "parts_of" 1 K85.qAR) (ddo_item:qW P w K mg base "do_item" 7 KD.qCq) (dis_shutting:qW P w K mg base "is_shutting" 1 KD.qBg) (dnumber_out:qW P w K mg base "number_out" 1 KM.qCo) (dstate_out:qW P w K mg base "state_out" 3 KM.qCJ) (cC:qDE K "Hold" ["hands", "shelf", "boxes", "marks"]) (mHold_in_hand:qBz P w K mg base "Hold" "in_hand" 1 KM.qAL) (mHold_put:qBz P w K mg base "Hold" "put" 3 KM.qH4) (kC:qJA P w K mg base "Hold" 1 KM.qE2):qx P w K mg base CX0 9 f fd ["host", "state", "given", "watched"] (qQ K KM.qCx):=by
  have hint0:Hint [(4, "hold")]:=⟨trivial⟩
  k_dat (qKN,KM.qC5,KM.qI1) "k"
theorem qIv:qR ["cell", "k", "number"] ["cell", "k"] (qL qDJ):=by k_dat 0 "c"
theorem qIw (F:Fun K "_law_mix" "_law_mix" qDJ f fd)  : qx P w K mg base CX0 1 f fd ["cell", "k"] (qQ K KL.qJq):=by
  k_dat (qIv,KL.qDN,KL.qIE) "k"
theorem qHA:qR ["cell", "way", "bounds", "found", "k"] ["cell", "way", "bounds"] (qL qCO):=by k_dat 0 "c"
theorem qGz (F:Fun K "_law_parts" "_law_parts" qCO f fd) (m3:mg "len" = none) (m7:mg "range" = none) (d_law_mix:qW P w K mg base "_law_mix" 1 KL.qJq):qx P w K mg base CX0 2 f fd ["cell", "way", "bounds"] (qQ K KL.qAH):=by
  k_dat (qHA,KL.qCE,KL.qGB) "k"
theorem qFR:qR ["script", "k"] ["script", "k"] (qL qBf):=by k_dat 0 "c"
theorem qFr (F:Fun K "_law_cell_at" "_law_cell_at" qBf f fd) (m3:mg "len" = none):qx P w K mg base CX0 1 f fd ["script", "k"] (qQ K K85.qo):=by
  k_dat (qFR,K85.qBa,K85.qEj) "k"
theorem qGG:qR ["part"] ["part"] (qL qBx):=by k_dat 0 "c"
theorem qF4 (F:Fun K "_law_number" "_law_number" qBx f fd)  : qx P w K mg base CX0 1 f fd ["part"] (qQ K KL.qDo):=by
  k_dat (qGG,KL.qB0,KL.qFl) "k"
theorem qHX:qR ["script", "way", "sizes", "many", "cells", "rights", "parts", "boxes", "marks", "saved"] ["script", "way"] (qL qCD):=by k_dat 0 "c"
theorem qHZ (F:Fun K "_law_state" "_law_state" qCD f fd) (m1:mg "tuple" = none) (d_law_parts:qW P w K mg base "_law_parts" 2 KL.qAH) (d_law_cell_at:qW P w K mg base "_law_cell_at" 1 K85.qo) (d_law_number:qW P w K mg base "_law_number" 1 KL.qDo):qx P w K mg base CX0 3 f fd ["script", "way"] (qQ K KL.qE5):=by
  k_dat (qHX,KL.qCG,KL.qGA) "k"
theorem qG3:qR ["cell", "way", "many"] ["cell", "way"] (qL qCP):=by k_dat 0 "c"
theorem qHD (F:Fun K "_law_given" "_law_given" qCP f fd) (d_law_parts:qW P w K mg base "_law_parts" 2 KL.qAH):qx P w K mg base CX0 3 f fd ["cell", "way"] (qQ K KL.qE4):=by
  k_dat (qG3,KL.qCS,KL.qF8) "k"
theorem qFa:qR ["cell", "pages"] ["cell", "pages"] (qL qBb):=by k_dat 0 "c"
theorem qFF (F:Fun K "_law_watched" "_law_watched" qBb f fd) (m1:mg "tuple" = none) (m7:mg "range" = none):qx P w K mg base CX0 1 f fd ["cell", "pages"] (qQ K KL.qC4):=by
  have hint0:Hint [(0, "cell")]:=⟨trivial⟩
  k_dat (qFa,KL.qBl,KL.qEr) "k"
theorem qDU:qR ["many", "numbers", "left_out", "rows"] ["many", "numbers", "left_out"] (qL qAz):=by k_dat 0 "c"
theorem qDc (F:Fun K "_law_first_rows" "_law_first_rows" qAz f fd) (m7:mg "range" = none):qx P w K mg base CX0 1 f fd ["many", "numbers", "left_out"] (qQ K KT.qE7):=by
  have hint0:Hint [(2, "left_out")]:=⟨trivial⟩
  have hint1:Hint [(2, "left_out"),(1, "numbers")]:=⟨trivial⟩
  have hint2:Hint [(0, "many")]:=⟨trivial⟩
  k_dat (qDU,KT.qAx,KT.qDT) "k"
theorem qDu:qR ["parts", "many", "numbers", "word", "one", "two", "three", "number", "k", "truth"] ["parts", "many", "numbers"] (qL qA6):=by k_dat 0 "c"
theorem qD4 (F:Fun K "_law_plain_row" "_law_plain_row" qA6 f fd)  : qx P w K mg base CX0 1 f fd ["parts", "many", "numbers"] (qQ K KT.qBE):=by
  k_dat (qDu,KT.qA4,KT.qDX) "k"
theorem qD1:qR ["parts", "numbers", "exits", "word", "one", "two", "three", "number", "k", "first", "then"] ["parts", "numbers", "exits"] (qL qA5):=by k_dat 0 "c"
theorem qEJ (F:Fun K "_law_item_rows" "_law_item_rows" qA5 f fd)  : qx P w K mg base CX0 1 f fd ["parts", "numbers", "exits"] (qQ K KT.qDW):=by
  k_dat (qD1,KT.qBC,KT.qDs) "k"
theorem qGC:qR ["part", "numbers", "many", "truth", "way"] ["part", "numbers", "many", "truth"] (qL qB2):=by k_dat 0 "c"
theorem qF3 (F:Fun K "_law_source" "_law_source" qB2 f fd) (m4:mg "int" = none):qx P w K mg base CX0 1 f fd ["part", "numbers", "many", "truth"] (qQ K KT.qB4):=by
  k_dat (qGC,KT.qBu,KT.qFE) "k"
theorem qIB:qR ["parts", "numbers", "many", "how", "place", "boxes", "marks"] ["parts", "numbers", "many"] (qL qCm):=by k_dat 0 "c"
theorem qHp (F:Fun K "_law_exit" "_law_exit" qCm f fd) (m1:mg "tuple" = none) (m7:mg "range" = none) (d_law_source:qW P w K mg base "_law_source" 1 KT.qB4):qx P w K mg base CX0 2 f fd ["parts", "numbers", "many"] (qQ K KT.qG5):=by
  have hint0:Hint [(2, "many"),(1, "numbers"),(0, "parts")]:=⟨trivial⟩
  k_dat (qIB,KT.qCk,KT.qHE) "k"
theorem qEI:qR ["script", "way", "numbers", "many", "found", "k", "cell", "parts"] ["script", "way", "numbers", "many"] (qL qBA):=by k_dat 0 "c"
theorem qD3 (F:Fun K "_law_exit_list" "_law_exit_list" qBA f fd) (m1:mg "tuple" = none) (m7:mg "range" = none) (d_law_parts:qW P w K mg base "_law_parts" 2 KL.qAH) (d_law_cell_at:qW P w K mg base "_law_cell_at" 1 K85.qo) (d_law_exit:qW P w K mg base "_law_exit" 2 KT.qG5):qx P w K mg base CX0 3 f fd ["script", "way", "numbers", "many"] (qQ K KT.qEz):=by
  k_dat (qEI,KT.qA7,KT.qDg) "k"
theorem qEu:qR ["cell", "way", "numbers", "many", "exits", "word", "hand", "first", "then"] ["cell", "way", "numbers", "many", "exits"] (qL qBI):=by k_dat 0 "c"
theorem qEl (F:Fun K "_law_last_row" "_law_last_row" qBI f fd) (d_law_parts:qW P w K mg base "_law_parts" 2 KL.qAH):qx P w K mg base CX0 3 f fd ["cell", "way", "numbers", "many", "exits"] (qQ K KT.qFD):=by
  k_dat (qEu,KT.qBM,KT.qEO) "k"
theorem qIN:qR ["script", "way", "items", "sizes", "many", "numbers", "exits", "left_out", "rows", "cell", "parts", "odd"] ["script", "way", "items"] (qL qCn):=by k_dat 0 "c"
theorem qIA (F:Fun K "_law_host" "_law_host" qCn f fd) (m1:mg "tuple" = none) (m3:mg "len" = none) (m4:mg "int" = none) (d_law_parts:qW P w K mg base "_law_parts" 2 KL.qAH) (d_law_cell_at:qW P w K mg base "_law_cell_at" 1 K85.qo) (d_law_first_rows:qW P w K mg base "_law_first_rows" 1 KT.qE7) (d_law_plain_row:qW P w K mg base "_law_plain_row" 1 KT.qBE) (d_law_item_rows:qW P w K mg base "_law_item_rows" 1 KT.qDW) (d_law_exit_list:qW P w K mg base "_law_exit_list" 3 KT.qEz) (d_law_last_row:qW P w K mg base "_law_last_row" 3 KT.qFD):qx P w K mg base CX0 4 f fd ["script", "way", "items"] (qQ K KT.qHb):=by
  k_dat (qIN,KT.qCv,KT.qHW) "k"
theorem qRY:qR ["script", "way", "state", "place", "many", "rows", "exits", "given", "watched", "found", "short"] ["script"] (qL qGn):=by k_dat 0 "c"
theorem qRc (F:Fun K "law" "law" qGn f fd) (m1:mg "tuple" = none) (m3:mg "len" = none) (m7:mg "range" = none) (drows_to:qW P w K mg base "rows_to" 2 K85.qCg) (ddo_host:qW P w K mg base "do_host" 9 KM.qCx) (d_law_cell_at:qW P w K mg base "_law_cell_at" 1 K85.qo) (d_law_state:qW P w K mg base "_law_state" 3 KL.qE5) (d_law_given:qW P w K mg base "_law_given" 3 KL.qE4) (d_law_watched:qW P w K mg base "_law_watched" 1 KL.qC4) (d_law_host:qW P w K mg base "_law_host" 4 KT.qHb):qx P w K mg base CX0 12 f fd ["script"] (qQ K qH3):=by
  have hint0:Hint [(6, "exits")]:=⟨trivial⟩
  k_dat (qRY,qLl,qQH) "k"
end
@[elab_as_elim] theorem len1 {C:List Value→Prop} (us:List Value) (hl:us.length=1) (h:∀ a0,C [a0]):C us:=by
  match us,hl with
  | [a0],_=>exact h _
@[elab_as_elim] theorem len2 {C:List Value→Prop} (us:List Value) (hl:us.length=2) (h:∀ a0 a1,C [a0,a1]):C us:=by
  match us,hl with
  | [a0,a1],_=>exact h _ _
@[elab_as_elim] theorem len3 {C:List Value→Prop} (us:List Value) (hl:us.length=3) (h:∀ a0 a1 a2,C [a0,a1,a2]):C us:=by
  match us,hl with
  | [a0,a1,a2],_=>exact h _ _ _
@[elab_as_elim] theorem len4 {C:List Value→Prop} (us:List Value) (hl:us.length=4) (h:∀ a0 a1 a2 a3,C [a0,a1,a2,a3]):C us:=by
  match us,hl with
  | [a0,a1,a2,a3],_=>exact h _ _ _ _
@[elab_as_elim] theorem len5 {C:List Value→Prop} (us:List Value) (hl:us.length=5) (h:∀ a0 a1 a2 a3 a4,C [a0,a1,a2,a3,a4]):C us:=by
  match us,hl with
  | [a0,a1,a2,a3,a4],_=>exact h _ _ _ _ _
@[elab_as_elim] theorem len6 {C:List Value→Prop} (us:List Value) (hl:us.length=6) (h:∀ a0 a1 a2 a3 a4 a5,C [a0,a1,a2,a3,a4,a5]):C us:=by
  match us,hl with
  | [a0,a1,a2,a3,a4,a5],_=>exact h _ _ _ _ _ _
@[elab_as_elim] theorem len7 {C:List Value→Prop} (us:List Value) (hl:us.length=7) (h:∀ a0 a1 a2 a3 a4 a5 a6,C [a0,a1,a2,a3,a4,a5,a6]):C us:=by
  match us,hl with
  | [a0,a1,a2,a3,a4,a5,a6],_=>exact h _ _ _ _ _ _ _
@[elab_as_elim] theorem len8 {C:List Value→Prop} (us:List Value) (hl:us.length=8) (h:∀ a0 a1 a2 a3 a4 a5 a6 a7,C [a0,a1,a2,a3,a4,a5,a6,a7]):C us:=by
  match us,hl with
  | [a0,a1,a2,a3,a4,a5,a6,a7],_=>exact h _ _ _ _ _ _ _ _
@[elab_as_elim] theorem len9 {C:List Value→Prop} (us:List Value) (hl:us.length=9) (h:∀ a0 a1 a2 a3 a4 a5 a6 a7 a8,C [a0,a1,a2,a3,a4,a5,a6,a7,a8]):C us:=by
  match us,hl with
  | [a0,a1,a2,a3,a4,a5,a6,a7,a8],_=>exact h _ _ _ _ _ _ _ _ _
theorem all_mk {l:W.OpenLaw} {w:World} {K:W.Frag} {h:Heap} {mg:Str→Option Value} {fa CC:Addr} (X:K.In h) (G:h.Ns mainGlobals mg) (hfa:mg "law" = some (.ref fa))
    (aC:W.nsIn K mainGlobals "Hold" = some (some (.ref CC))) (pg:W.plainGet K CC Str.empty=true) (hd:W.hasDictIn K CC=true) (po:W.plainOver K CC=true) (sa:W.findIn K (.ref CC) "__setattr__" = some (some (.builtin "object.__setattr__"))) (mk:W.makesIn K CC=true) (kc:W.keepIn K (.ref CC)=true)
    (nf0:W.findIn K (.ref CC) "hands" = some none)
    (nf1:W.findIn K (.ref CC) "shelf" = some none)
    (nf2:W.findIn K (.ref CC) "boxes" = some none)
    (nf3:W.findIn K (.ref CC) "marks" = some none)
    (h0:qq K "replaced" qDM)
    (h1:qq K "may_be" qFx)
    (h2:qq K "moved" qHC)
    (h3:qq K "one_on" qFe)
    (h4:qq K "with_box" qDS)
    (h5:qq K "with_outcome" qBZ)
    (h6:qq K "left" qIp)
    (h7:qq K "on" qQA)
    (h8:qq K "plain_outcome" qBJ)
    (h9:qq K "do_div" qFT)
    (h10:qq K "do_get" qFJ)
    (h11:qq K "do_set" qFB)
    (h12:qq K "do_right" qDO)
    (h13:qq K "made_of" qD6)
    (h14:qq K "parts_of" qDH)
    (h15:qq K "rows_to" qDy)
    (h16:qq K "do_item" qEA)
    (h17:qq K "is_shutting" qBy)
    (h18:qCX K CC "__init__" "Hold.__init__" qBN)
    (h19:qCX K CC "in_hand" "Hold.in_hand" qBc)
    (h20:qCX K CC "on_shelf" "Hold.on_shelf" qBL)
    (h21:qCX K CC "put" "Hold.put" qDR)
    (h22:qCX K CC "source" "Hold.source" qBv)
    (h23:qq K "number_out" qCB)
    (h24:qq K "state_out" qCh)
    (h25:qq K "do_host" qEB)
    (h26:qq K "_law_mix" qDJ)
    (h27:qq K "_law_parts" qCO)
    (h28:qq K "_law_cell_at" qBf)
    (h29:qq K "_law_number" qBx)
    (h30:qq K "_law_state" qCD)
    (h31:qq K "_law_given" qCP)
    (h32:qq K "_law_watched" qBb)
    (h33:qq K "_law_first_rows" qAz)
    (h34:qq K "_law_plain_row" qA6)
    (h35:qq K "_law_item_rows" qA5)
    (h36:qq K "_law_source" qB2)
    (h37:qq K "_law_exit" qCm)
    (h38:qq K "_law_exit_list" qBA)
    (h39:qq K "_law_last_row" qBI)
    (h40:qq K "_law_host" qCn)
    (h41:qq K "law" qGn)
    {aT0:Addr} {iT0:Array Value} {nT0:Nat} {sT0:Array (Option Value)} (b0:W.nsIn K mainGlobals "LAST" = some (some (.ref aT0))) (e0:K.lookup aT0=some ⟨.type "tuple",none,.seq iT0 nT0,sT0⟩) (v0:qBV iT0.toList KM.qR7=true) (w0:iT0.size≤sizeLine)
    {aT1:Addr} {iT1:Array Value} {nT1:Nat} {sT1:Array (Option Value)} (b1:W.nsIn K mainGlobals "BRINGING" = some (some (.ref aT1))) (e1:K.lookup aT1=some ⟨.type "tuple",none,.seq iT1 nT1,sT1⟩) (v1:qBV iT1.toList KD.qSU=true) (w1:iT1.size≤sizeLine)
    {tI0:Tok} (p0:W.nsIn K mainGlobals "PLACE" = some (some (.int 0 tI0)))
    {tI1:Tok} (p1:W.nsIn K mainGlobals "BOXES" = some (some (.int 1 tI1)))
    {tI2:Tok} (p2:W.nsIn K mainGlobals "MARKS" = some (some (.int 2 tI2)))
    {tI3:Tok} (p3:W.nsIn K mainGlobals "SAVED" = some (some (.int 3 tI3)))
    {tI4:Tok} (p4:W.nsIn K mainGlobals "RIGHTS" = some (some (.int 4 tI4)))
    {tI5:Tok} (p5:W.nsIn K mainGlobals "CELLS" = some (some (.int 5 tI5)))
    {tI6:Tok} (p6:W.nsIn K mainGlobals "READ" = some (some (.int 1 tI6)))
    {tI7:Tok} (p7:W.nsIn K mainGlobals "WRITTEN" = some (some (.int 2 tI7)))
    {aD0:Addr} {esD0:Array DictEntry} {nD0:Nat} (bD0:W.nsIn K mainGlobals "FORMS" = some (some (.ref aD0))) (eD0:K.lookup aD0=some ⟨.type "dict",none,.dict esD0 nD0,#[]⟩) (yD0:(aD0==sysModules)=false) (uD0:qBt w.params esD0.toList K85.qB9)
    {aN0:Addr} {esN0:Array DictEntry} {nN0:Nat} (bN0:W.nsIn K mainGlobals "ITEMS" = some (some (.ref aN0))) (eN0:K.lookup aN0=some ⟨.type "dict",none,.dict esN0 nN0,#[]⟩) (yN0:(aN0==sysModules)=false) (uN0:qBr w.params esN0.toList KM.qF1)
    (z0:W.nsIn K mainGlobals "all" = some none)
    (z1:W.nsIn K mainGlobals "tuple" = some none)
    (z2:W.nsIn K mainGlobals "isinstance" = some none)
    (z3:W.nsIn K mainGlobals "len" = some none)
    (z4:W.nsIn K mainGlobals "int" = some none)
    (z5:W.nsIn K mainGlobals "bool" = some none)
    (z6:W.nsIn K mainGlobals "enumerate" = some none)
    (z7:W.nsIn K mainGlobals "range" = some none)
    (z8:W.nsIn K mainGlobals "min" = some none)
    (z9:W.nsIn K mainGlobals "max" = some none)
    (z10:W.nsIn K mainGlobals "sum" = some none)
    (z11:W.nsIn K mainGlobals "list" = some none)
    (z12:W.nsIn K mainGlobals "str" = some none)
    (z13:W.nsIn K mainGlobals "any" = some none)
    (z14:W.nsIn K mainGlobals "zip" = some none)
    : ∃ fd:FuncData,(∀ (s:Shared) (v:Value),BindsTo s fd ⟨[v],[]⟩ [("script",v)])∧∀ base:Heap,K.In base→base.Ns mainGlobals mg→qx l.prog w K mg base CX0 12 fa fd ["script"] (qQ K qH3):=by
  obtain⟨f9,fd9,a9,F9⟩:=h41.ex
  have e:=hfa.symm.trans (W.mg_of X G a9)
  cases e
  have gT0:=qGS (mg:=mg) (x:= "LAST") (W.mg_of X G b0) e0 v0 w0
  have gT1:=qGS (mg:=mg) (x:= "BRINGING") (W.mg_of X G b1) e1 v1 w1
  have gI0:=qBo (K:=K) (W.mg_of X G p0)
  have gI1:=qBo (K:=K) (W.mg_of X G p1)
  have gI2:=qBo (K:=K) (W.mg_of X G p2)
  have gI3:=qBo (K:=K) (W.mg_of X G p3)
  have gI4:=qBo (K:=K) (W.mg_of X G p4)
  have gI5:=qBo (K:=K) (W.mg_of X G p5)
  have gI6:=qBo (K:=K) (W.mg_of X G p6)
  have gI7:=qBo (K:=K) (W.mg_of X G p7)
  have m0:=W.mg_none_of X G z0
  have m1:=W.mg_none_of X G z1
  have m2:=W.mg_none_of X G z2
  have m3:=W.mg_none_of X G z3
  have m4:=W.mg_none_of X G z4
  have m5:=W.mg_none_of X G z5
  have m6:=W.mg_none_of X G z6
  have m7:=W.mg_none_of X G z7
  have m8:=W.mg_none_of X G z8
  have m9:=W.mg_none_of X G z9
  have m10:=W.mg_none_of X G z10
  have m11:=W.mg_none_of X G z11
  have m12:=W.mg_none_of X G z12
  have m13:=W.mg_none_of X G z13
  have m14:=W.mg_none_of X G z14
  have tD0:TopD w K mg "FORMS" K85.qB9:=⟨_,_,_,W.mg_of X G bD0,eD0,yD0,uD0⟩
  have tN0:qNX w K mg "ITEMS" KM.qF1:=⟨_,_,_,W.mg_of X G bN0,eN0,yN0,uN0⟩
  have CC0:Cls K CC:=⟨pg,hd,po,sa⟩
  have cC:qDE K "Hold" ["hands", "shelf", "boxes", "marks"]:=⟨fun c hc=>by
    rw [aC] at hc
    cases hc
    refine⟨CC0,fun f hf=>?_⟩
    simp only [List.mem_cons,List.not_mem_nil,or_false] at hf
    rcases hf with rfl | rfl | rfl | rfl
    · exact nf0
    · exact nf1
    · exact nf2
    · exact nf3⟩
  have F9':=F9
  obtain⟨oc,od,kV,dc,pm,an,cd,ct,sl,rfl,-,-⟩:=F9'.ex
  refine⟨W.fnOf "law" "law" (qAg qGn) (qAX qGn) (qL qGn) .none kV dc pm an cd ct,fun s v=>.of_eq rfl,fun base _ _=>?_⟩
  have Dreplaced:=h0.ok (P:=l.prog) (w:=w) (base:=base) X G (fun F=>qJT F ) (L3.b3 rfl fun _ _ _ _ _ _ _ _ _=>rfl)
  have Dmay_be:=h1.ok (P:=l.prog) (w:=w) (base:=base) X G (fun F=>qMc F gI4 gI5 m3) (L3.b3 rfl fun _ _ _ _ _ _ _ _ _=>rfl)
  have Dmoved:=h2.ok (P:=l.prog) (w:=w) (base:=base) X G (fun F=>qMx F gI0 Dreplaced) (L3.b2 rfl fun _ _ _ _ _ _ _ _=>rfl)
  have Done_on:=h3.ok (P:=l.prog) (w:=w) (base:=base) X G (fun F=>qLW F gI0 Dmoved) (L3.b1 rfl fun _ _ _ _ _ _ _=>rfl)
  have Dwith_box:=h4.ok (P:=l.prog) (w:=w) (base:=base) X G (fun F=>qIs F gI1 Dreplaced Done_on) (L3.b3 rfl fun _ _ _ _ _ _ _ _ _=>rfl)
  have Dwith_outcome:=h5.ok (P:=l.prog) (w:=w) (base:=base) X G (fun F=>qFW F gI2 Dreplaced Dwith_box) (L3.b4 rfl fun _ _ _ _ _ _ _ _ _ _=>rfl)
  have Dleft:=h6.ok (P:=l.prog) (w:=w) (base:=base) X G (fun F=>qPd F ) (L3.b2 rfl fun _ _ _ _ _ _ _ _=>rfl)
  have Don:=h7.ok (P:=l.prog) (w:=w) (base:=base) X G (fun F=>qSj F ) (L3.b1 rfl fun _ _ _ _ _ _ _=>rfl)
  have Dplain_outcome:=h8.ok (P:=l.prog) (w:=w) (base:=base) X G (fun F=>qEe F ) (L3.b3 rfl fun _ _ _ _ _ _ _ _ _=>rfl)
  have Ddo_div:=h9.ok (P:=l.prog) (w:=w) (base:=base) X G (fun F=>qLm F Dwith_outcome Dleft Don) (L3.b4 rfl fun _ _ _ _ _ _ _ _ _ _=>rfl)
  have Ddo_get:=h10.ok (P:=l.prog) (w:=w) (base:=base) X G (fun F=>qMM F gI5 gI6 Dmay_be Dwith_box Dleft Don) (L3.b3 rfl fun _ _ _ _ _ _ _ _ _=>rfl)
  have Ddo_set:=h11.ok (P:=l.prog) (w:=w) (base:=base) X G (fun F=>qMb F gI5 gI7 Dreplaced Dmay_be Done_on Dleft Don) (L3.b3 rfl fun _ _ _ _ _ _ _ _ _=>rfl)
  have Ddo_right:=h12.ok (P:=l.prog) (w:=w) (base:=base) X G (fun F=>qIm F gI4 m3 Dreplaced Done_on Dleft Don) (L3.b3 rfl fun _ _ _ _ _ _ _ _ _=>rfl)
  have Dmade_of:=h13.ok (P:=l.prog) (w:=w) (base:=base) X G (fun F=>qKS F Dplain_outcome) (L3.b2 rfl fun _ _ _ _ _ _ _ _=>rfl)
  have Dparts_of:=h14.ok (P:=l.prog) (w:=w) (base:=base) X G (fun F=>qJJ F m1 m14 tD0) (L3.b2 rfl fun _ _ _ _ _ _ _ _=>rfl)
  have Drows_to:=h15.ok (P:=l.prog) (w:=w) (base:=base) X G (fun F=>qKY F m1 m6 Dparts_of) (L3.b2 rfl fun _ _ _ _ _ _ _ _=>rfl)
  have Ddo_item:=h16.ok (P:=l.prog) (w:=w) (base:=base) X G (fun F=>qKl F Dwith_box Don Ddo_div Ddo_get Ddo_set Ddo_right) (L3.b4 rfl fun _ _ _ _ _ _ _ _ _ _=>rfl)
  have Dis_shutting:=h17.ok (P:=l.prog) (w:=w) (base:=base) X G (fun F=>qGH F ) (L3.b3 rfl fun _ _ _ _ _ _ _ _ _=>rfl)
  have kC:=h18.make (P:=l.prog) (w:=w) (base:=base) X G aC mk kc (fun F=>qEq F cC) (L3.b3 rfl fun _ _ _ _ _ _ _ _ _=>rfl)
  have MHold_in_hand:=h19.ok (P:=l.prog) (w:=w) (mg:=mg) (base:=base) aC CC0 (fun F=>qFi F cC) (L3.b2 rfl fun _ _ _ _ _ _ _ _=>rfl)
  have MHold_on_shelf:=h20.ok (P:=l.prog) (w:=w) (mg:=mg) (base:=base) aC CC0 (fun F=>qEf F cC) (L3.b2 rfl fun _ _ _ _ _ _ _ _=>rfl)
  have MHold_put:=h21.ok (P:=l.prog) (w:=w) (mg:=mg) (base:=base) aC CC0 (fun F=>qIr F Dmade_of Dparts_of cC MHold_in_hand MHold_on_shelf) (L3.b2 rfl fun _ _ _ _ _ _ _ _=>rfl)
  have MHold_source:=h22.ok (P:=l.prog) (w:=w) (mg:=mg) (base:=base) aC CC0 (fun F=>qGF F cC MHold_in_hand MHold_on_shelf) (L3.b3 rfl fun _ _ _ _ _ _ _ _ _=>rfl)
  have Dnumber_out:=h23.ok (P:=l.prog) (w:=w) (base:=base) X G (fun F=>qHd F ) (L3.b3 rfl fun _ _ _ _ _ _ _ _ _=>rfl)
  have Dstate_out:=h24.ok (P:=l.prog) (w:=w) (base:=base) X G (fun F=>qHy F gI3 gI4 gI5 m1 m2 cC MHold_in_hand MHold_source) (L3.b4 rfl fun _ _ _ _ _ _ _ _ _ _=>rfl)
  have Ddo_host:=h25.ok (P:=l.prog) (w:=w) (base:=base) X G (fun F=>qKZ F gT0 gT1 gI1 gI2 gI3 m1 m3 m6 tN0 Dparts_of Ddo_item Dis_shutting Dnumber_out Dstate_out cC MHold_in_hand MHold_put kC) (L3.b4 rfl fun _ _ _ _ _ _ _ _ _ _=>rfl)
  have D_law_mix:=h26.ok (P:=l.prog) (w:=w) (base:=base) X G (fun F=>qIw F ) (L3.b2 rfl fun _ _ _ _ _ _ _ _=>rfl)
  have D_law_parts:=h27.ok (P:=l.prog) (w:=w) (base:=base) X G (fun F=>qGz F m3 m7 D_law_mix) (L3.b3 rfl fun _ _ _ _ _ _ _ _ _=>rfl)
  have D_law_cell_at:=h28.ok (P:=l.prog) (w:=w) (base:=base) X G (fun F=>qFr F m3) (L3.b2 rfl fun _ _ _ _ _ _ _ _=>rfl)
  have D_law_number:=h29.ok (P:=l.prog) (w:=w) (base:=base) X G (fun F=>qF4 F ) (L3.b1 rfl fun _ _ _ _ _ _ _=>rfl)
  have D_law_state:=h30.ok (P:=l.prog) (w:=w) (base:=base) X G (fun F=>qHZ F m1 D_law_parts D_law_cell_at D_law_number) (L3.b2 rfl fun _ _ _ _ _ _ _ _=>rfl)
  have D_law_given:=h31.ok (P:=l.prog) (w:=w) (base:=base) X G (fun F=>qHD F D_law_parts) (L3.b2 rfl fun _ _ _ _ _ _ _ _=>rfl)
  have D_law_watched:=h32.ok (P:=l.prog) (w:=w) (base:=base) X G (fun F=>qFF F m1 m7) (L3.b2 rfl fun _ _ _ _ _ _ _ _=>rfl)
  have D_law_first_rows:=h33.ok (P:=l.prog) (w:=w) (base:=base) X G (fun F=>qDc F m7) (L3.b3 rfl fun _ _ _ _ _ _ _ _ _=>rfl)
  have D_law_plain_row:=h34.ok (P:=l.prog) (w:=w) (base:=base) X G (fun F=>qD4 F ) (L3.b3 rfl fun _ _ _ _ _ _ _ _ _=>rfl)
  have D_law_item_rows:=h35.ok (P:=l.prog) (w:=w) (base:=base) X G (fun F=>qEJ F ) (L3.b3 rfl fun _ _ _ _ _ _ _ _ _=>rfl)
  have D_law_source:=h36.ok (P:=l.prog) (w:=w) (base:=base) X G (fun F=>qF3 F m4) (L3.b4 rfl fun _ _ _ _ _ _ _ _ _ _=>rfl)
  have D_law_exit:=h37.ok (P:=l.prog) (w:=w) (base:=base) X G (fun F=>qHp F m1 m7 D_law_source) (L3.b3 rfl fun _ _ _ _ _ _ _ _ _=>rfl)
  have D_law_exit_list:=h38.ok (P:=l.prog) (w:=w) (base:=base) X G (fun F=>qD3 F m1 m7 D_law_parts D_law_cell_at D_law_exit) (L3.b4 rfl fun _ _ _ _ _ _ _ _ _ _=>rfl)
  have D_law_last_row:=h39.ok (P:=l.prog) (w:=w) (base:=base) X G (fun F=>qEl F D_law_parts) (L3.b5 rfl fun _ _ _ _ _ _ _ _ _ _ _=>rfl)
  have D_law_host:=h40.ok (P:=l.prog) (w:=w) (base:=base) X G (fun F=>qIA F m1 m3 m4 D_law_parts D_law_cell_at D_law_first_rows D_law_plain_row D_law_item_rows D_law_exit_list D_law_last_row) (L3.b3 rfl fun _ _ _ _ _ _ _ _ _=>rfl)
  exact qRc F9 m1 m3 m7 Drows_to Ddo_host D_law_cell_at D_law_state D_law_given D_law_watched D_law_host
end K86
local macro_rules | `(tactic| k_dat 0 "h")=>`(tactic| (refine' L3.qq.of ?a ?l ?c ?k;(case a=>k_is);(case l=>k_is);(case c=>k_is);(case k=>k_is)))
local macro_rules | `(tactic| k_dat 0 "i")=>`(tactic| (refine' L3.qCX.of ?a ?i ?l ?c ?k;(case a=>k_is);(case i=>k_is);(case l=>k_is);(case c=>k_is);(case k=>k_is)))
def PySem.W.Fast.tw16803899410654706934 : Nat := 0
def PySem.W.Fast.tw6759825827166327595 : Nat := 0
def PySem.W.Fast.tw4989760692130323072 : Nat := 0
def PySem.W.Fast.tw3731483055613349450 : Nat := 0
def PySem.W.Fast.tw17215079428843175220 : Nat := 0
def PySem.W.Fast.tw10260426783185588514 : Nat := 0
def PySem.W.Fast.tw9195043787679507121 : Nat := 0
def PySem.W.Fast.tw15767161043436743448 : Nat := 0
def PySem.W.Fast.tw6053893772088368904 : Nat := 0
def PySem.W.Fast.tw2195007160704199387 : Nat := 0
def PySem.W.Fast.tw2152283550277072091 : Nat := 0
def PySem.W.Fast.tw6025897123695913662 : Nat := 0
def PySem.W.Fast.tw10002912296113831473 : Nat := 0
def PySem.W.Fast.tw3514861074296349016 : Nat := 0
def PySem.W.Fast.tw6676301508472208978 : Nat := 0
def PySem.W.Fast.tw3240380632320026291 : Nat := 0
def PySem.W.Fast.tw7433297447046198551 : Nat := 0
def PySem.W.Fast.tw1552274239836551991 : Nat := 0
def PySem.W.Fast.tw16806918154136598646 : Nat := 0
def PySem.W.Fast.tw9936008557094087040 : Nat := 0
def PySem.W.Fast.tw14603699187025928273 : Nat := 0
def PySem.W.Fast.tw14898995914398180759 : Nat := 0
def PySem.W.Fast.tw13328142743794751707 : Nat := 0
def PySem.W.Fast.tw12091042157074718603 : Nat := 0
def PySem.W.Fast.tw13926431753512903851 : Nat := 0
def PySem.W.Fast.tw17352113459001614967 : Nat := 0
def PySem.W.Fast.tw17505756616112708759 : Nat := 0
def PySem.W.Fast.tw4288254985809353853 : Nat := 0
def PySem.W.Fast.tw12192265241213438935 : Nat := 0
def PySem.W.Fast.tw4113766251789416305 : Nat := 0
def PySem.W.Fast.tw10232862018566368494 : Nat := 0
def PySem.W.Fast.tw13613211913019779897 : Nat := 0
def PySem.W.Fast.tw9025477100769777446 : Nat := 0
def PySem.W.Fast.tw7514848295482707763 : Nat := 0
def PySem.W.Fast.tw1604696057191129334 : Nat := 0
def PySem.W.Fast.tw1544520267619025719 : Nat := 0
open PySem PySem.W PyProof.Rows
set_option maxRecDepth 100000 in
set_option maxHeartbeats 0 in
theorem PySem.Challenge.cw_asitruns_k86_whole_left_where_told_holds : PySem.Challenge.rw_asitruns_k86_whole_left_where_told.Holds := by
  w_on;o_law;k_head;(case hw=>w_witness2)
  k_fill
  refine L3.qLf (l:=PySem.Challenge.rw_asitruns_k86_whole_left_where_told) 12 rfl rfl ⟨rfl,by decide,by decide⟩ (fun w h Y=>W.kIn_of Y) ?F
  case F =>
    intro w mg fa h KX G hmg
    refine' K86.all_mk KX G hmg ?aC ?pg ?hd ?po ?sa ?mk ?kc ?nf0 ?nf1 ?nf2 ?nf3 ?h0 ?h1 ?h2 ?h3 ?h4 ?h5 ?h6 ?h7 ?h8 ?h9 ?h10 ?h11 ?h12 ?h13 ?h14 ?h15 ?h16 ?h17 ?h18 ?h19 ?h20 ?h21 ?h22 ?h23 ?h24 ?h25 ?h26 ?h27 ?h28 ?h29 ?h30 ?h31 ?h32 ?h33 ?h34 ?h35 ?h36 ?h37 ?h38 ?h39 ?h40 ?h41 ?b0 ?e0 ?v0 ?w0 ?b1 ?e1 ?v1 ?w1 ?p0 ?p1 ?p2 ?p3 ?p4 ?p5 ?p6 ?p7 ?bD0 ?eD0 ?yD0 ?uD0 ?bN0 ?eN0 ?yN0 ?uN0 ?z0 ?z1 ?z2 ?z3 ?z4 ?z5 ?z6 ?z7 ?z8 ?z9 ?z10 ?z11 ?z12 ?z13 ?z14
    (case aC=>k_is)
    (case pg=>k_is)
    (case hd=>k_is)
    (case po=>k_is)
    (case sa=>k_is)
    (case mk=>k_is)
    (case kc=>k_is)
    (case nf0=>k_is)
    (case nf1=>k_is)
    (case nf2=>k_is)
    (case nf3=>k_is)
    (case h0=>k_dat 0 "h")
    (case h1=>k_dat 0 "h")
    (case h2=>k_dat 0 "h")
    (case h3=>k_dat 0 "h")
    (case h4=>k_dat 0 "h")
    (case h5=>k_dat 0 "h")
    (case h6=>k_dat 0 "h")
    (case h7=>k_dat 0 "h")
    (case h8=>k_dat 0 "h")
    (case h9=>k_dat 0 "h")
    (case h10=>k_dat 0 "h")
    (case h11=>k_dat 0 "h")
    (case h12=>k_dat 0 "h")
    (case h13=>k_dat 0 "h")
    (case h14=>k_dat 0 "h")
    (case h15=>k_dat 0 "h")
    (case h16=>k_dat 0 "h")
    (case h17=>k_dat 0 "h")
    (case h18=>k_dat 0 "i")
    (case h19=>k_dat 0 "i")
    (case h20=>k_dat 0 "i")
    (case h21=>k_dat 0 "i")
    (case h22=>k_dat 0 "i")
    (case h23=>k_dat 0 "h")
    (case h24=>k_dat 0 "h")
    (case h25=>k_dat 0 "h")
    (case h26=>k_dat 0 "h")
    (case h27=>k_dat 0 "h")
    (case h28=>k_dat 0 "h")
    (case h29=>k_dat 0 "h")
    (case h30=>k_dat 0 "h")
    (case h31=>k_dat 0 "h")
    (case h32=>k_dat 0 "h")
    (case h33=>k_dat 0 "h")
    (case h34=>k_dat 0 "h")
    (case h35=>k_dat 0 "h")
    (case h36=>k_dat 0 "h")
    (case h37=>k_dat 0 "h")
    (case h38=>k_dat 0 "h")
    (case h39=>k_dat 0 "h")
    (case h40=>k_dat 0 "h")
    (case h41=>k_dat 0 "h")
    (case b0=>k_is)
    (case e0=>k_is)
    (case v0=>rfl)
    (case w0=>decide)
    (case b1=>k_is)
    (case e1=>k_is)
    (case v1=>rfl)
    (case w1=>decide)
    (case p0=>k_is)
    (case p1=>k_is)
    (case p2=>k_is)
    (case p3=>k_is)
    (case p4=>k_is)
    (case p5=>k_is)
    (case p6=>k_is)
    (case p7=>k_is)
    (case bD0=>k_is)
    (case eD0=>k_is)
    (case yD0=>decide)
    (case uD0=>exact⟨⟨_,_,rfl,rfl,rfl⟩,⟨_,_,rfl,rfl,rfl⟩,⟨_,_,rfl,rfl,rfl⟩,⟨_,_,rfl,rfl,rfl⟩,⟨_,_,rfl,rfl,rfl⟩,⟨_,_,rfl,rfl,rfl⟩,⟨_,_,rfl,rfl,rfl⟩,⟨_,_,rfl,rfl,rfl⟩,⟨_,_,rfl,rfl,rfl⟩,⟨_,_,rfl,rfl,rfl⟩,⟨_,_,rfl,rfl,rfl⟩,⟨_,_,rfl,rfl,rfl⟩,⟨_,_,rfl,rfl,rfl⟩,⟨_,_,rfl,rfl,rfl⟩,⟨_,_,rfl,rfl,rfl⟩,⟨_,_,rfl,rfl,rfl⟩,⟨_,_,rfl,rfl,rfl⟩,⟨_,_,rfl,rfl,rfl⟩,⟨_,_,rfl,rfl,rfl⟩,⟨_,_,rfl,rfl,rfl⟩,⟨_,_,rfl,rfl,rfl⟩,⟨_,_,rfl,rfl,rfl⟩,⟨_,_,rfl,rfl,rfl⟩,⟨_,_,rfl,rfl,rfl⟩,⟨_,_,rfl,rfl,rfl⟩,trivial⟩)
    (case bN0=>k_is)
    (case eN0=>k_is)
    (case yN0=>decide)
    (case uN0=>exact⟨⟨_,_,rfl,rfl,rfl⟩,⟨_,_,rfl,rfl,rfl⟩,⟨_,_,rfl,rfl,rfl⟩,⟨_,_,rfl,rfl,rfl⟩,⟨_,_,rfl,rfl,rfl⟩,⟨_,_,rfl,rfl,rfl⟩,trivial⟩)
    (case z0=>k_is)
    (case z1=>k_is)
    (case z2=>k_is)
    (case z3=>k_is)
    (case z4=>k_is)
    (case z5=>k_is)
    (case z6=>k_is)
    (case z7=>k_is)
    (case z8=>k_is)
    (case z9=>k_is)
    (case z10=>k_is)
    (case z11=>k_is)
    (case z12=>k_is)
    (case z13=>k_is)
    (case z14=>k_is)

