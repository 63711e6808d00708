import Derived.Test.YtpcmemcanpgadaaGreatDoorFiAG
import Derived.Test.YtpcmemcanpgadaaGreatDoorLaid
import Derived.Test.YtpcmemcanpgadaaGreatDoorTie
import Derived.Test.YtpcmemcanpgadaaGreatDoorCards
import Derived.SevenTiedAt
import Derived.ChangeMaps5
set_option maxHeartbeats 2000000
set_option maxRecDepth 100000
namespace Go.Proofs.YtpcmemcanpgadaaGreatDoor
open PredP (hide Str Rule bs)
section
open Go.RowKit Go.Maps
theorem gFirst_no (w:World) (b eb fb ab:Nat) (f fa:List (Str×Nat)) (l0:List Str) (c d:Words) (G:List Rule) (p2:w.cell? ⟨b,2,none⟩=some (.map (some fb))) (hK:Known G eb fb ab f fa l0 c d w) (a:ByteArray) (ha:a.size≤maxLen) (hn:bs a∉PredP.names G) (br:Addr) (gr:w.cell? ⟨0,0,none⟩=some (.iface 290 (.pointer (some br)))) :
  Calls Tryz.prog 25 #[.pointer (some ⟨b,0,none⟩),.string a] w (NoRule w br):=by
 have h1:=hasRule_x w b fb f p2 hK.fmap a ha
 rw[hK.no hn]at h1
 have H1:=hide h1
 clear h1 hK hn p2
 go_enter Tryz.func25,Tryz.ntmps25
 go_upto_region 2 with (go_at_call 38;refine H1.out.mono ?_;rintro e w1 ⟨rfl,rfl⟩)
 go_quiet (fail)
 go_wp2_with fail
 go_ret2
 exact⟨rfl,⟨rfl,rfl,rfl,Nat.le_refl _,fun _ _=>rfl⟩⟩
theorem gFirst_yes (w:World) (b eb fb ab:Nat) (f fa:List (Str×Nat)) (l0:List Str) (c d:Words) (G:List Rule) (p1:w.cell? ⟨b,1,none⟩=some (.map (some eb))) (p2:w.cell? ⟨b,2,none⟩=some (.map (some fb))) (hK:Known G eb fb ab f fa l0 c d w) (hU:(allWords G).length≤500) (a:ByteArray) (ha:a.size≤maxLen) (hn:bs a∈PredP.names G) :
  Calls Tryz.prog 25 #[.pointer (some ⟨b,0,none⟩),.string a] w (MapPost w (fun x=>FB G x (bs a)||((PredP.nul G).contains (bs a)&&([]==x)))):=by
 have h1:=hasRule_x w b fb f p2 hK.fmap a ha
 rw[hK.yes hn]at h1
 have H1:=hide h1
 obtain⟨tb,ht,hs⟩:=hK.first hn
 have hr:=hK.fmap.read a ha
 rw[ht]at hr
 have HC:=hide (clone_x w tb _ hs)
 have hl:(c (bs a)).length≤500:=Nat.le_trans (hs.len_le (hK.fU _)) hU
 have HA:Hid (∀x,hasS (c (bs a)) x=FB G x (bs a)):=hide fun x=>hK.fst x _
 have HE:=hide hK.empty
 have hnul:hasS l0 (bs a)=(PredP.nul G).contains (bs a):=hK.nul _
 cases hb:hasS l0 (bs a) with
 | false =>
  have HN:Hid ((PredP.nul G).contains (bs a)=false):=hide (hnul.symm.trans hb)
  clear h1 hK hn ht hs hnul
  have hW:=fun w1 (h:Below w.heap.size w w1)=>(h.cell (p:=⟨b,1,none⟩) (bltc p1)).trans p1
  have HW:=hide hW
  have HH:Hid (∀w1,Below w.heap.size w w1→Calls Tryz.prog 40 #[.map (some eb),.string a] w1 fun e w'=>e=.returned (.bool false)∧Below w1.heap.size w1 w'):=hide fun w1 h=>by
   have:=has_any w1 eb l0 a ha (HE.out.below h)
   rw[hb]at this
   exact this
  clear hb hW p1
  go_enter Tryz.func25,Tryz.ntmps25
  go_wp2_with (first
   | (go_at_call 38;refine H1.out.mono ?_;rintro e w1 ⟨rfl,rfl⟩)
   | (go_at_call 39;refine HC.out.mono ?_;rintro e w2 ⟨rfl,hs2,hb2⟩;have q1:=HW.out _ hb2;have HS2:=hide hs2;clear hs2)
   | (go_at_call 40;refine(HH.out _ hb2).mono ?_;rintro e w3 ⟨rfl,hb3⟩))
  go_ret2
  exact⟨_,_,rfl,Nat.le_refl _,HS2.out.below hb3,fun x=>by rw[HA.out,HN.out];simp,by omega,Below.all hb2 hb3⟩
 | true =>
  have HN:Hid ((PredP.nul G).contains (bs a)=true):=hide (hnul.symm.trans hb)
  clear h1 hK hn ht hs hnul
  have hW:=fun w1 (h:Below w.heap.size w w1)=>(h.cell (p:=⟨b,1,none⟩) (bltc p1)).trans p1
  have HW:=hide hW
  have HH:Hid (∀w1,Below w.heap.size w w1→Calls Tryz.prog 40 #[.map (some eb),.string a] w1 fun e w'=>e=.returned (.bool true)∧Below w1.heap.size w1 w'):=hide fun w1 h=>by
   have:=has_any w1 eb l0 a ha (HE.out.below h)
   rw[hb]at this
   exact this
  clear hb hW p1
  go_enter Tryz.func25,Tryz.ntmps25
  go_wp2_with (first
   | (go_at_call 38;refine H1.out.mono ?_;rintro e w1 ⟨rfl,rfl⟩)
   | (go_at_call 39;refine HC.out.mono ?_;rintro e w2 ⟨rfl,hs2,hb2⟩;have q1:=HW.out _ hb2;have HS2:=hide hs2;clear hs2)
   | (go_at_call 40;refine(HH.out _ hb2).mono ?_;rintro e w3 ⟨rfl,hb3⟩;have hs3:=HS2.out.below hb3)
   | (go_at_call 41;refine(add_any _ _ _ ⟨#[]⟩ (by unfold maxLen;decide) (by unfold maxLen;omega) hs3).mono ?_;rintro e w4 ⟨rfl,hg4,hs4⟩))
  go_ret2
  have hb23:=Below.all hb2 hb3
  refine⟨_,_,rfl,Nat.le_refl _,hs4,fun x=>?_,?_,hb23.grown hg4 hb23.size (fun k e=>by cases e;exact Nat.le_refl _)⟩
  ·have h5:=ins_contains (bs ⟨#[]⟩) x (c (bs a))
   have h6:=HA.out x
   unfold hasS at h6 ⊢
   show _=(FB G x (bs a)||((PredP.nul G).contains (bs a)&&([]==x)))
   rw[h5,h6,HN.out,Bool.true_and]
   have:bs ⟨#[]⟩=([]:Str):=rfl
   rw[this]
   congr 1
   rw[Bool.eq_iff_iff,beq_iff_eq,beq_iff_eq,eq_comm]
  ·unfold ins
   split
   ·omega
   ·rw[List.length_cons];omega
theorem pFirst_no (w:World) (hg:w.cell? ⟨6,0,none⟩=some (.iface 189 (.agg #[.pointer (some ⟨10,67,none⟩)]))) (bl be bm br:Addr) (hS:Sent w bl be bm) (hR:ErrR w bl be bm br) (b0 b:Nat) (a:ByteArray) (hb0:w.cell? ⟨b0,0,none⟩=some (.pointer (some ⟨b,0,none⟩)))
  (hC:∀W,Below w.heap.size w W→Calls Tryz.prog 25 #[.pointer (some ⟨b,0,none⟩),.string a] W (NoRule W br)) :
  Calls Tryz.prog 13 #[.pointer (some ⟨b0,0,none⟩),.string a] w (AskNone w):=by
 have HC:=hide hC
 have h0:=FB4.made w
 have q0:=(h0.low.cell (p:=⟨b0,0,none⟩) (bltc hb0)).trans hb0
 have HF:Hid (∀W,Below w.heap.size w W→Calls Tryz.prog 27 #[.iface 290 (.pointer (some br))] W (FltPost W 10 0 [])):=hide fun W hW=>fault_r W ((hW.cell (bltc hg)).trans hg) bl be bm (hS.below hW) br (hR.below hW)
 have HE:=hide eql_mapM
 clear hC hg hb0 hS hR
 go_enter Tryz.func13,Tryz.ntmps13
 go_upto_region 1 with fail
 generalize w.alloc (.cells #[.int .i64 0,.int .i64 0,.string ⟨#[]⟩,.slice none 0 0] 41)=W1 at h0 q0 ⊢
 go_upto_region 2 with (go_at_call 25;refine(HC.out _ h0.low).mono ?_;rintro e W2 ⟨rfl,hb2⟩;have h2:=h0.below hb2)
 clear q0
 go_wp2_with (first
  | (go_at_call 26;refine(words_nil _).mono ?_;rintro e W3 ⟨rfl,hb3⟩;have h3:=h2.below hb3;have hq:=HE.out W3 none)
  | (go_at_call 27;refine(HF.out _ h3.low).mono ?_;rintro e W4 ⟨s,rfl,_,hb4⟩;have h4:=h3.below hb4;obtain⟨u0,k0⟩:=h4.c 0 (by omega);obtain⟨u1,k1⟩:=h4.c 1 (by omega);obtain⟨u2,k2⟩:=h4.c 2 (by omega);obtain⟨u3,k3⟩:=h4.c 3 (by omega);have z:=h4.z))
 obtain⟨y0,y1,y2,y3⟩:=h4.load (.int .i64 10) (.int .i64 0) (.string s) (.slice none 0 0)
 have hst:=h4.stored (.int .i64 10) (.int .i64 0) (.string s) (.slice none 0 0)
 generalize (((W4.setCell ⟨w.heap.size,0,none⟩ (.int .i64 10)).setCell ⟨w.heap.size,1,none⟩ (.int .i64 0)).setCell ⟨w.heap.size,2,none⟩ (.string s)).setCell ⟨w.heap.size,3,none⟩ (.slice none 0 0)=X at y0 y1 y2 y3 hst ⊢
 exact bodyPost_ret (v:=.tuple #[.slice none 0 0,.bool true,.agg #[.int .i64 10,.int .i64 0,.string s,.slice none 0 0]]) (by simp[results,Tryz.results13,go_sem,y0,y1,y2,y3]) rfl ⟨s,rfl,hst⟩
theorem pFirst_yes (w:World) (b0 b:Nat) (a:ByteArray) (P:Str→Bool) (hb0:w.cell? ⟨b0,0,none⟩=some (.pointer (some ⟨b,0,none⟩)))
  (hC:∀W,Below w.heap.size w W→Calls Tryz.prog 25 #[.pointer (some ⟨b,0,none⟩),.string a] W (MapPost W P)) :
  Calls Tryz.prog 13 #[.pointer (some ⟨b0,0,none⟩),.string a] w (AskPost w P):=by
 have HC:=hide hC
 have h0:=FB4.made w
 have ht0:∃cs f,(w.alloc (.cells #[.int .i64 0,.int .i64 0,.string ⟨#[]⟩,.slice none 0 0] 41)).heap[w.heap.size]?=some (.cells cs 41 f):=⟨_,_,heap_alloc_new w _⟩
 have HT0:=hide ht0
 have q0:=(h0.low.cell (p:=⟨b0,0,none⟩) (bltc hb0)).trans hb0
 have HE:=hide eql_mapM
 have HF:=hide fault_nil
 clear hC hb0 ht0
 go_enter Tryz.func13,Tryz.ntmps13
 go_upto_region 1 with fail
 generalize w.alloc (.cells #[.int .i64 0,.int .i64 0,.string ⟨#[]⟩,.slice none 0 0] 41)=W1 at h0 q0 HT0 ⊢
 have hbig:=h0.big
 go_upto_region 2 with (go_at_call 25;refine(HC.out _ h0.low).mono ?_;rintro e W2 ⟨mb,lc,rfl,hmb,hset,hP,hlc,hb2⟩;have h2:=h0.below hb2)
 have HW:=hide (words_any W2 mb lc hset (by omega))
 have hmw:w.heap.size<mb:=by omega
 clear q0 hset
 go_wp2_with (first
  | (go_at_call 26;refine HW.out.mono ?_;rintro e W3 ⟨v,L,rfl,hst,hT,hbut⟩;obtain⟨va,vl,vc,rfl,_⟩:=hst.gen;have h3:=h2.but hbut hmw;have hq:=HE.out W3 (some mb);have HST:=hide hst;have HT:=hide hT;clear hst hT)
  | (go_at_call 27;refine(HF.out _).mono ?_;rintro e W4 ⟨s,rfl,_,hb4⟩;have h4:=h3.below hb4;obtain⟨u0,k0⟩:=h4.c 0 (by omega);obtain⟨u1,k1⟩:=h4.c 1 (by omega);obtain⟨u2,k2⟩:=h4.c 2 (by omega);obtain⟨u3,k3⟩:=h4.c 3 (by omega);have z:=h4.z))
 obtain⟨y0,y1,y2,y3⟩:=h4.load (.int .i64 0) (.int .i64 0) (.string s) (.slice none 0 0)
 have ht4:∃cs f,W4.heap[w.heap.size]?=some (.cells cs 41 f):=by
  obtain⟨cs,f,h⟩:=HT0.out
  exact⟨cs,f,(hb4.block _ h3.big).trans ((hbut.block _ h2.big (by omega)).trans ((hb2.block _ h0.big).trans h))⟩
 have hst:=h4.stored (.int .i64 0) (.int .i64 0) (.string s) (.slice none 0 0)
 have hss:=FB4.strs ht4 (HST.out.below hb4) (.int .i64 0) (.int .i64 0) (.string s) (.slice none 0 0)
 generalize (((W4.setCell ⟨w.heap.size,0,none⟩ (.int .i64 0)).setCell ⟨w.heap.size,1,none⟩ (.int .i64 0)).setCell ⟨w.heap.size,2,none⟩ (.string s)).setCell ⟨w.heap.size,3,none⟩ (.slice none 0 0)=X at y0 y1 y2 y3 hst hss ⊢
 exact bodyPost_ret (v:=.tuple #[.slice va vl vc,.bool false,.agg #[.int .i64 0,.int .i64 0,.string s,.slice none 0 0]]) (by simp[results,Tryz.results13,go_sem,y0,y1,y2,y3]) rfl ⟨_,L,s,rfl,hss,HT.out.ext hP,hst⟩
theorem bools.one {w:World} {v:Value} {bl:List Bool} (h:bools w v bl) {j:Nat} {q:Bool} (hj:bl[j]?=some q):∃g cap,v=.slice (some ⟨g,0,none⟩) bl.length cap∧bl.length≤cap∧bl.length≤maxLen∧g<w.heap.size∧w.cell? ⟨g,j,none⟩=some (.bool q):=by
 have hl:(boolC bl).length=bl.length:=by simp[boolC]
 have hlt:=get_lt hj
 obtain⟨g,cap,rfl,e1,e2,e3,hc⟩:=slAt_some h (by omega)
 rw[hl]at *
 exact⟨g,cap,rfl,e1,e2,e3,hc j _ (by simp[boolC,hj])⟩
theorem firstOf_x (N0 gb:Nat) (U ns:List Str) (bl:List Bool) (fl:List (List Str)) (w:World) (h:FE N0 gb U ns bl fl w) (j:Nat) (n:Str) (hj:ns[j]?=some n) (hf:n∉ns.take j) :
  Calls Tryz.prog 12 #[.pointer (some ⟨gb,0,none⟩),.int .i64 (j:Int)] w (StrsPost w fun x=>hasOf ns fl x n||(kOf ns bl n&&([]==x))):=by
 obtain⟨vF,c4,hF⟩:=h.fs
 obtain⟨vK,c3,hK⟩:=h.em
 have hlj:j<fl.length:=by rw[←h.lf];exact get_lt hj
 have hlk:j<bl.length:=by rw[←h.lb];exact get_lt hj
 obtain⟨g,cap,ua,un,uc,rfl,e1,e2,k0,hs⟩:=hF.one (fOf_get ns fl j hj hf h.lf)
 obtain⟨gK,capK,rfl,e3,e4,hgK,kk⟩:=hK.one (kOf_get ns bl j hj hf h.lb)
 have HS:=hide hs
 have HT:=hide (h.ups.tells (ns:=ns) n)
 have hL:(fOf ns fl n).length≤1000:=Nat.le_trans ((h.ups.tells (ns:=ns) n).length (m:=U) (fun x hx=>h.ups.in' hx)) h.small
 have hgb:=h.gm.lt
 clear hF hK hs h hj hf
 generalize fl.length=m at *
 generalize bl.length=m2 at *
 unfold maxLen at e2 e4
 have HW:Hid (Calls Tryz.prog 24 #[.slice none 0 0,.slice ua un uc] w fun e w'=>∃v,e=.returned v∧strs w' v (PredP.withS [] (fOf ns fl n))∧Below w.heap.size w w'):=hide (xwith_any w _ _ [] _ (.inl ⟨rfl,rfl⟩) HS.out (by simp;omega))
 have HT1:=hide (PredP.Tells.nil.with HT.out)
 have hl1:(PredP.withS [] (fOf ns fl n)).length≤1000:=Nat.le_trans (PredP.withS_length _ _) (by simp;omega)
 have HD:Hid (∀w1,Below w.heap.size w w1→w1.cell? ⟨gb,3,none⟩=some (.slice (some ⟨gK,0,none⟩) m2 capK)∧w1.cell? ⟨gK,j,none⟩=some (.bool (kOf ns bl n))):=hide fun w1 h1=>⟨(h1.cell (p:=⟨gb,3,none⟩) hgb).trans c3,(h1.cell (p:=⟨gK,j,none⟩) hgK).trans kk⟩
 clear HS HT c3 kk
 generalize PredP.withS [] (fOf ns fl n)=L1 at HW HT1 hl1
 cases hq:kOf ns bl n with
 | false =>
  rw[hq]at HD
  go_enter Tryz.func12,Tryz.ntmps12
  go_wp2_with (go_at_call 24;refine HW.out.mono ?_;rintro e w1 ⟨v1,rfl,hs1,hb1⟩;obtain⟨va,vn,vc,rfl,_⟩:=hs1.gen;obtain⟨d3,dk⟩:=HD.out _ hb1;have HS1:=hide hs1;clear hs1)
  go_ret
  exact⟨_,_,rfl,HS1.out,HT1.out.ext fun x=>by simp,hb1⟩
 | true =>
  rw[hq]at HD
  go_enter Tryz.func12,Tryz.ntmps12
  go_upto_region 3 with (go_at_call 24;refine HW.out.mono ?_;rintro e w1 ⟨v1,rfl,hs1,hb1⟩;obtain⟨va,vn,vc,rfl,_⟩:=hs1.gen;obtain⟨d3,dk⟩:=HD.out _ hb1;have HS1:=hide hs1;clear hs1)
  have hA:Below w1.heap.size w1 (w1.alloc (.cells #[.string ⟨#[]⟩] 9)):=(Below.refl _ _).alloc (Nat.le_refl _) _
  have HX:=hide (xwith_any (w1.alloc (.cells #[.string ⟨#[]⟩] 9)) _ _ L1 [bs ⟨#[]⟩] (HS1.out.below hA) one_strs (by simp;omega))
  go_wp2_with (go_at_call 24;refine HX.out.mono ?_;rintro e w2 ⟨v2,rfl,hs2,hb2⟩)
  go_ret
  refine⟨_,_,rfl,hs2,(HT1.out.with (PredP.Tells.one (bs ⟨#[]⟩))).ext fun x=>?_,Below.all hb1 (Below.all hA hb2)⟩
  have:bs ⟨#[]⟩=([]:Str):=rfl
  rw[this]
  simp
end
section
open Go.RowKit
theorem firsts_any (s:ByteArray) (hs:s.size≤maxLen) (a:ByteArray) (ha:a.size≤maxLen) (w:World) (hg:w.cell? ⟨6,0,none⟩=some (.iface 189 (.agg #[.pointer (some ⟨10,67,none⟩)]))) (bl be bm br:Addr) (hS:Sent w bl be bm) (hER:ErrR w bl be bm br) :
  Calls Tryz.prog 5 #[.string s,.string a] w fun e w'=>e=.returned (.bool true)∧Below w.heap.size w w':=by
 have HP:=hide (both_x s hs w hg bl be bm hS)
 have HK:=hide (fun G=>comp_words (l:=bs s) (G:=G))
 generalize PredP.compile (bs s)=r at HP HK
 have HG:=hide hg
 have HSS:=hide hS
 have HER:=hide hER
 clear hg hS hER hs
 go_enter Tryz.func5,Tryz.ntmps5
 go_upto_region 2 with (go_at_call 8;refine HP.out.mono ?_;rintro e w1 ⟨v,vg,rfl,hb1,ht⟩)
 clear HP
 have hv:(v=.pointer none)∨∃G,r=.ok G:=by
  cases r with
  | ok G=>exact .inr ⟨G,rfl⟩
  | _=>exact .inl ht.1
 rcases hv with rfl | ⟨G,rfl⟩
 ·clear ht HK
  go_wp2_with fail
  go_ret
  exact⟨rfl,hb1⟩
 obtain⟨b0,b,lo,N0,gb,l,rfl,rfl,hc0,⟨hlo',v',cs,eb,fb,ab,f,fa,l0,cc,dd,p0,p1,p2,p3,hsl,hr,hkn⟩,hgt,hst⟩:=ht
 have hU:=HK.out G rfl
 have hru:=rule_x N0 gb (PredP.names G) w1 hgt.gm a
 have HC0:=hide hc0
 have HKn:=hide hkn
 have HP1:=hide p1
 have HP2:=hide p2
 have HP3:=hide p3
 by_cases hn:bs a∈PredP.names G
 ·obtain⟨j,hj,hget,hfr⟩:=ruleIx_some hn
  rw[hj]at hru
  have HRU:=hide hru
  obtain⟨U,bl',fl,al,hAE,hk,hf,hal⟩:=hst.ae hgt
  have HF:=hide (firstOf_x N0 gb U (PredP.names G) bl' fl w1 hAE.fe j _ hget hfr)
  have HQ:Hid (∀x,(hasOf (PredP.names G) fl x (bs a)||(kOf (PredP.names G) bl' (bs a)&&([]==x)))=(FB G x (bs a)||((PredP.nul G).contains (bs a)&&([]==x)))):=hide fun x=>by rw[hf,hk];rfl
  have hpos:¬((j:Int)<0):=by omega
  have HPF:Hid (∀w2,Below w1.heap.size w1 w2→Calls Tryz.prog 13 #[.pointer (some ⟨b0,0,none⟩),.string a] w2 (AskPost w2 fun x=>FB G x (bs a)||((PredP.nul G).contains (bs a)&&([]==x)))):=hide fun w2 h2=>pFirst_yes w2 b0 b a _ ((h2.cell (p:=⟨b0,0,none⟩) (bltc hc0)).trans hc0) fun W hW=>by
   have h3:=Below.all h2 hW
   have q:=fun(k:Nat) (u:Value) (hu:w1.cell? ⟨b,k,none⟩=some u)=>(h3.cell (p:=⟨b,k,none⟩) (bltc hu)).trans hu
   exact gFirst_yes W b eb fb ab f fa l0 cc dd G (q 1 _ p1) (q 2 _ p2) (hkn.below h3) hU a ha hn
  clear hru hlo' hsl hr hkn hgt hst hc0 p0 p1 p2 p3 HK hAE hk hf hal hget hfr hj hn
  go_upto_region 8 with (first
   | (go_at_call 11;refine HRU.out.mono ?_;rintro e w1' ⟨rfl,hw1⟩;subst hw1)
   | (go_at_call 12;refine HF.out.mono ?_;rintro e w2 ⟨vw,L,rfl,hsw,hTw,hb2⟩))
  go_upto_region 9 with (go_at_call 13;refine(HPF.out _ hb2).mono ?_;rintro e w3 ⟨v3,L3,s3,rfl,hs3,hT3,hb3⟩)
  have hLL:L3=L:=PredP.Tells.one' hT3 hTw fun x=>(HQ.out x).symm
  subst hLL
  have hbX:Below w3.heap.size w3 (w3.alloc (.cells #[.int .i64 0,.int .i64 0,.string s3,.slice none 0 0] 41)):=(Below.refl _ w3).alloc (Nat.le_refl _) _
  have HSE:=hide (set_yes (w3.alloc (.cells #[.int .i64 0,.int .i64 0,.string s3,.slice none 0 0] 41)) v3 vw L3 s3 j (hs3.below hbX) ((hsw.below hb3).below hbX))
  clear hs3 hsw hT3 hTw
  go_wp2_with (go_at_call 14;refine HSE.out.mono ?_;rintro e w5 ⟨rfl,hb5⟩)
  go_ret
  exact⟨rfl,Below.all (Below.all (Below.all (Below.all hb1 hb2) hb3) hbX) hb5⟩
 ·rw[ruleIx_none hn]at hru
  have HRU:=hide hru
  have HPF:Hid (Calls Tryz.prog 13 #[.pointer (some ⟨b0,0,none⟩),.string a] w1 (AskNone w1)):=hide (pFirst_no w1 ((hb1.cell (bltc HG.out)).trans HG.out) bl be bm br (HSS.out.below hb1) (HER.out.below hb1) b0 b a hc0 fun W hW=>by
   have h3:=hW
   have q:=fun(k:Nat) (u:Value) (hu:w1.cell? ⟨b,k,none⟩=some u)=>(h3.cell (p:=⟨b,k,none⟩) (bltc hu)).trans hu
   exact gFirst_no W b eb fb ab f fa l0 cc dd G (q 2 _ p2) (hkn.below h3) a ha hn br ((HER.out.below hb1).below h3).g)
  clear hru hlo' hsl hr hkn hgt hst hc0 p0 p1 p2 p3 HK hn
  go_upto_region 8 with (go_at_call 11;refine HRU.out.mono ?_;rintro e w1' ⟨rfl,hw1⟩;subst hw1)
  go_upto_region 9 with (go_at_call 13;refine HPF.out.mono ?_;rintro e w3 ⟨s3,rfl,hb3⟩)
  have hbX:Below w3.heap.size w3 (w3.alloc (.cells #[.int .i64 10,.int .i64 0,.string s3,.slice none 0 0] 41)):=(Below.refl _ w3).alloc (Nat.le_refl _) _
  have HSE:=hide (set_no (w3.alloc (.cells #[.int .i64 10,.int .i64 0,.string s3,.slice none 0 0] 41)) (.slice none 0 0) (.slice none 0 0) s3)
  go_wp2_with (go_at_call 14;refine HSE.out.mono ?_;rintro e w5 ⟨rfl,hb5⟩)
  go_ret
  exact⟨rfl,Below.all (Below.all (Below.all hb1 hb3) hbX) hb5⟩
end
section
open Go.ChangeShapes Go.WideShapes Go.ChangeAt Go.WideMaps Go.WideElems Go.RowKit
theorem firsts_lifted (os:Os) (started:os.Started) (H:Type) (enc:TypeId×Value→H) :
  ReturnsInHanded {} Tryz.checked os 5 .any (fun w args=>(Rows.firstsSpec.pre enc Tryz.prog Tryz.f5 [] false w args∧laidMetH Tryz.prog laid9 w)∧sizedMet enc Tryz.prog Tryz.f5 (OpenSpec.ofChange Rows.firstsSpec) false w args)
   (Rows.firstsSpec.post enc Tryz.prog Tryz.f5 false true false false):=by
 refine returnsInHanded_of_change_and (C:=Tryz.checked) (X:=fun w _=>laidMetH Tryz.prog laid9 w) (fun _ _ _ hh h=>h.of_heap hh) own started (by kernel_rfl) Tryz.func5
  (ChangeSpec.witness_shaped (enc:=enc) (C:=Tryz.checked) (os:=os) (X:=fun w _=>laidMetH Tryz.prog laid9 w) false (laidWorld os) #[.string ⟨#[]⟩,.string ⟨#[]⟩] 8 (laidWorld_os os) (World.shaped_of_ZipB (by kernel_rfl) (by kernel_rfl)) (by kernel_rfl) (by kernel_rfl) (by kernel_rfl) (laidWorld_met os _)) ?_
 intro W base args ds gs before hval0 hW _ _ hL _
 have hval:∀(j:Nat) t v,Tryz.f5.params[j]?=some t→args[j]?=some v→Value.okWide Tryz.prog W .any base t v:=hval0
 have hW':=hW
 obtain⟨p,q,hA0,hV,rfl,_,_⟩:=hW
 have hA:DataW.TrodAll enc Tryz.prog W 0 (fun _=>true) true Tryz.f5.params.toList args.toList ds p:=hA0
 rw[Tryz.params5]at hA hval
 obtain⟨v0,v1,d0,d1,p0,p1,rfl,rfl,rfl,h0,h1⟩:=trodAll_two hA
 obtain⟨rfl,rfl⟩:=trodVars_none hV
 obtain⟨s,rfl,rfl,rfl,hs⟩:=Go.ChangeMaps.open_string Tryz.underlying9 (hval 0 9 v0 rfl rfl) h0
 obtain⟨x,rfl,rfl,rfl,hx⟩:=Go.ChangeMaps.open_string Tryz.underlying9 (hval 1 9 v1 rfl rfl) h1
 simp only[List.append_nil]at hW'
 obtain⟨bl,be,bm,br,hS,hc,n1,n2,n3,hg⟩:=sents_of_laid hL
 refine(firsts_any s hs x hx W (handle_of_laid hL) bl be bm br hS ⟨hc,n1,n2,n3,hg⟩).mono fun e W' ⟨he,hb⟩=>?_
 subst he
 exact⟨_,rfl,_,_,_,[],[],[],hW',trodAll_mk1 (shut_bool Tryz.underlying4 _),trodAll_mk2 (Go.ChangeMaps.shut_string Tryz.underlying9 hs) (Go.ChangeMaps.shut_string Tryz.underlying9 hx),rfl,hb.frame _,fun h=>by cases h⟩
theorem firsts_row_holds:Rows.FirstsSaid :=
 OpenClaim.holds_of_wide 5 Tryz.f5 rfl rfl rfl rfl rfl rfl rfl ⟨rfl,rfl,rfl,rfl,rfl⟩ rfl rfl rfl rfl rfl (by kernel_rfl) Tryz.func5 (by kernel_rfl)
  (of_decide_eq_true (by kernel_rfl)) (by unfold Func.isWrapper;first | (rw[if_pos (by decide +kernel)];kernel_rfl) | (rw[if_neg (by decide +kernel)];exact⟨rfl,rfl⟩))
  (fun os started H enc _=>firsts_lifted os started H enc)
theorem firsts_holds:Rows.FirstsCardSaid :=
 Claim7.holds_tied_plain_at .later [] [.data,.handle,.sentinel,.sentinel,.sentinel,.sentinel,.sentinel,.sentinel,.pinned] true (true, "f34de1325f36615dca4301730de8ae8e4d0ca36c22fa5609e2aba9e5d6acc22c") true
  firsts_row_holds (fun _ h=>by cases h) (by kernel_rfl) (fun _ h=>by cases h) firsts_row_tie rfl ⟨rfl,rfl⟩ (by kernel_rfl) rfl
  (fun f fn hf hfn=>by
   obtain rfl:f=5:=Option.some.inj ((show Tryz.prog.funcNamed "predict/predictlaw.Firsts" = some 5 by kernel_rfl).symm.trans hf) |>.symm
   obtain rfl:fn=Tryz.f5:=(Option.some.inj (Tryz.func5.symm.trans hfn)).symm
   exact⟨by kernel_rfl,fun j t ht=>by
    rw[Tryz.params5]at ht
    have h3:t=9:=by
     rcases j with _ | _ | j
     ·simpa using ht.symm
     ·simpa using ht.symm
     ·simp at ht
    subst h3
    exact(show Tryz.prog.wantsStandIn 9=false by kernel_rfl)⟩)
  (by kernel_rfl)
#print axioms firsts_holds
end
end Go.Proofs.YtpcmemcanpgadaaGreatDoor
