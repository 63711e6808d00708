import Derived.Test.YtpcmemcanpgadaaGreatDoorFiAG
import Derived.Test.YtpcmemcanpgadaaGreatDoorLaid
import Derived.Test.YtpcmemcanpgadaaGreatDoorTie
import Derived.Test.YtpcmemcanpgadaaGreatDoorCards
import Derived.SevenTiedAt
import Derived.ChangeMaps5
set_option maxHeartbeats 2000000
set_option maxRecDepth 100000
namespace Go.Proofs.YtpcmemcanpgadaaGreatDoor
open PredP (hide Str Rule bs)
section
open Go.RowKit Go.Maps
theorem gFollow_no (w:World) (b eb fb ab:Nat) (f fa:List (Str×Nat)) (l0:List Str) (c d:Words) (G:List Rule) (p2:w.cell? ⟨b,2,none⟩=some (.map (some fb))) (hK:Known G eb fb ab f fa l0 c d w) (a:ByteArray) (ha:a.size≤maxLen) (hn:bs a∉PredP.names G) (br:Addr) (gr:w.cell? ⟨0,0,none⟩=some (.iface 290 (.pointer (some br)))) :
  Calls Tryz.prog 28 #[.pointer (some ⟨b,0,none⟩),.string a] w (NoRule w br):=by
 have h1:=hasRule_x w b fb f p2 hK.fmap a ha
 rw[hK.no hn]at h1
 have H1:=hide h1
 clear h1 hK hn p2
 go_enter Tryz.func28,Tryz.ntmps28
 go_upto_region 2 with (go_at_call 38;refine H1.out.mono ?_;rintro e w1 ⟨rfl,rfl⟩)
 go_quiet (fail)
 go_wp2_with fail
 go_ret2
 exact⟨rfl,⟨rfl,rfl,rfl,Nat.le_refl _,fun _ _=>rfl⟩⟩
theorem gFollow_yes (w:World) (b eb fb ab:Nat) (f fa:List (Str×Nat)) (l0:List Str) (c d:Words) (G:List Rule) (p2:w.cell? ⟨b,2,none⟩=some (.map (some fb))) (p3:w.cell? ⟨b,3,none⟩=some (.map (some ab))) (hK:Known G eb fb ab f fa l0 c d w) (hU:(allWords G).length≤500) (a:ByteArray) (ha:a.size≤maxLen) (hn:bs a∈PredP.names G) :
  Calls Tryz.prog 28 #[.pointer (some ⟨b,0,none⟩),.string a] w (MapPost w (fun x=>AB G x (bs a))):=by
 have h1:=hasRule_x w b fb f p2 hK.fmap a ha
 rw[hK.yes hn]at h1
 have H1:=hide h1
 obtain⟨tb,ht,hs⟩:=hK.after hn
 have hr:=hK.amap.read a ha
 rw[ht]at hr
 have HC:=hide (clone_x w tb _ hs)
 have HL:Hid ((d (bs a)).length≤1000):=hide (Nat.le_trans (hs.len_le (hK.aU _)) (by omega))
 have HA:Hid (∀x,hasS (d (bs a)) x=AB G x (bs a)):=hide fun x=>hK.aft x _
 clear h1 hK hn p2 ht hs
 go_enter Tryz.func28,Tryz.ntmps28
 go_wp2_with (first
  | (go_at_call 38;refine H1.out.mono ?_;rintro e w1 ⟨rfl,rfl⟩)
  | (go_at_call 39;refine HC.out.mono ?_;rintro e w2 ⟨rfl,hs2,hb2⟩))
 go_ret2
 exact⟨_,_,rfl,Nat.le_refl _,hs2,HA.out,HL.out,hb2⟩
theorem pFollow_no (w:World) (hg:w.cell? ⟨6,0,none⟩=some (.iface 189 (.agg #[.pointer (some ⟨10,67,none⟩)]))) (bl be bm br:Addr) (hS:Sent w bl be bm) (hR:ErrR w bl be bm br) (b0 b:Nat) (a:ByteArray) (hb0:w.cell? ⟨b0,0,none⟩=some (.pointer (some ⟨b,0,none⟩)))
  (hC:∀W,Below w.heap.size w W→Calls Tryz.prog 28 #[.pointer (some ⟨b,0,none⟩),.string a] W (NoRule W br)) :
  Calls Tryz.prog 16 #[.pointer (some ⟨b0,0,none⟩),.string a] w (AskNone w):=by
 have HC:=hide hC
 have h0:=FB4.made w
 have q0:=(h0.low.cell (p:=⟨b0,0,none⟩) (bltc hb0)).trans hb0
 have HF:Hid (∀W,Below w.heap.size w W→Calls Tryz.prog 27 #[.iface 290 (.pointer (some br))] W (FltPost W 10 0 [])):=hide fun W hW=>fault_r W ((hW.cell (bltc hg)).trans hg) bl be bm (hS.below hW) br (hR.below hW)
 have HE:=hide eql_mapM
 clear hC hg hb0 hS hR
 go_enter Tryz.func16,Tryz.ntmps16
 go_upto_region 1 with fail
 generalize w.alloc (.cells #[.int .i64 0,.int .i64 0,.string ⟨#[]⟩,.slice none 0 0] 41)=W1 at h0 q0 ⊢
 go_upto_region 2 with (go_at_call 28;refine(HC.out _ h0.low).mono ?_;rintro e W2 ⟨rfl,hb2⟩;have h2:=h0.below hb2)
 clear q0
 go_wp2_with (first
  | (go_at_call 26;refine(words_nil _).mono ?_;rintro e W3 ⟨rfl,hb3⟩;have h3:=h2.below hb3;have hq:=HE.out W3 none)
  | (go_at_call 27;refine(HF.out _ h3.low).mono ?_;rintro e W4 ⟨s,rfl,_,hb4⟩;have h4:=h3.below hb4;obtain⟨u0,k0⟩:=h4.c 0 (by omega);obtain⟨u1,k1⟩:=h4.c 1 (by omega);obtain⟨u2,k2⟩:=h4.c 2 (by omega);obtain⟨u3,k3⟩:=h4.c 3 (by omega);have z:=h4.z))
 obtain⟨y0,y1,y2,y3⟩:=h4.load (.int .i64 10) (.int .i64 0) (.string s) (.slice none 0 0)
 have hst:=h4.stored (.int .i64 10) (.int .i64 0) (.string s) (.slice none 0 0)
 generalize (((W4.setCell ⟨w.heap.size,0,none⟩ (.int .i64 10)).setCell ⟨w.heap.size,1,none⟩ (.int .i64 0)).setCell ⟨w.heap.size,2,none⟩ (.string s)).setCell ⟨w.heap.size,3,none⟩ (.slice none 0 0)=X at y0 y1 y2 y3 hst ⊢
 exact bodyPost_ret (v:=.tuple #[.slice none 0 0,.bool true,.agg #[.int .i64 10,.int .i64 0,.string s,.slice none 0 0]]) (by simp[results,Tryz.results16,go_sem,y0,y1,y2,y3]) rfl ⟨s,rfl,hst⟩
theorem pFollow_yes (w:World) (b0 b:Nat) (a:ByteArray) (P:Str→Bool) (hb0:w.cell? ⟨b0,0,none⟩=some (.pointer (some ⟨b,0,none⟩)))
  (hC:∀W,Below w.heap.size w W→Calls Tryz.prog 28 #[.pointer (some ⟨b,0,none⟩),.string a] W (MapPost W P)) :
  Calls Tryz.prog 16 #[.pointer (some ⟨b0,0,none⟩),.string a] w (AskPost w P):=by
 have HC:=hide hC
 have h0:=FB4.made w
 have ht0:∃cs f,(w.alloc (.cells #[.int .i64 0,.int .i64 0,.string ⟨#[]⟩,.slice none 0 0] 41)).heap[w.heap.size]?=some (.cells cs 41 f):=⟨_,_,heap_alloc_new w _⟩
 have HT0:=hide ht0
 have q0:=(h0.low.cell (p:=⟨b0,0,none⟩) (bltc hb0)).trans hb0
 have HE:=hide eql_mapM
 have HF:=hide fault_nil
 clear hC hb0 ht0
 go_enter Tryz.func16,Tryz.ntmps16
 go_upto_region 1 with fail
 generalize w.alloc (.cells #[.int .i64 0,.int .i64 0,.string ⟨#[]⟩,.slice none 0 0] 41)=W1 at h0 q0 HT0 ⊢
 have hbig:=h0.big
 go_upto_region 2 with (go_at_call 28;refine(HC.out _ h0.low).mono ?_;rintro e W2 ⟨mb,lc,rfl,hmb,hset,hP,hlc,hb2⟩;have h2:=h0.below hb2)
 have HW:=hide (words_any W2 mb lc hset (by omega))
 have hmw:w.heap.size<mb:=by omega
 clear q0 hset
 go_wp2_with (first
  | (go_at_call 26;refine HW.out.mono ?_;rintro e W3 ⟨v,L,rfl,hst,hT,hbut⟩;obtain⟨va,vl,vc,rfl,_⟩:=hst.gen;have h3:=h2.but hbut hmw;have hq:=HE.out W3 (some mb);have HST:=hide hst;have HT:=hide hT;clear hst hT)
  | (go_at_call 27;refine(HF.out _).mono ?_;rintro e W4 ⟨s,rfl,_,hb4⟩;have h4:=h3.below hb4;obtain⟨u0,k0⟩:=h4.c 0 (by omega);obtain⟨u1,k1⟩:=h4.c 1 (by omega);obtain⟨u2,k2⟩:=h4.c 2 (by omega);obtain⟨u3,k3⟩:=h4.c 3 (by omega);have z:=h4.z))
 obtain⟨y0,y1,y2,y3⟩:=h4.load (.int .i64 0) (.int .i64 0) (.string s) (.slice none 0 0)
 have ht4:∃cs f,W4.heap[w.heap.size]?=some (.cells cs 41 f):=by
  obtain⟨cs,f,h⟩:=HT0.out
  exact⟨cs,f,(hb4.block _ h3.big).trans ((hbut.block _ h2.big (by omega)).trans ((hb2.block _ h0.big).trans h))⟩
 have hst:=h4.stored (.int .i64 0) (.int .i64 0) (.string s) (.slice none 0 0)
 have hss:=FB4.strs ht4 (HST.out.below hb4) (.int .i64 0) (.int .i64 0) (.string s) (.slice none 0 0)
 generalize (((W4.setCell ⟨w.heap.size,0,none⟩ (.int .i64 0)).setCell ⟨w.heap.size,1,none⟩ (.int .i64 0)).setCell ⟨w.heap.size,2,none⟩ (.string s)).setCell ⟨w.heap.size,3,none⟩ (.slice none 0 0)=X at y0 y1 y2 y3 hst hss ⊢
 exact bodyPost_ret (v:=.tuple #[.slice va vl vc,.bool false,.agg #[.int .i64 0,.int .i64 0,.string s,.slice none 0 0]]) (by simp[results,Tryz.results16,go_sem,y0,y1,y2,y3]) rfl ⟨_,L,s,rfl,hss,HT.out.ext hP,hst⟩
theorem followOf_x (N0 gb:Nat) (U ns:List Str) (bl:List Bool) (fl al:List (List Str)) (w:World) (h:AE N0 gb U ns bl fl al w) (j:Nat) (n:Str) (hj:ns[j]?=some n) (hf:n∉ns.take j) :
  Calls Tryz.prog 15 #[.pointer (some ⟨gb,0,none⟩),.int .i64 (j:Int)] w (StrsPost w fun x=>hasOf ns al x n):=by
 obtain⟨vB,c5,hB⟩:=h.af
 have hlj:j<al.length:=by rw[←h.la];exact get_lt hj
 obtain⟨g,cap,ua,un,uc,rfl,e1,e2,k0,hs⟩:=hB.one (fOf_get ns al j hj hf h.la)
 have HS:=hide hs
 have HT:=hide (h.ups.tells (ns:=ns) n)
 clear hB hs h hj hf
 generalize al.length=m at *
 unfold maxLen at e2
 go_enter Tryz.func15,Tryz.ntmps15
 go_wp2_with fail
 go_ret
 exact⟨_,_,rfl,HS.out,HT.out,Below.refl _ _⟩
end
section
open Go.RowKit
theorem follows_any (s:ByteArray) (hs:s.size≤maxLen) (a:ByteArray) (ha:a.size≤maxLen) (w:World) (hg:w.cell? ⟨6,0,none⟩=some (.iface 189 (.agg #[.pointer (some ⟨10,67,none⟩)]))) (bl be bm br:Addr) (hS:Sent w bl be bm) (hER:ErrR w bl be bm br) :
  Calls Tryz.prog 6 #[.string s,.string a] w fun e w'=>e=.returned (.bool true)∧Below w.heap.size w w':=by
 have HP:=hide (both_x s hs w hg bl be bm hS)
 have HK:=hide (fun G=>comp_words (l:=bs s) (G:=G))
 generalize PredP.compile (bs s)=r at HP HK
 have HG:=hide hg
 have HSS:=hide hS
 have HER:=hide hER
 clear hg hS hER hs
 go_enter Tryz.func6,Tryz.ntmps6
 go_upto_region 2 with (go_at_call 8;refine HP.out.mono ?_;rintro e w1 ⟨v,vg,rfl,hb1,ht⟩)
 clear HP
 have hv:(v=.pointer none)∨∃G,r=.ok G:=by
  cases r with
  | ok G=>exact .inr ⟨G,rfl⟩
  | _=>exact .inl ht.1
 rcases hv with rfl | ⟨G,rfl⟩
 ·clear ht HK
  go_wp2_with fail
  go_ret
  exact⟨rfl,hb1⟩
 obtain⟨b0,b,lo,N0,gb,l,rfl,rfl,hc0,⟨hlo',v',cs,eb,fb,ab,f,fa,l0,cc,dd,p0,p1,p2,p3,hsl,hr,hkn⟩,hgt,hst⟩:=ht
 have hU:=HK.out G rfl
 have hru:=rule_x N0 gb (PredP.names G) w1 hgt.gm a
 have HC0:=hide hc0
 have HKn:=hide hkn
 have HP1:=hide p1
 have HP2:=hide p2
 have HP3:=hide p3
 by_cases hn:bs a∈PredP.names G
 ·obtain⟨j,hj,hget,hfr⟩:=ruleIx_some hn
  rw[hj]at hru
  have HRU:=hide hru
  obtain⟨U,bl',fl,al,hAE,hk,hf,hal⟩:=hst.ae hgt
  have HF:=hide (followOf_x N0 gb U (PredP.names G) bl' fl al w1 hAE j _ hget hfr)
  have HQ:Hid (∀x,(hasOf (PredP.names G) al x (bs a))=(AB G x (bs a))):=hide fun x=>by rw[hal];rfl
  have hpos:¬((j:Int)<0):=by omega
  have HPF:Hid (∀w2,Below w1.heap.size w1 w2→Calls Tryz.prog 16 #[.pointer (some ⟨b0,0,none⟩),.string a] w2 (AskPost w2 fun x=>AB G x (bs a))):=hide fun w2 h2=>pFollow_yes w2 b0 b a _ ((h2.cell (p:=⟨b0,0,none⟩) (bltc hc0)).trans hc0) fun W hW=>by
   have h3:=Below.all h2 hW
   have q:=fun(k:Nat) (u:Value) (hu:w1.cell? ⟨b,k,none⟩=some u)=>(h3.cell (p:=⟨b,k,none⟩) (bltc hu)).trans hu
   exact gFollow_yes W b eb fb ab f fa l0 cc dd G (q 2 _ p2) (q 3 _ p3) (hkn.below h3) hU a ha hn
  clear hru hlo' hsl hr hkn hgt hst hc0 p0 p1 p2 p3 HK hAE hk hf hal hget hfr hj hn
  go_upto_region 8 with (first
   | (go_at_call 11;refine HRU.out.mono ?_;rintro e w1' ⟨rfl,hw1⟩;subst hw1)
   | (go_at_call 15;refine HF.out.mono ?_;rintro e w2 ⟨vw,L,rfl,hsw,hTw,hb2⟩))
  go_upto_region 9 with (go_at_call 16;refine(HPF.out _ hb2).mono ?_;rintro e w3 ⟨v3,L3,s3,rfl,hs3,hT3,hb3⟩)
  have hLL:L3=L:=PredP.Tells.one' hT3 hTw fun x=>(HQ.out x).symm
  subst hLL
  have hbX:Below w3.heap.size w3 (w3.alloc (.cells #[.int .i64 0,.int .i64 0,.string s3,.slice none 0 0] 41)):=(Below.refl _ w3).alloc (Nat.le_refl _) _
  have HSE:=hide (set_yes (w3.alloc (.cells #[.int .i64 0,.int .i64 0,.string s3,.slice none 0 0] 41)) v3 vw L3 s3 j (hs3.below hbX) ((hsw.below hb3).below hbX))
  clear hs3 hsw hT3 hTw
  go_wp2_with (go_at_call 14;refine HSE.out.mono ?_;rintro e w5 ⟨rfl,hb5⟩)
  go_ret
  exact⟨rfl,Below.all (Below.all (Below.all (Below.all hb1 hb2) hb3) hbX) hb5⟩
 ·rw[ruleIx_none hn]at hru
  have HRU:=hide hru
  have HPF:Hid (Calls Tryz.prog 16 #[.pointer (some ⟨b0,0,none⟩),.string a] w1 (AskNone w1)):=hide (pFollow_no w1 ((hb1.cell (bltc HG.out)).trans HG.out) bl be bm br (HSS.out.below hb1) (HER.out.below hb1) b0 b a hc0 fun W hW=>by
   have h3:=hW
   have q:=fun(k:Nat) (u:Value) (hu:w1.cell? ⟨b,k,none⟩=some u)=>(h3.cell (p:=⟨b,k,none⟩) (bltc hu)).trans hu
   exact gFollow_no W b eb fb ab f fa l0 cc dd G (q 2 _ p2) (hkn.below h3) a ha hn br ((HER.out.below hb1).below h3).g)
  clear hru hlo' hsl hr hkn hgt hst hc0 p0 p1 p2 p3 HK hn
  go_upto_region 8 with (go_at_call 11;refine HRU.out.mono ?_;rintro e w1' ⟨rfl,hw1⟩;subst hw1)
  go_upto_region 9 with (go_at_call 16;refine HPF.out.mono ?_;rintro e w3 ⟨s3,rfl,hb3⟩)
  have hbX:Below w3.heap.size w3 (w3.alloc (.cells #[.int .i64 10,.int .i64 0,.string s3,.slice none 0 0] 41)):=(Below.refl _ w3).alloc (Nat.le_refl _) _
  have HSE:=hide (set_no (w3.alloc (.cells #[.int .i64 10,.int .i64 0,.string s3,.slice none 0 0] 41)) (.slice none 0 0) (.slice none 0 0) s3)
  go_wp2_with (go_at_call 14;refine HSE.out.mono ?_;rintro e w5 ⟨rfl,hb5⟩)
  go_ret
  exact⟨rfl,Below.all (Below.all (Below.all hb1 hb3) hbX) hb5⟩
end
section
open Go.ChangeShapes Go.WideShapes Go.ChangeAt Go.WideMaps Go.WideElems Go.RowKit
theorem follows_lifted (os:Os) (started:os.Started) (H:Type) (enc:TypeId×Value→H) :
  ReturnsInHanded {} Tryz.checked os 6 .any (fun w args=>(Rows.followsSpec.pre enc Tryz.prog Tryz.f6 [] false w args∧laidMetH Tryz.prog laid9 w)∧sizedMet enc Tryz.prog Tryz.f6 (OpenSpec.ofChange Rows.followsSpec) false w args)
   (Rows.followsSpec.post enc Tryz.prog Tryz.f6 false true false false):=by
 refine returnsInHanded_of_change_and (C:=Tryz.checked) (X:=fun w _=>laidMetH Tryz.prog laid9 w) (fun _ _ _ hh h=>h.of_heap hh) own started (by kernel_rfl) Tryz.func6
  (ChangeSpec.witness_shaped (enc:=enc) (C:=Tryz.checked) (os:=os) (X:=fun w _=>laidMetH Tryz.prog laid9 w) false (laidWorld os) #[.string ⟨#[]⟩,.string ⟨#[]⟩] 8 (laidWorld_os os) (World.shaped_of_ZipB (by kernel_rfl) (by kernel_rfl)) (by kernel_rfl) (by kernel_rfl) (by kernel_rfl) (laidWorld_met os _)) ?_
 intro W base args ds gs before hval0 hW _ _ hL _
 have hval:∀(j:Nat) t v,Tryz.f6.params[j]?=some t→args[j]?=some v→Value.okWide Tryz.prog W .any base t v:=hval0
 have hW':=hW
 obtain⟨p,q,hA0,hV,rfl,_,_⟩:=hW
 have hA:DataW.TrodAll enc Tryz.prog W 0 (fun _=>true) true Tryz.f6.params.toList args.toList ds p:=hA0
 rw[Tryz.params6]at hA hval
 obtain⟨v0,v1,d0,d1,p0,p1,rfl,rfl,rfl,h0,h1⟩:=trodAll_two hA
 obtain⟨rfl,rfl⟩:=trodVars_none hV
 obtain⟨s,rfl,rfl,rfl,hs⟩:=Go.ChangeMaps.open_string Tryz.underlying9 (hval 0 9 v0 rfl rfl) h0
 obtain⟨x,rfl,rfl,rfl,hx⟩:=Go.ChangeMaps.open_string Tryz.underlying9 (hval 1 9 v1 rfl rfl) h1
 simp only[List.append_nil]at hW'
 obtain⟨bl,be,bm,br,hS,hc,n1,n2,n3,hg⟩:=sents_of_laid hL
 refine(follows_any s hs x hx W (handle_of_laid hL) bl be bm br hS ⟨hc,n1,n2,n3,hg⟩).mono fun e W' ⟨he,hb⟩=>?_
 subst he
 exact⟨_,rfl,_,_,_,[],[],[],hW',trodAll_mk1 (shut_bool Tryz.underlying4 _),trodAll_mk2 (Go.ChangeMaps.shut_string Tryz.underlying9 hs) (Go.ChangeMaps.shut_string Tryz.underlying9 hx),rfl,hb.frame _,fun h=>by cases h⟩
theorem follows_row_holds:Rows.FollowsSaid :=
 OpenClaim.holds_of_wide 6 Tryz.f6 rfl rfl rfl rfl rfl rfl rfl ⟨rfl,rfl,rfl,rfl,rfl⟩ rfl rfl rfl rfl rfl (by kernel_rfl) Tryz.func6 (by kernel_rfl)
  (of_decide_eq_true (by kernel_rfl)) (by unfold Func.isWrapper;first | (rw[if_pos (by decide +kernel)];kernel_rfl) | (rw[if_neg (by decide +kernel)];exact⟨rfl,rfl⟩))
  (fun os started H enc _=>follows_lifted os started H enc)
theorem follows_holds:Rows.FollowsCardSaid :=
 Claim7.holds_tied_plain_at .later [] [.data,.handle,.sentinel,.sentinel,.sentinel,.sentinel,.sentinel,.sentinel,.pinned] true (true, "f34de1325f36615dca4301730de8ae8e4d0ca36c22fa5609e2aba9e5d6acc22c") true
  follows_row_holds (fun _ h=>by cases h) (by kernel_rfl) (fun _ h=>by cases h) follows_row_tie rfl ⟨rfl,rfl⟩ (by kernel_rfl) rfl
  (fun f fn hf hfn=>by
   obtain rfl:f=6:=Option.some.inj ((show Tryz.prog.funcNamed "predict/predictlaw.Follows" = some 6 by kernel_rfl).symm.trans hf) |>.symm
   obtain rfl:fn=Tryz.f6:=(Option.some.inj (Tryz.func6.symm.trans hfn)).symm
   exact⟨by kernel_rfl,fun j t ht=>by
    rw[Tryz.params6]at ht
    have h3:t=9:=by
     rcases j with _ | _ | j
     ·simpa using ht.symm
     ·simpa using ht.symm
     ·simp at ht
    subst h3
    exact(show Tryz.prog.wantsStandIn 9=false by kernel_rfl)⟩)
  (by kernel_rfl)
#print axioms follows_holds
end
end Go.Proofs.YtpcmemcanpgadaaGreatDoor
