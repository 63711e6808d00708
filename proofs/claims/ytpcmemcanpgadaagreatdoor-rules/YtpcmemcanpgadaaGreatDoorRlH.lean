import Derived.Test.YtpcmemcanpgadaaGreatDoorXBothG
import Derived.Test.YtpcmemcanpgadaaGreatDoorRlG
import Derived.Test.YtpcmemcanpgadaaGreatDoorRlC
import Derived.Test.YtpcmemcanpgadaaGreatDoorLaid
import Derived.Test.YtpcmemcanpgadaaGreatDoorTie
import Derived.Test.YtpcmemcanpgadaaGreatDoorCards
import Derived.SevenTiedAt
import Derived.ChangeMaps5
set_option maxHeartbeats 2000000
set_option maxRecDepth 100000
namespace Go.Proofs.YtpcmemcanpgadaaGreatDoor
open PredP (hide Str Rule bs)
section
open Go.RowKit
theorem rules_any (s:ByteArray) (hs:s.size≤maxLen) (stop:Int) (hlo:-9223372036854775808≤stop) (hhi:stop≤9223372036854775807) (w:World) (hg:w.cell? ⟨6,0,none⟩=some (.iface 189 (.agg #[.pointer (some ⟨10,67,none⟩)]))) (bl be bm:Addr) (hS:Sent w bl be bm) :
  Calls Tryz.prog 4 #[.string s,.int .i64 stop] w fun e w'=>e=.returned (.bool true)∧Below w.heap.size w w':=by
 have HP:=hide (both_x s hs w hg bl be bm hS)
 have HK:=hide (fun G=>comp_small (l:=bs s) (G:=G))
 generalize PredP.compile (bs s)=r at HP HK
 clear hg
 go_enter Tryz.func4,Tryz.ntmps4
 go_upto_region 2 with (go_at_call 8;refine HP.out.mono ?_;rintro e w1 ⟨v,vg,rfl,hb1,ht⟩)
 clear HP
 have hv:(v=.pointer none)∨∃G,r=.ok G:=by
  cases r with
  | ok G=>exact .inr ⟨G,rfl⟩
  | _=>exact .inl ht.1
 rcases hv with rfl | ⟨G,rfl⟩
 ·clear ht HK
  go_wp2_with fail
  go_ret
  exact⟨rfl,hb1⟩
 obtain⟨b0,b,lo,N0,gb,l,rfl,rfl,hc0,⟨hlo',v',cs,eb,fb,ab,f,fa,l0,cc,dd,p0,p1,p2,p3,hsl,hr,hkn⟩,hgt,hst⟩:=ht
 obtain⟨hG,h12⟩:=HK.out G rfl
 have HR:=hide (prules_x w1 stop b0 b v' cs G _ hc0 p0 hsl hr hG h12)
 have HT:=hide hgt
 have HN:Hid ((PredP.names G).length=G.length):=hide (by simp[PredP.names])
 have hpos:0<G.length:=List.length_pos_iff.2 hG
 clear hlo' hsl hr hkn hgt hst hc0 p0 p1 p2 p3 HK hG
 go_upto_region 5 with (go_at_call 9;refine HR.out.mono ?_;rintro e w2 ⟨vn,vp,rfl,hb2,hns,hps⟩)
 have hT2:=HT.out.below hb2
 obtain⟨vN,c0,hN⟩:=hT2.gm.nm
 obtain⟨vA,c1,hA⟩:=hT2.ats
 have hlN:(strC (PredP.names G)).length=G.length:=(strC_length _).trans HN.out
 have hlA:(intC (G.map (·.pos))).length=G.length:=by simp[intC]
 obtain⟨gN,capN,rfl,hcN,hmx,hgN,_⟩:=slAt_some hN (by omega)
 obtain⟨gA,capA,rfl,_,_,hgA,hcA⟩:=slAt_some hA (by omega)
 rw[hlN]at hcN hmx hN c0
 rw[hlA]at hA c1
 have HSN:=hide hN
 have HNS:=hide hns
 have HPS:=hide hps
 have HCA:=hide hcA
 have hB:=Below.all hb1 hb2
 have hgbl:=hT2.gm.lt
 clear hN hns hps hcA hA hlN hlA hT2 HT HR hb1 hb2
 generalize hn:G.length=n at *
 unfold maxLen at hmx
 by_cases h0:0<stop
 ·have d0:decide (0<stop)=true:=by simpa using h0
  by_cases h1:stop<(n:Int)
  ·have d1:decide (stop<(n:Int))=true:=by simpa using h1
   obtain⟨m,rfl⟩:∃m:Nat,stop=(m:Int):=⟨stop.toNat,by omega⟩
   have hm:m≤n:=by omega
   have hm0:0<m:=by omega
   have HU:Hid (upTo (m:Int) n=m):=hide (by unfold upTo;rw[if_pos ⟨h0,h1⟩];omega)
   rw[HU.out]at HNS HPS
   go_upto_region 8 with fail
   clear d0 d1 h0 h1 HU
   have HSM:Hid (Calls Tryz.prog 10 #[vn,.slice (some ⟨gN,0,none⟩) m capN] w2 fun e w'=>e=.returned (.bool true)∧Below w2.heap.size w2 w'):=hide (by
    refine same_x w2 vn _ ((PredP.names G).take m) HNS.out (ok2:=okG N0 gb) ?_
    have:=slAt_take HSN.out hm
    unfold strC at this ⊢
    rwa[←List.map_take]at this)
   have hlP:(intC ((G.map (·.pos)).take m)).length=m:=by simp[intC,hn]<;>omega
   obtain⟨gP,capP,rfl,_,_,hgP,hcP⟩:=slAt_some HPS.out (by omega)
   rw[hlP]
   have HCP:=hide hcP
   clear hcP hlP
   go_upto_region 10 with (go_at_call 10;refine HSM.out.mono ?_;rintro e w3 ⟨rfl,hb3⟩)
   have hbz:=Below.all hB hb3
   go_wp2_with fail
   clear c0 HSM HNS HSN HPS
   go_loopw [66] (fun t wr=>Below w3.heap.size w3 wr∧∃k:Nat,k≤m∧t=.int .i64 k) (fun t _=>m - (intOf t).toNat)
   case atStart=>exact⟨Below.refl _ _,0,by omega,rfl⟩
   case round =>
    obtain⟨hlow,k,hk,rfl⟩:=hrel
    by_cases hk':k<m
    ·obtain⟨q,hq⟩:∃q,G[k]?=some q:=⟨G[k]'(by omega),List.getElem?_eq_getElem _⟩
     have hb23:=Below.all hb3 hlow
     have e1:=(hb23.cell (p:=⟨gP,k,none⟩) hgP).trans (HCP.out k (.int .i64 (q.pos:Int)) (by simp[intC,hk',hq]))
     have e2:=(hb23.cell (p:=⟨gA,k,none⟩) hgA).trans (HCA.out k (.int .i64 (q.pos:Int)) (by simp[intC,hq]))
     have e3:=(hb23.cell (p:=⟨gb,1,none⟩) hgbl).trans c1
     clear c1 hq
     go_upto_region 13 with fail
     go_quiet (fail)
     go_wp2_with fail
     exact⟨⟨⟨hlow.os,hlow.tape,hlow.output,hlow.size,hlow.block⟩,k+1,by omega,by go_num⟩,by simp[intOf];omega⟩
    ·go_wp2_with fail
     go_ret
     exact⟨rfl,Below.all hbz hlow⟩
  ·have d1:decide (stop<(n:Int))=false:=by simpa using h1
   have hm:n≤n:=Nat.le_refl _
   have hm0:0<n:=hpos
   have HU:Hid (upTo stop n=n):=hide (by unfold upTo;rw[if_neg (by omega)])
   rw[HU.out]at HNS HPS
   go_upto_region 8 with fail
   clear d0 d1 h0 h1 HU
   have HSM:Hid (Calls Tryz.prog 10 #[vn,.slice (some ⟨gN,0,none⟩) n capN] w2 fun e w'=>e=.returned (.bool true)∧Below w2.heap.size w2 w'):=hide (by
    refine same_x w2 vn _ ((PredP.names G).take n) HNS.out (ok2:=okG N0 gb) ?_
    have:=slAt_take HSN.out hm
    unfold strC at this ⊢
    rwa[←List.map_take]at this)
   have hlP:(intC ((G.map (·.pos)).take n)).length=n:=by simp[intC,hn]<;>omega
   obtain⟨gP,capP,rfl,_,_,hgP,hcP⟩:=slAt_some HPS.out (by omega)
   rw[hlP]
   have HCP:=hide hcP
   clear hcP hlP
   go_upto_region 10 with (go_at_call 10;refine HSM.out.mono ?_;rintro e w3 ⟨rfl,hb3⟩)
   have hbz:=Below.all hB hb3
   go_wp2_with fail
   clear c0 HSM HNS HSN HPS
   go_loopw [66] (fun t wr=>Below w3.heap.size w3 wr∧∃k:Nat,k≤n∧t=.int .i64 k) (fun t _=>n - (intOf t).toNat)
   case atStart=>exact⟨Below.refl _ _,0,by omega,rfl⟩
   case round =>
    obtain⟨hlow,k,hk,rfl⟩:=hrel
    by_cases hk':k<n
    ·obtain⟨q,hq⟩:∃q,G[k]?=some q:=⟨G[k]'(by omega),List.getElem?_eq_getElem _⟩
     have hb23:=Below.all hb3 hlow
     have e1:=(hb23.cell (p:=⟨gP,k,none⟩) hgP).trans (HCP.out k (.int .i64 (q.pos:Int)) (by simp[intC,hk',hq]))
     have e2:=(hb23.cell (p:=⟨gA,k,none⟩) hgA).trans (HCA.out k (.int .i64 (q.pos:Int)) (by simp[intC,hq]))
     have e3:=(hb23.cell (p:=⟨gb,1,none⟩) hgbl).trans c1
     clear c1 hq
     go_upto_region 13 with fail
     go_quiet (fail)
     go_wp2_with fail
     exact⟨⟨⟨hlow.os,hlow.tape,hlow.output,hlow.size,hlow.block⟩,k+1,by omega,by go_num⟩,by simp[intOf];omega⟩
    ·go_wp2_with fail
     go_ret
     exact⟨rfl,Below.all hbz hlow⟩
 ·have d0:decide (0<stop)=false:=by simpa using h0
  have hm:n≤n:=Nat.le_refl _
  have hm0:0<n:=hpos
  have HU:Hid (upTo stop n=n):=hide (by unfold upTo;rw[if_neg (by omega)])
  rw[HU.out]at HNS HPS
  go_upto_region 8 with fail
  clear d0 h0 HU
  have HSM:Hid (Calls Tryz.prog 10 #[vn,.slice (some ⟨gN,0,none⟩) n capN] w2 fun e w'=>e=.returned (.bool true)∧Below w2.heap.size w2 w'):=hide (by
   refine same_x w2 vn _ ((PredP.names G).take n) HNS.out (ok2:=okG N0 gb) ?_
   have:=slAt_take HSN.out hm
   unfold strC at this ⊢
   rwa[←List.map_take]at this)
  have hlP:(intC ((G.map (·.pos)).take n)).length=n:=by simp[intC,hn]<;>omega
  obtain⟨gP,capP,rfl,_,_,hgP,hcP⟩:=slAt_some HPS.out (by omega)
  rw[hlP]
  have HCP:=hide hcP
  clear hcP hlP
  go_upto_region 10 with (go_at_call 10;refine HSM.out.mono ?_;rintro e w3 ⟨rfl,hb3⟩)
  have hbz:=Below.all hB hb3
  go_wp2_with fail
  clear c0 HSM HNS HSN HPS
  go_loopw [66] (fun t wr=>Below w3.heap.size w3 wr∧∃k:Nat,k≤n∧t=.int .i64 k) (fun t _=>n - (intOf t).toNat)
  case atStart=>exact⟨Below.refl _ _,0,by omega,rfl⟩
  case round =>
   obtain⟨hlow,k,hk,rfl⟩:=hrel
   by_cases hk':k<n
   ·obtain⟨q,hq⟩:∃q,G[k]?=some q:=⟨G[k]'(by omega),List.getElem?_eq_getElem _⟩
    have hb23:=Below.all hb3 hlow
    have e1:=(hb23.cell (p:=⟨gP,k,none⟩) hgP).trans (HCP.out k (.int .i64 (q.pos:Int)) (by simp[intC,hk',hq]))
    have e2:=(hb23.cell (p:=⟨gA,k,none⟩) hgA).trans (HCA.out k (.int .i64 (q.pos:Int)) (by simp[intC,hq]))
    have e3:=(hb23.cell (p:=⟨gb,1,none⟩) hgbl).trans c1
    clear c1 hq
    go_upto_region 13 with fail
    go_quiet (fail)
    go_wp2_with fail
    exact⟨⟨⟨hlow.os,hlow.tape,hlow.output,hlow.size,hlow.block⟩,k+1,by omega,by go_num⟩,by simp[intOf];omega⟩
   ·go_wp2_with fail
    go_ret
    exact⟨rfl,Below.all hbz hlow⟩
end
section
open Go.ChangeShapes Go.WideShapes Go.ChangeAt Go.WideMaps Go.WideElems Go.RowKit
theorem rules_lifted (os:Os) (started:os.Started) (H:Type) (enc:TypeId×Value→H) :
  ReturnsInHanded {} Tryz.checked os 4 .any (fun w args=>(Rows.rulesSpec.pre enc Tryz.prog Tryz.f4 [] false w args∧laidMetH Tryz.prog laid9 w)∧sizedMet enc Tryz.prog Tryz.f4 (OpenSpec.ofChange Rows.rulesSpec) false w args)
   (Rows.rulesSpec.post enc Tryz.prog Tryz.f4 false true false false):=by
 refine returnsInHanded_of_change_and (C:=Tryz.checked) (X:=fun w _=>laidMetH Tryz.prog laid9 w) (fun _ _ _ hh h=>h.of_heap hh) own started (by kernel_rfl) Tryz.func4
  (ChangeSpec.witness_shaped (enc:=enc) (C:=Tryz.checked) (os:=os) (X:=fun w _=>laidMetH Tryz.prog laid9 w) false (laidWorld os) #[.string ⟨#[]⟩,.int .i64 0] 8 (laidWorld_os os) (World.shaped_of_ZipB (by kernel_rfl) (by kernel_rfl)) (by kernel_rfl) (by kernel_rfl) (by kernel_rfl) (laidWorld_met os _)) ?_
 intro W base args ds gs before hval0 hW _ _ hL _
 have hval:∀(j:Nat) t v,Tryz.f4.params[j]?=some t→args[j]?=some v→Value.okWide Tryz.prog W .any base t v:=hval0
 have hW':=hW
 obtain⟨p,q,hA0,hV,rfl,_,_⟩:=hW
 have hA:DataW.TrodAll enc Tryz.prog W 0 (fun _=>true) true Tryz.f4.params.toList args.toList ds p:=hA0
 rw[Tryz.params4]at hA hval
 obtain⟨v0,v1,d0,d1,p0,p1,rfl,rfl,rfl,h0,h1⟩:=trodAll_two hA
 obtain⟨rfl,rfl⟩:=trodVars_none hV
 obtain⟨s,rfl,rfl,rfl,hs⟩:=Go.ChangeMaps.open_string Tryz.underlying9 (hval 0 9 v0 rfl rfl) h0
 obtain⟨x,rfl,rfl,rfl,wx⟩:=open_int Tryz.underlying3 (hval 1 3 v1 rfl rfl) h1
 simp only[List.append_nil]at hW'
 have hx:-9223372036854775808≤x∧x≤9223372036854775807:=by simpa[Lit.wf,IntKind.min,IntKind.max,IntKind.signed,IntKind.bits] using wx
 obtain⟨bl,be,bm,br,hS,_⟩:=sents_of_laid hL
 refine(rules_any s hs x hx.1 hx.2 W (handle_of_laid hL) bl be bm hS).mono fun e W' ⟨he,hb⟩=>?_
 subst he
 exact⟨_,rfl,_,_,_,[],[],[],hW',trodAll_mk1 (shut_bool Tryz.underlying4 _),trodAll_mk2 (Go.ChangeMaps.shut_string Tryz.underlying9 hs) (shut_int Tryz.underlying3 wx),rfl,hb.frame _,fun h=>by cases h⟩
theorem rules_row_holds:Rows.RulesSaid :=
 OpenClaim.holds_of_wide 4 Tryz.f4 rfl rfl rfl rfl rfl rfl rfl ⟨rfl,rfl,rfl,rfl,rfl⟩ rfl rfl rfl rfl rfl (by kernel_rfl) Tryz.func4 (by kernel_rfl)
  (of_decide_eq_true (by kernel_rfl)) (by unfold Func.isWrapper;first | (rw[if_pos (by decide +kernel)];kernel_rfl) | (rw[if_neg (by decide +kernel)];exact⟨rfl,rfl⟩))
  (fun os started H enc _=>rules_lifted os started H enc)
theorem rules_holds:Rows.RulesCardSaid :=
 Claim7.holds_tied_plain_at .later [] [.data,.handle,.sentinel,.sentinel,.sentinel,.sentinel,.sentinel,.sentinel,.pinned] true (true, "f34de1325f36615dca4301730de8ae8e4d0ca36c22fa5609e2aba9e5d6acc22c") true
  rules_row_holds (fun _ h=>by cases h) (by kernel_rfl) (fun _ h=>by cases h) rules_row_tie rfl ⟨rfl,rfl⟩ (by kernel_rfl) rfl
  (fun f fn hf hfn=>by
   obtain rfl:f=4:=Option.some.inj ((show Tryz.prog.funcNamed "predict/predictlaw.Rules" = some 4 by kernel_rfl).symm.trans hf) |>.symm
   obtain rfl:fn=Tryz.f4:=(Option.some.inj (Tryz.func4.symm.trans hfn)).symm
   exact⟨by kernel_rfl,fun j t ht=>by
    rw[Tryz.params4]at ht
    have h3:t=9∨t=3:=by
     rcases j with _ | _ | j
     ·exact .inl (by simpa using ht.symm)
     ·exact .inr (by simpa using ht.symm)
     ·simp at ht
    rcases h3 with rfl | rfl
    ·exact(show Tryz.prog.wantsStandIn 9=false by kernel_rfl)
    ·exact(show Tryz.prog.wantsStandIn 3=false by kernel_rfl)⟩)
  (by kernel_rfl)
#print axioms rules_holds
end
end Go.Proofs.YtpcmemcanpgadaaGreatDoor
