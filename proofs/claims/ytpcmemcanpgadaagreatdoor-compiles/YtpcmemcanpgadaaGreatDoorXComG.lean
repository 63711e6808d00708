import Derived.Test.YtpcmemcanpgadaaGreatDoorXBothG
import Derived.Test.YtpcmemcanpgadaaGreatDoorLaid
import Derived.Test.YtpcmemcanpgadaaGreatDoorTie
import Derived.Test.YtpcmemcanpgadaaGreatDoorCards
import Derived.SevenTiedAt
import Derived.ChangeMaps5
set_option maxHeartbeats 600000
set_option maxRecDepth 100000
namespace Go.Proofs.YtpcmemcanpgadaaGreatDoor
open PredP (hide Str Rule bs)
section
open Go.RowKit
theorem compiles_any (s:ByteArray) (hs:s.size≤maxLen) (w:World) (hg:w.cell? ⟨6,0,none⟩=some (.iface 189 (.agg #[.pointer (some ⟨10,67,none⟩)]))) (bl be bm:Addr) (hS:Sent w bl be bm) :
  Calls Tryz.prog 3 #[.string s] w fun e w'=>e=.returned (.bool true)∧Below w.heap.size w w':=by
 have HP:=hide (both_x s hs w hg bl be bm hS)
 clear hg
 go_enter Tryz.func3,Tryz.ntmps3
 go_wp2_with (go_at_call 8;refine HP.out.mono ?_;rintro e w1 ⟨v,vg,rfl,hb1,_⟩)
 go_ret
 exact⟨rfl,hb1⟩
end
section
open Go.ChangeShapes Go.WideShapes Go.ChangeAt Go.WideMaps Go.WideElems Go.RowKit
theorem compiles_lifted (os:Os) (started:os.Started) (H:Type) (enc:TypeId×Value→H) :
  ReturnsInHanded {} Tryz.checked os 3 .any (fun w args=>(Rows.compilesSpec.pre enc Tryz.prog Tryz.f3 [] false w args∧laidMetH Tryz.prog laid9 w)∧sizedMet enc Tryz.prog Tryz.f3 (OpenSpec.ofChange Rows.compilesSpec) false w args)
   (Rows.compilesSpec.post enc Tryz.prog Tryz.f3 false true false false):=by
 refine returnsInHanded_of_change_and (C:=Tryz.checked) (X:=fun w _=>laidMetH Tryz.prog laid9 w) (fun _ _ _ hh h=>h.of_heap hh) own started (by kernel_rfl) Tryz.func3
  (ChangeSpec.witness_shaped (enc:=enc) (C:=Tryz.checked) (os:=os) (X:=fun w _=>laidMetH Tryz.prog laid9 w) false (laidWorld os) #[.string ⟨#[]⟩] 8 (laidWorld_os os) (World.shaped_of_ZipB (by kernel_rfl) (by kernel_rfl)) (by kernel_rfl) (by kernel_rfl) (by kernel_rfl) (laidWorld_met os _)) ?_
 intro W base args ds gs before hval0 hW _ _ hL _
 have hval:∀(j:Nat) t v,Tryz.f3.params[j]?=some t→args[j]?=some v→Value.okWide Tryz.prog W .any base t v:=hval0
 have hW':=hW
 obtain⟨p,q,hA0,hV,rfl,_,_⟩:=hW
 have hA:DataW.TrodAll enc Tryz.prog W 0 (fun _=>true) true Tryz.f3.params.toList args.toList ds p:=hA0
 rw[Tryz.params3]at hA hval
 obtain⟨v0,d0,rfl,rfl,h0⟩:=trodAll_one hA
 obtain⟨rfl,rfl⟩:=trodVars_none hV
 obtain⟨s,rfl,rfl,rfl,hs⟩:=Go.ChangeMaps.open_string Tryz.underlying9 (hval 0 9 v0 rfl rfl) h0
 simp only[List.append_nil]at hW'
 obtain⟨bl,be,bm,br,hS,_⟩:=sents_of_laid hL
 refine(compiles_any s hs W (handle_of_laid hL) bl be bm hS).mono fun e W' ⟨he,hb⟩=>?_
 subst he
 exact⟨_,rfl,_,_,_,[],[],[],hW',trodAll_mk1 (shut_bool Tryz.underlying4 _),trodAll_mk1 (Go.ChangeMaps.shut_string Tryz.underlying9 hs),rfl,hb.frame _,fun h=>by cases h⟩
theorem compiles_row_holds:Rows.CompilesSaid :=
 OpenClaim.holds_of_wide 3 Tryz.f3 rfl rfl rfl rfl rfl rfl rfl ⟨rfl,rfl,rfl,rfl,rfl⟩ rfl rfl rfl rfl rfl (by kernel_rfl) Tryz.func3 (by kernel_rfl)
  (of_decide_eq_true (by kernel_rfl)) (by unfold Func.isWrapper;first | (rw[if_pos (by decide +kernel)];kernel_rfl) | (rw[if_neg (by decide +kernel)];exact⟨rfl,rfl⟩))
  (fun os started H enc _=>compiles_lifted os started H enc)
theorem compiles_holds:Rows.CompilesCardSaid :=
 Claim7.holds_tied_plain_at .later [] [.data,.handle,.sentinel,.sentinel,.sentinel,.sentinel,.sentinel,.sentinel,.pinned] true (true, "f34de1325f36615dca4301730de8ae8e4d0ca36c22fa5609e2aba9e5d6acc22c") true
  compiles_row_holds (fun _ h=>by cases h) (by kernel_rfl) (fun _ h=>by cases h) compiles_row_tie rfl ⟨rfl,rfl⟩ (by kernel_rfl) rfl
  (fun f fn hf hfn=>by
   obtain rfl:f=3:=Option.some.inj ((show Tryz.prog.funcNamed "predict/predictlaw.Compiles" = some 3 by kernel_rfl).symm.trans hf) |>.symm
   obtain rfl:fn=Tryz.f3:=(Option.some.inj (Tryz.func3.symm.trans hfn)).symm
   exact⟨by kernel_rfl,fun j t ht=>by
    rw[Tryz.params3]at ht
    have h3:t=9:=by
     rcases j with _ | j
     ·simpa using ht.symm
     ·simp at ht
    subst h3
    exact(show Tryz.prog.wantsStandIn 9=false by kernel_rfl)⟩)
  (by kernel_rfl)
#print axioms compiles_holds
end
end Go.Proofs.YtpcmemcanpgadaaGreatDoor
