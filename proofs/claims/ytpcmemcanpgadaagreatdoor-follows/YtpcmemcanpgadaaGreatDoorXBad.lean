import Derived.Test.YtpcmemcanpgadaaGreatDoorXTieG
set_option maxHeartbeats 1000000
set_option maxRecDepth 100000
namespace Go.Proofs.YtpcmemcanpgadaaGreatDoor
open PredP (hide Str Rule bs)
open Go.RowKit
def BadPost (r g cap:Nat) (s:ByteArray) (k:Nat) (t:PredP.Tok) (d what pos:Nat) (w:World) (e:Ending) (w':World):Prop :=
 ∃i,e=.returned (.pointer (some ⟨i,0,none⟩))∧w.heap.size≤i∧But r w w'∧XRd r g cap s k t d what pos w'
theorem xrow_bad (r g cap:Nat) (s:ByteArray) (k:Nat) (t:PredP.Tok) (d what pos:Nat) (w:World) (h:XRd r g cap s k t d what pos w) (hw:what≠0) :
  Calls Tryz.prog 53 #[.pointer (some ⟨r,0,none⟩)] w (BadPost r g cap s k t d what pos w):=by
 have HW:Hid ((what==0)=false):=by show _=_;simpa using hw
 obtain⟨e0,e1,e2,hk⟩:=h.tok
 obtain⟨c0,c1,c2,c3,c4,c5,lt,fz,gl,ne,_,_⟩:=id h
 clear hw
 go_enter Tryz.func53,Tryz.ntmps53
 go_wp2_with fail
 go_region
 have hB:Below w.heap.size w (w.alloc (expO .row t.pos [] (.slice none 0 0) (.slice none 0 0) (.pointer none) 0 0)).drew:=((Below.refl _ w).alloc (Nat.le_refl _) _).drew
 change Exit.then _ _ _ _ (w.alloc (expO .row t.pos [] (.slice none 0 0) (.slice none 0 0) (.pointer none) 0 0)).drew
 generalize (w.alloc (expO .row t.pos [] (.slice none 0 0) (.slice none 0 0) (.pointer none) 0 0)).drew=W0 at hB ⊢
 have hx:=h.below hB
 clear e0 e1 e2 c0 c1 c2 c3 c4 c5 fz lt gl ne hk
 go_wp2_with fail
 refine wp_loop_rounds 1 ?_
 rw[rounds_succ]
 go_wp2_with fail
 refine(is_any r g cap s k t d what pos _ hx ⟨#[110,97,109,101]⟩ false (hide (by rw[HW.out];rfl))).mono ?_
 rintro e w1 ⟨rfl,hb1⟩
 have hx1:=hx.below hb1
 go_wp2_with fail
 refine(is_any r g cap s k t d what pos _ hx1 ⟨#[119,111,114,100]⟩ false (hide (by rw[HW.out];rfl))).mono ?_
 rintro e w2 ⟨rfl,hb2⟩
 have hx2:=hx1.below hb2
 go_wp2_with fail
 refine(is_any r g cap s k t d what pos _ hx2 ⟨#[91]⟩ false (hide (by rw[HW.out];rfl))).mono ?_
 rintro e w3 ⟨rfl,hb3⟩
 have hx3:=hx2.below hb3
 go_wp2_with fail
 refine(is_any r g cap s k t d what pos _ hx3 ⟨#[123]⟩ false (hide (by rw[HW.out];rfl))).mono ?_
 rintro e w4 ⟨rfl,hb4⟩
 have hx4:=hx3.below hb4
 go_wp2_with fail
 refine(is_any r g cap s k t d what pos _ hx4 ⟨#[40]⟩ false (hide (by rw[HW.out];rfl))).mono ?_
 rintro e w5 ⟨rfl,hb5⟩
 have hx5:=hx4.below hb5
 go_wp2_with fail
 go_ret
 exact⟨w.heap.size,rfl,Nat.le_refl _,(((((But.of_below hB).trans (But.of_below hb1)).trans (But.of_below hb2)).trans (But.of_below hb3)).trans (But.of_below hb4)).trans (But.of_below hb5),hx5⟩
theorem xchoice_bad (r g cap:Nat) (s:ByteArray) (k:Nat) (t:PredP.Tok) (d what pos:Nat) (w:World) (h:XRd r g cap s k t d what pos w) (hw:what≠0) :
  Calls Tryz.prog 33 #[.pointer (some ⟨r,0,none⟩)] w (BadPost r g cap s k t d what pos w):=by
 have HW:Hid ((what==0)=false):=by show _=_;simpa using hw
 have HWn:=hide hw
 obtain⟨e0,e1,e2,hk⟩:=h.tok
 obtain⟨c0,c1,c2,c3,c4,c5,lt,fz,gl,ne,_,_⟩:=id h
 clear hw
 go_enter Tryz.func33,Tryz.ntmps33
 go_wp2_with fail
 refine wp_region_held_drew (S:=fun W'=>W'.cell? ⟨r,0,none⟩=some (.slice (some ⟨g,0,none⟩) (PredP.toks (bs s)).length cap)∧W'.cell? ⟨r,1,none⟩=some (.int .i64 (k:Int))∧W'.cell? ⟨g,k * 3+2,none⟩=some (.int .i64 (t.pos:Int))) (by kernel_rfl) ⟨c0,c1,e2⟩ (fun hHeld=>?_)
 refine wpAnyH_take (i:=0) (oi:=?o0a) (v:=?v0a) ?i0a (by kernel_rfl) (by kernel_rfl) (by kernel_rfl) ?p0a (Or.inl ⟨?w0a,?y0a⟩) hHeld ?_
 case i0a=>(simp only[List.getElem?_toArray,List.getElem?_cons_zero];rfl)
 case p0a=>exact fun _ _ _ h=>h
 case w0a=>rfl
 case y0a=>(intro W hSW;obtain⟨q0,q1,q2⟩:=hSW;go_simp;(try with_reducible rfl))
 simp only[Act.put,pu3]
 refine wpAnyH_take (i:=1) (oi:=?o1a) (v:=?v1a) ?i1a (by kernel_rfl) (by kernel_rfl) (by kernel_rfl) ?p1a (Or.inl ⟨?w1a,?y1a⟩) hHeld ?_
 case i1a=>(simp only[gc3];rfl)
 case p1a=>exact fun _ _ _ h=>h
 case w1a=>rfl
 case y1a=>(intro W hSW;obtain⟨q0,q1,q2⟩:=hSW;go_simp;(try with_reducible rfl))
 simp only[Act.put,pu3]
 refine wpAnyH_take (i:=2) (oi:=?o2a) (v:=?v2a) ?i2a (by kernel_rfl) (by kernel_rfl) (by kernel_rfl) ?p2a (Or.inl ⟨?w2a,?y2a⟩) hHeld ?_
 case i2a=>(simp only[gc3];rfl)
 case p2a=>exact fun _ _ _ h=>h
 case w2a=>rfl
 case y2a=>(intro W hSW;obtain⟨q0,q1,q2⟩:=hSW;go_simp;(try with_reducible rfl))
 simp only[Act.put,pu3]
 refine wpAnyH_take (i:=3) (oi:=?o3a) (v:=?v3a) ?i3a (by kernel_rfl) (by kernel_rfl) (by kernel_rfl) ?p3a (Or.inl ⟨?w3a,?y3a⟩) hHeld ?_
 case i3a=>(simp only[gc3];rfl)
 case p3a=>exact fun _ _ _ h=>h
 case w3a=>rfl
 case y3a=>(intro W hSW;obtain⟨q0,q1,q2⟩:=hSW;go_simp;(try with_reducible rfl))
 simp only[Act.put,pu3]
 refine wpAnyH_take (i:=4) (oi:=?o4a) (v:=?v4a) ?i4a (by kernel_rfl) (by kernel_rfl) (by kernel_rfl) ?p4a (Or.inl ⟨?w4a,?y4a⟩) hHeld ?_
 case i4a=>(simp only[gc3];rfl)
 case p4a=>exact fun _ _ _ h=>h
 case w4a=>rfl
 case y4a=>(intro W hSW;obtain⟨q0,q1,q2⟩:=hSW;go_simp;(try with_reducible rfl))
 simp only[Act.put,pu3]
 refine wpAnyH_take (i:=5) (oi:=?o5a) (v:=?v5a) ?i5a (by kernel_rfl) (by kernel_rfl) (by kernel_rfl) ?p5a (Or.inl ⟨?w5a,?y5a⟩) hHeld ?_
 case i5a=>(simp only[gc3];rfl)
 case p5a=>exact fun _ _ _ h=>h
 case w5a=>rfl
 case y5a=>(intro W hSW;obtain⟨q0,q1,q2⟩:=hSW;go_simp;(try with_reducible rfl))
 simp only[Act.put,pu3]
 refine wpAnyH_take (i:=6) (oi:=?o6a) (v:=?v6a) ?i6a (by kernel_rfl) (by kernel_rfl) (by kernel_rfl) ?p6a (Or.inl ⟨?w6a,?y6a⟩) hHeld ?_
 case i6a=>(simp only[gc3];rfl)
 case p6a=>exact fun _ _ _ h=>h
 case w6a=>rfl
 case y6a=>(intro W hSW;obtain⟨q0,q1,q2⟩:=hSW;go_simp;(try with_reducible rfl))
 simp only[Act.put,pu3]
 refine wpAnyH_take (i:=7) (oi:=?o7a) (v:=?v7a) ?i7a (by kernel_rfl) (by kernel_rfl) (by kernel_rfl) ?p7a (Or.inl ⟨?w7a,?y7a⟩) hHeld ?_
 case i7a=>(simp only[gc3];rfl)
 case p7a=>exact fun _ _ _ h=>h
 case w7a=>rfl
 case y7a=>(intro W hSW;obtain⟨q0,q1,q2⟩:=hSW;go_simp;(try with_reducible rfl))
 simp only[Act.put,pu3]
 refine wpAnyH_take (i:=8) (oi:=?o8a) (v:=?v8a) ?i8a (by kernel_rfl) (by kernel_rfl) (by kernel_rfl) ?p8a (Or.inl ⟨?w8a,?y8a⟩) hHeld ?_
 case i8a=>(simp only[gc3];rfl)
 case p8a=>exact fun _ _ _ h=>h
 case w8a=>rfl
 case y8a=>(intro W hSW;obtain⟨q0,q1,q2⟩:=hSW;go_simp;(try with_reducible rfl))
 simp only[Act.put,pu3]
 refine wpAnyH_take (i:=9) (oi:=?o9a) (v:=?v9a) ?i9a (by kernel_rfl) (by kernel_rfl) (by kernel_rfl) ?p9a (Or.inl ⟨?w9a,?y9a⟩) hHeld ?_
 case i9a=>(simp only[gc3];rfl)
 case p9a=>exact fun _ _ _ h=>h
 case w9a=>rfl
 case y9a=>(intro W hSW;obtain⟨q0,q1,q2⟩:=hSW;go_simp;(try with_reducible rfl))
 simp only[Act.put,pu3]
 refine wpAnyH_take (i:=10) (oi:=?o10a) (v:=?v10a) ?i10a (by kernel_rfl) (by kernel_rfl) (by kernel_rfl) ?p10a (Or.inl ⟨?w10a,?y10a⟩) hHeld ?_
 case i10a=>(simp only[gc3];rfl)
 case p10a=>exact fun _ _ _ h=>h
 case w10a=>rfl
 case y10a=>(intro W hSW;obtain⟨q0,q1,q2⟩:=hSW;go_simp;(try with_reducible rfl))
 simp only[Act.put,pu3]
 refine wpAnyH_take (i:=11) (oi:=?o11a) (v:=?v11a) ?i11a (by kernel_rfl) (by kernel_rfl) (by kernel_rfl) ?p11a (Or.inl ⟨?w11a,?y11a⟩) hHeld ?_
 case i11a=>(simp only[gc3];rfl)
 case p11a=>exact fun _ _ _ h=>h
 case w11a=>rfl
 case y11a=>(intro W hSW;obtain⟨q0,q1,q2⟩:=hSW;go_simp;(try with_reducible rfl))
 simp only[Act.put,pu3]
 refine wpAnyH_ready (rs:=[12]) (by kernel_rfl) (by simp) ?_
 refine AllReadyH.cons (o:=?o12a) ?i12a (fun K hK=>?c12a) AllReadyH.nil
 case i12a=>(simp only[gc3];rfl)
 go_simp
 go_at_call 53
 refine(xrow_bad r g cap s k t d what pos _ (XRd.drew h) HWn.out).mono ?_
 rintro e wn ⟨i,rfl,hi,hbn0,hxn⟩
 have hbn:But r w wn:=hbn0.undrew
 have n0:=hxn.c0
 have n1:=hxn.c1
 obtain⟨_,_,n2,_⟩:=hxn.tok
 refine hK.out _ _ ⟨n0,n1,n2⟩ (fun hHeld2=>?_)
 clear hK K
 have hHeld:=hHeld2
 clear hHeld2
 try simp only[Act.put,pu3]
 refine wpAnyH_ready (rs:=[13]) (by kernel_rfl) (by simp) ?_
 refine AllReadyH.cons (o:=?o13a) ?i13a (fun K hK=>?c13a) AllReadyH.nil
 case i13a=>(simp only[gc3];rfl)
 go_simp
 refine hK.out _ _ ⟨al n0,al n1,al n2⟩ (fun hHeld2=>?_)
 clear hK K
 have hHeld:=hHeld2
 clear hHeld2
 try simp only[Act.put,pu3]
 refine wpAnyH_take (i:=14) (oi:=?o14a) (v:=?v14a) ?i14a (by kernel_rfl) (by kernel_rfl) (by kernel_rfl) ?p14a (Or.inl ⟨?w14a,?y14a⟩) hHeld ?_
 case i14a=>(simp only[gc3];rfl)
 case p14a=>exact fun _ _ _ h=>h
 case w14a=>rfl
 case y14a=>(intro W hSW;obtain⟨q0,q1,q2⟩:=hSW;go_simp;(try with_reducible rfl))
 simp only[Act.put,pu3]
 refine wpAnyH_ready (rs:=[15]) (by kernel_rfl) (by simp) ?_
 refine AllReadyH.cons (o:=?o15a) ?i15a (fun K hK=>?c15a) AllReadyH.nil
 case i15a=>(simp only[gc3];rfl)
 go_simp
 refine hK.out _ _ ⟨al (al n0),al (al n1),al (al n2)⟩ (fun hHeld2=>?_)
 clear hK K
 have hHeld:=hHeld2
 clear hHeld2
 try simp only[Act.put,pu3]
 refine wpAnyH_take (i:=16) (oi:=?o16a) (v:=?v16a) ?i16a (by kernel_rfl) (by kernel_rfl) (by kernel_rfl) ?p16a (Or.inl ⟨?w16a,?y16a⟩) hHeld ?_
 case i16a=>(simp only[gc3];rfl)
 case p16a=>exact fun _ _ _ h=>h
 case w16a=>rfl
 case y16a=>(intro W hSW;obtain⟨q0,q1,q2⟩:=hSW;go_simp;(try with_reducible rfl))
 simp only[Act.put,pu3]
 refine wpAnyH_done (by kernel_rfl) ?_ _
 obtain⟨hX,_⟩:=XCh.zero (pX:=t.pos) hxn hbn hi
 change Exit.then _ _ _ _ ((wn.alloc (.cells #[.pointer (some ⟨i,0,none⟩)] 83)).alloc (expO .bar t.pos [] (.slice (some ⟨wn.heap.size,0,none⟩) 1 1) (.slice none 0 0) (.pointer none) 0 0))
 have y0:((wn.alloc (.cells #[.pointer (some ⟨i,0,none⟩)] 83)).alloc (expO .bar t.pos [] (.slice (some ⟨wn.heap.size,0,none⟩) 1 1) (.slice none 0 0) (.pointer none) 0 0)).cell? ⟨wn.heap.size,0,none⟩=some (.pointer (some ⟨i,0,none⟩)):=al (cell_fresh (w:=wn) rfl)
 generalize (wn.alloc (.cells #[.pointer (some ⟨i,0,none⟩)] 83)).alloc (expO .bar t.pos [] (.slice (some ⟨wn.heap.size,0,none⟩) 1 1) (.slice none 0 0) (.pointer none) 0 0)=W0 at hX y0 ⊢
 have x3:W0.cell? ⟨wn.heap.size+1,3,none⟩=some (.slice (some ⟨wn.heap.size,0,none⟩) 1 1):=by simp only[World.cell?,hX.xb];rfl
 clear e0 e1 e2 c0 c1 c2 c3 c4 c5 fz lt gl ne hk n0 n1 n2 hHeld
 go_wp2_with fail
 refine wp_loop_rounds 1 ?_
 rw[rounds_succ]
 go_wp2_with fail
 refine(is_any r g cap s k t d what pos _ hX.rd ⟨#[124]⟩ false (hide (by rw[HW.out];rfl))).mono ?_
 rintro e w1 ⟨rfl,hb1⟩
 have z3:=(hb1.cell (p:=⟨wn.heap.size+1,3,none⟩) (bltc x3)).trans x3
 have z0:=(hb1.cell (p:=⟨wn.heap.size,0,none⟩) (bltc y0)).trans y0
 go_wp2_with fail
 go_ret
 exact⟨i,rfl,hi,hX.but.trans (But.of_below hb1),hX.rd.below hb1⟩
def ChOut (r g cap:Nat) (s:ByteArray) (t:PredP.Tok) (d what pos m:Nat) (w:World) (e:Ending) (w':World):Prop :=
 ∃i k2 t2 what2 pos2,e=.returned (.pointer (some ⟨i,0,none⟩))∧But r w w'∧w.heap.size≤i∧XRd r g cap s k2 t2 d what2 pos2 w'∧Hid ((what≠0→what2=what∧pos2=pos)∧(what=0 →
  match PredP.expF (bs s) (m+1) d 0 t with
   | .ok ex t'=>what2=0∧pos2=0∧t2=t'∧∃x:PredP.X,x.id=i∧PredP.xE ex x∧NewX w.heap.size w' x
   | .bad p b=>what2=codeOf b∧pos2=p))
theorem choice_out (r g cap:Nat) (s:ByteArray) (hs:s.size≤400) (k:Nat) (t:PredP.Tok) (d what pos m:Nat) (w:World) (h:XRd r g cap s k t d what pos w) (hp:what=0→pos=0) (hd:d≤10) (hen:what=0→PredP.Enough (bs s) t m) :
  Calls Tryz.prog 33 #[.pointer (some ⟨r,0,none⟩)] w (ChOut r g cap s t d what pos m w):=by
 by_cases hw:what=0
 ·subst hw
  have hp':=hp rfl
  subst hp'
  refine(ch_all s hs m r g cap k t d w h hd (hen rfl)).mono ?_
  intro e w' hpost
  obtain⟨i,k2,t2,what2,pos2,he,hb,hi,hx,hc⟩:=hpost.post
  exact⟨i,k2,t2,what2,pos2,he,hb,hi,hx,fun h=>absurd rfl h,fun _=>hc.out⟩
 ·refine(xchoice_bad r g cap s k t d what pos w h hw).mono ?_
  rintro e w' ⟨i,he,hi,hb,hx⟩
  exact⟨i,k,t,what,pos,he,hb,hi,hx,fun _=>⟨rfl,rfl⟩,fun h=>absurd h hw⟩
end Go.Proofs.YtpcmemcanpgadaaGreatDoor
