import Derived.Test.YtpcmemcanpgadaaGreatDoorXRowAG
set_option maxHeartbeats 800000
set_option maxRecDepth 100000
namespace Go.Proofs.YtpcmemcanpgadaaGreatDoor
open PredP (hide Str Rule bs)
open Go.RowKit
theorem row_x (n:Nat) (r g cap:Nat) (s:ByteArray) (k0:Nat) (t0:PredP.Tok) (d:Nat) (w:World) (hbr:Hid (∀m,m<n→ChC s m)) (hs:s.size≤400) (hd:d≤10) (hrd:XRd r g cap s k0 t0 d 0 0 w) (hn:PredP.Enough (bs s) t0 n) :
  Calls Tryz.prog 53 #[.pointer (some ⟨r,0,none⟩)] w (RowX r g cap s d w (PredP.rowF (bs s) n d t0)):=by
 obtain⟨o,ho⟩:∃o,PredP.rowF (bs s) n d t0=o:=⟨_,rfl⟩
 rw[ho]
 have hrel0:=XRow.zero ho hrd hn
 have hr0:=hrd.lt
 have hg0:=hrd.gl
 obtain⟨e0,e1,e2,hk⟩:=hrd.tok
 obtain⟨c0,c1,c2,c3,c4,c5,lt,fz,gl,ne,_,_⟩:=id hrd
 obtain⟨i0,hi,hz0,hz1,hz2⟩:=info_parts infoPExp
 clear ho
 go_enter Tryz.func53,Tryz.ntmps53
 go_wp2_with fail
 go_region
 change Exit.then _ _ _ _ (w.alloc (expO .row t0.pos [] (.slice none 0 0) (.slice none 0 0) (.pointer none) 0 0)).drew
 generalize (w.alloc (expO .row t0.pos [] (.slice none 0 0) (.slice none 0 0) (.pointer none) 0 0)).drew=W0 at hrel0 ⊢
 obtain⟨bx,hbx⟩:∃bx,bx=w.heap.size:=⟨_,rfl⟩
 rw[←hbx]at hrel0 ⊢
 obtain⟨p0,hp0⟩:∃p0,p0=t0.pos:=⟨_,rfl⟩
 rw[←hp0]at hrel0 ⊢
 clear e0 e1 e2 c0 c1 c2 c3 c4 c5 fz lt gl ne hk hrd hn hbx hp0
 go_wp2_with fail
 go_loopw [4] (fun _ wr=>(∃acc t k m l v,XRow n r g cap s d w o bx p0 wr acc t k m l v)∨(∃p b k t,o=.bad p b∧XRd r g cap s k t d (codeOf b) p wr∧But r w wr∧w.heap.size≤bx)) (fun _ wr=>xmu r wr)
 case atStart=>exact .inl ⟨_,_,_,_,_,_,hrel0⟩
 case round =>
  clear hrel0
  rcases hrel with ⟨acc,t,k,m,l,v,hR⟩ | ⟨p,b,k,t,ho,hx,hbut,hge⟩
  ·obtain⟨m',rfl⟩:=hR.enough.pos
   have htk:=hR.rd.tk
   have hlen:(PredP.toks (bs s)).length≤401:=by have:=PredP.toks_length (bs s);rw[PredP.bs_length]at this;omega
   by_cases h97:t.kind=97
   ·have hyes:=hide (isx_yes htk (by decide) h97)
    have HL:=hide (show t.last=false by simp[PredP.Tok.last,h97])
    have HQ:=hide (PredP.rowF_name (l:=bs s) (m:=m') (d:=d) h97)
    obtain⟨hv1,hv2⟩:=(leaf_text (t:=t) hs).1 h97
    have hkb:kindB t.kind=⟨#[110,97,109,101]⟩:=by rw[h97];rfl
    have hnx:=(PredP.toks_next htk).2 HL.out
    clear h97 htk
    go_wp2_with fail
    refine(is_any r g cap s k t d 0 0 _ hR.rd ⟨#[110,97,109,101]⟩ true (hide (isx_of hyes.out))).mono ?_
    rintro e w1 ⟨rfl,hb1⟩
    have hx1:=hR.rd.below hb1
    have hbT:Below wr.heap.size wr w1:=hb1
    have hxT:=hx1
    have hzT:=hbT.size
    clear hb1 hx1
    obtain⟨wt,hwt⟩:∃wt,wt=w1:=⟨_,rfl⟩
    rw[←hwt]at hbT hxT hzT ⊢
    clear hwt
    obtain⟨e0,e1,e2,hkl⟩:=hxT.tok
    obtain⟨c0,c1,c2,c3,c4,c5,lt,fz,gl,ne,_,_⟩:=id hxT
    go_wp2_with fail
    go_region
    have hT:=one_new wt (.string ⟨#[110,97,109,101]⟩) (vS (PredP.cut (bs s) t.pos t.to)) (.int .i64 (t.pos:Int)) 81
    generalize (wt.alloc (.cells #[.string ⟨#[110,97,109,101]⟩,vS (PredP.cut (bs s) t.pos t.to),.int .i64 (t.pos:Int)] 81)).drew=wb at hT ⊢
    obtain⟨hbb,hbs,b0,b1,b2⟩:=hT
    have hxb:=hxT.below hbb
    clear e0 e1 e2 c0 c1 c2 c3 c4 c5 fz lt gl ne
    obtain⟨c0,c1,c2,c3,c4,c5,lt,fz,gl,ne,_,_⟩:=id hxb
    obtain⟨hxk,hbk⟩:=hxb.goes (k':=k+1) rfl hnx
    rw[show((k+1:Nat):Int)=(k:Int)+1 from rfl]at hxk hbk
    go_wp2_with fail
    have hsz:=hR.but.size
    have hwk:But r wr (wb.setCell ⟨r,1,none⟩ (.int .i64 ((k:Int)+1))):=((But.of_below hbT).trans (But.of_below hbb)).trans hbk
    have hbox:=fun(i:Nat)=>hbk.cell (b:=wt.heap.size) (o:=i) (by omega) (by omega)
    rw[←hbox 0]at b0
    rw[←hbox 1]at b1
    rw[←hbox 2]at b2
    generalize wb.setCell ⟨r,1,none⟩ (.int .i64 ((k:Int)+1))=wk at hwk hxk hbk hbox b0 b1 b2 ⊢
    clear hbox
    have hzk:=hwk.size
    have hOwn:=hR.own
    obtain⟨va,vn,vc,rfl⟩:=own_slice hOwn
    have hbxl:bx<wr.heap.size:=(Array.getElem?_eq_some_iff.1 hR.xb).1
    have hge:=hR.ge
    have hsh:=hR.short
    have hxbk:wk.heap[bx]?=some (expO .row p0 [] (.slice va vn vc) (.slice none 0 0) (.pointer none) 0 0):=(hwk.block bx hbxl (by omega)).trans hR.xb
    have x3:wk.cell? ⟨bx,3,none⟩=some (.slice va vn vc):=by simp only[World.cell?,hxbk];rfl
    have xf:wk.frozen? ⟨bx,3,none⟩=false:=by simp only[World.frozen?,hxbk];rfl
    have hO:wk.drew.ownsRow w.heap.size 83 1 (.slice va vn vc) l.ids.length (ptrC l.ids):=show wk.ownsRow w.heap.size 83 1 (.slice va vn vc) l.ids.length (ptrC l.ids) from hOwn.kept hwk.grown (.inr fun e=>by have:=hOwn.lt r e;omega)
    have hbxk:bx<wk.heap.size:=by omega
    have hbn:(Value.slice va vn vc).ownBlock≠some wt.heap.size:=fun e=>by have:=hOwn.lt _ e;omega
    have hbw:bx≠wt.heap.size:=by omega
    have hbw':wt.heap.size≠bx:=by omega
    have hboxk:wt.heap.size<wk.heap.size:=by have:=hbk.size;omega
    have hbv:(Value.slice va vn vc).ownBlock≠some bx:=fun e=>own_noExp hOwn (by decide) e _ _ hR.xb
    clear hbb hbT hbk hxT hxb c0 c1 c2 c3 c4 c5 fz lt gl ne hkb hv1
    refine wp_region_T (S:=fun W'=>W'.cell? ⟨wt.heap.size,0,none⟩=some (.string ⟨#[110,97,109,101]⟩)∧W'.cell? ⟨wt.heap.size,1,none⟩=some (vS (PredP.cut (bs s) t.pos t.to))∧W'.cell? ⟨wt.heap.size,2,none⟩=some (.int .i64 (t.pos:Int))∧W'.cell? ⟨bx,3,none⟩=some (.slice va vn vc)) (t:=17) (by kernel_rfl) ⟨b0,b1,b2,x3⟩ ?_
    intro hHeld
    refine wpAnyT_take (i:=0) (oi:=?o0n) (v:=?v0n) ?i0n (by kernel_rfl) (by kernel_rfl) ?p0n (Or.inl ⟨?w0n,?y0n⟩) hHeld ?_
    case i0n=>(simp only[List.getElem?_toArray,List.getElem?_cons_zero];rfl)
    case p0n=>exact fun _ _ _ h=>h
    case w0n=>rfl
    case y0n=>(intro W hSW;obtain⟨q0,q1,q2,q3⟩:=hSW;go_simp;(try with_reducible rfl))
    simp only[Act.put,pu3]
    refine wpAnyT_take (i:=1) (oi:=?o1n) (v:=?v1n) ?i1n (by kernel_rfl) (by kernel_rfl) ?p1n (Or.inl ⟨?w1n,?y1n⟩) hHeld ?_
    case i1n=>(simp only[gc3];rfl)
    case p1n=>exact fun _ _ _ h=>h
    case w1n=>rfl
    case y1n=>(intro W hSW;obtain⟨q0,q1,q2,q3⟩:=hSW;go_simp;(try with_reducible rfl))
    simp only[Act.put,pu3]
    refine wpAnyT_take (i:=2) (oi:=?o2n) (v:=?v2n) ?i2n (by kernel_rfl) (by kernel_rfl) ?p2n (Or.inl ⟨?w2n,?y2n⟩) hHeld ?_
    case i2n=>(simp only[gc3];rfl)
    case p2n=>exact fun _ _ _ h=>h
    case w2n=>rfl
    case y2n=>(intro W hSW;obtain⟨q0,q1,q2,q3⟩:=hSW;go_simp;(try with_reducible rfl))
    simp only[Act.put,pu3]
    refine wpAnyT_take (i:=3) (oi:=?o3n) (v:=?v3n) ?i3n (by kernel_rfl) (by kernel_rfl) ?p3n (Or.inl ⟨?w3n,?y3n⟩) hHeld ?_
    case i3n=>(simp only[gc3];rfl)
    case p3n=>exact fun _ _ _ h=>h
    case w3n=>rfl
    case y3n=>(intro W hSW;obtain⟨q0,q1,q2,q3⟩:=hSW;go_simp;(try with_reducible rfl))
    simp only[Act.put,pu3]
    refine wpAnyT_take (i:=4) (oi:=?o4n) (v:=?v4n) ?i4n (by kernel_rfl) (by kernel_rfl) ?p4n (Or.inl ⟨?w4n,?y4n⟩) hHeld ?_
    case i4n=>(simp only[gc3];rfl)
    case p4n=>exact fun _ _ _ h=>h
    case w4n=>rfl
    case y4n=>(intro W hSW;obtain⟨q0,q1,q2,q3⟩:=hSW;go_simp;(try with_reducible rfl))
    simp only[Act.put,pu3]
    refine wpAnyT_take (i:=5) (oi:=?o5n) (v:=?v5n) ?i5n (by kernel_rfl) (by kernel_rfl) ?p5n (Or.inl ⟨?w5n,?y5n⟩) hHeld ?_
    case i5n=>(simp only[gc3];rfl)
    case p5n=>exact fun _ _ _ h=>h
    case w5n=>rfl
    case y5n=>(intro W hSW;obtain⟨q0,q1,q2,q3⟩:=hSW;go_simp;(try with_reducible rfl))
    simp only[Act.put,pu3]
    refine wpAnyT_take (i:=6) (oi:=?o6n) (v:=?v6n) ?i6n (by kernel_rfl) (by kernel_rfl) ?p6n (Or.inl ⟨?w6n,?y6n⟩) hHeld ?_
    case i6n=>(simp only[gc3];rfl)
    case p6n=>exact fun _ _ _ h=>h
    case w6n=>rfl
    case y6n=>(intro W hSW;obtain⟨q0,q1,q2,q3⟩:=hSW;go_simp;(try with_reducible rfl))
    simp only[Act.put,pu3]
    refine wpAnyT_take (i:=7) (oi:=?o7n) (v:=?v7n) ?i7n (by kernel_rfl) (by kernel_rfl) ?p7n (Or.inl ⟨?w7n,?y7n⟩) hHeld ?_
    case i7n=>(simp only[gc3];rfl)
    case p7n=>exact fun _ _ _ h=>h
    case w7n=>rfl
    case y7n=>(intro W hSW;obtain⟨q0,q1,q2,q3⟩:=hSW;go_simp;(try with_reducible rfl))
    simp only[Act.put,pu3]
    refine wpAnyT_take (i:=8) (oi:=?o8n) (v:=?v8n) ?i8n (by kernel_rfl) (by kernel_rfl) ?p8n (Or.inl ⟨?w8n,?y8n⟩) hHeld ?_
    case i8n=>(simp only[gc3];rfl)
    case p8n=>exact fun _ _ _ h=>h
    case w8n=>rfl
    case y8n=>(intro W hSW;obtain⟨q0,q1,q2,q3⟩:=hSW;go_simp;(try with_reducible rfl))
    simp only[Act.put,pu3]
    refine wpAnyT_take (i:=9) (oi:=?o9n) (v:=?v9n) ?i9n (by kernel_rfl) (by kernel_rfl) ?p9n (Or.inl ⟨?w9n,?y9n⟩) hHeld ?_
    case i9n=>(simp only[gc3];rfl)
    case p9n=>exact fun _ _ _ h=>h
    case w9n=>rfl
    case y9n=>(intro W hSW;obtain⟨q0,q1,q2,q3⟩:=hSW;go_simp;(try with_reducible rfl))
    simp only[Act.put,pu3]
    refine wpAnyT_take (i:=10) (oi:=?o10n) (v:=?v10n) ?i10n (by kernel_rfl) (by kernel_rfl) ?p10n (Or.inl ⟨?w10n,?y10n⟩) hHeld ?_
    case i10n=>(simp only[gc3];rfl)
    case p10n=>exact fun _ _ _ h=>h
    case w10n=>rfl
    case y10n=>(intro W hSW;obtain⟨q0,q1,q2,q3⟩:=hSW;go_simp;(try with_reducible rfl))
    simp only[Act.put,pu3]
    refine wpAnyT_take (i:=11) (oi:=?o11n) (v:=?v11n) ?i11n (by kernel_rfl) (by kernel_rfl) ?p11n (Or.inl ⟨?w11n,?y11n⟩) hHeld ?_
    case i11n=>(simp only[gc3];rfl)
    case p11n=>exact fun _ _ _ h=>h
    case w11n=>rfl
    case y11n=>(intro W hSW;obtain⟨q0,q1,q2,q3⟩:=hSW;go_simp;(try with_reducible rfl))
    simp only[Act.put,pu3]
    refine wpAnyT_one (i:=12) (o:=?o12n) (by kernel_rfl) ?i12n (fun K hK=>?c12n)
    case i12n=>(simp only[gc3];rfl)
    go_simp
    refine hK.out _ _ (fun _=>⟨al (w:=wk.drew) b0,al (w:=wk.drew) b1,al (w:=wk.drew) b2,al (w:=wk.drew) x3⟩) ?_
    clear hK K
    try simp only[Act.put,pu3]
    refine wpAnyT_one (i:=13) (o:=?o13n) (by kernel_rfl) ?i13n (fun K hK=>?c13n)
    case i13n=>(simp only[gc3];rfl)
    go_simp
    refine hK.out _ _ (fun _=>⟨al (al (w:=wk.drew) b0),al (al (w:=wk.drew) b1),al (al (w:=wk.drew) b2),al (al (w:=wk.drew) x3)⟩) ?_
    clear hK K
    try simp only[Act.put,pu3]
    refine wpAnyT_one (i:=14) (o:=?o14n) (by kernel_rfl) ?i14n (fun K hK=>?c14n)
    case i14n=>(simp only[gc3];rfl)
    refine step_append_own_at rfl _ _ _ rfl w.heap.size 83 i0 (.pointer none) 1 8 (by kernel_rfl) hi hz0 hz1 hz2 rfl (by decide) _ l.ids.length (ptrC l.ids) rfl ((hO.alloc _).alloc _) _ 1 1 [_] rfl rfl (one_new2 _ _ _ _) (by simp[Value.oneCell']) (by unfold maxLen;omega) (by omega) (by simp;omega) ?_
    intro v' w2 hown2 hgrow2 hloc2
    obtain⟨g',cap',rfl⟩:=Joins.ownsRow_form hown2 (by omega)
    obtain⟨y3,yf⟩:=leaf_store hxbk (by omega) hbv hgrow2
    have y0:=leaf_box b0 hboxk hbn hgrow2
    have y1:=leaf_box b1 hboxk hbn hgrow2
    have y2:=leaf_box b2 hboxk hbn hgrow2
    refine hK.out _ _ (fun _=>⟨y0,y1,y2,y3⟩) ?_
    clear hK K
    try simp only[Act.put,pu3]
    refine wpAnyT_one (i:=15) (o:=?o15n) (by kernel_rfl) ?i15n (fun K hK=>?c15n)
    case i15n=>(simp only[gc3];rfl)
    go_simp
    refine hK.out _ _ (fun _=>⟨y0,y1,y2,y3⟩) ?_
    clear hK K
    try simp only[Act.put,pu3]
    refine wpAnyT_one (i:=16) (o:=?o16n) (by kernel_rfl) ?i16n (fun K hK=>?c16n)
    case i16n=>(simp only[gc3];rfl)
    go_simp
    refine hK.out _ _ (fun _=>⟨y0,y1,y2,y3⟩) ?_
    clear hK K
    try simp only[Act.put,pu3]
    refine wpAnyT_one (i:=17) (o:=?o17n) (by kernel_rfl) ?i17n (fun K hK=>?c17n)
    case i17n=>(simp only[gc3];rfl)
    go_simp
    refine hK.out _ _ (fun h=>absurd rfl h) ?_
    clear hK K
    try simp only[Act.put,pu3]
    refine wpAnyT_done (by kernel_rfl) ?_ _
    go_wp2_with fail
    obtain⟨hz1,hz2⟩:=leaf_step hR hs hr0 hg0 hwk hxk hv2 (op:=.name) (fun i=>by rw[PredP.xP];exact⟨i,rfl⟩) HL.out HQ.out hown2 hgrow2 hloc2 rfl
    exact⟨.inl hz1,hz2⟩
   by_cases h34:t.kind=34
   ·have hyes:=hide (isx_yes htk (by decide) h34)
    have HL:=hide (show t.last=false by simp[PredP.Tok.last,h34])
    have HQ:=hide (PredP.rowF_word (l:=bs s) (m:=m') (d:=d) h34)
    obtain⟨hv1,hv2⟩:=(leaf_text (t:=t) hs).2 h34
    have hkb:kindB t.kind=⟨#[119,111,114,100]⟩:=by rw[h34];rfl
    have hnx:=(PredP.toks_next htk).2 HL.out
    have hne97:=hide (isx_not htk (by decide) h97)
    clear h97 h34 htk
    go_wp2_with fail
    refine(is_any r g cap s k t d 0 0 _ hR.rd ⟨#[110,97,109,101]⟩ false (hide (isx_of hne97.out))).mono ?_
    rintro e w1 ⟨rfl,hb1⟩
    have hx1:=hR.rd.below hb1
    go_wp2_with fail
    refine(is_any r g cap s k t d 0 0 _ hx1 ⟨#[119,111,114,100]⟩ true (hide (isx_of hyes.out))).mono ?_
    rintro e w2 ⟨rfl,hb2⟩
    have hx2:=hx1.below hb2
    have hbT:Below wr.heap.size wr w1:=hb1
    have hbT:=hbT.trans (hb2.mono hbT.size)
    have hxT:=hx2
    have hzT:=hbT.size
    clear hb1 hb2 hx1 hx2
    obtain⟨wt,hwt⟩:∃wt,wt=w2:=⟨_,rfl⟩
    rw[←hwt]at hbT hxT hzT ⊢
    clear hwt
    obtain⟨e0,e1,e2,hkl⟩:=hxT.tok
    obtain⟨c0,c1,c2,c3,c4,c5,lt,fz,gl,ne,_,_⟩:=id hxT
    go_wp2_with fail
    go_region
    have hT:=one_new wt (.string ⟨#[119,111,114,100]⟩) (vS (PredP.cut (bs s) (t.pos+1) (t.to - 1))) (.int .i64 (t.pos:Int)) 81
    generalize (wt.alloc (.cells #[.string ⟨#[119,111,114,100]⟩,vS (PredP.cut (bs s) (t.pos+1) (t.to - 1)),.int .i64 (t.pos:Int)] 81)).drew=wb at hT ⊢
    obtain⟨hbb,hbs,b0,b1,b2⟩:=hT
    have hxb:=hxT.below hbb
    clear e0 e1 e2 c0 c1 c2 c3 c4 c5 fz lt gl ne
    obtain⟨c0,c1,c2,c3,c4,c5,lt,fz,gl,ne,_,_⟩:=id hxb
    obtain⟨hxk,hbk⟩:=hxb.goes (k':=k+1) rfl hnx
    rw[show((k+1:Nat):Int)=(k:Int)+1 from rfl]at hxk hbk
    go_wp2_with fail
    have hsz:=hR.but.size
    have hwk:But r wr (wb.setCell ⟨r,1,none⟩ (.int .i64 ((k:Int)+1))):=((But.of_below hbT).trans (But.of_below hbb)).trans hbk
    have hbox:=fun(i:Nat)=>hbk.cell (b:=wt.heap.size) (o:=i) (by omega) (by omega)
    rw[←hbox 0]at b0
    rw[←hbox 1]at b1
    rw[←hbox 2]at b2
    generalize wb.setCell ⟨r,1,none⟩ (.int .i64 ((k:Int)+1))=wk at hwk hxk hbk hbox b0 b1 b2 ⊢
    clear hbox
    have hzk:=hwk.size
    have hOwn:=hR.own
    obtain⟨va,vn,vc,rfl⟩:=own_slice hOwn
    have hbxl:bx<wr.heap.size:=(Array.getElem?_eq_some_iff.1 hR.xb).1
    have hge:=hR.ge
    have hsh:=hR.short
    have hxbk:wk.heap[bx]?=some (expO .row p0 [] (.slice va vn vc) (.slice none 0 0) (.pointer none) 0 0):=(hwk.block bx hbxl (by omega)).trans hR.xb
    have x3:wk.cell? ⟨bx,3,none⟩=some (.slice va vn vc):=by simp only[World.cell?,hxbk];rfl
    have xf:wk.frozen? ⟨bx,3,none⟩=false:=by simp only[World.frozen?,hxbk];rfl
    have hO:wk.drew.ownsRow w.heap.size 83 1 (.slice va vn vc) l.ids.length (ptrC l.ids):=show wk.ownsRow w.heap.size 83 1 (.slice va vn vc) l.ids.length (ptrC l.ids) from hOwn.kept hwk.grown (.inr fun e=>by have:=hOwn.lt r e;omega)
    have hbxk:bx<wk.heap.size:=by omega
    have hbn:(Value.slice va vn vc).ownBlock≠some wt.heap.size:=fun e=>by have:=hOwn.lt _ e;omega
    have hbw:bx≠wt.heap.size:=by omega
    have hbw':wt.heap.size≠bx:=by omega
    have hboxk:wt.heap.size<wk.heap.size:=by have:=hbk.size;omega
    have hbv:(Value.slice va vn vc).ownBlock≠some bx:=fun e=>own_noExp hOwn (by decide) e _ _ hR.xb
    clear hbb hbT hbk hxT hxb c0 c1 c2 c3 c4 c5 fz lt gl ne hkb hv1
    refine wp_region_T (S:=fun W'=>W'.cell? ⟨wt.heap.size,0,none⟩=some (.string ⟨#[119,111,114,100]⟩)∧W'.cell? ⟨wt.heap.size,1,none⟩=some (vS (PredP.cut (bs s) (t.pos+1) (t.to - 1)))∧W'.cell? ⟨wt.heap.size,2,none⟩=some (.int .i64 (t.pos:Int))∧W'.cell? ⟨bx,3,none⟩=some (.slice va vn vc)) (t:=17) (by kernel_rfl) ⟨b0,b1,b2,x3⟩ ?_
    intro hHeld
    refine wpAnyT_take (i:=0) (oi:=?o0w) (v:=?v0w) ?i0w (by kernel_rfl) (by kernel_rfl) ?p0w (Or.inl ⟨?w0w,?y0w⟩) hHeld ?_
    case i0w=>(simp only[List.getElem?_toArray,List.getElem?_cons_zero];rfl)
    case p0w=>exact fun _ _ _ h=>h
    case w0w=>rfl
    case y0w=>(intro W hSW;obtain⟨q0,q1,q2,q3⟩:=hSW;go_simp;(try with_reducible rfl))
    simp only[Act.put,pu3]
    refine wpAnyT_take (i:=1) (oi:=?o1w) (v:=?v1w) ?i1w (by kernel_rfl) (by kernel_rfl) ?p1w (Or.inl ⟨?w1w,?y1w⟩) hHeld ?_
    case i1w=>(simp only[gc3];rfl)
    case p1w=>exact fun _ _ _ h=>h
    case w1w=>rfl
    case y1w=>(intro W hSW;obtain⟨q0,q1,q2,q3⟩:=hSW;go_simp;(try with_reducible rfl))
    simp only[Act.put,pu3]
    refine wpAnyT_take (i:=2) (oi:=?o2w) (v:=?v2w) ?i2w (by kernel_rfl) (by kernel_rfl) ?p2w (Or.inl ⟨?w2w,?y2w⟩) hHeld ?_
    case i2w=>(simp only[gc3];rfl)
    case p2w=>exact fun _ _ _ h=>h
    case w2w=>rfl
    case y2w=>(intro W hSW;obtain⟨q0,q1,q2,q3⟩:=hSW;go_simp;(try with_reducible rfl))
    simp only[Act.put,pu3]
    refine wpAnyT_take (i:=3) (oi:=?o3w) (v:=?v3w) ?i3w (by kernel_rfl) (by kernel_rfl) ?p3w (Or.inl ⟨?w3w,?y3w⟩) hHeld ?_
    case i3w=>(simp only[gc3];rfl)
    case p3w=>exact fun _ _ _ h=>h
    case w3w=>rfl
    case y3w=>(intro W hSW;obtain⟨q0,q1,q2,q3⟩:=hSW;go_simp;(try with_reducible rfl))
    simp only[Act.put,pu3]
    refine wpAnyT_take (i:=4) (oi:=?o4w) (v:=?v4w) ?i4w (by kernel_rfl) (by kernel_rfl) ?p4w (Or.inl ⟨?w4w,?y4w⟩) hHeld ?_
    case i4w=>(simp only[gc3];rfl)
    case p4w=>exact fun _ _ _ h=>h
    case w4w=>rfl
    case y4w=>(intro W hSW;obtain⟨q0,q1,q2,q3⟩:=hSW;go_simp;(try with_reducible rfl))
    simp only[Act.put,pu3]
    refine wpAnyT_take (i:=5) (oi:=?o5w) (v:=?v5w) ?i5w (by kernel_rfl) (by kernel_rfl) ?p5w (Or.inl ⟨?w5w,?y5w⟩) hHeld ?_
    case i5w=>(simp only[gc3];rfl)
    case p5w=>exact fun _ _ _ h=>h
    case w5w=>rfl
    case y5w=>(intro W hSW;obtain⟨q0,q1,q2,q3⟩:=hSW;go_simp;(try with_reducible rfl))
    simp only[Act.put,pu3]
    refine wpAnyT_take (i:=6) (oi:=?o6w) (v:=?v6w) ?i6w (by kernel_rfl) (by kernel_rfl) ?p6w (Or.inl ⟨?w6w,?y6w⟩) hHeld ?_
    case i6w=>(simp only[gc3];rfl)
    case p6w=>exact fun _ _ _ h=>h
    case w6w=>rfl
    case y6w=>(intro W hSW;obtain⟨q0,q1,q2,q3⟩:=hSW;go_simp;(try with_reducible rfl))
    simp only[Act.put,pu3]
    refine wpAnyT_take (i:=7) (oi:=?o7w) (v:=?v7w) ?i7w (by kernel_rfl) (by kernel_rfl) ?p7w (Or.inl ⟨?w7w,?y7w⟩) hHeld ?_
    case i7w=>(simp only[gc3];rfl)
    case p7w=>exact fun _ _ _ h=>h
    case w7w=>rfl
    case y7w=>(intro W hSW;obtain⟨q0,q1,q2,q3⟩:=hSW;go_simp;(try with_reducible rfl))
    simp only[Act.put,pu3]
    refine wpAnyT_take (i:=8) (oi:=?o8w) (v:=?v8w) ?i8w (by kernel_rfl) (by kernel_rfl) ?p8w (Or.inl ⟨?w8w,?y8w⟩) hHeld ?_
    case i8w=>(simp only[gc3];rfl)
    case p8w=>exact fun _ _ _ h=>h
    case w8w=>rfl
    case y8w=>(intro W hSW;obtain⟨q0,q1,q2,q3⟩:=hSW;go_simp;(try with_reducible rfl))
    simp only[Act.put,pu3]
    refine wpAnyT_take (i:=9) (oi:=?o9w) (v:=?v9w) ?i9w (by kernel_rfl) (by kernel_rfl) ?p9w (Or.inl ⟨?w9w,?y9w⟩) hHeld ?_
    case i9w=>(simp only[gc3];rfl)
    case p9w=>exact fun _ _ _ h=>h
    case w9w=>rfl
    case y9w=>(intro W hSW;obtain⟨q0,q1,q2,q3⟩:=hSW;go_simp;(try with_reducible rfl))
    simp only[Act.put,pu3]
    refine wpAnyT_take (i:=10) (oi:=?o10w) (v:=?v10w) ?i10w (by kernel_rfl) (by kernel_rfl) ?p10w (Or.inl ⟨?w10w,?y10w⟩) hHeld ?_
    case i10w=>(simp only[gc3];rfl)
    case p10w=>exact fun _ _ _ h=>h
    case w10w=>rfl
    case y10w=>(intro W hSW;obtain⟨q0,q1,q2,q3⟩:=hSW;go_simp;(try with_reducible rfl))
    simp only[Act.put,pu3]
    refine wpAnyT_take (i:=11) (oi:=?o11w) (v:=?v11w) ?i11w (by kernel_rfl) (by kernel_rfl) ?p11w (Or.inl ⟨?w11w,?y11w⟩) hHeld ?_
    case i11w=>(simp only[gc3];rfl)
    case p11w=>exact fun _ _ _ h=>h
    case w11w=>rfl
    case y11w=>(intro W hSW;obtain⟨q0,q1,q2,q3⟩:=hSW;go_simp;(try with_reducible rfl))
    simp only[Act.put,pu3]
    refine wpAnyT_one (i:=12) (o:=?o12w) (by kernel_rfl) ?i12w (fun K hK=>?c12w)
    case i12w=>(simp only[gc3];rfl)
    go_simp
    refine hK.out _ _ (fun _=>⟨al (w:=wk.drew) b0,al (w:=wk.drew) b1,al (w:=wk.drew) b2,al (w:=wk.drew) x3⟩) ?_
    clear hK K
    try simp only[Act.put,pu3]
    refine wpAnyT_one (i:=13) (o:=?o13w) (by kernel_rfl) ?i13w (fun K hK=>?c13w)
    case i13w=>(simp only[gc3];rfl)
    go_simp
    refine hK.out _ _ (fun _=>⟨al (al (w:=wk.drew) b0),al (al (w:=wk.drew) b1),al (al (w:=wk.drew) b2),al (al (w:=wk.drew) x3)⟩) ?_
    clear hK K
    try simp only[Act.put,pu3]
    refine wpAnyT_one (i:=14) (o:=?o14w) (by kernel_rfl) ?i14w (fun K hK=>?c14w)
    case i14w=>(simp only[gc3];rfl)
    refine step_append_own_at rfl _ _ _ rfl w.heap.size 83 i0 (.pointer none) 1 8 (by kernel_rfl) hi hz0 hz1 hz2 rfl (by decide) _ l.ids.length (ptrC l.ids) rfl ((hO.alloc _).alloc _) _ 1 1 [_] rfl rfl (one_new2 _ _ _ _) (by simp[Value.oneCell']) (by unfold maxLen;omega) (by omega) (by simp;omega) ?_
    intro v' w2 hown2 hgrow2 hloc2
    obtain⟨g',cap',rfl⟩:=Joins.ownsRow_form hown2 (by omega)
    obtain⟨y3,yf⟩:=leaf_store hxbk (by omega) hbv hgrow2
    have y0:=leaf_box b0 hboxk hbn hgrow2
    have y1:=leaf_box b1 hboxk hbn hgrow2
    have y2:=leaf_box b2 hboxk hbn hgrow2
    refine hK.out _ _ (fun _=>⟨y0,y1,y2,y3⟩) ?_
    clear hK K
    try simp only[Act.put,pu3]
    refine wpAnyT_one (i:=15) (o:=?o15w) (by kernel_rfl) ?i15w (fun K hK=>?c15w)
    case i15w=>(simp only[gc3];rfl)
    go_simp
    refine hK.out _ _ (fun _=>⟨y0,y1,y2,y3⟩) ?_
    clear hK K
    try simp only[Act.put,pu3]
    refine wpAnyT_one (i:=16) (o:=?o16w) (by kernel_rfl) ?i16w (fun K hK=>?c16w)
    case i16w=>(simp only[gc3];rfl)
    go_simp
    refine hK.out _ _ (fun _=>⟨y0,y1,y2,y3⟩) ?_
    clear hK K
    try simp only[Act.put,pu3]
    refine wpAnyT_one (i:=17) (o:=?o17w) (by kernel_rfl) ?i17w (fun K hK=>?c17w)
    case i17w=>(simp only[gc3];rfl)
    go_simp
    refine hK.out _ _ (fun h=>absurd rfl h) ?_
    clear hK K
    try simp only[Act.put,pu3]
    refine wpAnyT_done (by kernel_rfl) ?_ _
    go_wp2_with fail
    obtain⟨hz1,hz2⟩:=leaf_step hR hs hr0 hg0 hwk hxk hv2 (op:=.word) (fun i=>by rw[PredP.xP];exact⟨i,_,rfl⟩) HL.out HQ.out hown2 hgrow2 hloc2 rfl
    exact⟨.inl hz1,hz2⟩
   cases hk:PredP.brOf t.kind with
   | none =>
    obtain⟨n40,n91,n123⟩:=br_none hk
    have hne97:=hide (isx_not htk (by decide) h97)
    have hne34:=hide (isx_not htk (by decide) h34)
    have hne91:=hide (isx_not htk (by decide) n91)
    have hne123:=hide (isx_not htk (by decide) n123)
    have hne40:=hide (isx_not htk (by decide) n40)
    have HE:=hide (fun wt hb=>hR.ends (wt:=wt) hb h97 h34 hk)
    clear h97 h34 hk n40 n91 n123 htk
    go_wp2_with fail
    refine(is_any r g cap s k t d 0 0 _ hR.rd ⟨#[110,97,109,101]⟩ false (hide (isx_of hne97.out))).mono ?_
    rintro e w1 ⟨rfl,hb1⟩
    have hx1:=hR.rd.below hb1
    go_wp2_with fail
    refine(is_any r g cap s k t d 0 0 _ hx1 ⟨#[119,111,114,100]⟩ false (hide (isx_of hne34.out))).mono ?_
    rintro e w2 ⟨rfl,hb2⟩
    have hx2:=hx1.below hb2
    go_wp2_with fail
    refine(is_any r g cap s k t d 0 0 _ hx2 ⟨#[91]⟩ false (hide (isx_of hne91.out))).mono ?_
    rintro e w3 ⟨rfl,hb3⟩
    have hx3:=hx2.below hb3
    go_wp2_with fail
    refine(is_any r g cap s k t d 0 0 _ hx3 ⟨#[123]⟩ false (hide (isx_of hne123.out))).mono ?_
    rintro e w4 ⟨rfl,hb4⟩
    have hx4:=hx3.below hb4
    go_wp2_with fail
    refine(is_any r g cap s k t d 0 0 _ hx4 ⟨#[40]⟩ false (hide (isx_of hne40.out))).mono ?_
    rintro e w5 ⟨rfl,hb5⟩
    have hx5:=hx4.below hb5
    have hbT:Below wr.heap.size wr w1:=hb1
    have hbT:=hbT.trans (hb2.mono hbT.size)
    have hbT:=hbT.trans (hb3.mono hbT.size)
    have hbT:=hbT.trans (hb4.mono hbT.size)
    have hbT:=hbT.trans (hb5.mono hbT.size)
    have hxT:=hx5
    have hzT:=hbT.size
    clear hb1 hb2 hb3 hb4 hb5 hx1 hx2 hx3 hx4 hx5
    obtain⟨wt,hwt⟩:∃wt,wt=w5:=⟨_,rfl⟩
    rw[←hwt]at hbT hxT hzT ⊢
    clear hwt
    go_wp2_with fail
    go_ret
    exact HE.out _ hbT
   | some q =>
    rcases xbr_some hk with hKq | hKq | hKq
    ·obtain⟨hK,hQe⟩:=hKq
     subst hQe
     have hyes:=hide (isx_yes htk (by decide) hK)
     have hne97:=hide (isx_not htk (by decide) (show t.kind≠97 by omega))
     have hne34:=hide (isx_not htk (by decide) (show t.kind≠34 by omega))
     have HL:=hide (show t.last=false by simp[PredP.Tok.last,hK])
     have hkb:kindB t.kind=⟨#[91]⟩:=by rw[hK];rfl
     have htb:textB s t=⟨#[]⟩:=by unfold textB;rw[if_neg (by omega),if_neg (by omega)]
     have hnx:=(PredP.toks_next htk).2 HL.out
     have HBR:=hide hk
     clear h97 h34 hk hK htk
     go_wp2_with fail
     refine(is_any r g cap s k t d 0 0 _ hR.rd ⟨#[110,97,109,101]⟩ false (hide (isx_of hne97.out))).mono ?_
     rintro e w1 ⟨rfl,hb1⟩
     have hx1:=hR.rd.below hb1
     go_wp2_with fail
     refine(is_any r g cap s k t d 0 0 _ hx1 ⟨#[119,111,114,100]⟩ false (hide (isx_of hne34.out))).mono ?_
     rintro e w2 ⟨rfl,hb2⟩
     have hx2:=hx1.below hb2
     go_wp2_with fail
     refine(is_any r g cap s k t d 0 0 _ hx2 ⟨#[91]⟩ true (hide (isx_of hyes.out))).mono ?_
     rintro e w3 ⟨rfl,hb3⟩
     have hx3:=hx2.below hb3
     have hbT:Below wr.heap.size wr w1:=hb1
     have hbT:=hbT.trans (hb2.mono hbT.size)
     have hbT:=hbT.trans (hb3.mono hbT.size)
     have hxT:=hx3
     have hzT:=hbT.size
     clear hb1 hb2 hb3 hx1 hx2 hx3
     obtain⟨wt,hwt⟩:∃wt,wt=w3:=⟨_,rfl⟩
     rw[←hwt]at hbT hxT hzT ⊢
     clear hwt
     obtain⟨e0,e1,e2,hkl⟩:=hxT.tok
     obtain⟨c0,c1,c2,c3,c4,c5,lt,fz,gl,ne,_,_⟩:=id hxT
     go_wp2_with fail
     go_region
     have hT:=one_new wt (.string ⟨#[91]⟩) (.string ⟨#[]⟩) (.int .i64 (t.pos:Int)) 81
     generalize (wt.alloc (.cells #[.string ⟨#[91]⟩,.string ⟨#[]⟩,.int .i64 (t.pos:Int)] 81)).drew=wb at hT ⊢
     obtain⟨hbb,hbs,b0,b1,b2⟩:=hT
     have hxb:=hxT.below hbb
     clear e0 e1 e2 c0 c1 c2 c3 c4 c5 fz lt gl ne
     obtain⟨c0,c1,c2,c3,c4,c5,lt,fz,gl,ne,_,_⟩:=id hxb
     clear hkb htb
     have hsz:=hR.but.size
     have hbsz:=hbb.size
     by_cases hd10:d=10
     ·subst hd10
      have HO:Hid (o=.bad t.pos true):=by
       show _=_
       rw[hR.out,PredP.rowF_bad HBR.out (by unfold PredP.brF;rw[if_pos rfl])];rfl
      have HB0:=hide ((hR.but.trans (But.of_below hbT)).trans (But.of_below hbb))
      go_wp2_with (go_at_call 52;refine(wrong_first r g cap s k t 10 0 _ hxb 5).mono ?_;rintro e w5 ⟨rfl,hx5,hb5⟩)
      go_ret
      refine⟨HB0.out.trans hb5,bx,rfl,hR.ge,?_⟩
      rw[HO.out]
      exact⟨k,t,hx5⟩
     ·have hdi:((d:Int)==10)=false:=by simp;omega
      have hen:=PredP.Enough.next hR.enough (PredP.toks_next hR.rd.tk).1.fits (PredP.last_false HL.out)
      obtain⟨m2,rfl⟩:∃m2,m'=m2+1:=⟨m' - 1,by have:=hen.2;omega⟩
      have HEN:=hide hen.1
      have HCH:=hide (hbr.out m2 (by have:=hR.le;omega))
      clear hen
      obtain⟨hxk,hbk⟩:=hxb.goes (k':=k+1) rfl hnx
      obtain⟨hxd,hbd⟩:=hxk.deeps (d':=d+1) rfl
      have hbd:=hbk.trans hbd
      rw[show((k+1:Nat):Int)=(k:Int)+1 from rfl,show((d+1:Nat):Int)=(d:Int)+1 from rfl]at hxd hbd
      clear hbk hxk
      go_wp2_with fail
      generalize (wb.setCell ⟨r,1,none⟩ (.int .i64 ((k:Int)+1))).setCell ⟨r,2,none⟩ (.int .i64 ((d:Int)+1))=wd at hxd hbd ⊢
      clear c0 c1 c2 c3 c4 c5 fz
      have hzd:=hbd.size
      refine(HCH.out r g cap (k+1) _ (d+1) _ hxd (by omega) HEN.out).mono ?_
      intro e wc hpost
      obtain⟨i,k2,t2,what2,pos2,rfl,hbc,hic,hxc,HCase⟩:=hpost.post
      clear hpost
      have hzc:=hbc.size
      have hbdc:=hbd.trans hbc
      have y0:=(hbdc.cell (b:=wt.heap.size) (o:=0) (by omega) (by omega)).trans b0
      have y1:=(hbdc.cell (b:=wt.heap.size) (o:=1) (by omega) (by omega)).trans b1
      have y2:=(hbdc.cell (b:=wt.heap.size) (o:=2) (by omega) (by omega)).trans b2
      have hwc:But r wr wc:=((But.of_below hbT).trans (But.of_below hbb)).trans hbdc
      clear b0 b1 b2
      have c2:=hxc.c2
      have fz:=hxc.fz
      have ltr:=hxc.lt
      go_wp2_with fail
      obtain⟨hx3,hb3⟩:=hxc.deeps (d':=d) rfl
      generalize wc.setCell ⟨r,2,none⟩ (.int .i64 (d:Int))=we at hx3 hb3 ⊢
      clear hxc c2 fz ltr
      have hz3:=hb3.size
      refine(need_out r g cap s k2 t2 d what2 pos2 _ hx3 hs 93 (by decide) (by decide)).mono ?_
      rintro e wn ⟨rfl,hbn,k3,t3,what3,pos3,hx4,hn1,hn2,hn3⟩
      have HOUT:=hide (xbr_out (q:=.opt) (P:=fun ex=>∃x:PredP.X,x.id=i∧PredP.xE ex x∧NewX wd.heap.size wc x) hd10 HCase.out hn1 hn2 hn3)
      clear HCase hn1 hn2 hn3
      have hzn:=hbn.size
      have hb3n:=hb3.trans hbn
      have hwn:But r wr wn:=hwc.trans hb3n
      have z0:=(hb3n.cell (b:=wt.heap.size) (o:=0) (by omega) (by omega)).trans y0
      have z2:=(hb3n.cell (b:=wt.heap.size) (o:=2) (by omega) (by omega)).trans y2
      have hbxl:bx<wr.heap.size:=(Array.getElem?_eq_some_iff.1 hR.xb).1
      have hge:=hR.ge
      have hsh:=hR.short
      have hxbn:wn.heap[bx]?=some (expO .row p0 [] v (.slice none 0 0) (.pointer none) 0 0):=(hwn.block bx hbxl (by omega)).trans hR.xb
      have x3:wn.cell? ⟨bx,3,none⟩=some v:=by simp only[World.cell?,hxbn];rfl
      have hOwn:=hR.own
      have hO:wn.ownsRow w.heap.size 83 1 v l.ids.length (ptrC l.ids):=hOwn.kept hwn.grown (.inr fun e=>by have:=hOwn.lt r e;omega)
      have hbv:v.ownBlock≠some bx:=fun e=>own_noExp hOwn (by decide) e _ _ hR.xb
      have HXB:=hide hxbn
      have HXD:=hide hxd
      clear y0 y1 y2 hxd hxbn hbT hbb hxT hxb
      have hBW:Below wn.heap.size wn (((wn.alloc (.cells #[.pointer (some ⟨i,0,none⟩)] 83)).alloc (expO .opt t.pos [] (.slice (some ⟨wn.heap.size,0,none⟩) 1 1) (.slice none 0 0) (.pointer none) 0 0)).alloc (.cells #[.pointer (some ⟨wn.heap.size+1,0,none⟩)] 83)):=(((Below.refl _ wn).alloc (Nat.le_refl _) _).alloc (by simp) _).alloc (by simp;omega) _
      have HBX:=hide (fun(o:Obj×Obj×Obj)=>((Below.heap_alloc ((wn.alloc o.1).alloc o.2.1) o.2.2 bx (by simp;omega)).trans ((Below.heap_alloc (wn.alloc o.1) o.2.1 bx (by simp;omega)).trans (Below.heap_alloc wn o.1 bx (by omega)))).trans HXB.out)
      have x3a:∀(o o':Obj),((wn.alloc o).alloc o').cell? ⟨bx,3,none⟩=some v:=fun o o'=>al (al x3)
      go_wp2_with (at_builtin;refine wpList_append_own_at _ rfl _ _ _ rfl w.heap.size 83 i0 (.pointer none) 1 8 (by kernel_rfl) hi hz0 hz1 hz2 rfl (by decide) _ l.ids.length (ptrC l.ids) rfl (((hO.alloc _).alloc _).alloc _) _ 1 1 [_] rfl rfl (one_new3 _ _ _ _ _) (by simp[Value.oneCell']) (by unfold maxLen;omega) (by omega) (by simp;omega) ?_;intro v' w2 hown2 hgrow2 _ hloc2;obtain⟨g',cap',rfl⟩:=Joins.ownsRow_form hown2 (by omega);obtain⟨y3,yf⟩:=grow_store (HBX.out ⟨_,_,_⟩) hbv hgrow2)
      rcases HOUT.out with ⟨pb,bb,hbad,e1,e2⟩ | ⟨ex,hok,e1,e2,x,hxi,hxe,hxn⟩
      ·subst e1 e2
       obtain⟨a1,a2⟩:=hR.grow hr0 hg0 (hwn.trans (But.of_below hBW)) (hx4.below hBW) hgrow2 rfl
       obtain⟨u1,u2⟩:=xbad_step hR hs HBR.out hbad a1 a2
       exact⟨.inr u1,u2⟩
      ·subst e1 e2 hxi
       have hX:NewX wr.heap.size wn x:=(hxn.but hb3n (by omega)).low (by omega)
       have hWx:=(hX.wrap (op:=.opt) (p:=t.pos) (by omega)).below ((Below.refl _ _).alloc (Nat.le_refl _) (.cells #[.pointer (some ⟨wn.heap.size+1,0,none⟩)] 83))
       obtain⟨u1,u2⟩:=xbr_step hR hs hr0 hg0 (hwn.trans (But.of_below hBW)) (hx4.below hBW) hWx (by rw[PredP.xP];exact⟨_,_,rfl,hxe⟩) HBR.out hok hown2 hgrow2 hloc2 rfl
       exact⟨.inl u1,u2⟩
    ·obtain⟨hK,hQe⟩:=hKq
     subst hQe
     have hyes:=hide (isx_yes htk (by decide) hK)
     have hne97:=hide (isx_not htk (by decide) (show t.kind≠97 by omega))
     have hne34:=hide (isx_not htk (by decide) (show t.kind≠34 by omega))
     have hne91:=hide (isx_not htk (by decide) (show t.kind≠91 by omega))
     have HL:=hide (show t.last=false by simp[PredP.Tok.last,hK])
     have hkb:kindB t.kind=⟨#[123]⟩:=by rw[hK];rfl
     have htb:textB s t=⟨#[]⟩:=by unfold textB;rw[if_neg (by omega),if_neg (by omega)]
     have hnx:=(PredP.toks_next htk).2 HL.out
     have HBR:=hide hk
     clear h97 h34 hk hK htk
     go_wp2_with fail
     refine(is_any r g cap s k t d 0 0 _ hR.rd ⟨#[110,97,109,101]⟩ false (hide (isx_of hne97.out))).mono ?_
     rintro e w1 ⟨rfl,hb1⟩
     have hx1:=hR.rd.below hb1
     go_wp2_with fail
     refine(is_any r g cap s k t d 0 0 _ hx1 ⟨#[119,111,114,100]⟩ false (hide (isx_of hne34.out))).mono ?_
     rintro e w2 ⟨rfl,hb2⟩
     have hx2:=hx1.below hb2
     go_wp2_with fail
     refine(is_any r g cap s k t d 0 0 _ hx2 ⟨#[91]⟩ false (hide (isx_of hne91.out))).mono ?_
     rintro e w3 ⟨rfl,hb3⟩
     have hx3:=hx2.below hb3
     go_wp2_with fail
     refine(is_any r g cap s k t d 0 0 _ hx3 ⟨#[123]⟩ true (hide (isx_of hyes.out))).mono ?_
     rintro e w4 ⟨rfl,hb4⟩
     have hx4:=hx3.below hb4
     have hbT:Below wr.heap.size wr w1:=hb1
     have hbT:=hbT.trans (hb2.mono hbT.size)
     have hbT:=hbT.trans (hb3.mono hbT.size)
     have hbT:=hbT.trans (hb4.mono hbT.size)
     have hxT:=hx4
     have hzT:=hbT.size
     clear hb1 hb2 hb3 hb4 hx1 hx2 hx3 hx4
     obtain⟨wt,hwt⟩:∃wt,wt=w4:=⟨_,rfl⟩
     rw[←hwt]at hbT hxT hzT ⊢
     clear hwt
     obtain⟨e0,e1,e2,hkl⟩:=hxT.tok
     obtain⟨c0,c1,c2,c3,c4,c5,lt,fz,gl,ne,_,_⟩:=id hxT
     go_wp2_with fail
     go_region
     have hT:=one_new wt (.string ⟨#[123]⟩) (.string ⟨#[]⟩) (.int .i64 (t.pos:Int)) 81
     generalize (wt.alloc (.cells #[.string ⟨#[123]⟩,.string ⟨#[]⟩,.int .i64 (t.pos:Int)] 81)).drew=wb at hT ⊢
     obtain⟨hbb,hbs,b0,b1,b2⟩:=hT
     have hxb:=hxT.below hbb
     clear e0 e1 e2 c0 c1 c2 c3 c4 c5 fz lt gl ne
     obtain⟨c0,c1,c2,c3,c4,c5,lt,fz,gl,ne,_,_⟩:=id hxb
     clear hkb htb
     have hsz:=hR.but.size
     have hbsz:=hbb.size
     by_cases hd10:d=10
     ·subst hd10
      have HO:Hid (o=.bad t.pos true):=by
       show _=_
       rw[hR.out,PredP.rowF_bad HBR.out (by unfold PredP.brF;rw[if_pos rfl])];rfl
      have HB0:=hide ((hR.but.trans (But.of_below hbT)).trans (But.of_below hbb))
      go_wp2_with (go_at_call 52;refine(wrong_first r g cap s k t 10 0 _ hxb 5).mono ?_;rintro e w5 ⟨rfl,hx5,hb5⟩)
      go_ret
      refine⟨HB0.out.trans hb5,bx,rfl,hR.ge,?_⟩
      rw[HO.out]
      exact⟨k,t,hx5⟩
     ·have hdi:((d:Int)==10)=false:=by simp;omega
      have hen:=PredP.Enough.next hR.enough (PredP.toks_next hR.rd.tk).1.fits (PredP.last_false HL.out)
      obtain⟨m2,rfl⟩:∃m2,m'=m2+1:=⟨m' - 1,by have:=hen.2;omega⟩
      have HEN:=hide hen.1
      have HCH:=hide (hbr.out m2 (by have:=hR.le;omega))
      clear hen
      obtain⟨hxk,hbk⟩:=hxb.goes (k':=k+1) rfl hnx
      obtain⟨hxd,hbd⟩:=hxk.deeps (d':=d+1) rfl
      have hbd:=hbk.trans hbd
      rw[show((k+1:Nat):Int)=(k:Int)+1 from rfl,show((d+1:Nat):Int)=(d:Int)+1 from rfl]at hxd hbd
      clear hbk hxk
      go_wp2_with fail
      generalize (wb.setCell ⟨r,1,none⟩ (.int .i64 ((k:Int)+1))).setCell ⟨r,2,none⟩ (.int .i64 ((d:Int)+1))=wd at hxd hbd ⊢
      clear c0 c1 c2 c3 c4 c5 fz
      have hzd:=hbd.size
      refine(HCH.out r g cap (k+1) _ (d+1) _ hxd (by omega) HEN.out).mono ?_
      intro e wc hpost
      obtain⟨i,k2,t2,what2,pos2,rfl,hbc,hic,hxc,HCase⟩:=hpost.post
      clear hpost
      have hzc:=hbc.size
      have hbdc:=hbd.trans hbc
      have y0:=(hbdc.cell (b:=wt.heap.size) (o:=0) (by omega) (by omega)).trans b0
      have y1:=(hbdc.cell (b:=wt.heap.size) (o:=1) (by omega) (by omega)).trans b1
      have y2:=(hbdc.cell (b:=wt.heap.size) (o:=2) (by omega) (by omega)).trans b2
      have hwc:But r wr wc:=((But.of_below hbT).trans (But.of_below hbb)).trans hbdc
      clear b0 b1 b2
      have c2:=hxc.c2
      have fz:=hxc.fz
      have ltr:=hxc.lt
      go_wp2_with fail
      obtain⟨hx3,hb3⟩:=hxc.deeps (d':=d) rfl
      generalize wc.setCell ⟨r,2,none⟩ (.int .i64 (d:Int))=we at hx3 hb3 ⊢
      clear hxc c2 fz ltr
      have hz3:=hb3.size
      refine(need_out r g cap s k2 t2 d what2 pos2 _ hx3 hs 125 (by decide) (by decide)).mono ?_
      rintro e wn ⟨rfl,hbn,k3,t3,what3,pos3,hx4,hn1,hn2,hn3⟩
      have HOUT:=hide (xbr_out (q:=.loop) (P:=fun ex=>∃x:PredP.X,x.id=i∧PredP.xE ex x∧NewX wd.heap.size wc x) hd10 HCase.out hn1 hn2 hn3)
      clear HCase hn1 hn2 hn3
      have hzn:=hbn.size
      have hb3n:=hb3.trans hbn
      have hwn:But r wr wn:=hwc.trans hb3n
      have z0:=(hb3n.cell (b:=wt.heap.size) (o:=0) (by omega) (by omega)).trans y0
      have z2:=(hb3n.cell (b:=wt.heap.size) (o:=2) (by omega) (by omega)).trans y2
      have hbxl:bx<wr.heap.size:=(Array.getElem?_eq_some_iff.1 hR.xb).1
      have hge:=hR.ge
      have hsh:=hR.short
      have hxbn:wn.heap[bx]?=some (expO .row p0 [] v (.slice none 0 0) (.pointer none) 0 0):=(hwn.block bx hbxl (by omega)).trans hR.xb
      have x3:wn.cell? ⟨bx,3,none⟩=some v:=by simp only[World.cell?,hxbn];rfl
      have hOwn:=hR.own
      have hO:wn.ownsRow w.heap.size 83 1 v l.ids.length (ptrC l.ids):=hOwn.kept hwn.grown (.inr fun e=>by have:=hOwn.lt r e;omega)
      have hbv:v.ownBlock≠some bx:=fun e=>own_noExp hOwn (by decide) e _ _ hR.xb
      have HXB:=hide hxbn
      have HXD:=hide hxd
      clear y0 y1 y2 hxd hxbn hbT hbb hxT hxb
      have hBW:Below wn.heap.size wn (((wn.alloc (.cells #[.pointer (some ⟨i,0,none⟩)] 83)).alloc (expO .loop t.pos [] (.slice (some ⟨wn.heap.size,0,none⟩) 1 1) (.slice none 0 0) (.pointer none) 0 0)).alloc (.cells #[.pointer (some ⟨wn.heap.size+1,0,none⟩)] 83)):=(((Below.refl _ wn).alloc (Nat.le_refl _) _).alloc (by simp) _).alloc (by simp;omega) _
      have HBX:=hide (fun(o:Obj×Obj×Obj)=>((Below.heap_alloc ((wn.alloc o.1).alloc o.2.1) o.2.2 bx (by simp;omega)).trans ((Below.heap_alloc (wn.alloc o.1) o.2.1 bx (by simp;omega)).trans (Below.heap_alloc wn o.1 bx (by omega)))).trans HXB.out)
      have x3a:∀(o o':Obj),((wn.alloc o).alloc o').cell? ⟨bx,3,none⟩=some v:=fun o o'=>al (al x3)
      go_wp2_with (at_builtin;refine wpList_append_own_at _ rfl _ _ _ rfl w.heap.size 83 i0 (.pointer none) 1 8 (by kernel_rfl) hi hz0 hz1 hz2 rfl (by decide) _ l.ids.length (ptrC l.ids) rfl (((hO.alloc _).alloc _).alloc _) _ 1 1 [_] rfl rfl (one_new3 _ _ _ _ _) (by simp[Value.oneCell']) (by unfold maxLen;omega) (by omega) (by simp;omega) ?_;intro v' w2 hown2 hgrow2 _ hloc2;obtain⟨g',cap',rfl⟩:=Joins.ownsRow_form hown2 (by omega);obtain⟨y3,yf⟩:=grow_store (HBX.out ⟨_,_,_⟩) hbv hgrow2)
      rcases HOUT.out with ⟨pb,bb,hbad,e1,e2⟩ | ⟨ex,hok,e1,e2,x,hxi,hxe,hxn⟩
      ·subst e1 e2
       obtain⟨a1,a2⟩:=hR.grow hr0 hg0 (hwn.trans (But.of_below hBW)) (hx4.below hBW) hgrow2 rfl
       obtain⟨u1,u2⟩:=xbad_step hR hs HBR.out hbad a1 a2
       exact⟨.inr u1,u2⟩
      ·subst e1 e2 hxi
       have hX:NewX wr.heap.size wn x:=(hxn.but hb3n (by omega)).low (by omega)
       have hWx:=(hX.wrap (op:=.loop) (p:=t.pos) (by omega)).below ((Below.refl _ _).alloc (Nat.le_refl _) (.cells #[.pointer (some ⟨wn.heap.size+1,0,none⟩)] 83))
       obtain⟨u1,u2⟩:=xbr_step hR hs hr0 hg0 (hwn.trans (But.of_below hBW)) (hx4.below hBW) hWx (by rw[PredP.xP];exact⟨_,_,rfl,hxe⟩) HBR.out hok hown2 hgrow2 hloc2 rfl
       exact⟨.inl u1,u2⟩
    ·obtain⟨hK,hQe⟩:=hKq
     subst hQe
     have hyes:=hide (isx_yes htk (by decide) hK)
     have hne97:=hide (isx_not htk (by decide) (show t.kind≠97 by omega))
     have hne34:=hide (isx_not htk (by decide) (show t.kind≠34 by omega))
     have hne91:=hide (isx_not htk (by decide) (show t.kind≠91 by omega))
     have hne123:=hide (isx_not htk (by decide) (show t.kind≠123 by omega))
     have HL:=hide (show t.last=false by simp[PredP.Tok.last,hK])
     have hkb:kindB t.kind=⟨#[40]⟩:=by rw[hK];rfl
     have htb:textB s t=⟨#[]⟩:=by unfold textB;rw[if_neg (by omega),if_neg (by omega)]
     have hnx:=(PredP.toks_next htk).2 HL.out
     have HBR:=hide hk
     clear h97 h34 hk hK htk
     go_wp2_with fail
     refine(is_any r g cap s k t d 0 0 _ hR.rd ⟨#[110,97,109,101]⟩ false (hide (isx_of hne97.out))).mono ?_
     rintro e w1 ⟨rfl,hb1⟩
     have hx1:=hR.rd.below hb1
     go_wp2_with fail
     refine(is_any r g cap s k t d 0 0 _ hx1 ⟨#[119,111,114,100]⟩ false (hide (isx_of hne34.out))).mono ?_
     rintro e w2 ⟨rfl,hb2⟩
     have hx2:=hx1.below hb2
     go_wp2_with fail
     refine(is_any r g cap s k t d 0 0 _ hx2 ⟨#[91]⟩ false (hide (isx_of hne91.out))).mono ?_
     rintro e w3 ⟨rfl,hb3⟩
     have hx3:=hx2.below hb3
     go_wp2_with fail
     refine(is_any r g cap s k t d 0 0 _ hx3 ⟨#[123]⟩ false (hide (isx_of hne123.out))).mono ?_
     rintro e w4 ⟨rfl,hb4⟩
     have hx4:=hx3.below hb4
     go_wp2_with fail
     refine(is_any r g cap s k t d 0 0 _ hx4 ⟨#[40]⟩ true (hide (isx_of hyes.out))).mono ?_
     rintro e w5 ⟨rfl,hb5⟩
     have hx5:=hx4.below hb5
     have hbT:Below wr.heap.size wr w1:=hb1
     have hbT:=hbT.trans (hb2.mono hbT.size)
     have hbT:=hbT.trans (hb3.mono hbT.size)
     have hbT:=hbT.trans (hb4.mono hbT.size)
     have hbT:=hbT.trans (hb5.mono hbT.size)
     have hxT:=hx5
     have hzT:=hbT.size
     clear hb1 hb2 hb3 hb4 hb5 hx1 hx2 hx3 hx4 hx5
     obtain⟨wt,hwt⟩:∃wt,wt=w5:=⟨_,rfl⟩
     rw[←hwt]at hbT hxT hzT ⊢
     clear hwt
     obtain⟨e0,e1,e2,hkl⟩:=hxT.tok
     obtain⟨c0,c1,c2,c3,c4,c5,lt,fz,gl,ne,_,_⟩:=id hxT
     go_wp2_with fail
     go_region
     have hT:=one_new wt (.string ⟨#[40]⟩) (.string ⟨#[]⟩) (.int .i64 (t.pos:Int)) 81
     generalize (wt.alloc (.cells #[.string ⟨#[40]⟩,.string ⟨#[]⟩,.int .i64 (t.pos:Int)] 81)).drew=wb at hT ⊢
     obtain⟨hbb,hbs,b0,b1,b2⟩:=hT
     have hxb:=hxT.below hbb
     clear e0 e1 e2 c0 c1 c2 c3 c4 c5 fz lt gl ne
     obtain⟨c0,c1,c2,c3,c4,c5,lt,fz,gl,ne,_,_⟩:=id hxb
     clear hkb htb
     have hsz:=hR.but.size
     have hbsz:=hbb.size
     by_cases hd10:d=10
     ·subst hd10
      have HO:Hid (o=.bad t.pos true):=by
       show _=_
       rw[hR.out,PredP.rowF_bad HBR.out (by unfold PredP.brF;rw[if_pos rfl])];rfl
      have HB0:=hide ((hR.but.trans (But.of_below hbT)).trans (But.of_below hbb))
      go_wp2_with (go_at_call 52;refine(wrong_first r g cap s k t 10 0 _ hxb 5).mono ?_;rintro e w5 ⟨rfl,hx5,hb5⟩)
      go_ret
      refine⟨HB0.out.trans hb5,bx,rfl,hR.ge,?_⟩
      rw[HO.out]
      exact⟨k,t,hx5⟩
     ·have hdi:((d:Int)==10)=false:=by simp;omega
      have hen:=PredP.Enough.next hR.enough (PredP.toks_next hR.rd.tk).1.fits (PredP.last_false HL.out)
      obtain⟨m2,rfl⟩:∃m2,m'=m2+1:=⟨m' - 1,by have:=hen.2;omega⟩
      have HEN:=hide hen.1
      have HCH:=hide (hbr.out m2 (by have:=hR.le;omega))
      clear hen
      obtain⟨hxk,hbk⟩:=hxb.goes (k':=k+1) rfl hnx
      obtain⟨hxd,hbd⟩:=hxk.deeps (d':=d+1) rfl
      have hbd:=hbk.trans hbd
      rw[show((k+1:Nat):Int)=(k:Int)+1 from rfl,show((d+1:Nat):Int)=(d:Int)+1 from rfl]at hxd hbd
      clear hbk hxk
      go_wp2_with fail
      generalize (wb.setCell ⟨r,1,none⟩ (.int .i64 ((k:Int)+1))).setCell ⟨r,2,none⟩ (.int .i64 ((d:Int)+1))=wd at hxd hbd ⊢
      clear c0 c1 c2 c3 c4 c5 fz
      have hzd:=hbd.size
      refine(HCH.out r g cap (k+1) _ (d+1) _ hxd (by omega) HEN.out).mono ?_
      intro e wc hpost
      obtain⟨i,k2,t2,what2,pos2,rfl,hbc,hic,hxc,HCase⟩:=hpost.post
      clear hpost
      have hzc:=hbc.size
      have hbdc:=hbd.trans hbc
      have y0:=(hbdc.cell (b:=wt.heap.size) (o:=0) (by omega) (by omega)).trans b0
      have y1:=(hbdc.cell (b:=wt.heap.size) (o:=1) (by omega) (by omega)).trans b1
      have y2:=(hbdc.cell (b:=wt.heap.size) (o:=2) (by omega) (by omega)).trans b2
      have hwc:But r wr wc:=((But.of_below hbT).trans (But.of_below hbb)).trans hbdc
      clear b0 b1 b2
      have c2:=hxc.c2
      have fz:=hxc.fz
      have ltr:=hxc.lt
      go_wp2_with fail
      obtain⟨hx3,hb3⟩:=hxc.deeps (d':=d) rfl
      generalize wc.setCell ⟨r,2,none⟩ (.int .i64 (d:Int))=we at hx3 hb3 ⊢
      clear hxc c2 fz ltr
      have hz3:=hb3.size
      refine(need_out r g cap s k2 t2 d what2 pos2 _ hx3 hs 41 (by decide) (by decide)).mono ?_
      rintro e wn ⟨rfl,hbn,k3,t3,what3,pos3,hx4,hn1,hn2,hn3⟩
      have HOUT:=hide (xbr_out (q:=.grp) (P:=fun ex=>∃x:PredP.X,x.id=i∧PredP.xE ex x∧NewX wd.heap.size wc x) hd10 HCase.out hn1 hn2 hn3)
      clear HCase hn1 hn2 hn3
      have hzn:=hbn.size
      have hb3n:=hb3.trans hbn
      have hwn:But r wr wn:=hwc.trans hb3n
      have z0:=(hb3n.cell (b:=wt.heap.size) (o:=0) (by omega) (by omega)).trans y0
      have z2:=(hb3n.cell (b:=wt.heap.size) (o:=2) (by omega) (by omega)).trans y2
      have hbxl:bx<wr.heap.size:=(Array.getElem?_eq_some_iff.1 hR.xb).1
      have hge:=hR.ge
      have hsh:=hR.short
      have hxbn:wn.heap[bx]?=some (expO .row p0 [] v (.slice none 0 0) (.pointer none) 0 0):=(hwn.block bx hbxl (by omega)).trans hR.xb
      have x3:wn.cell? ⟨bx,3,none⟩=some v:=by simp only[World.cell?,hxbn];rfl
      have hOwn:=hR.own
      have hO:wn.ownsRow w.heap.size 83 1 v l.ids.length (ptrC l.ids):=hOwn.kept hwn.grown (.inr fun e=>by have:=hOwn.lt r e;omega)
      have hbv:v.ownBlock≠some bx:=fun e=>own_noExp hOwn (by decide) e _ _ hR.xb
      have HXB:=hide hxbn
      have HXD:=hide hxd
      clear y0 y1 y2 hxd hxbn hbT hbb hxT hxb
      have hBW:Below wn.heap.size wn (wn.alloc (.cells #[.pointer (some ⟨i,0,none⟩)] 83)):=(Below.refl _ wn).alloc (Nat.le_refl _) _
      have HBX:=hide (fun(o:Obj)=>(Below.heap_alloc wn o bx (by omega)).trans HXB.out)
      go_wp2_with (at_builtin;refine wpList_append_own_at _ rfl _ _ _ rfl w.heap.size 83 i0 (.pointer none) 1 8 (by kernel_rfl) hi hz0 hz1 hz2 rfl (by decide) _ l.ids.length (ptrC l.ids) rfl (hO.alloc _) _ 1 1 [_] rfl rfl (cell_one_new _ _ _) (by simp[Value.oneCell']) (by unfold maxLen;omega) (by omega) (by simp;omega) ?_;intro v' w2 hown2 hgrow2 _ hloc2;obtain⟨g',cap',rfl⟩:=Joins.ownsRow_form hown2 (by omega);obtain⟨y3,yf⟩:=grow_store (HBX.out _) hbv hgrow2)
      rcases HOUT.out with ⟨pb,bb,hbad,e1,e2⟩ | ⟨ex,hok,e1,e2,x,hxi,hxe,hxn⟩
      ·subst e1 e2
       obtain⟨a1,a2⟩:=hR.grow hr0 hg0 (hwn.trans (But.of_below hBW)) (hx4.below hBW) hgrow2 rfl
       obtain⟨u1,u2⟩:=xbad_step hR hs HBR.out hbad a1 a2
       exact⟨.inr u1,u2⟩
      ·subst e1 e2 hxi
       have hX:NewX wr.heap.size wn x:=(hxn.but hb3n (by omega)).low (by omega)
       have hWx:=hX.below hBW
       obtain⟨u1,u2⟩:=xbr_step hR hs hr0 hg0 (hwn.trans (But.of_below hBW)) (hx4.below hBW) hWx (by rw[PredP.xP];exact hxe) HBR.out hok hown2 hgrow2 hloc2 rfl
       exact⟨.inl u1,u2⟩
  ·have hw0:codeOf b≠0:=by unfold codeOf;split<;>omega
   have HW0:=hide hw0
   have HO:=hide ho
   clear hw0 ho
   go_wp2_with fail
   refine(is_any r g cap s k t d (codeOf b) p _ hx ⟨#[110,97,109,101]⟩ false (hide (by rw[show(codeOf b==0)=false by simpa using HW0.out];rfl))).mono ?_
   rintro e w1 ⟨rfl,hb1⟩
   have hx1:=hx.below hb1
   go_wp2_with fail
   refine(is_any r g cap s k t d (codeOf b) p _ hx1 ⟨#[119,111,114,100]⟩ false (hide (by rw[show(codeOf b==0)=false by simpa using HW0.out];rfl))).mono ?_
   rintro e w2 ⟨rfl,hb2⟩
   have hx2:=hx1.below hb2
   go_wp2_with fail
   refine(is_any r g cap s k t d (codeOf b) p _ hx2 ⟨#[91]⟩ false (hide (by rw[show(codeOf b==0)=false by simpa using HW0.out];rfl))).mono ?_
   rintro e w3 ⟨rfl,hb3⟩
   have hx3:=hx2.below hb3
   go_wp2_with fail
   refine(is_any r g cap s k t d (codeOf b) p _ hx3 ⟨#[123]⟩ false (hide (by rw[show(codeOf b==0)=false by simpa using HW0.out];rfl))).mono ?_
   rintro e w4 ⟨rfl,hb4⟩
   have hx4:=hx3.below hb4
   go_wp2_with fail
   refine(is_any r g cap s k t d (codeOf b) p _ hx4 ⟨#[40]⟩ false (hide (by rw[show(codeOf b==0)=false by simpa using HW0.out];rfl))).mono ?_
   rintro e w5 ⟨rfl,hb5⟩
   have hx5:=hx4.below hb5
   go_wp2_with fail
   go_ret
   refine⟨((((hbut.trans (But.of_below hb1)).trans (But.of_below hb2)).trans (But.of_below hb3)).trans (But.of_below hb4)).trans (But.of_below hb5),bx,rfl,hge,?_⟩
   rw[HO.out]
   exact⟨k,t,hx5⟩
end Go.Proofs.YtpcmemcanpgadaaGreatDoor
