import Derived.Test.YtpcmemcanpgadaaGreatDoorPureA
import Derived.Below
import Derived.Lib.TrimByte
namespace PredP
section
theorem hide {p:Prop} (h:p):Go.RowKit.Hid p:=h
theorem unhide {p:Prop} (h:Go.RowKit.Hid p):p:=h
theorem letter_int (c:UInt8):letter c=decide (97≤(c.toNat:Int)∧(c.toNat:Int)≤122):=by
 unfold letter
 rw[Bool.eq_iff_iff];simp[UInt8.le_iff_toNat_le];omega
theorem digit_int (c:UInt8):digit c=decide (48≤(c.toNat:Int)∧(c.toNat:Int)≤57):=by
 unfold digit
 rw[Bool.eq_iff_iff];simp[UInt8.le_iff_toNat_le];omega
theorem ne_int (c d:UInt8):(c != d)=decide ((c.toNat:Int)≠(d.toNat:Int)):=by
 rw[Bool.eq_iff_iff]
 simp[←UInt8.toNat_inj];omega
theorem eq_int (c d:UInt8):(c==d)=decide ((c.toNat:Int)=(d.toNat:Int)):=by
 rw[Bool.eq_iff_iff]
 simp[←UInt8.toNat_inj];omega
theorem inWord_int (c:UInt8):inWord c=decide (33≤(c.toNat:Int)∧(c.toNat:Int)≤126∧(c.toNat:Int)≠34):=by
 unfold inWord
 rw[ne_int,Bool.eq_iff_iff];simp[UInt8.le_iff_toNat_le];omega
theorem blank_int (c:UInt8):blank c=decide ((c.toNat:Int)=32∨(c.toNat:Int)=10):=by
 unfold blank
 rw[eq_int,eq_int,Bool.eq_iff_iff];simp
theorem sign_int (c:UInt8):sign c=decide ((c.toNat:Int)=61∨(c.toNat:Int)=46∨(c.toNat:Int)=124∨(c.toNat:Int)=91∨(c.toNat:Int)=93∨(c.toNat:Int)=123∨(c.toNat:Int)=125∨(c.toNat:Int)=40∨(c.toNat:Int)=41):=by
 unfold sign
 simp only[eq_int]
 rw[Bool.eq_iff_iff];simp;omega
def bs (s:ByteArray):Str:=s.data.toList
theorem bs_length (s:ByteArray):(bs s).length=s.size:=by unfold bs;rw[Array.length_toList];rfl
theorem bs_at (s:ByteArray) (k:Nat) (h:k<s.size):(bs s)[k]?=some s[k]:=by
 have h':k<s.data.size:=h
 unfold bs
 rw[Array.getElem?_toList,Array.getElem?_eq_getElem h']
 rfl
theorem bs_drop (s:ByteArray) (k:Nat) (h:k<s.size):(bs s).drop k=s[k]::(bs s).drop (k+1):=by
 have:=bs_at s k h
 have h':k<(bs s).length:=by rw[bs_length];exact h
 rw[List.drop_eq_getElem_cons h']
 rw[List.getElem?_eq_getElem h']at this
 simp only[Option.some.injEq]at this
 rw[this]
theorem bs_drop_end (s:ByteArray) (k:Nat) (h:s.size≤k):(bs s).drop k=[]:=by
 rw[List.drop_eq_nil_iff,bs_length];exact h
def Run (p:UInt8→Bool) (s:ByteArray) (i k:Nat):Prop:=∀j,j<k - i→∃c,((bs s).drop i)[j]?=some c∧p c=true
theorem Run.nil (p:UInt8→Bool) (s:ByteArray) (i:Nat):Run p s i i:=fun j hj=>by omega
theorem Run.more {p:UInt8→Bool} {s:ByteArray} {i k:Nat} (hr:Run p s i k) (h:k<s.size) (hik:i≤k) (hp:p s[k]=true):Run p s i (k+1):=by
 intro j hj
 by_cases hjk:j<k - i
 ·exact hr j hjk
 ·have e:j=k - i:=by omega
  subst e
  refine⟨s[k],?_,hp⟩
  rw[List.getElem?_drop,show i+(k - i)=k by omega]
  exact bs_at s k h
theorem Run.stop {p:UInt8→Bool} {s:ByteArray} {i k:Nat} (hr:Run p s i k) (h:k<s.size) (hik:i≤k) (hp:p s[k]=false) :
  i+lead p ((bs s).drop i)=k:=by
 have:lead p ((bs s).drop i)=k - i:=by
  refine lead_eq _ _ _ hr ?_
  intro c hc
  rw[List.getElem?_drop,show i+(k - i)=k by omega,bs_at s k h]at hc
  cases hc
  exact hp
 omega
theorem Run.done {p:UInt8→Bool} {s:ByteArray} {i k:Nat} (hr:Run p s i k) (h:¬k<s.size) (hik:i≤k) (hk:k≤s.size) :
  i+lead p ((bs s).drop i)=k:=by
 have:lead p ((bs s).drop i)=k - i:=by
  refine lead_eq _ _ _ hr ?_
  intro c hc
  rw[List.getElem?_drop,show i+(k - i)=s.size by omega,←bs_length]at hc
  simp at hc
 omega
end
section
def IsTok (l:Str) (t:Tok):Prop:=∃i,i≤l.length∧t=tokFrom l i
theorem IsTok.fits {l:Str} {t:Tok} (h:IsTok l t):t.fits l:=by
 obtain⟨i,hi,rfl⟩:=h
 exact tokFrom_fits l i hi
theorem IsTok.next {l:Str} {t:Tok} (h:IsTok l t):IsTok l (tokFrom l t.to):=⟨t.to,h.fits.2.1,rfl⟩
theorem reader_tok (l:Str) (n:Nat) :
  (∀d bar t e t',IsTok l t→expF l n d bar t=.ok e t'→IsTok l t') ∧
  (∀d t ps t',IsTok l t→rowF l n d t=.ok ps t'→IsTok l t'):=by
 induction n with
 | zero=>exact⟨fun _ _ _ _ _ _ h=>by simp[expF]at h,fun _ _ _ _ _ h=>by simp[rowF]at h⟩
 | succ n ih =>
  refine⟨?_,?_⟩
  ·intro d bar t e t' ht h
   rw[expF]at h
   split at h
   ·simp at h
   ·rename_i r t1 h1
    have o1:=ih.2 _ _ _ _ ht h1
    split at h
    ·split at h
     ·simp at h
     ·rename_i e2 t2 h2
      have o3:=ih.1 _ _ _ _ _ o1.next h2
      simp at h
      rw[←h.2]
      exact o3
    ·simp at h
     rw[←h.2]
     exact o1
  ·intro d t ps t' ht h
   rw[rowF]at h
   split at h
   ·split at h
    ·simp at h
    ·rename_i ps1 t1 h1
     have o2:=ih.2 _ _ _ _ ht.next h1
     simp at h
     rw[←h.2]
     exact o2
   ·split at h
    ·split at h
     ·simp at h
     ·rename_i ps1 t1 h1
      have o2:=ih.2 _ _ _ _ ht.next h1
      simp at h
      rw[←h.2]
      exact o2
    ·split at h
     ·simp at h
      rw[←h.2]
      exact ht
     ·split at h
      ·simp at h
      ·split at h
       ·simp at h
       ·rename_i e1 t1 h1
        have o2:=ih.1 _ _ _ _ _ ht.next h1
        split at h
        ·split at h
         ·simp at h
         ·rename_i ps2 t2 h2
          have o4:=ih.2 _ _ _ _ o2.next h2
          simp at h
          rw[←h.2]
          exact o4
        ·simp at h
theorem brF_tok {l:Str} {m d:Nat} {t t':Tok} {k:Br} {p:Part} (ht:IsTok l t) (hb:brF l m d t k=.ok p t'):IsTok l t':=by
 unfold brF at hb
 by_cases hd:d=10
 ·rw[if_pos hd]at hb;simp at hb
 ·rw[if_neg hd]at hb
  cases he:expF l m (d+1) 0 (tokFrom l t.to) with
  | bad q c=>rw[he]at hb;simp at hb
  | ok e t1 =>
   rw[he]at hb
   have o2:=(reader_tok l m).1 _ _ _ _ _ ht.next he
   by_cases hc:t1.kind=closing k
   ·simp[hc]at hb
    rw[←hb.2]
    exact o2.next
   ·simp[hc]at hb
theorem word_stands {l:Str} {t:Tok} (h:IsTok l t) (hk:t.kind=34) :
  ∃k,t.to=t.pos+k+2∧1≤k∧k≤8∧l[t.pos]?=some 34∧l[t.pos+1+k]?=some 34∧∀j,j<k→∃c,l[t.pos+1+j]?=some c∧inWord c=true:=by
 obtain⟨i,hi,rfl⟩:=h
 revert hk
 unfold tokFrom
 generalize i+lead blank (List.drop i l)=q
 intro hk
 rw[tokHere_pos]
 cases hl:l.drop q with
 | nil=>rw[hl]at hk;simp[tokHere]at hk
 | cons c r =>
  rw[hl]at hk
  have e0:l[q]?=some c:=by
   have:(l.drop q)[0]?=some c:=by rw[hl];rfl
   simpa using this
  have er:∀j,r[j]?=l[q+1+j]?:=fun j=>by
   have:(l.drop q)[j+1]?=r[j]?:=by rw[hl];rfl
   rw[←this,List.getElem?_drop]
   congr 1;omega
  revert hk
  simp only[tokHere]
  split
  ·split<;>intro hk<;>simp at hk
  ·split
   ·rename_i h1 h2
    split
    ·rename_i h3
     intro _
     simp at h2 h3
     refine⟨lead inWord r,rfl,h3.1.2,h3.2,by rw[e0,h2],by rw[←er];exact h3.1.1,fun j hj=>?_⟩
     rw[←er]
     exact lead_lt inWord r j hj
    ·intro hk;simp at hk
   ·split
    ·rename_i h1 h2 h3
     intro hk
     exfalso
     apply h2
     simp only[beq_iff_eq]
     rw[←UInt8.toNat_inj]
     exact hk
    ·intro hk;simp at hk
theorem word_trim {l:Str} {t:Tok} (h:IsTok l t) (hk:t.kind=34):Go.Lib.trimB (cut l t.pos t.to) 34=cut l (t.pos+1) (t.to - 1):=by
 obtain⟨k,e,h1,_,ha,hb,hw⟩:=word_stands h hk
 have hlt:=(List.getElem?_eq_some_iff.1 hb).1
 obtain⟨M,hM⟩:∃M,cut l (t.pos+1) (t.to - 1)=M:=⟨_,rfl⟩
 have hlen:M.length=k:=by rw[←hM];unfold cut;simp;omega
 have hMj:∀j,j<k→M[j]?=l[t.pos+1+j]?:=fun j hj=>by
  rw[←hM];unfold cut
  rw[List.getElem?_take_of_lt (by omega),List.getElem?_drop]
 have hcut:cut l t.pos t.to=34::(M++[34]):=by
  apply List.ext_getElem?
  intro j
  have hL:(cut l t.pos t.to).length=k+2:=by unfold cut;simp;omega
  by_cases hj:j<k+2
  ·unfold cut
   rw[List.getElem?_take_of_lt (by omega),List.getElem?_drop]
   rcases j with _ | j
   ·simpa using ha
   ·rw[List.getElem?_cons_succ]
    by_cases hjk:j<k
    ·rw[List.getElem?_append_left (by omega),hMj j hjk];congr 1;omega
    ·have:j=k:=by omega
     subst this
     rw[List.getElem?_append_right (by omega),hlen]
     simp only[Nat.sub_self,List.getElem?_cons_zero]
     rw[←hb];congr 1;omega
  ·rw[List.getElem?_eq_none (by omega),List.getElem?_eq_none (by simp;omega)]
 have hne:∀c∈M,(c==34)=false:=by
  intro c hc
  obtain⟨j,hj,rfl⟩:=List.mem_iff_getElem.1 hc
  obtain⟨c',h',hp⟩:=hw j (by omega)
  have:M[j]?=some c':=(hMj j (by omega)).trans h'
  rw[List.getElem?_eq_getElem hj]at this
  simp only[Option.some.injEq]at this
  rw[this]
  simp[inWord]at hp
  simpa using hp.2
 rw[hcut,hM]
 obtain⟨x,M',hx⟩:∃x M',M=x::M':=by
  cases M with
  | nil=>simp at hlen;omega
  | cons x M'=>exact⟨x,M',rfl⟩
 have hr:Go.Lib.trimRightB (34::(M++[34])) 34=34::M:=by
  unfold Go.Lib.trimRightB
  have e1:(34::(M++[34])).reverse=34::(M.reverse++[34]):=by simp
  rw[e1,List.dropWhile_cons_of_pos (by rfl)]
  obtain⟨y,R,hy⟩:∃y R,M.reverse=y::R:=by
   cases hR:M.reverse with
   | nil=>simp at hR;subst hR;simp at hx
   | cons y R=>exact⟨y,R,rfl⟩
  have hyM:y∈M:=by rw[←List.mem_reverse,hy];simp
  rw[hy,List.cons_append,List.dropWhile_cons_of_neg (by simp[hne y hyM]),←List.cons_append,←hy]
  simp
 unfold Go.Lib.trimB
 rw[hr]
 unfold Go.Lib.trimLeftB
 rw[List.dropWhile_cons_of_pos (by rfl),hx,List.dropWhile_cons_of_neg (by simp[hne x (by rw[hx];simp)])]
end
section
def preG (acc:List Rule):Out (List Rule)→Out (List Rule)
 | .ok ps t=>.ok (acc++ps) t
 | .bad p b=>.bad p b
theorem preG_nil (x:Out (List Rule)):preG [] x=x:=by cases x<;>rfl
theorem preG_preG (a b:List Rule) (x:Out (List Rule)):preG a (preG b x)=preG (a++b) x:=by
 cases x<;>simp[preG]
theorem rulesF_end {l:Str} {m:Nat} {t:Tok} (h:t.kind=0):rulesF l (m+1) t=.ok [] t:=by rw[rulesF,if_pos h]
theorem rulesF_bad {l:Str} {m p:Nat} {b:Bool} {t:Tok} (h:t.kind≠0) (hr:ruleF l m t=.bad p b):rulesF l (m+1) t=.bad p b:=by rw[rulesF,if_neg h,hr]
theorem rulesF_more {l:Str} {m:Nat} {t t':Tok} {r:Rule} (h:t.kind≠0) (hr:ruleF l m t=.ok r t'):rulesF l (m+1) t=preG [r] (rulesF l m t'):=by
 rw[rulesF,if_neg h,hr]
 dsimp only
 cases rulesF l m t'<;>simp[preG]
theorem ruleF_inv {l:Str} {m:Nat} {t t':Tok} {r:Rule} (hr:ruleF l m t=.ok r t') :
  t.kind=97∧(tokFrom l t.to).kind=61∧∃e t3,expF l m 0 0 (tokFrom l (tokFrom l t.to).to)=.ok e t3∧t3.kind=46∧r=⟨cut l t.pos t.to,t.pos,e⟩∧t'=tokFrom l t3.to:=by
 unfold ruleF at hr
 split at hr
 ·rename_i h1
  split at hr
  ·rename_i h2
   split at hr
   ·simp at hr
   ·rename_i e t3 he
    split at hr
    ·rename_i h3
     simp at hr
     exact⟨h1,h2,e,t3,he,h3,hr.1.symm,hr.2.symm⟩
    ·simp at hr
  ·simp at hr
 ·simp at hr
end
section
theorem ruleF_on {l:Str} {m:Nat} {t t':Tok} {r:Rule} (ht:IsTok l t) (hr:ruleF l m t=.ok r t'):IsTok l t'∧t.pos<t'.pos:=by
 obtain⟨h1,h2,e,t3,he,h3,_,rfl⟩:=ruleF_inv hr
 have k1:=ht.next
 have k2:=k1.next
 have k3:=(reader_tok l m).1 _ _ _ _ _ k2 he
 have o3:=Tok.on_pos ((reader_on l m).1 _ _ _ _ _ k2.fits he)
 have a1:=ht.fits.2.2 ⟨by omega,by omega⟩
 have a2:=tokFrom_ge l t.to
 have a3:=k1.fits.1
 have a4:=tokFrom_ge l (tokFrom l t.to).to
 have a5:=k3.fits.1
 have a6:=tokFrom_ge l t3.to
 exact⟨k3.next,by omega⟩
end
section
theorem ltS_iff:∀(a b:Str),ltS a b=true↔a<b
 | [],[]=>by simp[ltS]
 | [],_::_=>by simp[ltS]
 | _::_,[]=>by simp[ltS]
 | x::l,y::m=>by
  rw[ltS,Bool.or_eq_true,Bool.and_eq_true,ltS_iff l m,List.cons_lt_cons_iff]
  simp
end
end PredP
