namespace PredP
section
abbrev Str:=List UInt8
def blank (c:UInt8):Bool:=c==32||c==10
def letter (c:UInt8):Bool:=97≤c&&c≤122
def digit (c:UInt8):Bool:=48≤c&&c≤57
def alnum (c:UInt8):Bool:=letter c||digit c
def inWord (c:UInt8):Bool:=33≤c&&c≤126&&c != 34
def sign (c:UInt8):Bool :=
 c==61||c==46||c==124||c==91||c==93||c==123||c==125||c==40||c==41
def lead (p:UInt8→Bool):Str→Nat
 | []=>0
 | c::r=>if p c then lead p r+1 else 0
structure Tok where
 kind:Nat
 pos:Nat
 to:Nat
deriving DecidableEq,Repr
def tokHere (i:Nat):Str→Tok
 | []=>⟨0,i,i⟩
 | c::r =>
  if letter c then
   (if lead alnum r+1≤8 then⟨97,i,i+1+lead alnum r⟩ else⟨1,i,i⟩)
  else if c==34 then
   (if r[lead inWord r]?==some 34&&1≤lead inWord r&&lead inWord r≤8 then⟨34,i,i+lead inWord r+2⟩ else⟨1,i,i⟩)
  else if sign c then⟨c.toNat,i,i+1⟩
  else⟨1,i,i⟩
def tokFrom (l:Str) (i:Nat):Tok :=
 tokHere (i+lead blank (l.drop i)) (l.drop (i+lead blank (l.drop i)))
def cut (l:Str) (i j:Nat):Str:=(l.drop i).take (j - i)
inductive Br where
 | opt | loop | grp
deriving DecidableEq,Repr
mutual
inductive Part where
 | word (s:Str)
 | name (s:Str) (pos:Nat)
 | br (k:Br) (pos:Nat) (e:Rows)
inductive Parts where
 | nil
 | cons (p:Part) (ps:Parts)
inductive Rows where
 | nil
 | cons (bar:Nat) (r:Parts) (e:Rows)
end
structure Rule where
 name:Str
 pos:Nat
 body:Rows
inductive Out (α:Type) where
 | ok (v:α) (next:Tok)
 | bad (pos:Nat) (deep:Bool)
def brOf (k:Nat):Option Br :=
 if k=40 then some .grp else if k=91 then some .opt else if k=123 then some .loop else none
def closing:Br→Nat
 | .grp=>41 | .opt=>93 | .loop=>125
mutual
def expF (l:Str):Nat→Nat→Nat→Tok→Out Rows
 | 0,_,_,t=>.bad t.pos false
 | n+1,d,bar,t =>
  match rowF l n d t with
  | .bad p b=>.bad p b
  | .ok r t' =>
   if t'.kind=124 then
    match expF l n d t'.pos (tokFrom l t'.to) with
    | .bad p b=>.bad p b
    | .ok e t''=>.ok (.cons bar r e) t''
   else .ok (.cons bar r .nil) t'
def rowF (l:Str):Nat→Nat→Tok→Out Parts
 | 0,_,t=>.bad t.pos false
 | n+1,d,t =>
  if t.kind=97 then
   match rowF l n d (tokFrom l t.to) with
   | .bad p b=>.bad p b
   | .ok ps t'=>.ok (.cons (.name (cut l t.pos t.to) t.pos) ps) t'
  else if t.kind=34 then
   match rowF l n d (tokFrom l t.to) with
   | .bad p b=>.bad p b
   | .ok ps t'=>.ok (.cons (.word (cut l (t.pos+1) (t.to - 1))) ps) t'
  else match brOf t.kind with
   | none=>.ok .nil t
   | some k =>
    if d=10 then .bad t.pos true
    else match expF l n (d+1) 0 (tokFrom l t.to) with
     | .bad p b=>.bad p b
     | .ok e t' =>
      if t'.kind=closing k then
       match rowF l n d (tokFrom l t'.to) with
       | .bad p b=>.bad p b
       | .ok ps t''=>.ok (.cons (.br k t.pos e) ps) t''
      else .bad t'.pos false
end
def ruleF (l:Str) (n:Nat) (t:Tok):Out Rule :=
 if t.kind=97 then
  if (tokFrom l t.to).kind=61 then
   match expF l n 0 0 (tokFrom l (tokFrom l t.to).to) with
   | .bad p b=>.bad p b
   | .ok e t' =>
    if t'.kind=46 then .ok ⟨cut l t.pos t.to,t.pos,e⟩ (tokFrom l t'.to)
    else .bad t'.pos false
  else .bad (tokFrom l t.to).pos false
 else .bad t.pos false
def rulesF (l:Str):Nat→Tok→Out (List Rule)
 | 0,t=>.bad t.pos false
 | n+1,t =>
  if t.kind=0 then .ok [] t
  else match ruleF l n t with
   | .bad p b=>.bad p b
   | .ok r t' =>
    match rulesF l n t' with
    | .bad p b=>.bad p b
    | .ok rs t''=>.ok (r::rs) t''
def steps (l:Str) (t:Tok):Nat:=2 * (l.length - t.pos)
def read (l:Str):Out (List Rule):=rulesF l (2 * l.length+2) (tokFrom l 0)
theorem lead_le (p:UInt8→Bool) (l:Str):lead p l≤l.length:=by
 induction l with
 | nil=>simp[lead]
 | cons c r ih=>unfold lead;split<;>simp<;>omega
theorem lead_lt (p:UInt8→Bool) (l:Str) (k:Nat) (hk:k<lead p l):∃c,l[k]?=some c∧p c=true:=by
 induction l generalizing k with
 | nil=>simp[lead]at hk
 | cons c r ih =>
  unfold lead at hk
  split at hk
  ·rename_i hc
   cases k with
   | zero=>exact⟨c,rfl,hc⟩
   | succ k=>exact ih k (by omega)
  ·omega
theorem lead_at (p:UInt8→Bool) (l:Str) (c:UInt8) (h:l[lead p l]?=some c):p c=false:=by
 induction l with
 | nil=>simp[lead]at h
 | cons d r ih =>
  by_cases hd:p d=true
  ·have e:lead p (d::r)=lead p r+1:=by simp[lead,hd]
   rw[e]at h
   exact ih (by simpa using h)
  ·have e:lead p (d::r)=0:=by simp[lead,hd]
   rw[e]at h
   simp at h
   subst h
   simpa using hd
theorem lead_eq (p:UInt8→Bool) (l:Str) (k:Nat) (h1:∀j,j<k→∃c,l[j]?=some c∧p c=true)
  (h2:∀c,l[k]?=some c→p c=false):lead p l=k:=by
 rcases Nat.lt_trichotomy (lead p l) k with h | h | h
 ·obtain⟨c,hc,hp⟩:=h1 _ h
  have:=lead_at p l c hc
  simp[this]at hp
 ·exact h
 ·obtain⟨c,hc,hp⟩:=lead_lt p l k h
  have:=h2 c hc
  simp[this]at hp
theorem tokHere_pos (i:Nat) (l:Str):(tokHere i l).pos=i:=by
 cases l with
 | nil=>rfl
 | cons c r =>
  simp only[tokHere]
  repeat' split
  all_goals rfl
theorem tokHere_to (i:Nat) (l:Str):(tokHere i l).to≤i+l.length:=by
 cases l with
 | nil=>simp[tokHere]
 | cons c r =>
  have h1:=lead_le alnum r
  have h2:=lead_le inWord r
  simp only[tokHere]
  split
  ·split<;>simp<;>omega
  ·split
   ·split
    ·rename_i h
     simp at h
     have:lead inWord r<r.length:=by
      have:=h.1.1
      rw[List.getElem?_eq_some_iff]at this
      exact this.1
     simp;omega
    ·simp
   ·split<;>simp
theorem tokHere_lt (i:Nat) (l:Str) (h:(tokHere i l).kind≠0∧(tokHere i l).kind≠1):i<(tokHere i l).to:=by
 cases l with
 | nil=>simp[tokHere]at h
 | cons c r =>
  revert h
  simp only[tokHere]
  repeat' split
  all_goals simp
  all_goals omega
theorem tokFrom_ge (l:Str) (i:Nat):i≤(tokFrom l i).pos:=by
 unfold tokFrom;rw[tokHere_pos];omega
theorem tokFrom_pos_le (l:Str) (i:Nat) (h:i≤l.length):(tokFrom l i).pos≤l.length:=by
 unfold tokFrom;rw[tokHere_pos]
 have:=lead_le blank (l.drop i)
 simp at this;omega
theorem tokFrom_to_le (l:Str) (i:Nat) (h:i≤l.length):(tokFrom l i).to≤l.length:=by
 unfold tokFrom
 have h1:=tokHere_to (i+lead blank (l.drop i)) (l.drop (i+lead blank (l.drop i)))
 have:=lead_le blank (l.drop i)
 simp at this h1;omega
theorem tokFrom_lt (l:Str) (i:Nat) (h:(tokFrom l i).kind≠0∧(tokFrom l i).kind≠1):(tokFrom l i).pos<(tokFrom l i).to:=by
 have:=tokHere_lt _ _ h
 rwa[show(tokFrom l i).pos=i+lead blank (l.drop i) from tokHere_pos _ _]
def Tok.fits (l:Str) (t:Tok):Prop:=t.pos≤t.to∧t.to≤l.length∧(t.kind≠0∧t.kind≠1→t.pos<t.to)
theorem tokHere_pos_le (i:Nat) (l:Str):i≤(tokHere i l).to:=by
 cases l with
 | nil=>simp[tokHere]
 | cons c r =>
  simp only[tokHere]
  repeat' split
  all_goals simp
  all_goals omega
theorem tokFrom_fits (l:Str) (i:Nat) (h:i≤l.length):(tokFrom l i).fits l :=
 ⟨by
  have:=tokHere_pos_le (i+lead blank (l.drop i)) (l.drop (i+lead blank (l.drop i)))
  rwa[show(tokFrom l i).pos=i+lead blank (l.drop i) from tokHere_pos _ _],tokFrom_to_le l i h,tokFrom_lt l i⟩
def Tok.on (l:Str) (t t':Tok):Prop:=t'.fits l∧(t'=t∨t.to≤t'.pos∧t.pos<t'.pos)
theorem Tok.on_refl {l:Str} {t:Tok} (h:t.fits l):t.on l t:=⟨h,.inl rfl⟩
theorem Tok.on_next {l:Str} {t:Tok} (h:t.fits l) (hk:t.kind≠0∧t.kind≠1):t.on l (tokFrom l t.to) :=
 ⟨tokFrom_fits l _ h.2.1,.inr ⟨tokFrom_ge l _,Nat.lt_of_lt_of_le (h.2.2 hk) (tokFrom_ge l _)⟩⟩
theorem Tok.on.trans {l:Str} {t t' t'':Tok} (h:t.on l t') (h':t'.on l t''):t.on l t'':=by
 refine⟨h'.1,?_⟩
 rcases h.2 with rfl | ⟨a,b⟩
 ·exact h'.2
 ·rcases h'.2 with rfl | ⟨c,d⟩
  ·exact .inr ⟨a,b⟩
  ·have:=h.1.1
   exact .inr ⟨by omega,by omega⟩
theorem Tok.on_pos {l:Str} {t t':Tok} (h:t.on l t'):t.pos≤t'.pos:=by
 rcases h.2 with rfl | ⟨_,b⟩<;>omega
theorem brOf_some {k:Nat} {b:Br} (h:brOf k=some b):k≠0∧k≠1:=by
 unfold brOf at h
 repeat' split at h
 all_goals first | (subst_vars;exact⟨by omega,by omega⟩) | simp at h
theorem closing_ne (b:Br):closing b≠0∧closing b≠1:=by
 cases b<;>simp[closing]
theorem reader_on (l:Str) (n:Nat) :
  (∀d bar t e t',t.fits l→expF l n d bar t=.ok e t'→t.on l t') ∧
  (∀d t ps t',t.fits l→rowF l n d t=.ok ps t'→t.on l t'):=by
 induction n with
 | zero=>exact⟨fun _ _ _ _ _ _ h=>by simp[expF]at h,fun _ _ _ _ _ h=>by simp[rowF]at h⟩
 | succ n ih =>
  refine⟨?_,?_⟩
  ·intro d bar t e t' ht h
   rw[expF]at h
   split at h
   ·simp at h
   ·rename_i r t1 h1
    have o1:=ih.2 _ _ _ _ ht h1
    split at h
    ·rename_i hk
     split at h
     ·simp at h
     ·rename_i e2 t2 h2
      have o2:=Tok.on_next o1.1 (by omega)
      have o3:=ih.1 _ _ _ _ _ o2.1 h2
      simp at h
      rw[←h.2]
      exact(o1.trans o2).trans o3
    ·simp at h
     rw[←h.2]
     exact o1
  ·intro d t ps t' ht h
   rw[rowF]at h
   split at h
   ·rename_i hk
    split at h
    ·simp at h
    ·rename_i ps1 t1 h1
     have o1:=Tok.on_next ht (by omega)
     have o2:=ih.2 _ _ _ _ o1.1 h1
     simp at h
     rw[←h.2]
     exact o1.trans o2
   ·split at h
    ·rename_i hk
     split at h
     ·simp at h
     ·rename_i ps1 t1 h1
      have o1:=Tok.on_next ht (by omega)
      have o2:=ih.2 _ _ _ _ o1.1 h1
      simp at h
      rw[←h.2]
      exact o1.trans o2
    ·split at h
     ·simp at h
      rw[←h.2]
      exact Tok.on_refl ht
     ·rename_i k hk
      split at h
      ·simp at h
      ·split at h
       ·simp at h
       ·rename_i e1 t1 h1
        have o1:=Tok.on_next ht (brOf_some hk)
        have o2:=ih.1 _ _ _ _ _ o1.1 h1
        split at h
        ·rename_i hc
         split at h
         ·simp at h
         ·rename_i ps2 t2 h2
          have o3:=Tok.on_next o2.1 (hc▸closing_ne k)
          have o4:=ih.2 _ _ _ _ o3.1 h2
          simp at h
          rw[←h.2]
          exact((o1.trans o2).trans o3).trans o4
        ·simp at h
end
section
abbrev Step:=(Str→Bool)→Str→Bool
def Step.Mono (f:Step):Prop:=∀(k k':Str→Bool),(∀y,k y=true→k' y=true)→∀x,f k x=true→f k' x=true
def next (names:List Str) (f:Step) (k:List Str):List Str :=
 names.filter (fun x=>f k.contains x||k.contains x)
def rounds (names:List Str) (f:Step):Nat→List Str
 | 0=>[]
 | n+1=>next names f (rounds names f n)
def least (names:List Str) (f:Step):List Str:=rounds names f names.length
def Closed (names:List Str) (f:Step) (K:Str→Bool):Prop:=∀x,x∈names→f K x=true→K x=true
theorem rounds_sub (names:List Str) (f:Step) (n:Nat) {x:Str} (h:x∈rounds names f n):x∈names:=by
 cases n with
 | zero=>simp[rounds]at h
 | succ n=>simp[rounds,next]at h;exact h.1
theorem rounds_succ_sub (names:List Str) (f:Step) (n:Nat) {x:Str} (h:x∈rounds names f n):x∈rounds names f (n+1):=by
 simp[rounds,next]
 exact⟨rounds_sub names f n h,.inr h⟩
theorem rounds_le (names:List Str) (f:Step) {m n:Nat} (h:m≤n) {x:Str} (hx:x∈rounds names f m):x∈rounds names f n:=by
 induction h with
 | refl=>exact hx
 | step _ ih=>exact rounds_succ_sub names f _ ih
theorem rounds_least (names:List Str) (f:Step) (hf:f.Mono) (K:Str→Bool) (hK:Closed names f K) (n:Nat) :
  ∀x,x∈rounds names f n→K x=true:=by
 induction n with
 | zero=>intro x h;simp[rounds]at h
 | succ n ih =>
  intro x h
  simp only[rounds,next,List.mem_filter,Bool.or_eq_true]at h
  rcases h.2 with h2 | h2
  ·exact hK x h.1 (hf _ K (fun y hy=>ih y (by simpa using hy)) x h2)
  ·exact ih x (by simpa using h2)
theorem filter_grow {α:Type} (l:List α) (p q:α→Bool) (h:∀x,x∈l→p x=true→q x=true) :
  (l.filter p).length≤(l.filter q).length∧((l.filter p).length=(l.filter q).length→l.filter p=l.filter q):=by
 induction l with
 | nil=>simp
 | cons a l ih =>
  have ih:=ih (fun x hx=>h x (List.mem_cons_of_mem _ hx))
  have ha:=h a List.mem_cons_self
  by_cases hp:p a=true
  ·simp only[List.filter_cons,hp,ha hp,if_true,List.length_cons]
   exact⟨by omega,fun e=>by rw[ih.2 (by omega)]⟩
  ·by_cases hq:q a=true
   ·simp only[List.filter_cons,hp,hq,if_true,List.length_cons]
    exact⟨by simp;omega,fun e=>by simp at e;omega⟩
   ·simp only[List.filter_cons,hp,hq]
    exact ih
theorem rounds_filter (names:List Str) (f:Step) (n:Nat):rounds names f n=names.filter (fun x=>(rounds names f n).contains x):=by
 cases n with
 | zero=>simp[rounds]
 | succ n =>
  have:∀x,x∈names→(f (rounds names f n).contains x||(rounds names f n).contains x)=(rounds names f (n+1)).contains x:=by
   intro x hx
   rw[Bool.eq_iff_iff]
   simp[rounds,next,hx]
  conv=>lhs;rw[rounds,next]
  exact List.filter_congr this
theorem rounds_length (names:List Str) (f:Step) (n:Nat):rounds names f (n+1)=rounds names f n∨n<(rounds names f (n+1)).length:=by
 induction n with
 | zero =>
  cases h:rounds names f 1 with
  | nil=>left;simp[rounds]
  | cons a l=>right;simp
 | succ n ih =>
  rcases ih with ih | ih
  ·left
   conv=>lhs;rw[rounds,ih]
   rw[←rounds]
  ·have h:=filter_grow names (fun x=>(rounds names f (n+1)).contains x) (fun x=>(rounds names f (n+1+1)).contains x)
    (fun x _ hx=>by simpa using rounds_succ_sub names f _ (by simpa using hx))
   rw[←rounds_filter,←rounds_filter]at h
   by_cases e:(rounds names f (n+1)).length=(rounds names f (n+1+1)).length
   ·left;exact(h.2 e).symm
   ·right;omega
theorem rounds_stable (names:List Str) (f:Step):rounds names f (names.length+1)=rounds names f names.length:=by
 rcases rounds_length names f names.length with h | h
 ·exact h
 ·have:=(rounds_filter names f (names.length+1))
  have l:=List.length_filter_le (fun x=>(rounds names f (names.length+1)).contains x) names
  rw[←this]at l
  omega
theorem least_closed (names:List Str) (f:Step):Closed names f (least names f).contains:=by
 intro x hx h
 have:x∈rounds names f (names.length+1):=by
  simp only[rounds,next,List.mem_filter,Bool.or_eq_true]
  exact⟨hx,.inl h⟩
 rw[rounds_stable]at this
 simpa[least] using this
theorem least_least (names:List Str) (f:Step) (hf:f.Mono) (K:Str→Bool) (hK:Closed names f K) (x:Str)
  (h:x∈least names f):K x=true:=rounds_least names f hf K hK _ x h
theorem least_sub (names:List Str) (f:Step) {x:Str} (h:x∈least names f):x∈names:=rounds_sub names f _ h
theorem least_eq (names:List Str) (f:Step) (hf:f.Mono) (K:Str→Bool) (hK:Closed names f K)
  (h:∀x,K x=true→x∈least names f) (x:Str):K x=(least names f).contains x:=by
 rw[Bool.eq_iff_iff]
 exact⟨fun hx=>by simpa using h x hx,fun hx=>least_least names f hf K hK x (by simpa using hx)⟩
end
section
mutual
def derP (b:Bool) (k:Str→Bool):Part→Bool
 | .word _=>b
 | .name s _=>k s
 | .br .grp _ e=>derE b k e
 | .br .opt _ _=>true
 | .br .loop _ _=>true
def derR (b:Bool) (k:Str→Bool):Parts→Bool
 | .nil=>true
 | .cons p ps=>derP b k p&&derR b k ps
def derE (b:Bool) (k:Str→Bool):Rows→Bool
 | .nil=>false
 | .cons _ r e=>derR b k r||derE b k e
end
mutual
def fstP (w:Str) (f k:Str→Bool):Part→Bool
 | .word s=>s==w
 | .name s _=>f s
 | .br _ _ e=>fstE w f k e
def fstR (w:Str) (f k:Str→Bool):Parts→Bool
 | .nil=>false
 | .cons p ps=>fstP w f k p||(derP false k p&&fstR w f k ps)
def fstE (w:Str) (f k:Str→Bool):Rows→Bool
 | .nil=>false
 | .cons _ r e=>fstR w f k r||fstE w f k e
end
def telR (w:Str) (f k:Str→Bool) (b:Bool) (ps:Parts):Bool:=fstR w f k ps||(derR false k ps&&b)
def telE (w:Str) (f k:Str→Bool) (b:Bool):Rows→Bool
 | .nil=>false
 | .cons _ r e=>telR w f k b r||telE w f k b e
def within (w:Str) (f k:Str→Bool) (b:Bool) (q:Br) (e:Rows):Bool :=
 match q with
 | .loop=>fstE w f k e||b
 | _=>b
mutual
def occP (w:Str) (f k:Str→Bool) (n:Str) (b:Bool):Part→Bool
 | .word _=>false
 | .name s _=>s==n&&b
 | .br q _ e=>occE w f k n (within w f k b q e) e
def occR (w:Str) (f k:Str→Bool) (n:Str) (b:Bool):Parts→Bool
 | .nil=>false
 | .cons p ps=>occP w f k n (telR w f k b ps) p||occR w f k n b ps
def occE (w:Str) (f k:Str→Bool) (n:Str) (b:Bool):Rows→Bool
 | .nil=>false
 | .cons _ r e=>occR w f k n b r||occE w f k n b e
end
mutual
def namesP:Part→List (Str×Nat)
 | .word _=>[]
 | .name s p=>[(s,p)]
 | .br _ _ e=>namesE e
def namesR:Parts→List (Str×Nat)
 | .nil=>[]
 | .cons p ps=>namesP p++namesR ps
def namesE:Rows→List (Str×Nat)
 | .nil=>[]
 | .cons _ r e=>namesR r++namesE e
end
mutual
def wordsP:Part→List Str
 | .word s=>[s]
 | .name _ _=>[]
 | .br _ _ e=>wordsE e
def wordsR:Parts→List Str
 | .nil=>[]
 | .cons p ps=>wordsP p++wordsR ps
def wordsE:Rows→List Str
 | .nil=>[]
 | .cons _ r e=>wordsR r++wordsE e
end
def names (G:List Rule):List Str:=G.map (·.name)
def endStep (G:List Rule):Step:=fun k n=>G.any (fun r=>r.name==n&&derE true k r.body)
def nulStep (G:List Rule):Step:=fun k n=>G.any (fun r=>r.name==n&&derE false k r.body)
def comeStep (G:List Rule):Step:=fun k n =>
 (names G).head?==some n||G.any (fun r=>k r.name&&(namesE r.body).any (fun x=>x.1==n))
def ends (G:List Rule):List Str:=least (names G) (endStep G)
def come (G:List Rule):List Str:=least (names G) (comeStep G)
def nul (G:List Rule):List Str:=least (names G) (nulStep G)
def fstStep (G:List Rule) (k:Str→Bool) (w:Str):Step:=fun f n=>G.any (fun r=>r.name==n&&fstE w f k r.body)
def fsts (G:List Rule) (w:Str):List Str:=least (names G) (fstStep G (nul G).contains w)
def aftStep (G:List Rule) (f k:Str→Bool) (w:Str):Step:=fun a n =>
 ((names G).head?==some n&&w==[])||G.any (fun r=>occE w f k n (a r.name) r.body)
def afts (G:List Rule) (w:Str):List Str:=least (names G) (aftStep G (fsts G w).contains (nul G).contains w)
abbrev Place:=Nat×(Str→Bool)
mutual
def placesP (F:Str→Str→Bool) (k:Str→Bool) (B:Str→Bool):Part→List Place
 | .word _=>[]
 | .name _ _=>[]
 | .br .grp _ e=>placesE F k (fun _=>false) B e
 | .br .opt p e=>(p,fun w=>telE w (F w) k (B w) e&&B w)::placesE F k (fun _=>false) B e
 | .br .loop p e=>(p,fun w=>telE w (F w) k (fstE w (F w) k e||B w) e&&B w)::placesE F k (fun _=>false) (fun w=>fstE w (F w) k e||B w) e
def placesR (F:Str→Str→Bool) (k:Str→Bool) (B:Str→Bool):Parts→List Place
 | .nil=>[]
 | .cons p ps=>placesP F k (fun w=>telR w (F w) k (B w) ps) p++placesR F k B ps
def placesE (F:Str→Str→Bool) (k:Str→Bool) (ahead B:Str→Bool):Rows→List Place
 | .nil=>[]
 | .cons bar r e =>
  (bar,fun w=>telR w (F w) k (B w) r&&ahead w)::(placesR F k B r++placesE F k (fun w=>ahead w||telR w (F w) k (B w) r) B e)
end
def places (G:List Rule):List Place :=
 G.flatMap (fun r=>placesE (fun w n=>(fsts G w).contains n) (nul G).contains (fun _=>false) (fun w=>(afts G w).contains r.name) r.body)
def ltS:Str→Str→Bool
 | [],[]=>false
 | [],_::_=>true
 | _::_,[]=>false
 | a::l,b::m=>a<b||(a==b&&ltS l m)
def insS (w:Str):List Str→List Str
 | []=>[w]
 | x::l=>if ltS w x then w::x::l else if w==x then x::l else x::insS w l
def sortS (l:List Str):List Str:=l.foldr insS []
def cands (G:List Rule):List Str:=sortS ([]::G.flatMap (fun r=>wordsE r.body))
def firstClash (c:List Str):List Place→Option (Nat×Str)
 | []=>none
 | (p,P)::l=>match c.find? P with
  | some w=>some (p,w)
  | none=>firstClash c l
inductive Res where
 | long
 | bad (pos:Nat) (deep:Bool)
 | empty
 | many
 | twice (pos:Nat) (s:Str)
 | none (pos:Nat) (s:Str)
 | useless (pos:Nat) (s:Str)
 | clash (pos:Nat) (w:Str)
 | ok (G:List Rule)
def findTwice:List Str→List Rule→Option Rule
 | _,[]=>none
 | ahead,r::l=>if ahead.contains r.name then some r else findTwice (r.name::ahead) l
def findNone (G:List Rule):Option (Str×Nat):=(G.flatMap (fun r=>namesE r.body)).find? (fun x=>!(names G).contains x.1)
def findUseless (G:List Rule):Option Rule:=G.find? (fun r=>!((ends G).contains r.name&&(come G).contains r.name))
def check (G:List Rule):Res :=
 if G.length=0 then .empty
 else if 12<G.length then .many
 else match findTwice [] G with
  | some r=>.twice r.pos r.name
  | none=>match findNone G with
   | some x=>.none x.2 x.1
   | none=>match findUseless G with
    | some r=>.useless r.pos r.name
    | none=>match firstClash (cands G) (places G) with
     | some (p,w)=>.clash p w
     | none=>.ok G
def compile (l:Str):Res :=
 if 400<l.length then .long
 else match read l with
  | .bad p b=>.bad p b
  | .ok G _=>check G
mutual
theorem derP_mono (b:Bool) {k k':Str→Bool} (h:∀y,k y=true→k' y=true):∀p,derP b k p=true→derP b k' p=true
 | .word _,x=>x
 | .name s _,x=>h s x
 | .br .grp _ e,x=>by rw[derP]at *;exact derE_mono b h e x
 | .br .opt _ _,_=>by rw[derP]
 | .br .loop _ _,_=>by rw[derP]
theorem derR_mono (b:Bool) {k k':Str→Bool} (h:∀y,k y=true→k' y=true):∀p,derR b k p=true→derR b k' p=true
 | .nil,_=>by rw[derR]
 | .cons p ps,x=>by
  rw[derR,Bool.and_eq_true]at *
  exact⟨derP_mono b h p x.1,derR_mono b h ps x.2⟩
theorem derE_mono (b:Bool) {k k':Str→Bool} (h:∀y,k y=true→k' y=true):∀p,derE b k p=true→derE b k' p=true
 | .nil,x=>by rw[derE]at x;exact absurd x (by simp)
 | .cons _ r e,x=>by
  rw[derE,Bool.or_eq_true]at *
  exact x.imp (derR_mono b h r) (derE_mono b h e)
end
mutual
theorem fstP_mono (w:Str) (k:Str→Bool) {f f':Str→Bool} (h:∀y,f y=true→f' y=true):∀p,fstP w f k p=true→fstP w f' k p=true
 | .word _,x=>by rw[fstP]at *;exact x
 | .name s _,x=>h s x
 | .br _ _ e,x=>by rw[fstP]at *;exact fstE_mono w k h e x
theorem fstR_mono (w:Str) (k:Str→Bool) {f f':Str→Bool} (h:∀y,f y=true→f' y=true):∀p,fstR w f k p=true→fstR w f' k p=true
 | .nil,x=>by rw[fstR]at x;exact absurd x (by simp)
 | .cons p ps,x=>by
  rw[fstR,Bool.or_eq_true,Bool.and_eq_true]at *
  exact x.imp (fstP_mono w k h p) (fun y=>⟨y.1,fstR_mono w k h ps y.2⟩)
theorem fstE_mono (w:Str) (k:Str→Bool) {f f':Str→Bool} (h:∀y,f y=true→f' y=true):∀p,fstE w f k p=true→fstE w f' k p=true
 | .nil,x=>by rw[fstE]at x;exact absurd x (by simp)
 | .cons _ r e,x=>by
  rw[fstE,Bool.or_eq_true]at *
  exact x.imp (fstR_mono w k h r) (fstE_mono w k h e)
end
theorem telR_mono (w:Str) (f k:Str→Bool) {b b':Bool} (h:b=true→b'=true) (ps:Parts) (x:telR w f k b ps=true) :
  telR w f k b' ps=true:=by
 simp only[telR,Bool.or_eq_true,Bool.and_eq_true]at *
 exact x.imp id (fun y=>⟨y.1,h y.2⟩)
theorem within_mono (w:Str) (f k:Str→Bool) {b b':Bool} (h:b=true→b'=true) (q:Br) (e:Rows) (x:within w f k b q e=true) :
  within w f k b' q e=true:=by
 cases q<;>simp only[within,Bool.or_eq_true]at * <;> first | exact h x | exact x.imp id h
mutual
theorem occP_mono (w:Str) (f k:Str→Bool) (n:Str) {b b':Bool} (h:b=true→b'=true):∀p,occP w f k n b p=true→occP w f k n b' p=true
 | .word _,x=>by rw[occP]at x;exact absurd x (by simp)
 | .name s _,x=>by rw[occP,Bool.and_eq_true]at *;exact⟨x.1,h x.2⟩
 | .br q _ e,x=>by rw[occP]at *;exact occE_mono w f k n (fun y=>within_mono w f k h q e y) e x
theorem occR_mono (w:Str) (f k:Str→Bool) (n:Str) {b b':Bool} (h:b=true→b'=true):∀p,occR w f k n b p=true→occR w f k n b' p=true
 | .nil,x=>by rw[occR]at x;exact absurd x (by simp)
 | .cons p ps,x=>by
  rw[occR,Bool.or_eq_true]at *
  exact x.imp (occP_mono w f k n (fun y=>telR_mono w f k h ps y) p) (occR_mono w f k n h ps)
theorem occE_mono (w:Str) (f k:Str→Bool) (n:Str) {b b':Bool} (h:b=true→b'=true):∀p,occE w f k n b p=true→occE w f k n b' p=true
 | .nil,x=>by rw[occE]at x;exact absurd x (by simp)
 | .cons _ r e,x=>by
  rw[occE,Bool.or_eq_true]at *
  exact x.imp (occR_mono w f k n h r) (occE_mono w f k n h e)
end
theorem any_mono {α:Type} {l:List α} {p q:α→Bool} (h:∀x,p x=true→q x=true) (x:l.any p=true):l.any q=true:=by
 rw[List.any_eq_true]at *
 obtain⟨a,ha,hp⟩:=x
 exact⟨a,ha,h a hp⟩
theorem endStep_mono (G:List Rule):(endStep G).Mono:=fun k k' h x hx =>
 any_mono (fun r hr=>by rw[Bool.and_eq_true]at *;exact⟨hr.1,derE_mono true h _ hr.2⟩) hx
theorem nulStep_mono (G:List Rule):(nulStep G).Mono:=fun k k' h x hx =>
 any_mono (fun r hr=>by rw[Bool.and_eq_true]at *;exact⟨hr.1,derE_mono false h _ hr.2⟩) hx
theorem comeStep_mono (G:List Rule):(comeStep G).Mono:=fun k k' h x hx=>by
 simp only[comeStep,Bool.or_eq_true]at *
 exact hx.imp id (any_mono (fun r hr=>by rw[Bool.and_eq_true]at *;exact⟨h _ hr.1,hr.2⟩))
theorem fstStep_mono (G:List Rule) (k:Str→Bool) (w:Str):(fstStep G k w).Mono:=fun f f' h x hx =>
 any_mono (fun r hr=>by rw[Bool.and_eq_true]at *;exact⟨hr.1,fstE_mono w k h _ hr.2⟩) hx
theorem aftStep_mono (G:List Rule) (f k:Str→Bool) (w:Str):(aftStep G f k w).Mono:=fun a a' h x hx=>by
 simp only[aftStep,Bool.or_eq_true]at *
 exact hx.imp id (any_mono (fun r hr=>occE_mono w f k x (fun y=>h _ y) _ hr))
end
section
def Parts.app:Parts→Parts→Parts
 | .nil,q=>q
 | .cons p ps,q=>.cons p (ps.app q)
def Rows.app:Rows→Rows→Rows
 | .nil,q=>q
 | .cons b r e,q=>.cons b r (e.app q)
theorem Parts.app_nil (p:Parts):p.app .nil=p:=by
 induction p using Parts.rec (motive_1:=fun _=>True) (motive_3:=fun _=>True)<;>simp_all [Parts.app]
theorem Rows.app_nil (p:Rows):p.app .nil=p:=by
 induction p using Rows.rec (motive_1:=fun _=>True) (motive_2:=fun _=>True)<;>simp_all [Rows.app]
theorem Parts.app_app (p q r:Parts):(p.app q).app r=p.app (q.app r):=by
 induction p using Parts.rec (motive_1:=fun _=>True) (motive_3:=fun _=>True)<;>simp_all [Parts.app]
theorem Rows.app_app (p q r:Rows):(p.app q).app r=p.app (q.app r):=by
 induction p using Rows.rec (motive_1:=fun _=>True) (motive_2:=fun _=>True)<;>simp_all [Rows.app]
def preP (acc:Parts):Out Parts→Out Parts
 | .ok ps t=>.ok (acc.app ps) t
 | .bad p b=>.bad p b
def preE (acc:Rows):Out Rows→Out Rows
 | .ok ps t=>.ok (acc.app ps) t
 | .bad p b=>.bad p b
theorem preP_nil (x:Out Parts):preP .nil x=x:=by cases x<;>rfl
theorem preE_nil (x:Out Rows):preE .nil x=x:=by cases x<;>rfl
theorem preP_preP (a b:Parts) (x:Out Parts):preP a (preP b x)=preP (a.app b) x:=by
 cases x<;>simp[preP,Parts.app_app]
theorem preE_preE (a b:Rows) (x:Out Rows):preE a (preE b x)=preE (a.app b) x:=by
 cases x<;>simp[preE,Rows.app_app]
def brF (l:Str) (m d:Nat) (t:Tok) (k:Br):Out Part :=
 if d=10 then .bad t.pos true
 else match expF l m (d+1) 0 (tokFrom l t.to) with
  | .bad p b=>.bad p b
  | .ok e t'=>if t'.kind=closing k then .ok (.br k t.pos e) (tokFrom l t'.to) else .bad t'.pos false
theorem rowF_name {l:Str} {m d:Nat} {t:Tok} (h:t.kind=97) :
  rowF l (m+1) d t=preP (.cons (.name (cut l t.pos t.to) t.pos) .nil) (rowF l m d (tokFrom l t.to)):=by
 rw[rowF,if_pos h]
 cases rowF l m d (tokFrom l t.to)<;>rfl
theorem rowF_word {l:Str} {m d:Nat} {t:Tok} (h:t.kind=34) :
  rowF l (m+1) d t=preP (.cons (.word (cut l (t.pos+1) (t.to - 1))) .nil) (rowF l m d (tokFrom l t.to)):=by
 rw[rowF,if_neg (by omega),if_pos h]
 cases rowF l m d (tokFrom l t.to)<;>rfl
theorem rowF_end {l:Str} {m d:Nat} {t:Tok} (h1:t.kind≠97) (h2:t.kind≠34) (h:brOf t.kind=none):rowF l (m+1) d t=.ok .nil t:=by
 rw[rowF,if_neg h1,if_neg h2,h]
theorem rowF_bad {l:Str} {m d:Nat} {t:Tok} {k:Br} {p:Nat} {b:Bool} (h:brOf t.kind=some k) (hb:brF l m d t k=.bad p b):rowF l (m+1) d t=.bad p b:=by
 have h1:t.kind≠97:=fun e=>by rw[e]at h;simp[brOf]at h
 have h2:t.kind≠34:=fun e=>by rw[e]at h;simp[brOf]at h
 rw[rowF,if_neg h1,if_neg h2,h]
 dsimp only
 unfold brF at hb
 by_cases hd:d=10
 ·rw[if_pos hd]at hb;rw[if_pos hd];simpa using hb
 ·rw[if_neg hd]at hb
  rw[if_neg hd]
  cases he:expF l m (d+1) 0 (tokFrom l t.to) with
  | bad q c=>rw[he]at hb;simpa using hb
  | ok e t' =>
   rw[he]at hb
   by_cases hc:t'.kind=closing k
   ·simp[hc]at hb
   ·simp[hc]at hb ⊢;exact hb
theorem rowF_ok {l:Str} {m d:Nat} {t t':Tok} {k:Br} {p:Part} (h:brOf t.kind=some k) (hb:brF l m d t k=.ok p t') :
  rowF l (m+1) d t=preP (.cons p .nil) (rowF l m d t'):=by
 have h1:t.kind≠97:=fun e=>by rw[e]at h;simp[brOf]at h
 have h2:t.kind≠34:=fun e=>by rw[e]at h;simp[brOf]at h
 rw[rowF,if_neg h1,if_neg h2,h]
 dsimp only
 unfold brF at hb
 by_cases hd:d=10
 ·rw[if_pos hd]at hb;simp at hb
 ·rw[if_neg hd]at hb
  rw[if_neg hd]
  cases he:expF l m (d+1) 0 (tokFrom l t.to) with
  | bad q c=>rw[he]at hb;simp at hb
  | ok e t1 =>
   rw[he]at hb
   by_cases hc:t1.kind=closing k
   ·simp[hc]at hb ⊢
    rw[hb.2,hb.1]
    cases rowF l m d t'<;>rfl
   ·simp[hc]at hb
theorem expF_bad {l:Str} {m d bar:Nat} {t:Tok} {p:Nat} {b:Bool} (h:rowF l m d t=.bad p b):expF l (m+1) d bar t=.bad p b:=by
 rw[expF,h]
theorem expF_more {l:Str} {m d bar:Nat} {t t':Tok} {r:Parts} (h:rowF l m d t=.ok r t') (hk:t'.kind=124) :
  expF l (m+1) d bar t=preE (.cons bar r .nil) (expF l m d t'.pos (tokFrom l t'.to)):=by
 rw[expF,h]
 simp only[hk,if_true]
 cases expF l m d t'.pos (tokFrom l t'.to)<;>rfl
theorem expF_last {l:Str} {m d bar:Nat} {t t':Tok} {r:Parts} (h:rowF l m d t=.ok r t') (hk:t'.kind≠124) :
  expF l (m+1) d bar t=.ok (.cons bar r .nil) t':=by
 rw[expF,h]
 simp only[hk,if_false]
def Enough (l:Str) (t:Tok) (m:Nat):Prop:=2 * (l.length - t.pos)+1≤m
theorem Enough.pos {l:Str} {t:Tok} {m:Nat} (h:Enough l t m):∃k,m=k+1:=⟨m - 1,by unfold Enough at h;omega⟩
theorem Enough.next {l:Str} {t:Tok} {m:Nat} (h:Enough l t (m+1)) (hf:t.fits l) (hk:t.kind≠0∧t.kind≠1):Enough l (tokFrom l t.to) (m - 1)∧1≤m:=by
 have h1:=hf.2.2 hk
 have h2:=hf.2.1
 have h3:=tokFrom_ge l t.to
 unfold Enough at *
 omega
theorem Enough.mono {l:Str} {t:Tok} {m n:Nat} (h:Enough l t m) (hn:m≤n):Enough l t n:=by unfold Enough at *;omega
theorem Enough.on {l:Str} {t t':Tok} {m:Nat} (h:Enough l t m) (ho:t.on l t'):Enough l t' m:=by
 have:=Tok.on_pos ho
 unfold Enough at *;omega
theorem brF_on {l:Str} {m d:Nat} {t t':Tok} {k:Br} {p:Part} (hf:t.fits l) (h:brOf t.kind=some k) (hb:brF l m d t k=.ok p t'):t'.fits l∧t.pos<t'.pos:=by
 unfold brF at hb
 by_cases hd:d=10
 ·rw[if_pos hd]at hb;simp at hb
 ·rw[if_neg hd]at hb
  cases he:expF l m (d+1) 0 (tokFrom l t.to) with
  | bad q c=>rw[he]at hb;simp at hb
  | ok e t1 =>
   rw[he]at hb
   have o1:=Tok.on_next hf (brOf_some h)
   have o2:=(reader_on l m).1 _ _ _ _ _ o1.1 he
   by_cases hc:t1.kind=closing k
   ·have o3:=Tok.on_next o2.1 (hc▸closing_ne k)
    simp[hc]at hb
    rw[←hb.2]
    refine⟨o3.1,?_⟩
    have a:=Tok.on_pos o2
    have b:=Tok.on_pos o3
    have c:t.pos<(tokFrom l t.to).pos:=Nat.lt_of_lt_of_le (hf.2.2 (brOf_some h)) (tokFrom_ge l _)
    omega
   ·simp[hc]at hb
end
section
theorem ltS_irrefl (a:Str):ltS a a=false:=by
 induction a with
 | nil=>rfl
 | cons c l ih=>simp[ltS,ih]
theorem ltS_trans {a b c:Str} (h:ltS a b=true) (h':ltS b c=true):ltS a c=true:=by
 induction a generalizing b c with
 | nil =>
  cases c with
  | nil=>cases b<;>simp[ltS]at h h'
  | cons=>rfl
 | cons x a ih =>
  cases b with
  | nil=>simp[ltS]at h
  | cons y b =>
   cases c with
   | nil=>simp[ltS]at h'
   | cons z c =>
    simp only[ltS,Bool.or_eq_true,Bool.and_eq_true,decide_eq_true_eq,beq_iff_eq,UInt8.lt_iff_toNat_lt,←UInt8.toNat_inj]at *
    rcases h with h | ⟨h,h2⟩<;>rcases h' with h' | ⟨h',h2'⟩
    ·left;omega
    ·left;omega
    ·left;omega
    ·right;exact⟨by omega,ih h2 h2'⟩
theorem ltS_total {a b:Str} (h:ltS a b=false) (h':ltS b a=false):a=b:=by
 induction a generalizing b with
 | nil=>cases b with
  | nil=>rfl
  | cons=>simp[ltS]at h
 | cons x a ih =>
  cases b with
  | nil=>simp[ltS]at h'
  | cons y b =>
   simp only[ltS,Bool.or_eq_false_iff,Bool.and_eq_false_iff,decide_eq_false_iff_not,beq_eq_false_iff_ne,ne_eq,UInt8.lt_iff_toNat_lt,←UInt8.toNat_inj]at *
   have e:x.toNat=y.toNat:=by omega
   have:=ih (h.2.resolve_left (fun f=>f e)) (h'.2.resolve_left (fun f=>f e.symm))
   rw[this,UInt8.toNat_inj.1 e]
theorem ltS_asymm {a b:Str} (h:ltS a b=true):ltS b a=false:=by
 cases h':ltS b a with
 | false=>rfl
 | true=>have:=ltS_trans h h';rw[ltS_irrefl]at this;exact absurd this (by simp)
abbrev Rising (l:List Str):Prop:=l.Pairwise (fun a b=>ltS a b=true)
theorem mem_insS (w x:Str) (l:List Str):x∈insS w l↔x=w∨x∈l:=by
 induction l with
 | nil=>simp[insS]
 | cons a l ih =>
  simp only[insS]
  split
  ·simp
  ·split
   ·rename_i h
    simp at h;subst h
    simp
   ·simp[ih]
    constructor
    ·rintro(h | h | h)<;>simp[h]
    ·rintro(h | h | h)<;>simp[h]
theorem insS_rising (w:Str) (l:List Str) (h:Rising l):Rising (insS w l):=by
 induction l with
 | nil=>simp[insS]
 | cons a l ih =>
  simp only[insS]
  have h1:=List.pairwise_cons.1 h
  split
  ·rename_i hlt
   refine List.pairwise_cons.2 ⟨?_,h⟩
   intro x hx
   rcases List.mem_cons.1 hx with rfl | hx
   ·exact hlt
   ·exact ltS_trans hlt (h1.1 x hx)
  ·rename_i hlt
   split
   ·exact h
   ·rename_i hne
    refine List.pairwise_cons.2 ⟨?_,ih h1.2⟩
    intro x hx
    rcases(mem_insS _ _ _).1 hx with rfl | hx
    ·cases hc:ltS a x with
     | true=>rfl
     | false =>
      have:=ltS_total hc (by simpa using hlt)
      simp[this]at hne
    ·exact h1.1 x hx
theorem mem_sortS (l:List Str) (x:Str):x∈sortS l↔x∈l:=by
 induction l with
 | nil=>simp[sortS]
 | cons a l ih =>
  have:sortS (a::l)=insS a (sortS l):=rfl
  rw[this,mem_insS,ih];simp
theorem sortS_rising (l:List Str):Rising (sortS l):=by
 induction l with
 | nil=>simp[sortS]
 | cons a l ih=>exact insS_rising a _ ih
theorem find_least {l:List Str} (h:Rising l) {P:Str→Bool} {w:Str} (hw:l.find? P=some w) :
  P w=true∧w∈l∧∀x,x∈l→P x=true→ltS x w=false:=by
 induction l with
 | nil=>simp at hw
 | cons a l ih =>
  have h1:=List.pairwise_cons.1 h
  rw[List.find?_cons]at hw
  split at hw
  ·rename_i hp
   cases hw
   refine⟨hp,List.mem_cons_self,?_⟩
   intro x hx _
   rcases List.mem_cons.1 hx with rfl | hx
   ·exact ltS_irrefl _
   ·exact ltS_asymm (h1.1 x hx)
  ·rename_i hp
   have:=ih h1.2 hw
   refine⟨this.1,List.mem_cons_of_mem _ this.2.1,?_⟩
   intro x hx hx2
   rcases List.mem_cons.1 hx with rfl | hx
   ·rw[hp]at hx2;exact absurd hx2 (by simp)
   ·exact this.2.2 x hx hx2
theorem find_eq {l:List Str} (h:Rising l) {P:Str→Bool} {w:Str} (hP:∀x,P x=true→x∈l) (hw:P w=true)
  (hl:∀x,P x=true→ltS x w=false):l.find? P=some w:=by
 cases hf:l.find? P with
 | none =>
  have:=List.find?_eq_none.1 hf w (hP w hw)
  exact absurd hw this
 | some v =>
  have:=find_least h hf
  rw[ltS_total (hl v this.1) (this.2.2 w (hP w hw) hw)]
theorem find_none {l:List Str} {P:Str→Bool} (hP:∀x,P x=false):l.find? P=none:=by
 rw[List.find?_eq_none]
 intro x _
 rw[hP x];simp
theorem rising_ext {l m:List Str} (h:Rising l) (h':Rising m) (e:∀x,x∈l↔x∈m):l=m:=by
 induction l generalizing m with
 | nil =>
  cases m with
  | nil=>rfl
  | cons a m=>have:=(e a).2 List.mem_cons_self;simp at this
 | cons a l ih =>
  cases m with
  | nil=>have:=(e a).1 List.mem_cons_self;simp at this
  | cons b m =>
   have h1:=List.pairwise_cons.1 h
   have h2:=List.pairwise_cons.1 h'
   have ab:a=b:=by
    rcases List.mem_cons.1 ((e a).1 List.mem_cons_self) with x | x
    ·exact x
    ·rcases List.mem_cons.1 ((e b).2 List.mem_cons_self) with y | y
     ·exact y.symm
     ·have p:=h2.1 a x
      have q:=h1.1 b y
      rw[ltS_asymm p]at q
      exact absurd q (by simp)
   subst ab
   rw[ih h1.2 h2.2]
   intro x
   constructor
   ·intro hx
    rcases List.mem_cons.1 ((e x).1 (List.mem_cons_of_mem _ hx)) with y | y
    ·subst y;have:=h1.1 x hx;rw[ltS_irrefl]at this;exact absurd this (by simp)
    ·exact y
   ·intro hx
    rcases List.mem_cons.1 ((e x).2 (List.mem_cons_of_mem _ hx)) with y | y
    ·subst y;have:=h2.1 x hx;rw[ltS_irrefl]at this;exact absurd this (by simp)
    ·exact y
mutual
theorem fstP_words (w:Str) (f k:Str→Bool) (h:∀n,f n=false):∀p,fstP w f k p=true→w∈wordsP p
 | .word s,x=>by simp[fstP]at x;simp[wordsP,x]
 | .name s _,x=>by simp[fstP,h]at x
 | .br _ _ e,x=>by rw[fstP]at x;rw[wordsP];exact fstE_words w f k h e x
theorem fstR_words (w:Str) (f k:Str→Bool) (h:∀n,f n=false):∀p,fstR w f k p=true→w∈wordsR p
 | .nil,x=>by simp[fstR]at x
 | .cons p ps,x=>by
  rw[fstR,Bool.or_eq_true,Bool.and_eq_true]at x
  rw[wordsR,List.mem_append]
  exact x.imp (fstP_words w f k h p) (fun y=>fstR_words w f k h ps y.2)
theorem fstE_words (w:Str) (f k:Str→Bool) (h:∀n,f n=false):∀p,fstE w f k p=true→w∈wordsE p
 | .nil,x=>by simp[fstE]at x
 | .cons _ r e,x=>by
  rw[fstE,Bool.or_eq_true]at x
  rw[wordsE,List.mem_append]
  exact x.imp (fstR_words w f k h r) (fstE_words w f k h e)
end
def allWords (G:List Rule):List Str:=G.flatMap (fun r=>wordsE r.body)
theorem mem_allWords {G:List Rule} {r:Rule} {w:Str} (hr:r∈G) (h:w∈wordsE r.body):w∈allWords G :=
 List.mem_flatMap.2 ⟨r,hr,h⟩
theorem fsts_words {G:List Rule} {w n:Str} (h:n∈fsts G w):w∈allWords G:=by
 by_cases hw:w∈allWords G
 ·exact hw
 ·have:Closed (names G) (fstStep G (nul G).contains w) (fun _=>false):=by
   intro x _ hx
   simp only[fstStep,List.any_eq_true,Bool.and_eq_true]at hx
   obtain⟨r,hr,_,h2⟩:=hx
   exact absurd (mem_allWords hr (fstE_words w _ _ (fun _=>rfl) _ h2)) hw
  have:=least_least _ _ (fstStep_mono G _ w) _ this n h
  exact absurd this (by simp)
theorem fsts_false {G:List Rule} {w:Str} (hw:w∉allWords G) (n:Str):(fsts G w).contains n=false:=by
 cases h:(fsts G w).contains n with
 | false=>rfl
 | true=>exact absurd (fsts_words (by simpa using h)) hw
theorem not_fstR {w:Str} {f k:Str→Bool} (h:∀n,f n=false) {ps:Parts} (hw:w∉wordsR ps):fstR w f k ps=false:=by
 cases e:fstR w f k ps with
 | false=>rfl
 | true=>exact absurd (fstR_words w f k h ps e) hw
theorem not_fstE {w:Str} {f k:Str→Bool} (h:∀n,f n=false) {ps:Rows} (hw:w∉wordsE ps):fstE w f k ps=false:=by
 cases e:fstE w f k ps with
 | false=>rfl
 | true=>exact absurd (fstE_words w f k h ps e) hw
mutual
theorem occP_false (w:Str) (f k:Str→Bool) (h:∀n,f n=false) (n:Str):∀p,w∉wordsP p→occP w f k n false p=false
 | .word _,_=>by rw[occP]
 | .name _ _,_=>by simp[occP]
 | .br q _ e,x=>by
  rw[wordsP]at x
  have:within w f k false q e=false:=by cases q<;>simp[within,not_fstE h x]
  rw[occP,this]
  exact occE_false w f k h n e x
theorem occR_false (w:Str) (f k:Str→Bool) (h:∀n,f n=false) (n:Str):∀p,w∉wordsR p→occR w f k n false p=false
 | .nil,_=>by rw[occR]
 | .cons p ps,x=>by
  rw[wordsR,List.mem_append,not_or]at x
  have:telR w f k false ps=false:=by simp[telR,not_fstR h x.2]
  rw[occR,this,occP_false w f k h n p x.1,occR_false w f k h n ps x.2];rfl
theorem occE_false (w:Str) (f k:Str→Bool) (h:∀n,f n=false) (n:Str):∀p,w∉wordsE p→occE w f k n false p=false
 | .nil,_=>by rw[occE]
 | .cons _ r e,x=>by
  rw[wordsE,List.mem_append,not_or]at x
  rw[occE,occR_false w f k h n r x.1,occE_false w f k h n e x.2];rfl
end
theorem afts_words {G:List Rule} {w n:Str} (h:n∈afts G w):w=[]∨w∈allWords G:=by
 by_cases hw:w∈allWords G
 ·exact .inr hw
 ·by_cases h0:w=[]
  ·exact .inl h0
  ·have:Closed (names G) (aftStep G (fsts G w).contains (nul G).contains w) (fun _=>false):=by
    intro x _ hx
    simp only[aftStep,Bool.or_eq_true,Bool.and_eq_true,beq_iff_eq,h0,and_false,false_or,List.any_eq_true]at hx
    obtain⟨r,hr,h2⟩:=hx
    rw[occE_false w _ _ (fsts_false hw) x r.body (fun y=>hw (mem_allWords hr y))]at h2
    exact absurd h2 (by simp)
   have:=least_least _ _ (aftStep_mono G _ _ w) _ this n h
   exact absurd this (by simp)
mutual
def posP (lo hi:Nat):Part→Prop
 | .word _=>lo<hi
 | .name _ q=>lo≤q∧q<hi
 | .br _ q e=>lo≤q∧posE (q+1) hi e
def posR (lo hi:Nat):Parts→Prop
 | .nil=>lo≤hi
 | .cons p ps=>∃m,posP lo m p∧posR m hi ps
def posE (lo hi:Nat):Rows→Prop
 | .nil=>lo≤hi
 | .cons _ r e=>∃m,posR lo m r∧posT m hi e
def posT (lo hi:Nat):Rows→Prop
 | .nil=>lo≤hi
 | .cons bar r e=>lo≤bar∧∃m,posR (bar+1) m r∧posT m hi e
end
mutual
theorem posP_le {lo hi:Nat}:∀{p},posP lo hi p→lo<hi
 | .word _,h=>by rw[posP]at h;exact h
 | .name _ _,h=>by rw[posP]at h;omega
 | .br _ _ _,h=>by rw[posP]at h;have:=posE_le h.2;omega
theorem posR_le {lo hi:Nat}:∀{p},posR lo hi p→lo≤hi
 | .nil,h=>by rw[posR]at h;exact h
 | .cons _ _,h=>by rw[posR]at h;obtain⟨m,a,b⟩:=h;have:=posP_le a;have:=posR_le b;omega
theorem posE_le {lo hi:Nat}:∀{p},posE lo hi p→lo≤hi
 | .nil,h=>by rw[posE]at h;exact h
 | .cons _ _ _,h=>by rw[posE]at h;obtain⟨m,a,b⟩:=h;have:=posR_le a;have:=posT_le b;omega
theorem posT_le {lo hi:Nat}:∀{p},posT lo hi p→lo≤hi
 | .nil,h=>by rw[posT]at h;exact h
 | .cons _ _ _,h=>by rw[posT]at h;obtain⟨c,m,a,b⟩:=h;have:=posR_le a;have:=posT_le b;omega
end
mutual
theorem posP_wide {lo hi lo' hi':Nat} (a:lo'≤lo) (b:hi≤hi'):∀{p},posP lo hi p→posP lo' hi' p
 | .word _,h=>by rw[posP]at *;omega
 | .name _ _,h=>by rw[posP]at *;omega
 | .br _ _ _,h=>by rw[posP]at *;exact⟨by omega,posE_wide (Nat.le_refl _) b h.2⟩
theorem posR_wide {lo hi lo' hi':Nat} (a:lo'≤lo) (b:hi≤hi'):∀{p},posR lo hi p→posR lo' hi' p
 | .nil,h=>by rw[posR]at *;omega
 | .cons _ _,h=>by rw[posR]at *;obtain⟨m,x,y⟩:=h;exact⟨m,posP_wide a (Nat.le_refl _) x,posR_wide (Nat.le_refl _) b y⟩
theorem posE_wide {lo hi lo' hi':Nat} (a:lo'≤lo) (b:hi≤hi'):∀{p},posE lo hi p→posE lo' hi' p
 | .nil,h=>by rw[posE]at *;omega
 | .cons _ _ _,h=>by rw[posE]at *;obtain⟨m,x,y⟩:=h;exact⟨m,posR_wide a (Nat.le_refl _) x,posT_wide (Nat.le_refl _) b y⟩
theorem posT_wide {lo hi lo' hi':Nat} (a:lo'≤lo) (b:hi≤hi'):∀{p},posT lo hi p→posT lo' hi' p
 | .nil,h=>by rw[posT]at *;omega
 | .cons _ _ _,h=>by rw[posT]at *;obtain⟨c,m,x,y⟩:=h;exact⟨by omega,m,posR_wide (Nat.le_refl _) (Nat.le_refl _) x,posT_wide (Nat.le_refl _) b y⟩
end
theorem posT_of_posE {lo hi bar b:Nat} {r:Parts} {e:Rows} (h:posE (bar+1) hi (.cons b r e)) (hb:lo≤bar):posT lo hi (.cons bar r e):=by
 rw[posE]at h;rw[posT];exact⟨hb,h⟩
theorem expF_bar (l:Str) (n d bar:Nat) (t:Tok) (e:Rows) (t':Tok) (h:expF l n d bar t=.ok e t'):∃r e',e=.cons bar r e':=by
 cases n with
 | zero=>simp[expF]at h
 | succ n =>
  rw[expF]at h
  split at h
  ·simp at h
  ·split at h
   ·split at h
    ·simp at h
    ·simp at h;exact⟨_,_,h.1.symm⟩
   ·simp at h;exact⟨_,_,h.1.symm⟩
theorem reader_pos (l:Str) (n:Nat) :
  (∀d bar t e t',t.fits l→expF l n d bar t=.ok e t'→posE t.pos t'.pos e) ∧
  (∀d t ps t',t.fits l→rowF l n d t=.ok ps t'→posR t.pos t'.pos ps):=by
 induction n with
 | zero=>exact⟨fun _ _ _ _ _ _ h=>by simp[expF]at h,fun _ _ _ _ _ h=>by simp[rowF]at h⟩
 | succ n ih =>
  refine⟨?_,?_⟩
  ·intro d bar t e t' ht h
   rw[expF]at h
   split at h
   ·simp at h
   ·rename_i r t1 h1
    have o1:=(reader_on l n).2 _ _ _ _ ht h1
    have p1:=ih.2 _ _ _ _ ht h1
    split at h
    ·rename_i hk
     split at h
     ·simp at h
     ·rename_i e2 t2 h2
      have o2:=Tok.on_next o1.1 (by omega)
      have p2:=ih.1 _ _ _ _ _ o2.1 h2
      obtain⟨r2,e3,rfl⟩:=expF_bar _ _ _ _ _ _ _ h2
      simp at h
      rw[←h.1,←h.2,posE]
      refine⟨t1.pos,p1,posT_of_posE (b:=t1.pos) ?_ (Nat.le_refl _)⟩
      have:=o1.1.2.2 (by omega)
      exact posE_wide (by have:=tokFrom_ge l t1.to;omega) (Nat.le_refl _) p2
    ·simp at h
     rw[←h.1,←h.2,posE]
     exact⟨t1.pos,p1,by rw[posT];exact Nat.le_refl _⟩
  ·intro d t ps t' ht h
   rw[rowF]at h
   split at h
   ·rename_i hk
    split at h
    ·simp at h
    ·rename_i ps1 t1 h1
     have o1:=Tok.on_next ht (by omega)
     have p1:=ih.2 _ _ _ _ o1.1 h1
     have:=ht.2.2 (by omega)
     have:=tokFrom_ge l t.to
     simp at h
     rw[←h.1,←h.2,posR]
     exact⟨_,by rw[posP];exact⟨Nat.le_refl _,by omega⟩,p1⟩
   ·split at h
    ·rename_i hk
     split at h
     ·simp at h
     ·rename_i ps1 t1 h1
      have o1:=Tok.on_next ht (by omega)
      have p1:=ih.2 _ _ _ _ o1.1 h1
      have:=ht.2.2 (by omega)
      have:=tokFrom_ge l t.to
      simp at h
      rw[←h.1,←h.2,posR]
      exact⟨_,by rw[posP];omega,p1⟩
    ·split at h
     ·simp at h
      rw[←h.1,←h.2,posR]
      exact Nat.le_refl _
     ·rename_i k hk
      split at h
      ·simp at h
      ·split at h
       ·simp at h
       ·rename_i e1 t1 h1
        have o1:=Tok.on_next ht (brOf_some hk)
        have o2:=(reader_on l n).1 _ _ _ _ _ o1.1 h1
        have p1:=ih.1 _ _ _ _ _ o1.1 h1
        split at h
        ·rename_i hc
         split at h
         ·simp at h
         ·rename_i ps2 t2 h2
          have o3:=Tok.on_next o2.1 (hc▸closing_ne k)
          have p2:=ih.2 _ _ _ _ o3.1 h2
          have:=ht.2.2 (brOf_some hk)
          have:=tokFrom_ge l t.to
          have:=Tok.on_pos o3
          simp at h
          rw[←h.1,←h.2,posR]
          refine⟨_,?_,p2⟩
          rw[posP]
          exact⟨Nat.le_refl _,posE_wide (by omega) (by omega) p1⟩
        ·simp at h
end
section
theorem nodup_le {α:Type} [DecidableEq α]:∀(l m:List α),l.Nodup→(∀x,x∈l→x∈m)→l.length≤m.length
 | [],_,_,_=>Nat.zero_le _
 | a::l,m,hn,h=>by
  rw[List.nodup_cons]at hn
  have ha:a∈m:=h a List.mem_cons_self
  have:=nodup_le l (m.erase a) hn.2 (fun x hx=>by
   have hne:x≠a:=fun e=>hn.1 (by rw[←e];exact hx)
   exact(List.mem_erase_of_ne hne).2 (h x (List.mem_cons_of_mem _ hx)))
  rw[List.length_erase_of_mem ha]at this
  have hp:0<m.length:=List.length_pos_of_mem ha
  simp;omega
def thatStep (b:Bool) (G:List Rule):Step:=fun k n=>G.any (fun r=>r.name==n&&derE b k r.body)
theorem thatStep_mono (b:Bool) (G:List Rule):(thatStep b G).Mono:=fun k k' h x hx =>
 any_mono (fun r hr=>by rw[Bool.and_eq_true]at *;exact⟨hr.1,derE_mono b h _ hr.2⟩) hx
def that (b:Bool) (G:List Rule):List Str:=least (names G) (thatStep b G)
theorem ends_that (G:List Rule):ends G=that true G:=rfl
theorem nul_that (G:List Rule):nul G=that false G:=rfl
def Sound (b:Bool) (G:List Rule) (cur:List Str):Prop:=∀x,cur.contains x=true→(that b G).contains x=true
def ClosedBy (b:Bool) (G:List Rule) (cur:List Str):Prop:=∀q,q∈G→derE b cur.contains q.body=true→cur.contains q.name=true
theorem Sound.add {b:Bool} {G:List Rule} {cur:List Str} (h:Sound b G cur) {q:Rule} (hq:q∈G) (hd:derE b cur.contains q.body=true):(that b G).contains q.name=true:=by
 refine least_closed (names G) (thatStep b G) q.name (List.mem_map.2 ⟨q,hq,rfl⟩) ?_
 unfold thatStep
 rw[List.any_eq_true]
 exact⟨q,hq,by rw[Bool.and_eq_true];exact⟨by simp,derE_mono b h _ hd⟩⟩
theorem Sound.done {b:Bool} {G:List Rule} {cur:List Str} (h:Sound b G cur) (hc:ClosedBy b G cur) (x:Str):cur.contains x=(that b G).contains x:=by
 refine least_eq (names G) (thatStep b G) (thatStep_mono b G) cur.contains ?_ (fun y hy=>by simpa[that] using h y hy) x
 intro y _ hy
 unfold thatStep at hy
 rw[List.any_eq_true]at hy
 obtain⟨q,hq,he⟩:=hy
 rw[Bool.and_eq_true]at he
 have:=hc q hq he.2
 rw[beq_iff_eq]at he
 rw[←he.1]
 exact this
theorem Sound.length {b:Bool} {G:List Rule} {cur:List Str} (h:Sound b G cur) (hn:cur.Nodup):cur.length≤G.length:=by
 have:=nodup_le cur (names G) hn (fun x hx=>least_sub (names G) (thatStep b G) (by simpa[that] using h x (by simpa using hx)))
 simpa[names] using this
end
section
def SoundC (G:List Rule) (cur:List Str):Prop:=∀x,cur.contains x=true→(come G).contains x=true
def ClosedC (G:List Rule) (cur:List Str):Prop:=∀q,q∈G→cur.contains q.name=true→∀x,x∈namesE q.body→cur.contains x.1=true
def AllKnown (G:List Rule):Prop:=∀q,q∈G→∀x,x∈namesE q.body→(names G).contains x.1=true
theorem come_first {G:List Rule} {q:Rule} (h:G[0]?=some q):(come G).contains q.name=true:=by
 refine least_closed (names G) (comeStep G) q.name (List.mem_map.2 ⟨q,List.mem_of_getElem? h,rfl⟩) ?_
 unfold comeStep names
 cases G with
 | nil=>simp at h
 | cons p G=>simp at h;subst h;simp
theorem SoundC.add {G:List Rule} {cur:List Str} (h:SoundC G cur) (hk:AllKnown G) {q:Rule} (hq:q∈G) (hc:cur.contains q.name=true) {x:Str×Nat} (hx:x∈namesE q.body):(come G).contains x.1=true:=by
 refine least_closed (names G) (comeStep G) x.1 (by simpa using hk q hq x hx) ?_
 unfold comeStep
 rw[Bool.or_eq_true,List.any_eq_true]
 refine .inr ⟨q,hq,?_⟩
 rw[Bool.and_eq_true,List.any_eq_true]
 exact⟨h _ hc,x,hx,by simp⟩
theorem SoundC.done {G:List Rule} {cur:List Str} (h:SoundC G cur) (hc:ClosedC G cur) {p:Rule} (hp:G[0]?=some p) (hf:cur.contains p.name=true) (x:Str):cur.contains x=(come G).contains x:=by
 refine least_eq (names G) (comeStep G) (comeStep_mono G) cur.contains ?_ (fun y hy=>by simpa[come] using h y hy) x
 intro y _ hy
 unfold comeStep at hy
 rw[Bool.or_eq_true,List.any_eq_true]at hy
 rcases hy with hy | ⟨q,hq,hy⟩
 ·cases G with
  | nil=>simp at hp
  | cons r G =>
   simp at hp;subst hp
   simp[names]at hy
   rw[←hy];exact hf
 ·rw[Bool.and_eq_true,List.any_eq_true]at hy
  obtain⟨h1,z,hz,h2⟩:=hy
  rw[beq_iff_eq]at h2
  rw[←h2]
  exact hc q hq h1 z hz
theorem SoundC.length {G:List Rule} {cur:List Str} (h:SoundC G cur) (hn:cur.Nodup):cur.length≤G.length:=by
 have:=nodup_le cur (names G) hn (fun x hx=>least_sub (names G) (comeStep G) (by simpa[come] using h x (by simpa using hx)))
 simpa[names] using this
inductive Grows (c0:List Str):List Str→List Str→Prop where
 | same (l:List Str) (h:∀x,x∈l→c0.contains x=true):Grows c0 l c0
 | more (l cur:List Str) (h:c0.length<cur.length):Grows c0 l cur
end
section
mutual
theorem countP {lo hi:Nat}:∀{p},posP lo hi p→(wordsP p).length+lo≤hi
 | .word _,h=>by rw[posP]at h;rw[wordsP];simp;omega
 | .name _ _,h=>by rw[posP]at h;rw[wordsP];simp;omega
 | .br _ _ _,h=>by rw[posP]at h;rw[wordsP];have:=countE h.2;omega
theorem countR {lo hi:Nat}:∀{p},posR lo hi p→(wordsR p).length+lo≤hi
 | .nil,h=>by rw[posR]at h;rw[wordsR];simp;omega
 | .cons _ _,h=>by
  rw[posR]at h
  obtain⟨m,a,b⟩:=h
  have:=countP a
  have:=countR b
  rw[wordsR,List.length_append];omega
theorem countE {lo hi:Nat}:∀{p},posE lo hi p→(wordsE p).length+lo≤hi
 | .nil,h=>by rw[posE]at h;rw[wordsE];simp;omega
 | .cons _ _ _,h=>by
  rw[posE]at h
  obtain⟨m,a,b⟩:=h
  have:=countR a
  have:=countT b
  rw[wordsE,List.length_append];omega
theorem countT {lo hi:Nat}:∀{p},posT lo hi p→(wordsE p).length+lo≤hi
 | .nil,h=>by rw[posT]at h;rw[wordsE];simp;omega
 | .cons _ _ _,h=>by
  rw[posT]at h
  obtain⟨c,m,a,b⟩:=h
  have:=countR a
  have:=countT b
  rw[wordsE,List.length_append];omega
end
theorem rule_count {l:Str} {n:Nat} {t:Tok} {r:Rule} {t':Tok} (ht:t.fits l) (h:ruleF l n t=.ok r t'):t.on l t'∧(wordsE r.body).length+t.pos≤t'.pos:=by
 unfold ruleF at h
 split at h
 ·rename_i hk
  split at h
  ·rename_i hk2
   split at h
   ·simp at h
   ·rename_i e t1 h1
    split at h
    ·rename_i hk3
     simp at h
     have o1:=Tok.on_next ht (by omega)
     have o2:=Tok.on_next o1.1 (by omega)
     have o3:=(reader_on l n).1 _ _ _ _ _ o2.1 h1
     have p3:=(reader_pos l n).1 _ _ _ _ _ o2.1 h1
     have o4:=Tok.on_next o3.1 (by omega)
     have c:=countE p3
     have a1:=Tok.on_pos o1
     have a2:=Tok.on_pos o2
     have a4:=Tok.on_pos o4
     rw[←h.1,←h.2]
     exact⟨((o1.trans o2).trans o3).trans o4,by show(wordsE e).length+_≤_;omega⟩
    ·simp at h
  ·simp at h
 ·simp at h
theorem rules_count {l:Str}:∀(n:Nat) (t:Tok) (G:List Rule) (t':Tok),t.fits l→rulesF l n t=.ok G t'→t'.fits l∧(allWords G).length+t.pos≤t'.pos
 | 0,t,G,t',_,h=>by simp[rulesF]at h
 | n+1,t,G,t',ht,h=>by
  rw[rulesF]at h
  split at h
  ·simp at h
   rw[h.1,←h.2]
   exact⟨ht,by simp[allWords]⟩
  ·split at h
   ·simp at h
   ·rename_i r t1 h1
    split at h
    ·simp at h
    ·rename_i rs t2 h2
     simp at h
     obtain⟨o1,c1⟩:=rule_count ht h1
     obtain⟨f2,c2⟩:=rules_count n t1 rs t2 o1.1 h2
     rw[←h.1,←h.2]
     refine⟨f2,?_⟩
     unfold allWords at *
     rw[List.flatMap_cons,List.length_append];omega
theorem read_count {l:Str} {G:List Rule} {t:Tok} (h:read l=.ok G t):(allWords G).length≤l.length:=by
 obtain⟨f,c⟩:=rules_count _ _ _ _ (tokFrom_fits l 0 (Nat.zero_le _)) h
 have:=f.1
 have:=f.2.1
 omega
end
section
theorem rounds_step (ns:List Str) (f:Step) (hf:f.Mono) (m:Nat) {x:Str} (h:x∈rounds ns f (m+1)):f (rounds ns f m).contains x=true:=by
 induction m with
 | zero =>
  simp only[rounds,next,List.mem_filter,Bool.or_eq_true]at h
  rcases h.2 with h | h
  ·exact h
  ·simp at h
 | succ m ih =>
  rw[rounds]at h
  simp only[next,List.mem_filter,Bool.or_eq_true]at h
  rcases h.2 with h | h
  ·exact h
  ·exact hf _ _ (fun y hy=>by simpa using rounds_succ_sub ns f m (by simpa using hy)) x (ih (by simpa using h))
theorem least_step (ns:List Str) (f:Step) (hf:f.Mono) {x:Str} (h:x∈least ns f):f (least ns f).contains x=true:=by
 have:=rounds_succ_sub ns f _ h
 exact rounds_step ns f hf _ this
mutual
def fullP:Part→Prop
 | .word _=>True
 | .name _ _=>True
 | .br _ _ e=>e≠.nil∧fullE e
def fullR:Parts→Prop
 | .nil=>True
 | .cons p ps=>fullP p∧fullR ps
def fullE:Rows→Prop
 | .nil=>True
 | .cons _ r e=>fullR r∧fullE e
end
abbrev Kn (G:List Rule):Str→Bool:=(nul G).contains
abbrev Fn (G:List Rule) (w:Str):Str→Bool:=(fsts G w).contains
abbrev An (G:List Rule) (w:Str):Str→Bool:=(afts G w).contains
structure Usable (G:List Rule):Prop where
 nodup:(names G).Nodup
 known:∀r,r∈G→∀x,x∈namesE r.body→x.1∈names G
 ends:∀n,n∈names G→n∈ends G
 come:∀n,n∈names G→n∈come G
 clear:∀p,p∈places G→∀w,p.2 w=false
 full:∀r,r∈G→r.body≠.nil∧fullE r.body
 some:G≠[]
theorem name_mem {G:List Rule} {r:Rule} (h:r∈G):r.name∈names G:=List.mem_map.2 ⟨r,h,rfl⟩
theorem same_rule {G:List Rule} (h:(names G).Nodup) {r s:Rule} (hr:r∈G) (hs:s∈G) (e:r.name=s.name):r=s:=by
 induction G with
 | nil=>simp at hr
 | cons a G ih =>
  simp only[names,List.map_cons,List.nodup_cons]at h
  rcases List.mem_cons.1 hr with h1 | h1<;>rcases List.mem_cons.1 hs with h2 | h2
  ·rw[h1,h2]
  ·exact absurd (List.mem_map.2 ⟨s,h2,by rw[←e,h1]⟩) h.1
  ·exact absurd (List.mem_map.2 ⟨r,h1,by rw[e,h2]⟩) h.1
  ·exact ih h.2 h1 h2
theorem any_rule {G:List Rule} (h:(names G).Nodup) {r:Rule} (hr:r∈G) (p:Rule→Bool) :
  G.any (fun s=>s.name==r.name&&p s)=p r:=by
 rw[Bool.eq_iff_iff,List.any_eq_true]
 constructor
 ·rintro⟨s,hs,h2⟩
  rw[Bool.and_eq_true,beq_iff_eq]at h2
  rw[←same_rule h hs hr h2.1];exact h2.2
 ·intro hp
  exact⟨r,hr,by simp[hp]⟩
theorem Kn_eq {G:List Rule} (h:(names G).Nodup) {r:Rule} (hr:r∈G):Kn G r.name=derE false (Kn G) r.body:=by
 rw[Bool.eq_iff_iff]
 constructor
 ·intro hx
  have:=least_step _ _ (nulStep_mono G) (x:=r.name) (by simpa[nul] using hx)
  rw[nulStep,any_rule h hr]at this
  exact this
 ·intro hx
  have:=least_closed (names G) (nulStep G) r.name (name_mem hr)
  rw[nulStep,any_rule h hr]at this
  exact this hx
theorem Fn_eq {G:List Rule} (h:(names G).Nodup) (w:Str) {r:Rule} (hr:r∈G):Fn G w r.name=fstE w (Fn G w) (Kn G) r.body:=by
 rw[Bool.eq_iff_iff]
 constructor
 ·intro hx
  have:=least_step _ _ (fstStep_mono G (Kn G) w) (x:=r.name) (by simpa[fsts] using hx)
  rw[fstStep,any_rule h hr]at this
  exact this
 ·intro hx
  have:=least_closed (names G) (fstStep G (Kn G) w) r.name (name_mem hr)
  rw[fstStep,any_rule h hr]at this
  exact this hx
theorem An_occ {G:List Rule} (w:Str) {r:Rule} (hr:r∈G) {n:Str} (hn:n∈names G)
  (h:occE w (Fn G w) (Kn G) n (An G w r.name) r.body=true):An G w n=true:=by
 have:=least_closed (names G) (aftStep G (Fn G w) (Kn G) w) n hn
 refine this ?_
 rw[aftStep,Bool.or_eq_true,List.any_eq_true]
 exact .inr ⟨r,hr,h⟩
theorem An_head {G:List Rule} {n:Str} (h:(names G).head?=some n):An G [] n=true:=by
 have:=least_closed (names G) (aftStep G (Fn G []) (Kn G) []) n (List.mem_of_mem_head? (by simp[h]))
 refine this ?_
 rw[aftStep,Bool.or_eq_true]
 exact .inl (by simp[h])
mutual
def okP (w:Str) (f k:Str→Bool) (b:Bool):Part→Prop
 | .word _=>True
 | .name _ _=>True
 | .br .grp _ e=>okE w f k false b e
 | .br .opt _ e=>(telE w f k b e&&b)=false∧okE w f k false b e
 | .br .loop _ e=>(telE w f k (fstE w f k e||b) e&&b)=false∧okE w f k false (fstE w f k e||b) e
def okR (w:Str) (f k:Str→Bool) (b:Bool):Parts→Prop
 | .nil=>True
 | .cons p ps=>okP w f k (telR w f k b ps) p∧okR w f k b ps
def okE (w:Str) (f k:Str→Bool) (ahead b:Bool):Rows→Prop
 | .nil=>True
 | .cons _ r e=>(telR w f k b r&&ahead)=false∧okR w f k b r∧okE w f k (ahead||telR w f k b r) b e
end
mutual
theorem okP_of (F:Str→Str→Bool) (k:Str→Bool) (w:Str) (B:Str→Bool):∀p,(∀x,x∈placesP F k B p→x.2 w=false)→okP w (F w) k (B w) p
 | .word _,_=>by rw[okP];trivial
 | .name _ _,_=>by rw[okP];trivial
 | .br .grp _ e,h=>by rw[okP];rw[placesP]at h;exact okE_of F k w _ B e h
 | .br .opt _ e,h=>by
  rw[okP];rw[placesP]at h
  exact⟨h _ List.mem_cons_self,okE_of F k w _ B e (fun x hx=>h x (List.mem_cons_of_mem _ hx))⟩
 | .br .loop _ e,h=>by
  rw[okP];rw[placesP]at h
  exact⟨h _ List.mem_cons_self,okE_of F k w _ (fun w=>fstE w (F w) k e||B w) e (fun x hx=>h x (List.mem_cons_of_mem _ hx))⟩
theorem okR_of (F:Str→Str→Bool) (k:Str→Bool) (w:Str) (B:Str→Bool):∀p,(∀x,x∈placesR F k B p→x.2 w=false)→okR w (F w) k (B w) p
 | .nil,_=>by rw[okR];trivial
 | .cons p ps,h=>by
  rw[okR];rw[placesR]at h
  exact⟨okP_of F k w (fun w=>telR w (F w) k (B w) ps) p (fun x hx=>h x (List.mem_append_left _ hx)),okR_of F k w B ps (fun x hx=>h x (List.mem_append_right _ hx))⟩
theorem okE_of (F:Str→Str→Bool) (k:Str→Bool) (w:Str) (ahead B:Str→Bool):∀p,(∀x,x∈placesE F k ahead B p→x.2 w=false)→okE w (F w) k (ahead w) (B w) p
 | .nil,_=>by rw[okE];trivial
 | .cons _ r e,h=>by
  rw[okE];rw[placesE]at h
  exact⟨h _ List.mem_cons_self,okR_of F k w B r (fun x hx=>h x (List.mem_cons_of_mem _ (List.mem_append_left _ hx))),
   okE_of F k w (fun w=>ahead w||telR w (F w) k (B w) r) B e (fun x hx=>h x (List.mem_cons_of_mem _ (List.mem_append_right _ hx)))⟩
end
theorem Usable.ok {G:List Rule} (U:Usable G) (w:Str) {r:Rule} (hr:r∈G):okE w (Fn G w) (Kn G) false (An G w r.name) r.body :=
 okE_of (fun w=>Fn G w) (Kn G) w (fun _=>false) (fun w=>An G w r.name) r.body
  (fun x hx=>U.clear x (List.mem_flatMap.2 ⟨r,hr,hx⟩) w)
theorem names_rule {G:List Rule} {n:Str} (h:n∈names G):∃r,r∈G∧r.name=n:=by
 simpa[names] using h
end
section
mutual
theorem emptyP (F:Str→Str→Bool) (k k':Str→Bool) (hk:∀n,k' n=true→(∀v,F v n=false)→k n=true):∀p,derP true k' p=true →
  (∀v,fstP v (F v) k p=false)→derP false k p=true
 | .word s,_,x=>by have:=x s;simp[fstP]at this
 | .name s _,h,x=>by rw[derP]at *;exact hk s h (fun v=>by have:=x v;rwa[fstP]at this)
 | .br .grp _ e,h,x=>by rw[derP]at *;exact emptyE F k k' hk e h (fun v=>by have:=x v;rwa[fstP]at this)
 | .br .opt _ _,_,_=>by rw[derP]
 | .br .loop _ _,_,_=>by rw[derP]
theorem emptyR (F:Str→Str→Bool) (k k':Str→Bool) (hk:∀n,k' n=true→(∀v,F v n=false)→k n=true):∀p,derR true k' p=true →
  (∀v,fstR v (F v) k p=false)→derR false k p=true
 | .nil,_,_=>by rw[derR]
 | .cons p ps,h,x=>by
  rw[derR,Bool.and_eq_true]at *
  have h1:=emptyP F k k' hk p h.1 (fun v=>by have:=x v;rw[fstR,Bool.or_eq_false_iff]at this;exact this.1)
  exact⟨h1,emptyR F k k' hk ps h.2 (fun v=>by have:=x v;rw[fstR,h1,Bool.or_eq_false_iff]at this;simpa using this.2)⟩
theorem emptyE (F:Str→Str→Bool) (k k':Str→Bool) (hk:∀n,k' n=true→(∀v,F v n=false)→k n=true):∀p,derE true k' p=true →
  (∀v,fstE v (F v) k p=false)→derE false k p=true
 | .nil,h,_=>by rw[derE]at h;exact absurd h (by simp)
 | .cons _ r e,h,x=>by
  rw[derE,Bool.or_eq_true]at *
  exact h.imp (fun h=>emptyR F k k' hk r h (fun v=>by have:=x v;rw[fstE,Bool.or_eq_false_iff]at this;exact this.1))
   (fun h=>emptyE F k k' hk e h (fun v=>by have:=x v;rw[fstE,Bool.or_eq_false_iff]at this;exact this.2))
end
theorem empty_rounds {G:List Rule} (hn:(names G).Nodup) (m:Nat):∀n,n∈rounds (names G) (endStep G) m→(∀v,Fn G v n=false)→Kn G n=true:=by
 induction m with
 | zero=>intro n h;simp[rounds]at h
 | succ m ih =>
  intro n h hf
  obtain⟨r,hr,rfl⟩:=names_rule (rounds_sub _ _ _ h)
  have h1:=rounds_step _ _ (endStep_mono G) m h
  rw[endStep,any_rule hn hr]at h1
  rw[Kn_eq hn hr]
  exact emptyE (Fn G) (Kn G) (rounds (names G) (endStep G) m).contains (fun n hn hf=>ih n (by simpa using hn) hf) r.body h1
   (fun v=>by rw[←Fn_eq hn v hr];exact hf v)
theorem Usable.empty {G:List Rule} (U:Usable G) (n:Str) (h:n∈names G) (hf:∀v,Fn G v n=false):Kn G n=true :=
 empty_rounds U.nodup _ n (U.ends n h) hf
mutual
theorem allP (k:Str→Bool):∀p,fullP p→(∀x,x∈namesP p→k x.1=true)→derP true k p=true
 | .word _,_,_=>by rw[derP]
 | .name s q,_,h=>by rw[derP];exact h (s,q) (by simp[namesP])
 | .br .grp _ e,f,h=>by rw[derP];rw[fullP]at f;exact allE k e f.1 f.2 (by rwa[namesP]at h)
 | .br .opt _ _,_,_=>by rw[derP]
 | .br .loop _ _,_,_=>by rw[derP]
theorem allR (k:Str→Bool):∀p,fullR p→(∀x,x∈namesR p→k x.1=true)→derR true k p=true
 | .nil,_,_=>by rw[derR]
 | .cons p ps,f,h=>by
  rw[derR,Bool.and_eq_true];rw[fullR]at f;rw[namesR]at h
  exact⟨allP k p f.1 (fun x hx=>h x (List.mem_append_left _ hx)),allR k ps f.2 (fun x hx=>h x (List.mem_append_right _ hx))⟩
theorem allE (k:Str→Bool):∀p,p≠.nil→fullE p→(∀x,x∈namesE p→k x.1=true)→derE true k p=true
 | .nil,h,_,_=>absurd rfl h
 | .cons _ r e,_,f,h=>by
  rw[derE,Bool.or_eq_true];rw[fullE]at f;rw[namesE]at h
  exact .inl (allR k r f.1 (fun x hx=>h x (List.mem_append_left _ hx)))
end
structure Good (G:List Rule) (x:List (Str×Nat)):Prop where
 known:∀y,y∈x→y.1∈names G
theorem emptyR' {G:List Rule} (U:Usable G) {p:Parts} (f:fullR p) (g:Good G (namesR p)) (x:∀v,fstR v (Fn G v) (Kn G) p=false):derR false (Kn G) p=true :=
 emptyR (Fn G) (Kn G) (ends G).contains (fun n hn hf=>U.empty n (least_sub _ _ (by simpa[ends] using hn)) hf) p
  (allR _ p f (fun y hy=>by simpa using U.ends _ (g.known y hy))) x
mutual
theorem behP {G:List Rule} (U:Usable G) (n:Str) (B:Str→Bool) (w:Str) (hw:B w=true):∀p,fullP p→Good G (namesP p)→(∃q,(n,q)∈namesP p) →
  ∃v,occP v (Fn G v) (Kn G) n (B v) p=true
 | .word _,_,_,h=>by simp[namesP]at h
 | .name s _,_,_,h=>by simp[namesP]at h;exact⟨w,by simp[occP,h,hw]⟩
 | .br q _ e,f,g,h=>by
  rw[fullP]at f;rw[namesP]at h g
  obtain⟨v,hv⟩:=behE U n (fun v=>within v (Fn G v) (Kn G) (B v) q e) w (by cases q<;>simp[within,hw]) e f.2 g h
  exact⟨v,by rw[occP];exact hv⟩
theorem behR {G:List Rule} (U:Usable G) (n:Str) (B:Str→Bool) (w:Str) (hw:B w=true):∀p,fullR p→Good G (namesR p)→(∃q,(n,q)∈namesR p) →
  ∃v,occR v (Fn G v) (Kn G) n (B v) p=true
 | .nil,_,_,h=>by simp[namesR]at h
 | .cons p ps,f,g,⟨q,h⟩=>by
  rw[fullR]at f;rw[namesR]at h g
  have g1:Good G (namesP p):=⟨fun y hy=>g.known y (List.mem_append_left _ hy)⟩
  have g2:Good G (namesR ps):=⟨fun y hy=>g.known y (List.mem_append_right _ hy)⟩
  rcases List.mem_append.1 h with h | h
  ·have:∃v,telR v (Fn G v) (Kn G) (B v) ps=true:=by
    by_cases hx:∀v,fstR v (Fn G v) (Kn G) ps=false
    ·exact⟨w,by simp[telR,hw,emptyR' U f.2 g2 hx]⟩
    ·rw[Classical.not_forall]at hx
     obtain⟨v,hv⟩:=hx
     exact⟨v,by simp[telR,hv]⟩
   obtain⟨v,hv⟩:=this
   obtain⟨u,hu⟩:=behP U n (fun v=>telR v (Fn G v) (Kn G) (B v) ps) v hv p f.1 g1 ⟨q,h⟩
   exact⟨u,by rw[occR,hu];simp⟩
  ·obtain⟨u,hu⟩:=behR U n B w hw ps f.2 g2 ⟨q,h⟩
   exact⟨u,by rw[occR,hu];simp⟩
theorem behE {G:List Rule} (U:Usable G) (n:Str) (B:Str→Bool) (w:Str) (hw:B w=true):∀p,fullE p→Good G (namesE p)→(∃q,(n,q)∈namesE p) →
  ∃v,occE v (Fn G v) (Kn G) n (B v) p=true
 | .nil,_,_,h=>by simp[namesE]at h
 | .cons _ r e,f,g,⟨q,h⟩=>by
  rw[fullE]at f;rw[namesE]at h g
  rcases List.mem_append.1 h with h | h
  ·obtain⟨u,hu⟩:=behR U n B w hw r f.1 ⟨fun y hy=>g.known y (List.mem_append_left _ hy)⟩ ⟨q,h⟩
   exact⟨u,by rw[occE,hu];simp⟩
  ·obtain⟨u,hu⟩:=behE U n B w hw e f.2 ⟨fun y hy=>g.known y (List.mem_append_right _ hy)⟩ ⟨q,h⟩
   exact⟨u,by rw[occE,hu];simp⟩
end
theorem Usable.good {G:List Rule} (U:Usable G) {r:Rule} (hr:r∈G):Good G (namesE r.body):=⟨fun y hy=>U.known r hr y hy⟩
theorem Usable.behind {G:List Rule} (U:Usable G) (n:Str) (h:n∈names G):∃w,An G w n=true:=by
 have hc:=U.come n h
 have key:Closed (names G) (comeStep G) (fun n=>@decide (∃w,An G w n=true) (Classical.propDecidable _)):=by
  intro x hx h
  simp only[comeStep,Bool.or_eq_true,beq_iff_eq,List.any_eq_true,Bool.and_eq_true,decide_eq_true_eq]at h ⊢
  rcases h with h | ⟨r,hr,⟨w,hw⟩,y,hy,rfl⟩
  ·exact⟨[],An_head h⟩
  ·obtain⟨v,hv⟩:=behE U y.1 (fun v=>An G v r.name) w hw r.body (U.full r hr).2 (U.good hr) ⟨y.2,hy⟩
   exact⟨v,An_occ v hr hx hv⟩
 have:=least_least _ _ (comeStep_mono G) _ key n hc
 simpa using this
def many (G:List Rule) (n:Str):Nat:=((allWords G).filter (fun w=>Fn G w n)).length
end
section
theorem findTwice_none {ahead:List Str} {G:List Rule} (h:findTwice ahead G=none):(∀r,r∈G→r.name∉ahead)∧(names G).Nodup:=by
 induction G generalizing ahead with
 | nil=>simp[names]
 | cons a G ih =>
  rw[findTwice]at h
  split at h
  ·simp at h
  ·rename_i hc
   have:=ih h
   refine⟨?_,?_⟩
   ·intro r hr
    rcases List.mem_cons.1 hr with rfl | hr
    ·simpa using hc
    ·exact fun hm=>this.1 r hr (List.mem_cons_of_mem _ hm)
   ·simp only[names,List.map_cons,List.nodup_cons]
    refine⟨?_,this.2⟩
    intro hm
    obtain⟨r,hr,e⟩:=List.mem_map.1 hm
    exact this.1 r hr (by rw[e];exact List.mem_cons_self)
mutual
theorem placesP_words (F:Str→Str→Bool) (k:Str→Bool) (w:Str) (hF:∀n,F w n=false) (B:Str→Bool) (hB:B w=false):∀p,w∉wordsP p →
  ∀x,x∈placesP F k B p→x.2 w=false
 | .word _,_,x,h=>by simp[placesP]at h
 | .name _ _,_,x,h=>by simp[placesP]at h
 | .br .grp _ e,hw,x,h=>by
  rw[placesP]at h;rw[wordsP]at hw
  exact placesE_words F k w hF _ B hB e hw x h
 | .br .opt _ e,hw,x,h=>by
  rw[placesP]at h;rw[wordsP]at hw
  rcases List.mem_cons.1 h with rfl | h
  ·simp[hB]
  ·exact placesE_words F k w hF _ B hB e hw x h
 | .br .loop _ e,hw,x,h=>by
  rw[placesP]at h;rw[wordsP]at hw
  rcases List.mem_cons.1 h with rfl | h
  ·simp[hB]
  ·exact placesE_words F k w hF _ _ (by simp[hB,not_fstE hF hw]) e hw x h
theorem placesR_words (F:Str→Str→Bool) (k:Str→Bool) (w:Str) (hF:∀n,F w n=false) (B:Str→Bool) (hB:B w=false):∀p,w∉wordsR p →
  ∀x,x∈placesR F k B p→x.2 w=false
 | .nil,_,x,h=>by simp[placesR]at h
 | .cons p ps,hw,x,h=>by
  rw[placesR]at h;rw[wordsR,List.mem_append,not_or]at hw
  rcases List.mem_append.1 h with h | h
  ·exact placesP_words F k w hF _ (by simp[telR,hB,not_fstR hF hw.2]) p hw.1 x h
  ·exact placesR_words F k w hF B hB ps hw.2 x h
theorem placesE_words (F:Str→Str→Bool) (k:Str→Bool) (w:Str) (hF:∀n,F w n=false) (ahead B:Str→Bool) (hB:B w=false):∀p,w∉wordsE p →
  ∀x,x∈placesE F k ahead B p→x.2 w=false
 | .nil,_,x,h=>by simp[placesE]at h
 | .cons _ r e,hw,x,h=>by
  rw[placesE]at h;rw[wordsE,List.mem_append,not_or]at hw
  rcases List.mem_cons.1 h with rfl | h
  ·simp[telR,hB,not_fstR hF hw.1]
  ·rcases List.mem_append.1 h with h | h
   ·exact placesR_words F k w hF B hB r hw.1 x h
   ·exact placesE_words F k w hF _ B hB e hw.2 x h
end
theorem places_words {G:List Rule} {p:Place} (hp:p∈places G) {w:Str} (h:p.2 w=true):w∈cands G:=by
 rw[cands,mem_sortS,List.mem_cons]
 by_cases h0:w=[]
 ·exact .inl h0
 ·by_cases hw:w∈allWords G
  ·exact .inr hw
  ·obtain⟨r,hr,hx⟩:=List.mem_flatMap.1 hp
   have:=placesE_words (fun w n=>(fsts G w).contains n) (nul G).contains w (fsts_false hw) (fun _=>false) (fun w=>(afts G w).contains r.name)
    (by
     cases e:(afts G w).contains r.name with
     | false=>rfl
     | true=>exact((afts_words (G:=G) (w:=w) (n:=r.name) (by simpa using e)).elim h0 hw).elim)
    r.body (fun y=>hw (mem_allWords hr y)) p hx
   rw[this]at h
   exact absurd h (by simp)
theorem cands_rising (G:List Rule):Rising (cands G):=sortS_rising _
theorem check_ok {G G':List Rule} (h:check G=.ok G'):G'=G∧G≠[]∧findTwice [] G=none∧findNone G=none∧findUseless G=none∧firstClash (cands G) (places G)=none:=by
 unfold check at h
 split at h
 ·simp at h
 ·rename_i h0
  split at h
  ·simp at h
  ·split at h
   ·simp at h
   ·rename_i h1
    split at h
    ·simp at h
    ·rename_i h2
     split at h
     ·simp at h
     ·rename_i h3
      split at h
      ·simp at h
      ·rename_i h4
       simp at h
       exact⟨h.symm,fun e=>h0 (by simp[e]),h1,h2,h3,h4⟩
end
end PredP
