import PyProof.Rows.All
import Wide.All
import OpenK.AllK
import Wide.FinOn
import PyProof.EqAt
import PyProof.EqKinds
import PyProof.TupleCall
import KE.BitLaws
import Open.SpecLaws
import KE.OsHead
import KE.OsGo
import KE.KDictSum
import PySem.Challenge.RW_sheetslent_s01_answers
set_option Elab.async false
set_option linter.all false
set_option maxRecDepth 100000
set_option maxHeartbeats 4000000
namespace SV
open Vbnlai
theorem g6{α : Type}{key : α→Nat}{x : α}{p : α→Bool}(hx:p x=false):∀ l:List α,(place key x l).find? p=l.find? p
 | [] =>by simp [place,hx]
 | y :: r=>by
  unfold place
  split
  ·simp [List.find?_cons,hx]
  ·simp only [List.find?_cons,g6 hx r]
theorem i3{α : Type}{key : α→Nat}{x : α}{f : α→α}(hx:f x=x)(hk:∀ y,key (f y)=key y):∀ l:List α,(place key x l).map f=place key x (l.map f)
 | [] =>by simp [place,hx]
 | y :: r=>by
  show List.map f (if key x < key y then x :: y :: r else y :: place key x r)=(if key x < key (f y) then x :: f y :: r.map f else f y :: place key x (r.map f))
  rw [hk]
  split
  ·simp [hx]
  ·simp [i3 hx hk r]
theorem bR{α : Type}{key : α→Nat}{x z : α}:∀ {l:List α},z∈place key x l ↔ z=x∨z∈l
 | [] =>by simp [place]
 | y :: r=>by
  unfold place
  split
  ·simp
  ·simp only [List.mem_cons,bR (l:=r)]
   constructor
   ·rintro (h | h | h)
    ·exact .inr (.inl h)
    ·exact .inl h
    ·exact .inr (.inr h)
   ·rintro (h | h | h)
    ·exact .inr (.inl h)
    ·exact .inl h
    ·exact .inr (.inr h)
theorem bS{α : Type}{key : α→Nat}{x : α}:∀ l:List α,(place key x l).length=l.length + 1
 | [] =>rfl
 | y :: r=>by
  unfold place
  split
  ·rfl
  ·simp [bS r]
def Asc{α : Type}(key : α→Nat)(l:List α):Prop:=l.Pairwise fun a b=>key a < key b
theorem Asc.place{α : Type}{key : α→Nat}{x : α}:∀ {l:List α},Asc key l→(∀ y∈l,key y≠key x)→Asc key (place key x l)
 | [],_,_=>by simp [Vbnlai.place,Asc]
 | y :: r,h,hn=>by
  have h1:=List.pairwise_cons.mp h
  unfold Vbnlai.place
  split
  ·rename_i hlt
   refine List.pairwise_cons.mpr ⟨fun z hz=> ?_,h⟩
   rcases List.mem_cons.mp hz with rfl | hz
   ·exact hlt
   ·exact Nat.lt_trans hlt (h1.1 z hz)
  ·rename_i hge
   refine List.pairwise_cons.mpr ⟨fun z hz=> ?_,Asc.place (l:=r) h1.2 fun z hz=>hn z (List.mem_cons_of_mem _ hz)⟩
   rcases bR.mp hz with rfl | hz
   ·have:=hn y List.mem_cons_self;omega
   ·exact h1.1 z hz
theorem Asc.map{α : Type}{key : α→Nat}{f : α→α}(hk:∀ y,key (f y)=key y){l:List α}(h:Asc key l):Asc key (l.map f):=by
 unfold Asc at h ⊢
 rw [List.pairwise_map]
 exact h.imp fun {a b} q=>by rw [hk,hk];exact q
theorem Asc.inj{α : Type}{key : α→Nat}:∀ {l:List α},Asc key l→∀ {a b : α},a∈l→b∈l→key a=key b→a=b
 | [],_,_,_,ha,_,_=>nomatch ha
 | y :: r,h,a,b,ha,hb,e=>by
  have h1:=List.pairwise_cons.mp h
  rcases List.mem_cons.mp ha with rfl | ha
  ·rcases List.mem_cons.mp hb with rfl | hb
   ·rfl
   ·exact absurd e (Nat.ne_of_lt (h1.1 b hb))
  ·rcases List.mem_cons.mp hb with rfl | hb
   ·exact absurd e (Nat.ne_of_gt (h1.1 a (by assumption)))
   ·exact Asc.inj h1.2 ha hb e
theorem Asc.find{α : Type}{key : α→Nat}{l:List α}(h:Asc key l){x : α}(hx:x∈l){p : α→Bool}(hp:∀ y,p y=true ↔ key y=key x):l.find? p=some x:=by
 cases e:l.find? p with
 | none=>
  have:=List.find?_eq_none.mp e x hx
  exact absurd ((hp x).mpr rfl) this
 | some y=>
  have h1:=List.find?_some e
  have h2:=List.mem_of_find?_eq_some e
  rw [h.inj h2 hx ((hp y).mp h1)]
def cO(q:Person)(w:World):World:={ w with persons:=place Person.key q w.persons }
theorem bY{hs hs':List Nat}(hh:∀ h∈hs,h∈hs'){k:Int}(e:¬ (hs.any fun h=>(h:Int) == k)=false):¬ (hs'.any fun h=>(h:Int) == k)=false:=by
 simp only [Bool.not_eq_false,List.any_eq_true] at e ⊢
 obtain ⟨h,m,q⟩:=e
 exact ⟨h,hh h m,q⟩
theorem cF{q:Person}{w:World}{k:Int}{p:Person}(h:personOf w k=some p)(hq:personOf w q.key=none):personOf (cO q w) k=some p:=by
 unfold personOf cO at *
 by_cases e:(q.key:Int)=k
 ·rw [← e,hq] at h;cases h
 ·rw [g6 (by simpa using e)];exact h
theorem gO{w:World}{k:Int}{p:Person}(h:personOf w k=some p):(p.key:Int)=k:=by
 have:=List.find?_some h
 simpa using this
theorem dH{w:World}{f:Person→Person}(hk:∀ y,(f y).key=y.key){k:Int}(h:personOf w k=none):personOf { w with persons:=w.persons.map f } k=none:=by
 unfold personOf at *
 rw [List.find?_eq_none] at *
 intro x hx
 obtain ⟨y,hy,rfl⟩:=List.mem_map.mp hx
 rw [hk];exact h y hy
theorem ac{c:Prop}{_:Decidable c}{a:Int}{x:Int ⊕ World}{w':World}(h:(if c then Sum.inl a else x)=Sum.inr w'):¬ c∧x=Sum.inr w':=by
 by_cases hc:c
 ·rw [if_pos hc] at h;cases h
 ·rw [if_neg hc] at h;exact ⟨hc,h⟩
def jN(q:Person):Int ⊕ World→Int ⊕ World
 | .inl c=>.inl c
 | .inr v=>.inr (cO q v)
def pF:Entry→Bool
 | .split .. | .arrive .. | .back .. | .cede .. | .extend .. | .lose .. | .find .. | .destroy .. | .type .. =>true
 | _=>false
theorem act_plain{hs hs':List Nat}{w:World}{d:Nat}{e:Entry}{q:Person}(he:pF e=true):act hs' (cO q w) d e=jN q (act hs w d e):=by
 cases e with
 | arrive l=>simp only [act,apply_ite (jN q)];rfl
 | back k l=>simp only [act,apply_ite (jN q)];rfl
 | lose l=>simp only [act,apply_ite (jN q)];rfl
 | find l=>simp only [act,apply_ite (jN q)];rfl
 | split k f n=>
  simp only [act]
  rw [show sheetOf (cO q w) k=sheetOf w k from rfl]
  cases sheetOf w k with
  | none=>rfl
  | some x=>simp only [apply_ite (jN q)];rfl
 | destroy k=>
  simp only [act]
  rw [show sheetOf (cO q w) k=sheetOf w k from rfl]
  cases sheetOf w k with
  | none=>rfl
  | some x=>simp only [apply_ite (jN q)];rfl
 | type k n=>
  simp only [act]
  rw [show sheetOf (cO q w) k=sheetOf w k from rfl]
  cases sheetOf w k with
  | none=>rfl
  | some x=>simp only [apply_ite (jN q)];rfl
 | extend k due=>
  simp only [act]
  rw [show (cO q w).loans=w.loans from rfl]
  cases w.loans.find? (fun l=>(l.key:Int) == k) with
  | none=>rfl
  | some x=>simp only [apply_ite (jN q)];rfl
 | cede k=>
  simp only [act]
  rw [show sheetOf (cO q w) k=sheetOf w k from rfl]
  cases sheetOf w k with
  | none=>rfl
  | some x=>
   simp only [apply_ite (jN q)]
   cases x.loans with
   | nil=>rfl
   | cons a r=>
    simp only [apply_ite (jN q)]
    rw [show loanOf (cO q w) a=loanOf w a from rfl]
    cases loanOf w a with
    | none=>rfl
    | some l=>rfl
 | move=>cases he
 | rank=>cases he
 | gather=>cases he
 | lend=>cases he
 | give=>cases he
 | determine=>cases he
theorem iI{hs:List Nat}{w w':World}{d:Nat}{e:Entry}(he:pF e=true)(h:act hs w d e = .inr w'):w'.persons=w.persons:=by
 cases e <;> first | cases he | skip
 all_goals
  simp only [act] at h
  repeat' split at h
  all_goals first | cases h;done | (cases h;rfl)
theorem nq{hs hs':List Nat}{w w':World}{d:Nat}{e:Entry}{q:Person}(hh:∀ h∈hs,h∈hs')(hq:personOf w q.key=none)(h:act hs w d e = .inr w') :
  act hs' (cO q w) d e = .inr (cO q w')∧personOf w' q.key=none:=by
 cases e with
 | move person house=>
  simp only [act] at h ⊢
  cases e1:personOf w person with
  | none=>rw [e1] at h;cases h
  | some p=>
   rw [e1] at h
   rw [cF e1 hq]
   simp only at h ⊢
   split at h
   ·cases h
   ·rename_i hn
    rw [if_neg (bY hh hn)]
    cases h
    have hne:q.key≠p.key:=fun z=>by rw [z,gO e1,e1] at hq;cases hq
    refine ⟨?_,dH (fun y=>by split <;> rfl) hq⟩
    unfold cO
    simp only
    rw [i3 (by rw [if_neg hne]) (fun y=>by split <;> rfl)]
 | rank person rank=>
  simp only [act] at h ⊢
  cases e1:personOf w person with
  | none=>rw [e1] at h;cases h
  | some p=>
   rw [e1] at h
   rw [cF e1 hq]
   simp only at h ⊢
   split at h
   ·cases h
   ·rename_i hn
    rw [if_neg hn]
    cases h
    have hne:q.key≠p.key:=fun z=>by rw [z,gO e1,e1] at hq;cases hq
    refine ⟨?_,dH (fun y=>by split <;> rfl) hq⟩
    unfold cO
    simp only
    rw [i3 (by rw [if_neg hne]) (fun y=>by split <;> rfl)]
 | gather key person n first=>
  simp only [act] at h ⊢
  split at h
  ·cases h
  ·rename_i h1
   rw [if_neg h1]
   split at h
   ·cases h
   ·rename_i h2
    rw [if_neg (show ¬ (cO q w).gatherings.contains key.toNat=true from h2)]
    cases e1:personOf w person with
    | none=>rw [e1] at h;cases h
    | some p=>
     rw [e1] at h
     rw [cF e1 hq]
     simp only at h ⊢
     split at h
     ·cases h
     ·rename_i h3
      rw [if_neg h3]
      split at h
      ·cases h
      ·rename_i h4
       rw [if_neg h4]
       split at h
       ·cases h
       ·rename_i h5
        rw [if_neg (show ¬ unused (cO q w) (keysFrom first n)=false from h5)]
        split at h
        ·cases h
        ·rename_i h6
         rw [if_neg (show ¬ SHEETS < (cO q w).sheets.length + n.toNat from h6)]
         cases h
         exact ⟨rfl,hq⟩
 | determine sheet person name conf=>
  simp only [act] at h ⊢
  cases e0:sheetOf w sheet with
  | none=>rw [e0] at h;cases h
  | some x=>
   rw [e0] at h
   rw [show sheetOf (cO q w) sheet=some x from e0]
   simp only at h ⊢
   cases e1:personOf w person with
   | none=>rw [e1] at h;cases h
   | some p=>
    rw [e1] at h
    rw [cF e1 hq]
    simp only at h ⊢
    split at h
    ·cases h
    ·rename_i h1
     rw [if_neg h1]
     split at h
     ·cases h
     ·rename_i h2
      rw [if_neg (show ¬ p.house≠holder (cO q w) x from h2)]
      split at h
      ·cases h
      ·rename_i h3
       rw [if_neg h3]
       split at h
       ·cases h
       ·rename_i h4
        rw [if_neg h4]
        cases h
        exact ⟨rfl,hq⟩
 | lend loan lender borrower due onward sheets=>
  replace h:(if _ then _ else _)=Sum.inr _:=h
  obtain ⟨h1,h⟩:=ac h
  obtain ⟨h2,h⟩:=ac h
  obtain ⟨h3,h⟩:=ac h
  obtain ⟨h4,h⟩:=ac h
  obtain ⟨h5,h⟩:=ac h
  obtain ⟨h6,h⟩:=ac h
  obtain ⟨h7,h⟩:=ac h
  obtain ⟨h8,h⟩:=ac h
  obtain ⟨h9,h⟩:=ac h
  obtain ⟨h10,h⟩:=ac h
  obtain ⟨h11,h⟩:=ac h
  obtain ⟨h12,h⟩:=ac h
  cases h
  refine ⟨?_,hq⟩
  exact (if_neg h1).trans ((if_neg h2).trans ((if_neg (bY hh h3)).trans ((if_neg (not_or.mpr ⟨bY hh (not_or.mp h4).1,(not_or.mp h4).2⟩)).trans ((if_neg h5).trans ((if_neg h6).trans
   ((if_neg h7).trans ((if_neg h8).trans ((if_neg h9).trans ((if_neg h10).trans ((if_neg h11).trans (if_neg h12)))))))))))
 | give old new sheets=>
  replace h:(if _ then _ else _)=Sum.inr _:=h
  obtain ⟨h1,h⟩:=ac h
  obtain ⟨h2,h⟩:=ac h
  obtain ⟨h3,h⟩:=ac h
  obtain ⟨h4,h⟩:=ac h
  obtain ⟨h5,h⟩:=ac h
  obtain ⟨h6,h⟩:=ac h
  cases h
  refine ⟨?_,hq⟩
  exact (if_neg (bY hh h1)).trans ((if_neg (not_or.mpr ⟨bY hh (not_or.mp h2).1,(not_or.mp h2).2⟩)).trans ((if_neg h3).trans ((if_neg h4).trans ((if_neg h5).trans (if_neg h6)))))
 | _=>
  refine ⟨?_,?_⟩
  ·refine (act_plain (hs:=hs) rfl).trans ?_
   rw [h]
   rfl
  ·unfold personOf at hq ⊢
   rw [iI rfl h]
   exact hq
theorem ko{hs hs':List Nat}{w w':World}{d:Nat}{e:Entry}(hh:∀ h∈hs,h∈hs')(h:act hs w d e = .inr w'):act hs' w d e = .inr w':=by
 cases e with
 | move person house=>
  simp only [act] at h ⊢
  cases e1:personOf w person with
  | none=>rw [e1] at h;cases h
  | some p=>
   rw [e1] at h
   obtain ⟨h1,h⟩:=ac h
   exact (if_neg (bY hh h1)).trans h
 | lend loan lender borrower due onward sheets=>
  replace h:(if _ then _ else _)=Sum.inr _:=h
  obtain ⟨h1,h⟩:=ac h
  obtain ⟨h2,h⟩:=ac h
  obtain ⟨h3,h⟩:=ac h
  obtain ⟨h4,h⟩:=ac h
  exact (if_neg h1).trans ((if_neg h2).trans ((if_neg (bY hh h3)).trans ((if_neg (not_or.mpr ⟨bY hh (not_or.mp h4).1,(not_or.mp h4).2⟩)).trans h)))
 | give old new sheets=>
  replace h:(if _ then _ else _)=Sum.inr _:=h
  obtain ⟨h1,h⟩:=ac h
  obtain ⟨h2,h⟩:=ac h
  exact (if_neg (bY hh h1)).trans ((if_neg (not_or.mpr ⟨bY hh (not_or.mp h2).1,(not_or.mp h2).2⟩)).trans h)
 | _=>exact h
theorem act_pkeys{hs:List Nat}{w w':World}{d:Nat}{e:Entry}(h:act hs w d e = .inr w'):w'.persons.map Person.key=w.persons.map Person.key:=by
 by_cases he:pF e=true
 ·rw [iI he h]
 ·cases e with
  | move person house=>
   simp only [act] at h
   cases e1:personOf w person with
   | none=>rw [e1] at h;cases h
   | some p=>
    rw [e1] at h
    obtain ⟨h1,h⟩:=ac h
    cases h
    simp only [List.map_map]
    congr 1
    funext x
    simp only [Function.comp]
    split <;> rfl
  | rank person rank=>
   simp only [act] at h
   cases e1:personOf w person with
   | none=>rw [e1] at h;cases h
   | some p=>
    rw [e1] at h
    obtain ⟨h1,h⟩:=ac h
    cases h
    simp only [List.map_map]
    congr 1
    funext x
    simp only [Function.comp]
    split <;> rfl
  | gather key person n first=>
   simp only [act] at h
   obtain ⟨h1,h⟩:=ac h
   obtain ⟨h2,h⟩:=ac h
   cases e1:personOf w person with
   | none=>rw [e1] at h;cases h
   | some p=>
    rw [e1] at h
    obtain ⟨h3,h⟩:=ac h
    obtain ⟨h4,h⟩:=ac h
    obtain ⟨h5,h⟩:=ac h
    obtain ⟨h6,h⟩:=ac h
    cases h
    rfl
  | lend loan lender borrower due onward sheets=>
   replace h:(if _ then _ else _)=Sum.inr _:=h
   obtain ⟨_,h⟩:=ac h
   obtain ⟨_,h⟩:=ac h
   obtain ⟨_,h⟩:=ac h
   obtain ⟨_,h⟩:=ac h
   obtain ⟨_,h⟩:=ac h
   obtain ⟨_,h⟩:=ac h
   obtain ⟨_,h⟩:=ac h
   obtain ⟨_,h⟩:=ac h
   obtain ⟨_,h⟩:=ac h
   obtain ⟨_,h⟩:=ac h
   obtain ⟨_,h⟩:=ac h
   obtain ⟨_,h⟩:=ac h
   cases h
   rfl
  | give old new sheets=>
   replace h:(if _ then _ else _)=Sum.inr _:=h
   obtain ⟨_,h⟩:=ac h
   obtain ⟨_,h⟩:=ac h
   obtain ⟨_,h⟩:=ac h
   obtain ⟨_,h⟩:=ac h
   obtain ⟨_,h⟩:=ac h
   obtain ⟨_,h⟩:=ac h
   cases h
   rfl
  | determine sheet person name conf=>
   simp only [act] at h
   cases e0:sheetOf w sheet with
   | none=>rw [e0] at h;cases h
   | some x=>
    rw [e0] at h
    dsimp only at h
    cases e1:personOf w person with
    | none=>rw [e1] at h;cases h
    | some p=>
     rw [e1] at h
     obtain ⟨_,h⟩:=ac h
     obtain ⟨_,h⟩:=ac h
     obtain ⟨_,h⟩:=ac h
     obtain ⟨_,h⟩:=ac h
     cases h
     rfl
  | _=>exact absurd rfl he
structure cy(n:Nat)(w:World):Prop where
 sA:Asc Sheet.key w.sheets
 sN:w.sheets.length≤SHEETS
 lA:Asc Loan.key w.loans
 lN:w.loans.length≤LOANS
 gA:Asc id w.gatherings
 gN:w.gatherings.length≤w.sheets.length
 pA:Asc Person.key w.persons
 nd:∀ x∈w.sheets,x.loans.Nodup
 has:∀ x∈w.sheets,∀ k∈x.loans,∃ l∈w.loans,l.key=k
 few:∀ x∈w.sheets,x.loans.length≤n∧x.dets.length≤n
 key:∀ x∈w.sheets,1≤x.key∧x.key≤KEYS
theorem cy.mono{m n:Nat}{w:World}(h:cy m w)(le:m≤n):cy n w:=
 { h with few:=fun x hx=>⟨Nat.le_trans (h.few x hx).1 le,Nat.le_trans (h.few x hx).2 le⟩ }
theorem cy.sheetOf{n:Nat}{w:World}(h:cy n w){x:Sheet}(hx:x∈w.sheets):Vbnlai.sheetOf w x.key=some x:=
 h.sA.find hx fun y=>by simp [Int.ofNat_inj]
theorem dn{w:World}{k:Int}{x:Sheet}(h:Vbnlai.sheetOf w k=some x):x∈w.sheets∧(x.key:Int)=k:=
 ⟨List.mem_of_find?_eq_some h,by simpa using List.find?_some h⟩
theorem cy.loanOf{n:Nat}{w:World}(h:cy n w){l:Loan}(hl:l∈w.loans):Vbnlai.loanOf w l.key=some l:=
 h.lA.find hl fun y=>by simp
theorem cy.row{n:Nat}{w:World}(h:cy n w){x:Sheet}(hx:x∈w.sheets){k:Nat}(hk:k∈x.loans):∃ l,Vbnlai.loanOf w k=some l:=by
 obtain ⟨l,hl,rfl⟩:=h.has x hx k hk
 exact ⟨l,h.loanOf hl⟩
theorem cy.change{n:Nat}{w:World}(h:cy n w){ks:List Int}{f:Sheet→Sheet}(hk:∀ x,(f x).key=x.key)
  (hf:∀ x∈w.sheets,ks.contains (x.key:Int)=true→(f x).loans.Nodup∧(∀ k∈(f x).loans,∃ l∈w.loans,l.key=k)∧(f x).loans.length≤n + 1∧(f x).dets.length≤n + 1):cy (n + 1) (Vbnlai.change w ks f) where
 sA:=h.sA.map fun y=>by split <;> simp [hk]
 sN:=by simpa [Vbnlai.change] using h.sN
 lA:=h.lA
 lN:=h.lN
 gA:=h.gA
 gN:=by simpa [Vbnlai.change] using h.gN
 pA:=h.pA
 nd:=fun x hx=>by
  obtain ⟨y,hy,rfl⟩:=List.mem_map.mp hx
  split
  ·exact (hf y hy ‹_›).1
  ·exact h.nd y hy
 has:=fun x hx=>by
  obtain ⟨y,hy,rfl⟩:=List.mem_map.mp hx
  split
  ·exact (hf y hy ‹_›).2.1
  ·exact h.has y hy
 few:=fun x hx=>by
  obtain ⟨y,hy,rfl⟩:=List.mem_map.mp hx
  split
  ·exact (hf y hy ‹_›).2.2
  ·have:=h.few y hy;omega
 key:=fun x hx=>by
  obtain ⟨y,hy,rfl⟩:=List.mem_map.mp hx
  split
  ·rw [hk];exact h.key y hy
  ·exact h.key y hy
theorem dM{w:World}{z:Sheet}:∀ {l:List Sheet} {s:List Sheet},z∈l.foldl (fun a x=>place Sheet.key x a) s ↔ z∈l∨z∈s
 | [],s=>by simp
 | x :: r,s=>by
  rw [List.foldl_cons,dM (w:=w) (l:=r),bR,List.mem_cons]
  constructor
  ·rintro (h | h | h) <;> simp [h]
  ·rintro ((h | h) | h) <;> simp [h]
theorem dw:∀ {l:List Sheet} {s:List Sheet},(l.foldl (fun a x=>place Sheet.key x a) s).length=s.length + l.length
 | [],s=>rfl
 | x :: r,s=>by
  rw [List.foldl_cons,dw (l:=r),bS,List.length_cons]
  omega
theorem Asc.adds:∀ {l:List Sheet} {s:List Sheet},Asc Sheet.key s→(l.map Sheet.key).Nodup→(∀ x∈l,∀ y∈s,y.key≠x.key)→Asc Sheet.key (l.foldl (fun a x=>Vbnlai.place Sheet.key x a) s)
 | [],s,h,_,_=>h
 | x :: r,s,h,hn,hd=>by
  rw [List.foldl_cons]
  rw [List.map_cons,List.nodup_cons] at hn
  refine Asc.adds (h.place fun y hy=>hd x List.mem_cons_self y hy) hn.2 fun z hz y hy=> ?_
  rcases bR.mp hy with rfl | hy
  ·exact fun e=>hn.1 (by rw [e];exact List.mem_map_of_mem hz)
  ·exact hd z (List.mem_cons_of_mem _ hz) y hy
theorem lT{first n:Int}{k:Nat}:k∈keysFrom first n ↔ ∃ i:Nat,i < n.toNat∧k=first.toNat + i:=by
 unfold keysFrom
 simp only [List.mem_map,List.mem_range]
 constructor
 ·rintro ⟨i,h,rfl⟩;exact ⟨i,h,rfl⟩
 ·rintro ⟨i,h,rfl⟩;exact ⟨i,h,rfl⟩
theorem jT(first n:Int):(keysFrom first n).Nodup:=by
 unfold keysFrom
 exact List.nodup_range.map _ fun a b h e=>h (by simpa using e)
theorem eW(first n:Int):(keysFrom first n).length=n.toNat:=by simp [keysFrom]
theorem dm{first n:Int}:roomFor first n=true ↔ (1≤first∧first≤(KEYS:Int))∧first + n - 1≤(KEYS:Int):=by
 unfold roomFor keyOk within
 simp [Bool.and_eq_true,decide_eq_true_eq]
theorem cy.adds{n:Nat}{w:World}(h:cy n w){first m:Int}{f:Nat→Sheet}(hk:∀ k,(f k).key=k)(room:¬ roomFor first m=false)(un:¬ unused w (keysFrom first m)=false)
  (few:¬ SHEETS < w.sheets.length + m.toNat) (hf:∀ k,(f k).loans.Nodup∧(∀ j∈(f k).loans,∃ l∈w.loans,l.key=j)∧(f k).loans.length≤n∧(f k).dets.length≤n):cy n (Vbnlai.adds w ((keysFrom first m).map f)) where
 sA:=by
  refine Asc.adds h.sA ?_ fun x hx y hy=> ?_
  ·rw [List.map_map]
   have:(Sheet.key ∘ f)=id:=by funext k;exact hk k
   rw [this,List.map_id]
   exact jT _ _
  ·obtain ⟨k,hk',rfl⟩:=List.mem_map.mp hx
   rw [hk]
   simp only [Bool.not_eq_false,unused,List.all_eq_true] at un
   have:=un k hk'
   simp only [Bool.not_eq_true',List.any_eq_false] at this
   have:=this y hy
   simpa using this
 sN:=by
  show List.length (List.foldl (fun a x=>place Sheet.key x a) w.sheets _)≤_
  rw [dw,List.length_map,eW]
  omega
 lA:=h.lA
 lN:=h.lN
 gA:=h.gA
 gN:=by
  show _≤List.length (List.foldl (fun a x=>place Sheet.key x a) w.sheets _)
  rw [dw]
  exact Nat.le_trans h.gN (Nat.le_add_right _ _)
 pA:=h.pA
 nd:=fun x hx=>by
  rcases (dM (w:=w)).mp hx with hx | hx
  ·obtain ⟨k,_,rfl⟩:=List.mem_map.mp hx;exact (hf k).1
  ·exact h.nd x hx
 has:=fun x hx=>by
  rcases (dM (w:=w)).mp hx with hx | hx
  ·obtain ⟨k,_,rfl⟩:=List.mem_map.mp hx;exact (hf k).2.1
  ·exact h.has x hx
 few:=fun x hx=>by
  rcases (dM (w:=w)).mp hx with hx | hx
  ·obtain ⟨k,_,rfl⟩:=List.mem_map.mp hx;exact (hf k).2.2
  ·exact h.few x hx
 key:=fun x hx=>by
  rcases (dM (w:=w)).mp hx with hx | hx
  ·obtain ⟨k,hk',rfl⟩:=List.mem_map.mp hx
   rw [hk]
   simp only [Bool.not_eq_false] at room
   have r:=dm.mp room
   obtain ⟨i,hi,rfl⟩:=lT.mp hk'
   omega
  ·exact h.key x hx
theorem n8{n:Nat}{w:World}(h:cy n w){f:Person→Person}(hk:∀ y,(f y).key=y.key):cy (n + 1) { w with persons:=w.persons.map f }:=
 { h.mono (Nat.le_succ n) with pA:=h.pA.map hk }
theorem bu{b:Bool}(h:¬ b=false):b=true:=by cases b <;> simp_all
theorem jE{n:Nat}{w:World}(h:cy n w){x:Sheet}(hx:x∈w.sheets):(∀ k∈x.loans.dropLast,∃ l∈w.loans,l.key=k)∧x.loans.dropLast.Nodup∧x.loans.dropLast.length≤n:=
 ⟨fun k hk=>h.has x hx k (List.dropLast_subset _ hk),(List.dropLast_sublist _).nodup (h.nd x hx),by
  have:=(h.few x hx).1
  rw [List.length_dropLast];omega⟩
theorem loanAny{w:World}{k:Int}(h:¬ (w.loans.any fun l=>(l.key:Int) == k)=true):∀ l∈w.loans,¬ (l.key:Int)=k:=by
 intro l hl e
 exact h (List.any_eq_true.mpr ⟨l,hl,by simpa using e⟩)
theorem db{k:Int}:keyOk k=true ↔ 1≤k∧k≤(KEYS:Int):=by
 unfold keyOk within
 simp [Bool.and_eq_true,decide_eq_true_eq]
theorem qu{k:Int}:dayOk k=true ↔ 0≤k∧k≤(DAYS:Int):=by
 unfold dayOk within
 simp [Bool.and_eq_true,decide_eq_true_eq]
theorem cC{k:Int}{a b:Nat}:within k a b=true ↔ (a:Int)≤k∧k≤(b:Int):=by
 unfold within
 simp [Bool.and_eq_true,decide_eq_true_eq]
theorem act_inv{hs:List Nat}{w w':World}{d:Nat}{e:Entry}{n:Nat}(hw:cy n w)(h:act hs w d e = .inr w'):cy (n + 1) w':=by
 have same:∀ x∈w.sheets,x.loans.Nodup∧(∀ k∈x.loans,∃ l∈w.loans,l.key=k)∧x.loans.length≤n + 1∧x.dets.length≤n + 1:=fun x hx=>⟨hw.nd x hx,hw.has x hx,by have:=hw.few x hx;omega,by have:=hw.few x hx;omega⟩
 cases e with
 | move person house=>
  simp only [act] at h
  cases e1:personOf w person with
  | none=>rw [e1] at h;cases h
  | some p=>
   rw [e1] at h
   obtain ⟨h1,h⟩:=ac h
   cases h
   exact n8 hw fun y=>by split <;> rfl
 | rank person rank=>
  simp only [act] at h
  cases e1:personOf w person with
  | none=>rw [e1] at h;cases h
  | some p=>
   rw [e1] at h
   obtain ⟨h1,h⟩:=ac h
   cases h
   exact n8 hw fun y=>by split <;> rfl
 | gather key person m first=>
  simp only [act] at h
  obtain ⟨h1,h⟩:=ac h
  obtain ⟨h2,h⟩:=ac h
  cases e1:personOf w person with
  | none=>rw [e1] at h;cases h
  | some p=>
   rw [e1] at h
   obtain ⟨h3,h⟩:=ac h
   obtain ⟨h4,h⟩:=ac h
   obtain ⟨h5,h⟩:=ac h
   obtain ⟨h6,h⟩:=ac h
   cases h
   have h0:=(cy.adds (f:=fun k=>{ key:=k,gathering:=key.toNat,owner:=p.house }) hw (fun k=>rfl) h4 h5 h6 fun k=>⟨List.nodup_nil,fun j hj=>(by cases hj),Nat.zero_le _,Nat.zero_le _⟩).mono (Nat.le_succ n)
   have hm:=cC.mp (bu h3)
   refine { h0 with gA:=hw.gA.place fun y hy e=> ?_,gN:=?_ }
   ·have hy2:key.toNat∈w.gatherings:=by rw [← (show y=key.toNat from e)];exact hy
    exact h2 (by simpa using hy2)
   ·show (place id key.toNat w.gatherings).length≤List.length (List.foldl (fun a x=>place Sheet.key x a) w.sheets _)
    rw [dw,bS,List.length_map,eW]
    have:=hw.gN
    omega
 | split sheet first m=>
  simp only [act] at h
  cases e0:Vbnlai.sheetOf w sheet with
  | none=>rw [e0] at h;cases h
  | some x=>
   rw [e0] at h
   obtain ⟨h1,h⟩:=ac h
   obtain ⟨h2,h⟩:=ac h
   obtain ⟨h3,h⟩:=ac h
   obtain ⟨h4,h⟩:=ac h
   obtain ⟨h5,h⟩:=ac h
   obtain ⟨h6,h⟩:=ac h
   cases h
   have hx:=dn e0
   have h0:cy (n + 1) (Vbnlai.change w [sheet] fun y=>{ y with status:=.divided,loans:=[] }):=hw.change (fun _=>rfl) fun y hy _=>⟨List.nodup_nil,fun j hj=>(by cases hj),Nat.zero_le _,(same y hy).2.2.2⟩
   refine cy.adds (f:=fun k=>{ x with key:=k }) h0 (fun k=>rfl) h4 ?_ ?_ fun k=>same x hx.1
   ·intro e
    apply h5
    unfold unused at e ⊢
    rw [List.all_eq_false] at e ⊢
    obtain ⟨k,hk,e⟩:=e
    refine ⟨k,hk,fun z=>e ?_⟩
    simp only [Bool.not_eq_true',List.any_eq_false] at z ⊢
    intro y hy
    obtain ⟨y0,hy0,rfl⟩:=List.mem_map.mp hy
    have:=z y0 hy0
    split <;> exact this
   ·simpa [Vbnlai.change] using h6
 | lend loan lender borrower due onward sheets=>
  replace h:(if _ then _ else _)=Sum.inr _:=h
  obtain ⟨h1,h⟩:=ac h
  obtain ⟨h2,h⟩:=ac h
  obtain ⟨h3,h⟩:=ac h
  obtain ⟨h4,h⟩:=ac h
  obtain ⟨h5,h⟩:=ac h
  obtain ⟨h6,h⟩:=ac h
  obtain ⟨h7,h⟩:=ac h
  obtain ⟨h8,h⟩:=ac h
  obtain ⟨h9,h⟩:=ac h
  obtain ⟨h10,h⟩:=ac h
  obtain ⟨h11,h⟩:=ac h
  obtain ⟨h12,h⟩:=ac h
  cases h
  have hk:=db.mp (bu h1)
  have new:∀ l∈w.loans,l.key≠loan.toNat:=fun l hl e=>loanAny h2 l hl (by omega)
  have h0:cy n { w with loans:=place Loan.key { key:=loan.toNat,lender:=lender.toNat,borrower:=borrower.toNat,due:=due.toNat,onward:=onward == 1 } w.loans }:=
   { hw with
    lA:=hw.lA.place new
    lN:=by
     show List.length (place _ _ _)≤_
     rw [bS]
     omega
    has:=fun x hx k hk=>by
     obtain ⟨l,hl,e⟩:=hw.has x hx k hk
     exact ⟨l,bR.mpr (.inr hl),e⟩ }
  refine h0.change (fun _=>rfl) fun x hx _=>⟨?_,fun k hk=> ?_,?_,(same x hx).2.2.2⟩
  ·rw [List.nodup_append]
   refine ⟨hw.nd x hx,by simp,fun a ha b hb=> ?_⟩
   rw [List.mem_singleton] at hb
   subst hb
   obtain ⟨l,hl,rfl⟩:=hw.has x hx a ha
   exact new l hl
  ·rcases List.mem_append.mp hk with hk | hk
   ·exact h0.has x hx k hk
   ·rw [List.mem_singleton] at hk
    subst hk
    exact ⟨_,bR.mpr (.inl rfl),rfl⟩
  ·have:=(hw.few x hx).1
   simp only [List.length_append,List.length_singleton]
   omega
 | arrive sheets=>
  simp only [act] at h
  obtain ⟨h1,h⟩:=ac h
  obtain ⟨h2,h⟩:=ac h
  obtain ⟨h3,h⟩:=ac h
  cases h
  exact hw.change (fun _=>rfl) fun x hx _=>same x hx
 | back loan sheets=>
  simp only [act] at h
  obtain ⟨h1,h⟩:=ac h
  obtain ⟨h2,h⟩:=ac h
  obtain ⟨h3,h⟩:=ac h
  cases h
  exact hw.change (fun _=>rfl) fun x hx _=>⟨(jE hw hx).2.1,(jE hw hx).1,Nat.le_succ_of_le (jE hw hx).2.2,(same x hx).2.2.2⟩
 | give old new sheets=>
  replace h:(if _ then _ else _)=Sum.inr _:=h
  obtain ⟨h1,h⟩:=ac h
  obtain ⟨h2,h⟩:=ac h
  obtain ⟨h3,h⟩:=ac h
  obtain ⟨h4,h⟩:=ac h
  obtain ⟨h5,h⟩:=ac h
  obtain ⟨h6,h⟩:=ac h
  cases h
  exact hw.change (fun _=>rfl) fun x hx _=>same x hx
 | cede sheet=>
  simp only [act] at h
  cases e0:Vbnlai.sheetOf w sheet with
  | none=>rw [e0] at h;cases h
  | some x=>
   rw [e0] at h
   obtain ⟨h1,h⟩:=ac h
   have hx:=dn e0
   cases el:x.loans with
   | nil=>rw [el] at h;cases h
   | cons k r=>
    rw [el] at h
    obtain ⟨h2,h⟩:=ac h
    cases e2:Vbnlai.loanOf w k with
    | none=>rw [e2] at h;cases h
    | some l=>
     rw [e2] at h
     cases h
     have s0:=same x hx.1
     rw [el] at s0
     exact hw.change (fun _=>rfl) fun y hy _=>⟨(List.nodup_cons.mp s0.1).2,fun j hj=>s0.2.1 j (List.mem_cons_of_mem _ hj),Nat.le_trans (Nat.le_succ _) s0.2.2.1,(same y hy).2.2.2⟩
 | extend loan due=>
  simp only [act] at h
  cases e0:w.loans.find? (fun l=>(l.key:Int) == loan) with
  | none=>rw [e0] at h;cases h
  | some l=>
   rw [e0] at h
   obtain ⟨h1,h⟩:=ac h
   obtain ⟨h2,h⟩:=ac h
   obtain ⟨h3,h⟩:=ac h
   cases h
   have hk:∀ m:Loan,(if m.key=l.key then { m with due:=due.toNat } else m).key=m.key:=fun m=>by split <;> rfl
   exact { hw.mono (Nat.le_succ n) with
    lA:=hw.lA.map hk
    lN:=by simpa using hw.lN
    has:=fun x hx k hk'=>by
     obtain ⟨m,hm,e⟩:=hw.has x hx k hk'
     exact ⟨_,List.mem_map_of_mem hm,(hk m).trans e⟩ }
 | lose sheets=>
  simp only [act] at h
  obtain ⟨h1,h⟩:=ac h
  obtain ⟨h2,h⟩:=ac h
  obtain ⟨h3,h⟩:=ac h
  cases h
  exact hw.change (fun _=>rfl) fun x hx _=>same x hx
 | find sheets=>
  simp only [act] at h
  obtain ⟨h1,h⟩:=ac h
  obtain ⟨h2,h⟩:=ac h
  obtain ⟨h3,h⟩:=ac h
  cases h
  exact hw.change (fun _=>rfl) fun x hx _=>same x hx
 | destroy sheet=>
  simp only [act] at h
  cases e0:Vbnlai.sheetOf w sheet with
  | none=>rw [e0] at h;cases h
  | some x=>
   rw [e0] at h
   obtain ⟨h1,h⟩:=ac h
   obtain ⟨h2,h⟩:=ac h
   obtain ⟨h3,h⟩:=ac h
   cases h
   exact hw.change (fun _=>rfl) fun x hx _=>same x hx
 | determine sheet person name conf=>
  simp only [act] at h
  cases e0:Vbnlai.sheetOf w sheet with
  | none=>rw [e0] at h;cases h
  | some x=>
   rw [e0] at h
   dsimp only at h
   cases e1:personOf w person with
   | none=>rw [e1] at h;cases h
   | some p=>
    rw [e1] at h
    obtain ⟨_,h⟩:=ac h
    obtain ⟨_,h⟩:=ac h
    obtain ⟨_,h⟩:=ac h
    obtain ⟨_,h⟩:=ac h
    cases h
    refine hw.change (fun _=>rfl) fun x hx _=>⟨(same x hx).1,(same x hx).2.1,(same x hx).2.2.1,?_⟩
    have:=(hw.few x hx).2
    simp only [List.length_append,List.length_singleton]
    omega
 | type sheet name=>
  simp only [act] at h
  cases e0:Vbnlai.sheetOf w sheet with
  | none=>rw [e0] at h;cases h
  | some x=>
   rw [e0] at h
   obtain ⟨h1,h⟩:=ac h
   obtain ⟨h2,h⟩:=ac h
   obtain ⟨h3,h⟩:=ac h
   obtain ⟨h4,h⟩:=ac h
   cases h
   exact hw.change (fun _=>rfl) fun x hx _=>same x hx
def wAt(s:State)(i:Nat):World:=(s.log.take i).foldl (redo s.houses) { persons:=s.persons }
theorem ng(s:State):wAt s 0 = { persons:=s.persons }:=rfl
theorem jP{s:State}{i:Nat}{e:Nat×Entry}(h:s.log[i]? = some e):wAt s (i + 1)=redo s.houses (wAt s i) e:=by
 unfold wAt
 rw [List.take_add_one,h,List.foldl_append]
 rfl
structure Good(s:State):Prop where
 now:wAt s s.log.length=s.now
 ok:∀ (i d:Nat) (e:Entry),s.log[i]? = some (d,e)→act s.houses (wAt s i) d e = .inr (wAt s (i + 1))
 days:s.log.Pairwise fun a b=>a.1≤b.1
 upto:∀ e∈s.log,e.1≤s.day
 last:s.day=(s.log.getLast?.map Prod.fst).getD 0
 logN:s.log.length≤LOG
 hA:Asc id s.houses
 hN:s.houses.length≤HOUSES
 hK:∀ h∈s.houses,1≤h∧h≤KEYS
 pA:Asc Person.key s.persons
 pN:s.persons.length≤PERSONS
 dN:s.day≤DAYS
theorem jG{hs:List Nat}{w w':World}{e:Nat×Entry}(h:act hs w e.1 e.2 = .inr w'):redo hs w e=w':=by
 unfold redo
 rw [h]
theorem Good.inv{s:State}(g:Good s):∀ i,i≤s.log.length→cy i (wAt s i)
 | 0,_=>by
  rw [ng]
  exact ⟨List.Pairwise.nil,Nat.zero_le _,List.Pairwise.nil,Nat.zero_le _,List.Pairwise.nil,Nat.zero_le _,g.pA,fun x hx=>(by cases hx),fun x hx=>(by cases hx),fun x hx=>(by cases hx),fun x hx=>(by cases hx)⟩
 | i + 1,h=>by
  have hi:i < s.log.length:=h
  exact act_inv (Good.inv g i (Nat.le_of_lt hi)) (g.ok i _ _ (List.getElem?_eq_getElem hi))
theorem Good.invNow{s:State}(g:Good s):cy s.log.length s.now:=by
 have:=g.inv _ (Nat.le_refl _)
 rw [g.now] at this
 exact this
theorem Good.pkeys{s:State}(g:Good s):∀ i,i≤s.log.length→(wAt s i).persons.map Person.key=s.persons.map Person.key
 | 0,_=>rfl
 | i + 1,h=>by
  have hi:i < s.log.length:=h
  rw [act_pkeys (g.ok i _ _ (List.getElem?_eq_getElem hi))]
  exact Good.pkeys g i (Nat.le_of_lt hi)
theorem Good.pnone{s:State}(g:Good s){i:Nat}(hi:i≤s.log.length){k:Int}(h:¬ (s.persons.any fun p=>(p.key:Int) == k)=true):personOf (wAt s i) k=none:=by
 unfold personOf
 rw [List.find?_eq_none]
 intro x hx e
 have hm:x.key∈(wAt s i).persons.map Person.key:=List.mem_map_of_mem hx
 rw [g.pkeys i hi] at hm
 obtain ⟨y,hy,ey⟩:=List.mem_map.mp hm
 exact h (List.any_eq_true.mpr ⟨y,hy,by rw [ey];exact e⟩)
theorem p9:Good Vbnlai.start where
 now:=rfl
 ok:=fun i d e h=>by simp [Vbnlai.start] at h
 days:=List.Pairwise.nil
 upto:=fun e h=>nomatch h
 last:=rfl
 logN:=Nat.zero_le _
 hA:=List.Pairwise.nil
 hN:=Nat.zero_le _
 hK:=fun e h=>nomatch h
 pA:=List.Pairwise.nil
 pN:=Nat.zero_le _
 dN:=Nat.zero_le _
theorem ph{s:State}(g:Good s){key:Int}(h1:¬ keyOk key=false)(h2:¬ s.houses.contains key.toNat=true)(h3:¬ HOUSES≤s.houses.length) :
  Good { s with houses:=place id key.toNat s.houses }∧∀ i,i≤s.log.length→wAt { s with houses:=place id key.toNat s.houses } i=wAt s i:=by
 have sub:∀ h∈s.houses,h∈place id key.toNat s.houses:=fun h hh=>bR.mpr (.inr hh)
 have same:∀ i,i≤s.log.length→wAt { s with houses:=place id key.toNat s.houses } i=wAt s i:=by
  intro i
  induction i with
  | zero=>intro _;rfl
  | succ i ih=>
   intro h
   have hi:i < s.log.length:=h
   have e:=List.getElem?_eq_getElem hi
   rw [jP (s:={ s with houses:=place id key.toNat s.houses }) e,ih (Nat.le_of_lt hi)]
   exact jG (ko sub (g.ok i _ _ e))
 have hk:=db.mp (bu h1)
 refine ⟨{ g with now:=(same _ (Nat.le_refl _)).trans g.now,ok:=fun i d e h=> ?_,hA:=g.hA.place fun y hy e=> ?_,hN:=?_,hK:=fun h hh=> ?_ },same⟩
 ·have hi:i < s.log.length:=(List.getElem?_eq_some_iff.mp h).1
  rw [same i (Nat.le_of_lt hi),same (i + 1) hi]
  exact ko sub (g.ok i d e h)
 ·have hy2:key.toNat∈s.houses:=by rw [← (show y=key.toNat from e)];exact hy
  exact h2 (by simpa using hy2)
 ·show (place id key.toNat s.houses).length≤HOUSES
  rw [bS];omega
 ·rcases bR.mp hh with rfl | hh
  ·omega
  ·exact g.hK h hh
theorem mL{s:State}(g:Good s){q:Person}(h4:¬ (s.persons.any fun p=>(p.key:Int) == (q.key:Int))=true)(h5:¬ PERSONS≤s.persons.length) :
  Good { s with persons:=place Person.key q s.persons,now:=cO q s.now }∧∀ i,i≤s.log.length→wAt { s with persons:=place Person.key q s.persons,now:=cO q s.now } i=cO q (wAt s i):=by
 have same:∀ i,i≤s.log.length→wAt { s with persons:=place Person.key q s.persons,now:=cO q s.now } i=cO q (wAt s i):=by
  intro i
  induction i with
  | zero=>intro _;rfl
  | succ i ih=>
   intro h
   have hi:i < s.log.length:=h
   have e:=List.getElem?_eq_getElem hi
   rw [jP (s:={ s with persons:=place Person.key q s.persons,now:=cO q s.now }) e,ih (Nat.le_of_lt hi)]
   exact jG (nq (fun h hh=>hh) (g.pnone (Nat.le_of_lt hi) h4) (g.ok i _ _ e)).1
 refine ⟨{ g with now:=?_,ok:=fun i d e h=> ?_,pA:=g.pA.place fun y hy e=> ?_,pN:=?_ },same⟩
 ·rw [same _ (Nat.le_refl _),g.now]
 ·have hi:i < s.log.length:=(List.getElem?_eq_some_iff.mp h).1
  rw [same i (Nat.le_of_lt hi),same (i + 1) hi]
  exact (nq (fun h hh=>hh) (g.pnone (Nat.le_of_lt hi) h4) (g.ok i d e h)).1
 ·exact h4 (List.any_eq_true.mpr ⟨y,hy,by simp [e]⟩)
 ·show (place Person.key q s.persons).length≤PERSONS
  rw [bS];omega
theorem o9{s:State}(g:Good s){day:Int}{e:Entry}{w:World}(h1:¬ (dayOk day=false∨day < (s.day:Int)))(h2:act s.houses s.now day.toNat e = .inr w)(h3:¬ LOG≤s.log.length) :
  Good { s with day:=day.toNat,log:=s.log ++ [(day.toNat,e)],now:=w }∧∀ i,i≤s.log.length→wAt { s with day:=day.toNat,log:=s.log ++ [(day.toNat,e)],now:=w } i=wAt s i:=by
 have hd:=qu.mp (bu (not_or.mp h1).1)
 have hlt:=(not_or.mp h1).2
 have same:∀ i,i≤s.log.length→wAt { s with day:=day.toNat,log:=s.log ++ [(day.toNat,e)],now:=w } i=wAt s i:=by
  intro i hi
  unfold wAt
  simp only
  rw [List.take_append_of_le_length hi]
 have new:wAt { s with day:=day.toNat,log:=s.log ++ [(day.toNat,e)],now:=w } (s.log.length + 1)=w:=by
  rw [jP (e:=(day.toNat,e)) (by simp),same _ (Nat.le_refl _),g.now]
  exact jG h2
 refine ⟨{ g with now:=?_,ok:=fun i d e' h=> ?_,days:=?_,upto:=fun x hx=> ?_,last:=?_,logN:=?_,dN:=?_ },same⟩
 ·show wAt _ (s.log ++ [(day.toNat,e)]).length=w
  rw [List.length_append]
  exact new
 ·by_cases hi:i < s.log.length
  ·rw [same i (Nat.le_of_lt hi),same (i + 1) hi]
   refine g.ok i d e' ?_
   simpa [List.getElem?_append,hi] using h
  ·have hlen:=(List.getElem?_eq_some_iff.mp h).1
   have he:i=s.log.length:=by simp at hlen;omega
   subst he
   have h':(day.toNat,e)=(d,e'):=by simpa using h
   cases h'
   rw [new,same _ (Nat.le_refl _),g.now]
   exact h2
 ·rw [List.pairwise_append]
  refine ⟨g.days,by simp,fun a ha b hb=> ?_⟩
  rw [List.mem_singleton] at hb
  subst hb
  have:=g.upto a ha
  show a.1≤day.toNat
  omega
 ·rcases List.mem_append.mp hx with hx | hx
  ·have:=g.upto x hx
   show x.1≤day.toNat
   omega
  ·rw [List.mem_singleton] at hx
   subst hx
   exact Nat.le_refl _
 ·simp
 ·show (s.log ++ [(day.toNat,e)]).length≤LOG
  rw [List.length_append]
  show s.log.length + 1≤LOG
  omega
 ·show day.toNat≤DAYS
  omega
def upTo(s:State)(d:Nat):Nat:=(s.log.filter fun e=>decide (e.1≤d)).length
theorem iG{l:List (Nat×Entry)}(h:l.Pairwise fun a b=>a.1≤b.1)(d:Nat):(l.filter fun e=>decide (e.1≤d))=l.take (l.filter fun e=>decide (e.1≤d)).length:=by
 induction l with
 | nil=>rfl
 | cons x r ih=>
  have h1:=List.pairwise_cons.mp h
  by_cases hx:x.1≤d
  ·rw [List.filter_cons,if_pos (by simpa using hx),List.length_cons,List.take_succ_cons]
   congr 1
   exact ih h1.2
  ·have hz:(r.filter fun e=>decide (e.1≤d))=[]:=by
    rw [List.filter_eq_nil_iff]
    intro y hy
    have:=h1.1 y hy
    simp only [decide_eq_true_eq]
    omega
   rw [List.filter_cons,if_neg (by simpa using hx),hz]
   rfl
theorem Good.view{s:State}(g:Good s)(d:Nat):Vbnlai.view s d=wAt s (upTo s d):=by
 unfold Vbnlai.view wAt upTo
 rw [← iG g.days]
theorem pS(s:State)(d:Nat):upTo s d≤s.log.length:=List.length_filter_le _ _
theorem Good.step{s:State}(g:Good s)(c:Call):Good (Vbnlai.step s c).1:=by
 cases c with
 | house key=>
  simp only [Vbnlai.step]
  split
  ·exact g
  ·split
   ·exact g
   ·split
    ·exact g
    ·exact (ph g ‹_› ‹_› ‹_›).1
 | person key house rank=>
  simp only [Vbnlai.step]
  split
  ·exact g
  ·rename_i h1
   split
   ·exact g
   ·split
    ·exact g
    ·split
     ·exact g
     ·rename_i h4
      split
      ·exact g
      ·have hk:=db.mp (bu h1)
       refine (mL g (q:={ key:=key.toNat,house:=house.toNat,rank:=rank.toNat }) ?_ ‹_›).1
       have e:((key.toNat:Nat):Int)=key:=by omega
       show ¬ (s.persons.any fun p=>(p.key:Int) == ((key.toNat:Nat):Int))=true
       rw [e]
       exact h4
 | enter day e=>
  simp only [Vbnlai.step,Vbnlai.enter]
  split
  ·exact g
  ·cases ea:act s.houses s.now day.toNat e with
   | inl c=>exact g
   | inr w=>
    dsimp only
    split
    ·exact g
    ·exact (o9 g ‹_› ea ‹_›).1
 | whereIs sheet day=>simp only [Vbnlai.step,ofSheet];(repeat' split);all_goals exact g
 | custody sheet day=>simp only [Vbnlai.step,ofSheet];(repeat' split);all_goals exact g
 | name sheet day=>simp only [Vbnlai.step,ofSheet];(repeat' split);all_goals exact g
 | dets sheet day=>simp only [Vbnlai.step,ofSheet];(repeat' split);all_goals exact g
 | inHouse house day=>simp only [Vbnlai.step,ofHouse];(repeat' split);all_goals exact g
 | books house day=>simp only [Vbnlai.step,ofHouse];(repeat' split);all_goals exact g
 | overdue day=>simp only [Vbnlai.step];(repeat' split);all_goals exact g
 | gathering key day=>simp only [Vbnlai.step];(repeat' split);all_goals exact g
 | types name day=>simp only [Vbnlai.step];(repeat' split);all_goals exact g
 | history sheet=>simp only [Vbnlai.step];(repeat' split);all_goals exact g
 | log=>exact g
structure il(w:World):Prop where
 p:∀ p∈w.persons,1≤p.rank∧p.rank≤9
 d:∀ x∈w.sheets,∀ d∈x.dets,(1≤d.rank∧d.rank≤9)∧d.conf≤3
theorem il.change{w:World}(h:il w){ks:List Int}{f:Sheet→Sheet}(hf:∀ x∈w.sheets,∀ d∈(f x).dets,(1≤d.rank∧d.rank≤9)∧d.conf≤3):il (change w ks f):=by
 refine ⟨h.p,fun x hx d hd=> ?_⟩
 obtain ⟨y,hy,rfl⟩:=List.mem_map.mp hx
 split at hd
 ·exact hf y hy d hd
 ·exact h.d y hy d hd
theorem il.adds{w:World}(h:il w){l:List Sheet}(hl:∀ x∈l,∀ d∈x.dets,(1≤d.rank∧d.rank≤9)∧d.conf≤3):il (adds w l):=by
 refine ⟨h.p,fun x hx d hd=> ?_⟩
 rcases (dM (w:=w)).mp hx with hx | hx
 ·exact hl x hx d hd
 ·exact h.d x hx d hd
theorem act_rinv{hs:List Nat}{w w':World}{d:Nat}{e:Entry}(hw:il w)(h:act hs w d e = .inr w'):il w':=by
 cases e with
 | move person house=>
  simp only [act] at h
  cases e1:personOf w person with
  | none=>rw [e1] at h;cases h
  | some p=>
   rw [e1] at h
   obtain ⟨_,h⟩:=ac h
   cases h
   refine ⟨fun q hq=> ?_,hw.d⟩
   obtain ⟨y,hy,rfl⟩:=List.mem_map.mp hq
   split
   ·exact hw.p y hy
   ·exact hw.p y hy
 | rank person rank=>
  simp only [act] at h
  cases e1:personOf w person with
  | none=>rw [e1] at h;cases h
  | some p=>
   rw [e1] at h
   obtain ⟨h1,h⟩:=ac h
   cases h
   have:=cC.mp (bu h1)
   refine ⟨fun q hq=> ?_,hw.d⟩
   obtain ⟨y,hy,rfl⟩:=List.mem_map.mp hq
   split
   ·show 1≤rank.toNat∧rank.toNat≤9
    omega
   ·exact hw.p y hy
 | gather key person n first=>
  simp only [act] at h
  obtain ⟨_,h⟩:=ac h
  obtain ⟨_,h⟩:=ac h
  cases e1:personOf w person with
  | none=>rw [e1] at h;cases h
  | some p=>
   rw [e1] at h
   obtain ⟨_,h⟩:=ac h
   obtain ⟨_,h⟩:=ac h
   obtain ⟨_,h⟩:=ac h
   obtain ⟨_,h⟩:=ac h
   cases h
   have h0:il { w with gatherings:=place id key.toNat w.gatherings }:=⟨hw.p,hw.d⟩
   refine h0.adds fun x hx d hd=> ?_
   obtain ⟨k,_,rfl⟩:=List.mem_map.mp hx
   cases hd
 | split sheet first n=>
  simp only [act] at h
  cases e0:Vbnlai.sheetOf w sheet with
  | none=>rw [e0] at h;cases h
  | some x=>
   rw [e0] at h
   obtain ⟨_,h⟩:=ac h
   obtain ⟨_,h⟩:=ac h
   obtain ⟨_,h⟩:=ac h
   obtain ⟨_,h⟩:=ac h
   obtain ⟨_,h⟩:=ac h
   obtain ⟨_,h⟩:=ac h
   cases h
   have hc:il (change w [sheet] fun y=>{ y with status:=.divided,loans:=[] }):=hw.change fun y hy d hd=>hw.d y hy d hd
   refine hc.adds fun z hz d hd=> ?_
   obtain ⟨k,_,rfl⟩:=List.mem_map.mp hz
   exact hw.d x (dn e0).1 d hd
 | lend loan lender borrower due onward sheets=>
  replace h:(if _ then _ else _)=Sum.inr _:=h
  obtain ⟨_,h⟩:=ac h
  obtain ⟨_,h⟩:=ac h
  obtain ⟨_,h⟩:=ac h
  obtain ⟨_,h⟩:=ac h
  obtain ⟨_,h⟩:=ac h
  obtain ⟨_,h⟩:=ac h
  obtain ⟨_,h⟩:=ac h
  obtain ⟨_,h⟩:=ac h
  obtain ⟨_,h⟩:=ac h
  obtain ⟨_,h⟩:=ac h
  obtain ⟨_,h⟩:=ac h
  obtain ⟨_,h⟩:=ac h
  cases h
  have h0:il { w with loans:=place Loan.key { key:=loan.toNat,lender:=lender.toNat,borrower:=borrower.toNat,due:=due.toNat,onward:=onward == 1 } w.loans }:=⟨hw.p,hw.d⟩
  exact h0.change fun y hy d hd=>hw.d y hy d hd
 | arrive sheets=>
  simp only [act] at h
  obtain ⟨_,h⟩:=ac h
  obtain ⟨_,h⟩:=ac h
  obtain ⟨_,h⟩:=ac h
  cases h
  exact hw.change fun y hy d hd=>hw.d y hy d hd
 | back loan sheets=>
  simp only [act] at h
  obtain ⟨_,h⟩:=ac h
  obtain ⟨_,h⟩:=ac h
  obtain ⟨_,h⟩:=ac h
  cases h
  exact hw.change fun y hy d hd=>hw.d y hy d hd
 | give old new sheets=>
  simp only [act] at h
  obtain ⟨_,h⟩:=ac h
  obtain ⟨_,h⟩:=ac h
  obtain ⟨_,h⟩:=ac h
  obtain ⟨_,h⟩:=ac h
  obtain ⟨_,h⟩:=ac h
  obtain ⟨_,h⟩:=ac h
  cases h
  exact hw.change fun y hy d hd=>hw.d y hy d hd
 | cede sheet=>
  simp only [act] at h
  cases e0:Vbnlai.sheetOf w sheet with
  | none=>rw [e0] at h;cases h
  | some x=>
   rw [e0] at h
   obtain ⟨_,h⟩:=ac h
   cases el:x.loans with
   | nil=>rw [el] at h;cases h
   | cons k r=>
    rw [el] at h
    obtain ⟨_,h⟩:=ac h
    cases e2:Vbnlai.loanOf w k with
    | none=>rw [e2] at h;cases h
    | some l=>
     rw [e2] at h
     cases h
     exact hw.change fun y hy d hd=>hw.d y hy d hd
 | extend loan due=>
  simp only [act] at h
  cases e0:w.loans.find? (fun l=>(l.key:Int) == loan) with
  | none=>rw [e0] at h;cases h
  | some l=>
   rw [e0] at h
   obtain ⟨_,h⟩:=ac h
   obtain ⟨_,h⟩:=ac h
   obtain ⟨_,h⟩:=ac h
   cases h
   exact ⟨hw.p,hw.d⟩
 | lose sheets=>
  simp only [act] at h
  obtain ⟨_,h⟩:=ac h
  obtain ⟨_,h⟩:=ac h
  obtain ⟨_,h⟩:=ac h
  cases h
  exact hw.change fun y hy d hd=>hw.d y hy d hd
 | find sheets=>
  simp only [act] at h
  obtain ⟨_,h⟩:=ac h
  obtain ⟨_,h⟩:=ac h
  obtain ⟨_,h⟩:=ac h
  cases h
  exact hw.change fun y hy d hd=>hw.d y hy d hd
 | destroy sheet=>
  simp only [act] at h
  cases e0:Vbnlai.sheetOf w sheet with
  | none=>rw [e0] at h;cases h
  | some x=>
   rw [e0] at h
   obtain ⟨_,h⟩:=ac h
   obtain ⟨_,h⟩:=ac h
   obtain ⟨_,h⟩:=ac h
   cases h
   exact hw.change fun y hy d hd=>hw.d y hy d hd
 | determine sheet person name conf=>
  simp only [act] at h
  cases e0:Vbnlai.sheetOf w sheet with
  | none=>rw [e0] at h;cases h
  | some x=>
   rw [e0] at h
   dsimp only at h
   cases e1:personOf w person with
   | none=>rw [e1] at h;cases h
   | some p=>
    rw [e1] at h
    obtain ⟨_,h⟩:=ac h
    obtain ⟨_,h⟩:=ac h
    obtain ⟨_,h⟩:=ac h
    obtain ⟨h4,h⟩:=ac h
    cases h
    have hc:=cC.mp (bu h4)
    refine hw.change fun y hy d hd=> ?_
    rcases List.mem_append.mp hd with hd | hd
    ·exact hw.d y hy d hd
    ·rw [List.mem_singleton] at hd
     subst hd
     refine ⟨hw.p p (List.mem_of_find?_eq_some e1),?_⟩
     show conf.toNat≤3
     omega
 | type sheet name=>
  simp only [act] at h
  cases e0:Vbnlai.sheetOf w sheet with
  | none=>rw [e0] at h;cases h
  | some x=>
   rw [e0] at h
   obtain ⟨_,h⟩:=ac h
   obtain ⟨_,h⟩:=ac h
   obtain ⟨_,h⟩:=ac h
   obtain ⟨_,h⟩:=ac h
   cases h
   exact hw.change fun y hy d hd=>hw.d y hy d hd
structure lW(s:State):Prop extends Good s where
 pR:∀ p∈s.persons,1≤p.rank∧p.rank≤9
theorem lW.rinv{s:State}(g:lW s):∀ i,i≤s.log.length→il (wAt s i)
 | 0,_=>by
  rw [ng]
  exact ⟨g.pR,fun x hx=>(by cases hx)⟩
 | i + 1,h=>by
  have hi:i < s.log.length:=h
  exact act_rinv (lW.rinv g i (Nat.le_of_lt hi)) (g.ok i _ _ (List.getElem?_eq_getElem hi))
theorem lW.rinvNow{s:State}(g:lW s):il s.now:=by
 have:=g.rinv _ (Nat.le_refl _)
 rw [g.now] at this
 exact this
theorem fine_start:lW Vbnlai.start:=⟨p9,fun p h=>nomatch h⟩
theorem lW.step{s:State}(g:lW s)(c:Call):lW (Vbnlai.step s c).1:=by
 refine ⟨g.toGood.step c,?_⟩
 have same:∀ t:State,t.persons=s.persons→∀ p∈t.persons,1≤p.rank∧p.rank≤9:=fun t e p hp=>g.pR p (e ▸ hp)
 cases c with
 | house key=>
  simp only [Vbnlai.step]
  repeat' split
  all_goals exact same _ rfl
 | person key house rank=>
  simp only [Vbnlai.step]
  split
  ·exact g.pR
  ·split
   ·exact g.pR
   ·split
    ·exact g.pR
    ·rename_i h3
     have hr:=cC.mp (bu h3)
     split
     ·exact g.pR
     ·split
      ·exact g.pR
      ·intro p hp
       rcases bR.mp hp with rfl | hp
       ·show 1≤rank.toNat∧rank.toNat≤9
        omega
       ·exact g.pR p hp
 | enter day e=>
  simp only [Vbnlai.step,Vbnlai.enter]
  split
  ·exact g.pR
  ·cases ea:act s.houses s.now day.toNat e with
   | inl c=>exact g.pR
   | inr w=>
    dsimp only
    split
    ·exact g.pR
    ·exact same _ rfl
 | whereIs sheet day=>simp only [Vbnlai.step,ofSheet];(repeat' split);all_goals exact g.pR
 | custody sheet day=>simp only [Vbnlai.step,ofSheet];(repeat' split);all_goals exact g.pR
 | name sheet day=>simp only [Vbnlai.step,ofSheet];(repeat' split);all_goals exact g.pR
 | dets sheet day=>simp only [Vbnlai.step,ofSheet];(repeat' split);all_goals exact g.pR
 | inHouse house day=>simp only [Vbnlai.step,ofHouse];(repeat' split);all_goals exact g.pR
 | books house day=>simp only [Vbnlai.step,ofHouse];(repeat' split);all_goals exact g.pR
 | overdue day=>simp only [Vbnlai.step];(repeat' split);all_goals exact g.pR
 | gathering key day=>simp only [Vbnlai.step];(repeat' split);all_goals exact g.pR
 | types name day=>simp only [Vbnlai.step];(repeat' split);all_goals exact g.pR
 | history sheet=>simp only [Vbnlai.step];(repeat' split);all_goals exact g.pR
 | log=>exact g.pR
theorem change_nil{w:World}{f:Sheet→Sheet}:change w [] f=w:=by
 unfold change
 simp
theorem change_snoc{w:World}{ks:List Int}{k:Int}{f:Sheet→Sheet}(hf:∀ x,(f x).key=x.key)(hk:k∉ks):change w (ks ++ [k]) f=change (change w ks f) [k] f:=by
 unfold change
 simp only [List.map_map]
 congr 1
 refine List.map_congr_left fun x hx=> ?_
 simp only [Function.comp]
 by_cases h1:(x.key:Int)∈ks
 ·have h2:¬ (x.key:Int)=k:=fun e=>hk (e ▸ h1)
  simp [h1,hf,h2]
 ·by_cases h2:(x.key:Int)=k
  ·have h3:¬ k∈ks:=fun z=>h1 (h2 ▸ z)
   simp [h2,h3]
  ·simp [h1,h2]
theorem iJ:∀ {l:List Nat} {k:Nat} {j:Nat},l[j]? = some k→(∀ m,m < j→l[m]? ≠ some k)→beforeIn l k=if j=0 then (match l with | a :: r=>beforeIn (a :: r) k | [] =>none) else l[j - 1]?
 | [],k,j,h,_=>by simp at h
 | [a],k,j,h,hm=>by
  match j,h with
  | 0,h=>simp
  | j + 1,h=>simp at h
 | a :: b :: r,k,j,h,hm=>by
  match j,h with
  | 0,h=>simp
  | 1,h=>
   have:b=k:=by simpa using h
   simp [beforeIn,this]
  | j + 2,h=>
   have hb:b≠k:=fun e=>hm 1 (by omega) (by simp [e])
   have ih:=iJ (l:=b :: r) (k:=k) (j:=j + 1) (by simpa using h) (fun m hm' e=>hm (m + 1) (by omega) (by simpa using e))
   simp only [beforeIn,hb,if_false]
   rw [ih]
   simp
theorem kE{a:Nat}:∀ {r:List Nat},(a :: r).Nodup→beforeIn (a :: r) a=none
 | [],_=>rfl
 | b :: r,h=>by
  have h1:=List.nodup_cons.mp h
  have hb:b≠a:=fun e=>h1.1 (by simp [e])
  simp only [beforeIn,hb,if_false]
  have h2:∀ (l:List Nat) (c:Nat),c≠a→a∉l→beforeIn (c :: l) a=none:=by
   intro l
   induction l with
   | nil=>intro c _ _;rfl
   | cons d l ih=>
    intro c hc hl
    have hd:d≠a:=fun e=>hl (by simp [e])
    simp only [beforeIn,hd,if_false]
    exact ih d hd (fun z=>hl (by simp [z]))
  exact h2 r b hb (fun z=>h1.1 (by simp [z]))
theorem beforeIn_pos{l:List Nat}(nd:l.Nodup){k j:Nat}(h:l[j]? = some k):beforeIn l k=if j=0 then none else l[j - 1]? := by
 have hm:∀ m,m < j→l[m]? ≠ some k:=fun m hm e=>by
  obtain ⟨h1,e1⟩:=List.getElem?_eq_some_iff.mp h
  obtain ⟨h2,e2⟩:=List.getElem?_eq_some_iff.mp e
  exact (List.pairwise_iff_getElem.mp nd) m j h2 h1 hm (e2.trans e1.symm)
 rw [iJ h hm]
 by_cases hj:j=0
 ·subst hj
  match l,h,nd with
  | a :: r,h,nd=>
   have:a=k:=by simpa using h
   subst this
   simp [kE nd]
 ·simp [hj]
def kR(d:Det)(r:List Det):Bool:=r.any fun e=>e.person == d.person
def pr:List Det→List (Det×Nat)
 | [] =>[]
 | d :: r=>(d,if kR d r=true then 0 else weight d) :: pr r
theorem pr_length:∀ l:List Det,(pr l).length=l.length
 | [] =>rfl
 | d :: r=>by simp [pr,pr_length r]
theorem pr_at:∀ {l:List Det} {i:Nat} {d:Det},l[i]? = some d→(pr l)[i]? = some (d,if kR d (l.drop (i + 1))=true then 0 else weight d)
 | [],i,d,h=>by simp at h
 | c :: r,0,d,h=>by
  have:c=d:=by simpa using h
  subst this
  simp [pr]
 | c :: r,i + 1,d,h=>by
  have:=pr_at (l:=r) (i:=i) (d:=d) (by simpa using h)
  simpa [pr] using this
def S(ps:List (Det×Nat))(n:Nat):Nat:=((ps.filter fun p=>p.1.name == n).map (·.2)).sum
def cP(l:List Nat):List Nat:=l.foldl (fun a n=>if a.contains n=true then a else a ++ [n]) []
def G(ps:List (Det×Nat)):Nat:=((cP (ps.map (·.1.name))).map (S ps)).foldl max 0
def nm(ps:List (Det×Nat)):Nat:=ps.foldl (fun a p=>if 0 < p.2∧S ps p.1.name=G ps then p.1.name else a) 0
theorem ox(p:Det×Nat)(r:List (Det×Nat))(n:Nat):S (p :: r) n=(if p.1.name=n then p.2 else 0) + S r n:=by
 unfold S
 by_cases h:p.1.name=n
 ·simp [h]
 ·have:(p.1.name == n)=false:=by simpa using h
  simp [h,this]
theorem S_append(a b:List (Det×Nat))(n:Nat):S (a ++ b) n=S a n + S b n:=by
 unfold S
 simp
theorem i9:∀ (l:List Nat) (a:Nat),l.foldl (· + ·) a=a + l.sum
 | [],a=>by simp
 | x :: r,a=>by
  rw [List.foldl_cons,i9 r,List.sum_cons]
  omega
theorem oq(d:Det)(r:List Det)(n:Nat):total (d :: r) n=(if d.name=n then weight d else 0) + total r n:=by
 unfold total
 rw [i9,i9]
 by_cases h:d.name=n
 ·simp [h]
 ·have:(d.name == n)=false:=by simpa using h
  simp [h,this]
theorem mE:∀ (l:List Det) (n:Nat),total (counting l) n=S (pr l) n
 | [],n=>rfl
 | d :: r,n=>by
  unfold counting pr
  rw [ox]
  by_cases h:kR d r=true
  ·rw [if_pos (show (r.any fun e=>e.person == d.person)=true from h),if_pos h,mE r]
   simp
  ·rw [if_neg (show ¬ (r.any fun e=>e.person == d.person)=true from h),if_neg h,oq,mE r]
theorem iB:∀ {l:List Det},(∀ d∈l,0 < weight d)→counting l=((pr l).filter fun p=>decide (0 < p.2)).map (·.1)
 | [],_=>rfl
 | d :: r,h=>by
  have ih:=iB (l:=r) fun e he=>h e (List.mem_cons_of_mem _ he)
  unfold counting pr
  by_cases hl:kR d r=true
  ·rw [if_pos (show (r.any fun e=>e.person == d.person)=true from hl),if_pos hl,ih]
   simp
  ·rw [if_neg (show ¬ (r.any fun e=>e.person == d.person)=true from hl),if_neg hl,ih]
   have:=h d List.mem_cons_self
   simp [this]
theorem eh{l:List Nat}{n:Nat}:n∈cP l ↔ n∈l:=by
 have gen:∀ (l a:List Nat),n∈l.foldl (fun a n=>if a.contains n=true then a else a ++ [n]) a ↔ n∈a∨n∈l:=by
  intro l
  induction l with
  | nil=>intro a;simp
  | cons x r ih=>
   intro a
   rw [List.foldl_cons,ih]
   by_cases hx:x∈a
   ·rw [if_pos (by simpa using hx)]
    constructor
    ·rintro (h | h)
     ·exact .inl h
     ·exact .inr (List.mem_cons_of_mem _ h)
    ·rintro (h | h)
     ·exact .inl h
     ·rcases List.mem_cons.mp h with rfl | h
      ·exact .inl hx
      ·exact .inr h
   ·rw [if_neg (by simpa using hx)]
    simp only [List.mem_append,List.mem_singleton,List.mem_cons,List.not_mem_nil,or_false,or_assoc]
 have:=gen l []
 simpa [cP] using this
theorem firstN_snoc(l:List Nat)(n:Nat):cP (l ++ [n])=if n∈l then cP l else cP l ++ [n]:=by
 unfold cP
 rw [List.foldl_append]
 show (if (cP l).contains n=true then cP l else cP l ++ [n])=_
 by_cases h:n∈l
 ·rw [if_pos (by simpa using eh.mpr h),if_pos h];rfl
 ·rw [if_neg (by simpa using fun z=>h (eh.mp z)),if_neg h];rfl
theorem kg:∀ (l:List Nat) (a:Nat),a≤l.foldl max a∧(∀ x∈l,x≤l.foldl max a)∧(l.foldl max a=a∨l.foldl max a∈l)
 | [],a=>by simp
 | x :: r,a=>by
  obtain ⟨h1,h2,h3⟩:=kg r (max a x)
  rw [List.foldl_cons]
  refine ⟨by omega,fun y hy=> ?_,?_⟩
  ·rcases List.mem_cons.mp hy with rfl | hy
   ·omega
   ·exact h2 y hy
  ·rcases h3 with h3 | h3
   ·rw [h3]
    by_cases hx:a≤x
    ·exact .inr (by rw [Nat.max_eq_right hx];exact List.mem_cons_self)
    ·exact .inl (by omega)
   ·exact .inr (List.mem_cons_of_mem _ h3)
theorem G_ge{ps:List (Det×Nat)}{p:Det×Nat}(h:p∈ps):S ps p.1.name≤G ps:=
 (kg _ 0).2.1 _ (List.mem_map_of_mem (eh.mpr (List.mem_map_of_mem (f:=fun p:Det×Nat=>p.1.name) h)))
theorem G_at(ps:List (Det×Nat)):G ps=0∨∃ p∈ps,S ps p.1.name=G ps:=by
 rcases (kg ((cP (ps.map (·.1.name))).map (S ps)) 0).2.2 with h | h
 ·exact .inl h
 ·obtain ⟨n,hn,e⟩:=List.mem_map.mp h
  obtain ⟨p,hp,rfl⟩:=List.mem_map.mp (eh.mp hn)
  exact .inr ⟨p,hp,e⟩
theorem pL:∀ {ps:List (Det×Nat)} {n:Nat},0 < S ps n→∃ p∈ps,p.1.name=n∧0 < p.2
 | [],n,h=>by simp [S] at h
 | p :: r,n,h=>by
  rw [ox] at h
  by_cases hp:p.1.name=n
  ·by_cases h0:0 < p.2
   ·exact ⟨p,List.mem_cons_self,hp,h0⟩
   ·obtain ⟨q,hq,e⟩:=pL (ps:=r) (n:=n) (by simp [hp] at h;omega)
    exact ⟨q,List.mem_cons_of_mem _ hq,e⟩
  ·obtain ⟨q,hq,e⟩:=pL (ps:=r) (n:=n) (by simpa [hp] using h)
   exact ⟨q,List.mem_cons_of_mem _ hq,e⟩
theorem S_ge:∀ {ps:List (Det×Nat)} {p:Det×Nat},p∈ps→p.2≤S ps p.1.name
 | q :: r,p,h=>by
  rw [ox]
  rcases List.mem_cons.mp h with rfl | h
  ·simp
  ·have:=S_ge h;omega
theorem kl{α β : Type}{f : α→β}{q : α→Bool}:∀ (l:List α) (a : β),l.foldl (fun a p=>if q p=true then f p else a) a=((l.reverse.find? q).map f).getD a
 | [],a=>rfl
 | x :: r,a=>by
  rw [List.foldl_cons,kl r,List.reverse_cons,List.find?_append]
  cases r.reverse.find? q with
  | some y=>rfl
  | none=>
   simp only [Option.none_or,Option.map_none,Option.getD_none,List.find?_cons,List.find?_nil]
   cases q x <;> rfl
theorem fK{α : Type}{p q : α→Bool}:∀ l:List α,(l.filter p).find? q=l.find? fun x=>p x && q x
 | [] =>rfl
 | x :: r=>by
  rw [List.filter_cons,List.find?_cons]
  cases hp:p x with
  | true=>simp only [if_true,List.find?_cons,Bool.true_and,fK r]
  | false=>simp [fK r]
theorem jx{α : Type}{p q : α→Bool}:∀ {l:List α},(∀ x∈l,p x=q x)→l.find? p=l.find? q
 | [],_=>rfl
 | x :: r,h=>by
  rw [List.find?_cons,List.find?_cons,h x List.mem_cons_self,jx fun y hy=>h y (List.mem_cons_of_mem _ hy)]
theorem name_eq{x:Sheet}(h:∀ d∈x.dets,0 < weight d):nameOf x=(nm (pr x.dets),G (pr x.dets)):=by
 unfold nameOf best
 simp only
 have hc:=iB h
 have tS:=mE x.dets
 generalize hps:pr x.dets=ps at *
 generalize hcc:counting x.dets=c at *
 have hmem:∀ d,d∈c ↔ ∃ p∈ps,0 < p.2∧p.1=d:=by
  intro d
  rw [hc]
  simp only [List.mem_map,List.mem_filter,decide_eq_true_eq]
  constructor
  ·rintro ⟨p,⟨h1,h2⟩,e⟩;exact ⟨p,h1,h2,e⟩
  ·rintro ⟨p,h1,h2,e⟩;exact ⟨p,⟨h1,h2⟩,e⟩
 have hq:∀ p∈ps,0 < p.2→((c.all fun e=>decide (total c e.name≤total c p.1.name))=decide (S ps p.1.name=G ps)):=by
  intro p hp h0
  rw [Bool.eq_iff_iff,List.all_eq_true,decide_eq_true_eq]
  constructor
  ·intro ha
   have h1:=G_ge hp
   rcases G_at ps with hg | ⟨r,hr,hg⟩
   ·omega
   ·have h2:=S_ge hp
    obtain ⟨r',hr',en,h0'⟩:=pL (ps:=ps) (n:=r.1.name) (by omega)
    have:=ha r'.1 ((hmem _).mpr ⟨r',hr',h0',rfl⟩)
    rw [decide_eq_true_eq,tS,tS,en] at this
    omega
  ·intro e d hd
   obtain ⟨r,hr,_,rfl⟩:=(hmem d).mp hd
   rw [decide_eq_true_eq,tS,tS,e]
   exact G_ge hr
 have hfind:(c.reverse.find? fun d=>c.all fun e=>decide (total c e.name≤total c d.name))=(ps.reverse.find? fun p=>decide (0 < p.2∧S ps p.1.name=G ps)).map (·.1):=by
  have e1:c.reverse=((ps.reverse.filter fun p=>decide (0 < p.2))).map (·.1):=by rw [hc,← List.map_reverse,List.filter_reverse]
  rw [e1,List.find?_map,fK]
  congr 1
  refine jx fun p hp=> ?_
  rw [List.mem_reverse] at hp
  simp only [Function.comp]
  by_cases h0:0 < p.2
  ·rw [hq p hp h0]
   simp [h0]
  ·simp [h0]
 have hnm:nm ps=((ps.reverse.find? fun p=>decide (0 < p.2∧S ps p.1.name=G ps)).map (·.1.name)).getD 0:=by
  unfold nm
  rw [← kl]
  simp
 rw [hfind,hnm]
 cases ef:ps.reverse.find? fun p=>decide (0 < p.2∧S ps p.1.name=G ps) with
 | some p=>
  have:=List.find?_some ef
  rw [decide_eq_true_eq] at this
  simp only [Option.map_some,Option.getD_some]
  rw [tS,this.2]
 | none=>
  simp only [Option.map_none,Option.getD_none]
  rcases G_at ps with hg | ⟨r,hr,hg⟩
  ·rw [hg]
  ·by_cases h0:G ps=0
   ·rw [h0]
   ·obtain ⟨r',hr',en,h0'⟩:=pL (ps:=ps) (n:=r.1.name) (by omega)
    have:=List.find?_eq_none.mp ef r' (by simpa using hr')
    rw [decide_eq_true_eq,en] at this
    exact absurd ⟨h0',hg⟩ this
def pl:Entry→Int
 | .move .. =>2 | .rank .. =>3 | .gather .. =>4 | .split .. =>5 | .lend .. =>6 | .arrive .. =>7 | .back .. =>8 | .give .. =>9 | .cede .. =>10 | .extend .. =>11 | .lose .. =>12 | .find .. =>13 | .destroy .. =>14 | .determine .. =>15 | .type .. =>16
def ar:Entry→List Int
 | .move a b=>[a,b] | .rank a b=>[a,b] | .gather a b c d=>[a,b,c,d] | .split a b c=>[a,b,c] | .lend a b c d e _=>[a,b,c,d,e] | .arrive _=>[] | .back a _=>[a] | .give a b _=>[a,b]
 | .cede a=>[a] | .extend a b=>[a,b] | .lose _=>[] | .find _=>[] | .destroy a=>[a] | .determine a b c d=>[a,b,c,d] | .type a b=>[a,b]
def sh:Entry→List Int
 | .lend _ _ _ _ _ l=>l | .arrive l=>l | .back _ l=>l | .give _ _ l=>l | .lose l=>l | .find l=>l | _=>[]
def hasSh:Entry→Bool
 | .lend .. | .arrive .. | .back .. | .give .. | .lose .. | .find .. =>true
 | _=>false
def encC(d:Int)(e:Entry):VbnlaiNeutral.Call:=if hasSh e=true then [pl e :: d :: ar e,sh e] else [pl e :: d :: ar e]
def isQ:Call→Bool
 | .house .. | .person .. | .enter .. =>false
 | _=>true
def qp:Call→Int
 | .house .. =>0 | .person .. =>1 | .enter .. =>2 | .whereIs .. =>17 | .custody .. =>18 | .name .. =>19 | .dets .. =>20 | .inHouse .. =>21 | .books .. =>22 | .overdue .. =>23 | .gathering .. =>24 | .types .. =>25 | .history .. =>26 | .log=>27
def qn:Call→List Int
 | .house a=>[a] | .person a b c=>[a,b,c] | .enter .. =>[] | .whereIs a b=>[a,b] | .custody a b=>[a,b] | .name a b=>[a,b] | .dets a b=>[a,b] | .inHouse a b=>[a,b] | .books a b=>[a,b] | .overdue a=>[a] | .gathering a b=>[a,b] | .types a b=>[a,b] | .history a=>[a] | .log=>[]
def b32(z:Int):Prop:=-(2 ^ 31)≤z∧z < 2 ^ 31
theorem b32_of{z:Int}(h:VbnlaiNeutral.whole32 z=true):b32 z:=by
 unfold VbnlaiNeutral.whole32 at h
 simp only [Bool.and_eq_true,decide_eq_true_eq] at h
 exact h
structure Ok32(e:Entry):Prop where
 ar:∀ z∈ar e,b32 z
 sh:(sh e).length≤16
inductive Fm:VbnlaiNeutral.Call→Prop
 | house (k:Int):Fm [[0,k]]
 | person (a b d:Int):Fm [[1,a,b,d]]
 | enter (d:Int) (e:Entry):Fm (encC d e)
 | ask (q:Call):isQ q=true→Fm [qp q :: qn q]
theorem Fm.whole{c:VbnlaiNeutral.Call}(h:Fm c):PyVbnlai.whole c=c:=by
 cases h with
 | house k=>rfl
 | person a b d=>rfl
 | enter d e=>cases e <;> rfl
 | ask q hq=>cases q <;> first | rfl | cases hq
inductive Kd(c:VbnlaiNeutral.Call):Prop
 | house (k:Int):c=[[0,k]]→Kd c
 | person (a b d:Int):c=[[1,a,b,d]]→Kd c
 | enter (d:Int) (e:Entry):c=encC d e→VbnlaiNeutral.callOf c=some (.enter d e)→Ok32 e→Kd c
 | ask (q:Call):isQ q=true→c=[qp q :: qn q]→VbnlaiNeutral.callOf c=some q→Kd c
theorem ok32_of{e:Entry}(h:(ar e).all VbnlaiNeutral.whole32=true)(hs:(sh e).length≤16):Ok32 e:=⟨fun z hz=>b32_of (List.all_eq_true.mp h z hz),hs⟩
theorem Fm.kd{c:VbnlaiNeutral.Call}(f:Fm c)(h:VbnlaiNeutral.asked1 c=true):Kd c:=by
 cases f with
 | house k=>exact .house k rfl
 | person a b d=>exact .person a b d rfl
 | enter d e=>
  refine .enter d e rfl ?_ (ok32_of ?_ ?_)
  ·cases e <;> rfl
  ·cases e <;> simp only [encC,hasSh,pl,ar,sh,if_true,Bool.false_eq_true,if_false] at h ⊢
   ·replace h:(VbnlaiNeutral.whole32 _ && (VbnlaiNeutral.whole32 _ && (VbnlaiNeutral.whole32 _)))=true:=h
    simp only [Bool.and_eq_true] at h
    simp [h]
   ·replace h:(VbnlaiNeutral.whole32 _ && (VbnlaiNeutral.whole32 _ && (VbnlaiNeutral.whole32 _)))=true:=h
    simp only [Bool.and_eq_true] at h
    simp [h]
   ·replace h:(VbnlaiNeutral.whole32 _ && (VbnlaiNeutral.whole32 _ && (VbnlaiNeutral.whole32 _ && (VbnlaiNeutral.whole32 _ && (VbnlaiNeutral.whole32 _)))))=true:=h
    simp only [Bool.and_eq_true] at h
    simp [h]
   ·replace h:(VbnlaiNeutral.whole32 _ && (VbnlaiNeutral.whole32 _ && (VbnlaiNeutral.whole32 _ && (VbnlaiNeutral.whole32 _))))=true:=h
    simp only [Bool.and_eq_true] at h
    simp [h]
   ·replace h:(VbnlaiNeutral.whole32 _ && (VbnlaiNeutral.whole32 _ && (VbnlaiNeutral.whole32 _ && (VbnlaiNeutral.whole32 _ && (VbnlaiNeutral.whole32 _ && (VbnlaiNeutral.whole32 _ && ((List.all _ _ && decide _))))))))=true:=h
    simp only [Bool.and_eq_true] at h
    simp [h]
   ·replace h:(VbnlaiNeutral.whole32 _ && ((List.all _ _ && decide _)))=true:=h
    simp only [Bool.and_eq_true] at h
    simp [h]
   ·replace h:(VbnlaiNeutral.whole32 _ && (VbnlaiNeutral.whole32 _ && ((List.all _ _ && decide _))))=true:=h
    simp only [Bool.and_eq_true] at h
    simp [h]
   ·replace h:(VbnlaiNeutral.whole32 _ && (VbnlaiNeutral.whole32 _ && (VbnlaiNeutral.whole32 _ && ((List.all _ _ && decide _)))))=true:=h
    simp only [Bool.and_eq_true] at h
    simp [h]
   ·replace h:(VbnlaiNeutral.whole32 _ && (VbnlaiNeutral.whole32 _))=true:=h
    simp only [Bool.and_eq_true] at h
    simp [h]
   ·replace h:(VbnlaiNeutral.whole32 _ && (VbnlaiNeutral.whole32 _ && (VbnlaiNeutral.whole32 _)))=true:=h
    simp only [Bool.and_eq_true] at h
    simp [h]
   ·replace h:(VbnlaiNeutral.whole32 _ && ((List.all _ _ && decide _)))=true:=h
    simp only [Bool.and_eq_true] at h
    simp [h]
   ·replace h:(VbnlaiNeutral.whole32 _ && ((List.all _ _ && decide _)))=true:=h
    simp only [Bool.and_eq_true] at h
    simp [h]
   ·replace h:(VbnlaiNeutral.whole32 _ && (VbnlaiNeutral.whole32 _))=true:=h
    simp only [Bool.and_eq_true] at h
    simp [h]
   ·replace h:(VbnlaiNeutral.whole32 _ && (VbnlaiNeutral.whole32 _ && (VbnlaiNeutral.whole32 _ && (VbnlaiNeutral.whole32 _ && (VbnlaiNeutral.whole32 _)))))=true:=h
    simp only [Bool.and_eq_true] at h
    simp [h]
   ·replace h:(VbnlaiNeutral.whole32 _ && (VbnlaiNeutral.whole32 _ && (VbnlaiNeutral.whole32 _)))=true:=h
    simp only [Bool.and_eq_true] at h
    simp [h]
  ·cases e <;> simp only [encC,hasSh,pl,ar,sh,if_true,Bool.false_eq_true,if_false] at h ⊢
   ·simp
   ·simp
   ·simp
   ·simp
   ·replace h:(VbnlaiNeutral.whole32 _ && (VbnlaiNeutral.whole32 _ && (VbnlaiNeutral.whole32 _ && (VbnlaiNeutral.whole32 _ && (VbnlaiNeutral.whole32 _ && (VbnlaiNeutral.whole32 _ && ((List.all _ _ && decide _))))))))=true:=h
    simp only [Bool.and_eq_true,decide_eq_true_eq] at h
    simp only [h]
   ·replace h:(VbnlaiNeutral.whole32 _ && ((List.all _ _ && decide _)))=true:=h
    simp only [Bool.and_eq_true,decide_eq_true_eq] at h
    simp only [h]
   ·replace h:(VbnlaiNeutral.whole32 _ && (VbnlaiNeutral.whole32 _ && ((List.all _ _ && decide _))))=true:=h
    simp only [Bool.and_eq_true,decide_eq_true_eq] at h
    simp only [h]
   ·replace h:(VbnlaiNeutral.whole32 _ && (VbnlaiNeutral.whole32 _ && (VbnlaiNeutral.whole32 _ && ((List.all _ _ && decide _)))))=true:=h
    simp only [Bool.and_eq_true,decide_eq_true_eq] at h
    simp only [h]
   ·simp
   ·simp
   ·replace h:(VbnlaiNeutral.whole32 _ && ((List.all _ _ && decide _)))=true:=h
    simp only [Bool.and_eq_true,decide_eq_true_eq] at h
    simp only [h]
   ·replace h:(VbnlaiNeutral.whole32 _ && ((List.all _ _ && decide _)))=true:=h
    simp only [Bool.and_eq_true,decide_eq_true_eq] at h
    simp only [h]
   ·simp
   ·simp
   ·simp
 | ask q hq=>
  refine .ask q hq rfl ?_
  cases q <;> first | rfl | cases hq
def nums:List Nat:=[1,3,3,3,5,4,6,1,2,3,2,3,1,1,2,5,3,2,2,2,2,2,2,1,2,2,1,0]
def kZ:List Int:=[6,7,8,9,12,13]
theorem shape_in{p:Int}(h:¬ (0≤p∧p < 28)):PyVbnlai.shape p=none:=by
 unfold PyVbnlai.shape
 rw [if_neg (by omega)]
 rw [if_neg (by omega)]
 rw [if_neg (by omega)]
 rw [if_neg (by omega)]
 rw [if_neg (by omega)]
 rw [if_neg (by omega)]
 rw [if_neg (by omega)]
 rw [if_neg (by omega)]
 rw [if_neg (by omega)]
 rw [if_neg (by omega)]
 rw [if_neg (by omega)]
 rw [if_neg (by omega)]
 rw [if_neg (by omega)]
 rw [if_neg (by omega)]
 rw [if_neg (by omega)]
 rw [if_neg (by omega)]
 rw [if_neg (by omega)]
 rw [if_neg (by omega)]
 rw [if_neg (by omega)]
 rw [if_neg (by omega)]
 rw [if_neg (by omega)]
 rw [if_neg (by omega)]
 rw [if_neg (by omega)]
 rw [if_neg (by omega)]
 rw [if_neg (by omega)]
 rw [if_neg (by omega)]
 rw [if_neg (by omega)]
 rw [if_neg (by omega)]
theorem pG{p:Int}(h:0≤p∧p < 28):p=0∨p=1∨p=2∨p=3∨p=4∨p=5∨p=6∨p=7∨p=8∨p=9∨p=10∨p=11∨p=12∨p=13∨p=14∨p=15∨p=16∨p=17∨p=18∨p=19∨p=20∨p=21∨p=22∨p=23∨p=24∨p=25∨p=26∨p=27:=by
 obtain ⟨k,rfl⟩:=Int.eq_ofNat_of_zero_le h.1
 have hk:k < 28:=Int.ofNat_lt.mp h.2
 clear h
 revert k
 decide +kernel
theorem shape_of{p:Int}{n k:Nat}(h:PyVbnlai.shape p=some (n,k)):0≤p∧p < 28∧nums[p.toNat]? = some n∧k=if p∈kZ then 1 else 0:=by
 by_cases hp:0≤p∧p < 28
 ·rcases pG hp with rfl | rfl | rfl | rfl | rfl | rfl | rfl | rfl | rfl | rfl | rfl | rfl | rfl | rfl | rfl | rfl | rfl | rfl | rfl | rfl | rfl | rfl | rfl | rfl | rfl | rfl | rfl | rfl
  all_goals (cases h;decide)
 ·rw [shape_in hp] at h
  cases h
structure Cut(l:List Int)(at_:Nat)(c:List (List Int))(to:Nat):Prop where
 ex:∃ (p:Int) (n:Nat),l[at_]? = some p∧0≤p∧p < 28∧nums[p.toNat]? = some n∧at_ + 1 + n≤l.length ∧
  ((p∉kZ∧c=[p :: (l.drop (at_ + 1)).take n]∧to=at_ + 1 + n) ∨
   (p∈kZ∧∃ m:Nat,l[at_ + 1 + n]? = some (m:Int)∧at_ + 1 + n + 1 + m≤l.length∧c=[p :: (l.drop (at_ + 1)).take n,(l.drop (at_ + 1 + n + 1)).take m]∧to=at_ + 1 + n + 1 + m))
theorem pi{f:Nat}{l:List Int}{i:Nat}{cs:List (List (List Int))}(hi:i < l.length)(h:PyFlat.calls PyVbnlai.shape f (l.drop i)=some cs) :
  ∃ c cs' f' j,cs=c :: cs'∧Cut l i c j∧PyFlat.calls PyVbnlai.shape f' (l.drop j)=some cs':=by
 have e0:l.drop i=l[i] :: l.drop (i + 1):=List.drop_eq_getElem_cons hi
 rw [e0] at h
 match f,h with
 | f + 1,h=>
  unfold PyFlat.calls at h
  split at h
  ·cases h
  ·rename_i c t hc
   split at h
   ·cases h
   ·rename_i cs' hcs
    cases h
    replace hc:(match PyVbnlai.shape l[i] with
     | none=>none
     | some (n,k)=>if (l.drop (i + 1)).length < n then none else match PyFlat.rows k ((l.drop (i + 1)).drop n) with
      | none=>none
      | some (xs,t)=>some ((l[i] :: (l.drop (i + 1)).take n) :: xs,t))=some (c,t):=hc
    split at hc
    ·cases hc
    ·rename_i n k hs
     obtain ⟨h0,h28,hn,hk⟩:=shape_of hs
     split at hc
     ·cases hc
     ·rename_i hlen
      have hlen':i + 1 + n≤l.length:=by simp only [List.length_drop] at hlen;omega
      split at hc
      ·cases hc
      ·rename_i xs u hr
       cases hc
       have gi:l[i]? = some l[i]:=List.getElem?_eq_getElem hi
       by_cases hw:l[i]∈kZ
       ·rw [if_pos hw] at hk
        subst hk
        rw [List.drop_drop] at hr
        unfold PyFlat.rows at hr
        split at hr
        ·cases hr
        ·rename_i x r2 hrow
         have hr':some ([x],r2)=some (xs,t):=by simpa [PyFlat.rows] using hr
         cases hr'
         unfold PyFlat.row at hrow
         split at hrow
         ·cases hrow
         ·rename_i m r3 e3
          split at hrow
          ·rename_i hm
           cases hrow
           have hlt:i + 1 + n < l.length:=by
            have:=congrArg List.length e3
            simp only [List.length_drop,List.length_cons] at this
            omega
           have e4:l.drop (i + 1 + n)=l[i + 1 + n] :: l.drop (i + 1 + n + 1):=List.drop_eq_getElem_cons hlt
           rw [e4] at e3
           cases e3
           have hm2:(l[i + 1 + n]).toNat≤l.length - (i + 1 + n + 1):=by simpa using hm.2
           have hmm:((l[i + 1 + n]).toNat:Int)=l[i + 1 + n]:=by have:=hm.1;omega
           refine ⟨_,cs',f,i + 1 + n + 1 + (l[i + 1 + n]).toNat,rfl,⟨l[i],n,gi,h0,h28,hn,hlen',.inr ⟨hw,(l[i + 1 + n]).toNat,?_,by omega,rfl,rfl⟩⟩,?_⟩
           ·rw [List.getElem?_eq_getElem hlt,hmm]
           ·rw [List.drop_drop] at hcs
            exact hcs
          ·cases hrow
       ·rw [if_neg hw] at hk
        subst hk
        unfold PyFlat.rows at hr
        cases hr
        rw [List.drop_drop] at hcs
        exact ⟨_,cs',f,i + 1 + n,rfl,⟨l[i],n,gi,h0,h28,hn,hlen',.inl ⟨hw,rfl,rfl⟩⟩,hcs⟩
theorem calls_nil{f:Nat}{cs:List (List (List Int))}(h:PyFlat.calls PyVbnlai.shape f [] = some cs):cs=[]:=by
 unfold PyFlat.calls at h
 cases f <;> simpa using h.symm
theorem qj{p:Int}{n:Nat}{ns:List Int}(hp:0≤p∧p < 28)(hn:nums[p.toNat]? = some n)(hl:ns.length=n):(p∉kZ→Fm [p :: ns])∧(p∈kZ→∀ l,Fm [p :: ns,l]):=by
 rcases pG hp with rfl | rfl | rfl | rfl | rfl | rfl | rfl | rfl | rfl | rfl | rfl | rfl | rfl | rfl | rfl | rfl | rfl | rfl | rfl | rfl | rfl | rfl | rfl | rfl | rfl | rfl | rfl | rfl
 ·cases hn
  match ns,hl with
  | [x0],_=>exact ⟨fun _=>.house x0,fun h=>absurd h (by decide)⟩
 ·cases hn
  match ns,hl with
  | [x0,x1,x2],_=>exact ⟨fun _=>.person x0 x1 x2,fun h=>absurd h (by decide)⟩
 ·cases hn
  match ns,hl with
  | [x0,x1,x2],_=>exact ⟨fun _=>.enter x0 (.move x1 x2),fun h=>absurd h (by decide)⟩
 ·cases hn
  match ns,hl with
  | [x0,x1,x2],_=>exact ⟨fun _=>.enter x0 (.rank x1 x2),fun h=>absurd h (by decide)⟩
 ·cases hn
  match ns,hl with
  | [x0,x1,x2,x3,x4],_=>exact ⟨fun _=>.enter x0 (.gather x1 x2 x3 x4),fun h=>absurd h (by decide)⟩
 ·cases hn
  match ns,hl with
  | [x0,x1,x2,x3],_=>exact ⟨fun _=>.enter x0 (.split x1 x2 x3),fun h=>absurd h (by decide)⟩
 ·cases hn
  match ns,hl with
  | [x0,x1,x2,x3,x4,x5],_=>exact ⟨fun h=>absurd (by decide) h,fun _ l=>.enter x0 (.lend x1 x2 x3 x4 x5 l)⟩
 ·cases hn
  match ns,hl with
  | [x0],_=>exact ⟨fun h=>absurd (by decide) h,fun _ l=>.enter x0 (.arrive l)⟩
 ·cases hn
  match ns,hl with
  | [x0,x1],_=>exact ⟨fun h=>absurd (by decide) h,fun _ l=>.enter x0 (.back x1 l)⟩
 ·cases hn
  match ns,hl with
  | [x0,x1,x2],_=>exact ⟨fun h=>absurd (by decide) h,fun _ l=>.enter x0 (.give x1 x2 l)⟩
 ·cases hn
  match ns,hl with
  | [x0,x1],_=>exact ⟨fun _=>.enter x0 (.cede x1),fun h=>absurd h (by decide)⟩
 ·cases hn
  match ns,hl with
  | [x0,x1,x2],_=>exact ⟨fun _=>.enter x0 (.extend x1 x2),fun h=>absurd h (by decide)⟩
 ·cases hn
  match ns,hl with
  | [x0],_=>exact ⟨fun h=>absurd (by decide) h,fun _ l=>.enter x0 (.lose l)⟩
 ·cases hn
  match ns,hl with
  | [x0],_=>exact ⟨fun h=>absurd (by decide) h,fun _ l=>.enter x0 (.find l)⟩
 ·cases hn
  match ns,hl with
  | [x0,x1],_=>exact ⟨fun _=>.enter x0 (.destroy x1),fun h=>absurd h (by decide)⟩
 ·cases hn
  match ns,hl with
  | [x0,x1,x2,x3,x4],_=>exact ⟨fun _=>.enter x0 (.determine x1 x2 x3 x4),fun h=>absurd h (by decide)⟩
 ·cases hn
  match ns,hl with
  | [x0,x1,x2],_=>exact ⟨fun _=>.enter x0 (.type x1 x2),fun h=>absurd h (by decide)⟩
 ·cases hn
  match ns,hl with
  | [x0,x1],_=>exact ⟨fun _=>.ask (.whereIs x0 x1) rfl,fun h=>absurd h (by decide)⟩
 ·cases hn
  match ns,hl with
  | [x0,x1],_=>exact ⟨fun _=>.ask (.custody x0 x1) rfl,fun h=>absurd h (by decide)⟩
 ·cases hn
  match ns,hl with
  | [x0,x1],_=>exact ⟨fun _=>.ask (.name x0 x1) rfl,fun h=>absurd h (by decide)⟩
 ·cases hn
  match ns,hl with
  | [x0,x1],_=>exact ⟨fun _=>.ask (.dets x0 x1) rfl,fun h=>absurd h (by decide)⟩
 ·cases hn
  match ns,hl with
  | [x0,x1],_=>exact ⟨fun _=>.ask (.inHouse x0 x1) rfl,fun h=>absurd h (by decide)⟩
 ·cases hn
  match ns,hl with
  | [x0,x1],_=>exact ⟨fun _=>.ask (.books x0 x1) rfl,fun h=>absurd h (by decide)⟩
 ·cases hn
  match ns,hl with
  | [x0],_=>exact ⟨fun _=>.ask (.overdue x0) rfl,fun h=>absurd h (by decide)⟩
 ·cases hn
  match ns,hl with
  | [x0,x1],_=>exact ⟨fun _=>.ask (.gathering x0 x1) rfl,fun h=>absurd h (by decide)⟩
 ·cases hn
  match ns,hl with
  | [x0,x1],_=>exact ⟨fun _=>.ask (.types x0 x1) rfl,fun h=>absurd h (by decide)⟩
 ·cases hn
  match ns,hl with
  | [x0],_=>exact ⟨fun _=>.ask (.history x0) rfl,fun h=>absurd h (by decide)⟩
 ·cases hn
  match ns,hl with
  | [],_=>exact ⟨fun _=>.ask .log rfl,fun h=>absurd h (by decide)⟩
theorem Cut.form{l:List Int}{i j:Nat}{c:List (List Int)}(h:Cut l i c j):Fm c:=by
 obtain ⟨p,n,hp,h0,h28,hn,hl,h | ⟨hw,m,hm,hl2,rfl,_⟩⟩:=h
 ·obtain ⟨hw,rfl,_⟩:=h
  exact (qj ⟨h0,h28⟩ hn (by simp;omega)).1 hw
 ·exact (qj ⟨h0,h28⟩ hn (by simp;omega)).2 hw _
theorem jR:∀ {cs:List (List (List Int))} {f:Nat} {l:List Int} {i:Nat},PyFlat.calls PyVbnlai.shape f (l.drop i)=some cs→∀ c∈cs,Fm c
 | [],_,_,_,_,c,hc=>nomatch hc
 | d :: cs,f,l,i,h,c,hc=>by
  by_cases hi:i < l.length
  ·obtain ⟨c',cs',f',j,e,cut,h'⟩:=pi hi h
   cases e
   rcases List.mem_cons.mp hc with rfl | hc
   ·exact cut.form
   ·exact jR h' c hc
  ·rw [List.drop_eq_nil_of_le (by omega)] at h
   cases calls_nil h
theorem answers_asked_of{l:List Int}(h:PyVbnlai.answers_asked l=true):∃ cs,PyFlat.calls PyVbnlai.shape l.length l=some cs∧cs.length≤400∧(∀ c∈cs,VbnlaiNeutral.asked1 c=true) ∧
  PyVbnlai.answers l=PyFlat.told (PyFlat.played VbnlaiNeutral.step VbnlaiNeutral.start cs):=by
 unfold PyVbnlai.answers_asked PyVbnlai.calls at h
 unfold PyVbnlai.answers PyVbnlai.calls
 cases e:PyFlat.calls PyVbnlai.shape l.length l with
 | none=>rw [e] at h;cases h
 | some cs=>
  rw [e] at h
  have hw:cs.map PyVbnlai.whole=cs:=by
   refine (List.map_congr_left fun c hc=> ?_).trans (List.map_id cs)
   exact (jR (l:=l) (i:=0) (by simpa using e) c hc).whole
  simp only [hw] at h ⊢
  simp only [PyFlat.atMost,VbnlaiNeutral.asked,Bool.and_eq_true,decide_eq_true_eq,List.all_eq_true] at h
  exact ⟨cs,rfl,h.1,h.2.1,rfl⟩
theorem jr{α : Type}{key : α→Nat}{x : α}:∀ l:List α,(place key x l).Perm (x :: l)
 | [] =>List.Perm.refl _
 | y :: r=>by
  unfold place
  split
  ·exact List.Perm.refl _
  ·exact ((jr r).cons y).trans (List.Perm.swap x y r)
theorem adds_perm:∀ (l s:List Sheet),(l.foldl (fun a x=>place Sheet.key x a) s).Perm (s ++ l)
 | [],s=>by simp
 | x :: r,s=>by
  rw [List.foldl_cons]
  refine (adds_perm r _).trans ?_
  refine ((jr s).append_right r).trans ?_
  refine List.Perm.trans ?_ (List.perm_middle (a:=x) (l₁ := s) (l₂ := r)).symm
  exact List.Perm.refl _
theorem ju{α : Type}{key : α→Int}:∀ {l:List α},(l.map key).Nodup→∀ {x : α},x∈l→l.find? (fun y=>key y == key x)=some x
 | [],_,_,h=>nomatch h
 | y :: r,nd,x,h=>by
  rw [List.map_cons,List.nodup_cons] at nd
  rw [List.find?_cons]
  rcases List.mem_cons.mp h with rfl | h
  ·simp
  ·have hne:¬ key y=key x:=fun e=>nd.1 (e ▸ List.mem_map_of_mem h)
   have:(key y == key x)=false:=by simpa using hne
   rw [this]
   exact ju nd.2 h
theorem find_perm{α : Type}{key : α→Int}{l m:List α}(p:l.Perm m)(nd:(l.map key).Nodup)(k:Int):l.find? (fun y=>key y == k)=m.find? (fun y=>key y == k):=by
 have nd':(m.map key).Nodup:=(p.map key).nodup_iff.mp nd
 cases e:l.find? (fun y=>key y == k) with
 | none=>
  symm
  rw [List.find?_eq_none] at e ⊢
  exact fun x hx=>e x (p.mem_iff.mpr hx)
 | some x=>
  have h1:=List.mem_of_find?_eq_some e
  have h2:key x=k:=by simpa using List.find?_some e
  have:=ju nd' (p.mem_iff.mp h1)
  rw [h2] at this
  exact this.symm
theorem find_map_fst{α β : Type}{key : α→Int}(l:List (α×β))(k:Int):(l.map (·.1)).find? (fun y=>key y == k)=(l.find? fun p=>key p.1 == k).map (·.1):=by
 rw [List.find?_map];rfl
theorem asc_le{α : Type}{key : α→Nat}{l:List α}(h:Asc key l):(l.map fun x=>(key x:Int)).Pairwise (· ≤ ·):=by
 unfold Asc at h
 rw [List.pairwise_map]
 exact h.imp fun {a b} q=>by omega
theorem sorted_eq:∀ {l m:List Int},l.Perm m→l.Pairwise (· ≤ ·)→m.Pairwise (· ≤ ·)→l=m:=by
 intro l m p h1 h2
 exact List.Perm.eq_of_pairwise (fun a b _ _ x y=>Int.le_antisymm x y) h1 h2 p
theorem count_perm{α : Type}{l m:List α}(p:l.Perm m)(q : α→Bool):(l.filter q).length=(m.filter q).length:=(p.filter q).length_eq
theorem any_perm{α : Type}{l m:List α}(p:l.Perm m)(q : α→Bool):l.any q=m.any q:=by
 rw [Bool.eq_iff_iff,List.any_eq_true,List.any_eq_true]
 exact ⟨fun ⟨x,hx,e⟩=>⟨x,p.mem_iff.mp hx,e⟩,fun ⟨x,hx,e⟩=>⟨x,p.mem_iff.mpr hx,e⟩⟩
theorem all_perm{α : Type}{l m:List α}(p:l.Perm m)(q : α→Bool):l.all q=m.all q:=by
 rw [Bool.eq_iff_iff,List.all_eq_true,List.all_eq_true]
 exact ⟨fun h x hx=>h x (p.mem_iff.mpr hx),fun h x hx=>h x (p.mem_iff.mp hx)⟩
def oZ(lo:Int)(n:Nat):List Int:=(List.range n).map fun i=>lo + (i:Nat)
theorem upFrom_keys{first n:Int}(h:0≤first):oZ first n.toNat=(keysFrom first n).map fun k:Nat=>(k:Int):=by
 unfold oZ keysFrom
 rw [List.map_map]
 refine List.map_congr_left fun i _=> ?_
 simp only [Function.comp]
 omega
theorem upFrom_room{first n:Int}(h:1≤n):((oZ first n.toNat).all fun k=>keyOk k)=roomFor first n:=by
 rw [Bool.eq_iff_iff,dm,List.all_eq_true]
 constructor
 ·intro h1
  have a:=db.mp (h1 (first + ((0:Nat):Int)) (List.mem_map.mpr ⟨0,by simp;omega,rfl⟩))
  have b:=db.mp (h1 (first + ((n.toNat - 1:Nat):Int)) (List.mem_map.mpr ⟨n.toNat - 1,by simp;omega,rfl⟩))
  omega
 ·intro ⟨⟨a,b⟩,c⟩ k hk
  obtain ⟨i,hi,rfl⟩:=List.mem_map.mp hk
  rw [List.mem_range] at hi
  exact db.mpr (by omega)
theorem fb:∀ {l:List Int},distinct l=true ↔ l.Nodup
 | [] =>by simp [distinct]
 | x :: r=>by
  simp only [distinct,Bool.and_eq_true,Bool.not_eq_true',List.nodup_cons,fb (l:=r)]
  simp
def ded(l acc:List Int):List Int:=l.foldl (fun σ k=>if σ.any (· == k) then σ else σ ++ [k]) acc
theorem ded_le:∀ (l acc:List Int),(ded l acc).length≤acc.length + l.length
 | [],acc=>by simp [ded]
 | x :: r,acc=>by
  have h1:=ded_le r (if acc.any (· == x) then acc else acc ++ [x])
  have h2:(if acc.any (· == x) then acc else acc ++ [x]).length≤acc.length + 1:=by split <;> simp
  rw [List.length_cons]
  exact Nat.le_trans h1 (by omega)
theorem ded_eq:∀ (l acc:List Int),(ded l acc).length=acc.length + l.length ↔ l.Nodup∧∀ x∈l,x∉acc
 | [],acc=>by simp [ded]
 | x :: r,acc=>by
  show (ded r (if acc.any (· == x) then acc else acc ++ [x])).length=_ ↔ _
  by_cases h:x∈acc
  ·have ha:acc.any (· == x)=true:=by simpa using h
   rw [if_pos ha]
   have h1:=ded_le r acc
   constructor
   ·intro e
    rw [List.length_cons] at e
    omega
   ·rintro ⟨_,h2⟩
    exact absurd h (h2 x List.mem_cons_self)
  ·have ha:¬ acc.any (· == x)=true:=by simpa using h
   rw [if_neg ha,List.length_cons,List.nodup_cons]
   have ih:=ded_eq r (acc ++ [x])
   rw [List.length_append,List.length_singleton] at ih
   have e1:acc.length + (r.length + 1)=acc.length + 1 + r.length:=by omega
   rw [e1,ih]
   constructor
   ·rintro ⟨h1,h2⟩
    refine ⟨⟨fun z=>h2 x z (by simp),h1⟩,fun y hy=> ?_⟩
    rcases List.mem_cons.mp hy with rfl | hy
    ·exact h
    ·exact fun z=>h2 y hy (List.mem_append_left _ z)
   ·rintro ⟨⟨h1,h2⟩,h3⟩
    refine ⟨h2,fun y hy z=> ?_⟩
    rcases List.mem_append.mp z with z | z
    ·exact h3 y (List.mem_cons_of_mem _ hy) z
    ·rw [List.mem_singleton] at z
     exact h1 (z ▸ hy)
theorem ded_distinct(l:List Int):decide (((ded l []).length:Int)=(l.length:Int))=distinct l:=by
 rw [Bool.eq_iff_iff,decide_eq_true_eq,fb]
 have:=ded_eq l []
 simp only [List.length_nil,Nat.zero_add,List.not_mem_nil,not_false_eq_true,implies_true,and_true] at this
 rw [← this]
 omega
def rfs:Int ⊕ World→Int
 | .inl c=>c
 | .inr _=>0
def kj(w:World)(k:Int):Int:=match sheetOf w k with
 | none=> -2
 | some x=>if here x=false then -3 else if x.loans≠[] then -4 else if x.type≠0 then -5 else 0
def gL(w:World)(l:List Int)(z:Int):Int:=if listOk l=false then z else if known w l=false then z - 1 else 0
def loanR(hs:List Nat)(w:World)(day loan lender borrower due onward:Int):Int:=
 if keyOk loan=false then -2
 else if (w.loans.any fun l=>(l.key:Int) == loan)=true then -3
 else if (hs.any fun h=>(h:Int) == lender)=false then -4
 else if (hs.any fun h=>(h:Int) == borrower)=false∨borrower=lender then -5
 else if dayOk due=false∨due < day then -6
 else if within onward 0 1=false then -7
 else 0
def lentR(w:World)(sheets:List Int)(lender due:Int):Int:=
 if (each w sheets fun x=>here x && (holder w x:Int) == lender)=false then -10
 else if (each w sheets fun x=>(last w x).all fun l=>l.onward)=false then -11
 else if (each w sheets fun x=>(last w x).all fun l=>decide (due≤(l.due:Int)))=false then -12
 else 0
theorem lend_rfs(hs:List Nat)(w:World)(d:Nat)(loan lender borrower due onward:Int)(sheets:List Int) :
  rfs (act hs w d (.lend loan lender borrower due onward sheets))=if ¬ loanR hs w d loan lender borrower due onward=0 then loanR hs w d loan lender borrower due onward else
   if ¬ gL w sheets (-8)=0 then gL w sheets (-8) else if ¬ lentR w sheets lender due=0 then lentR w sheets lender due else if LOANS≤w.loans.length then -13 else 0:=by
 unfold loanR gL lentR
 by_cases h1:keyOk loan=false
 ·refine (congrArg rfs (if_pos h1)).trans ?_;simp only [h1];rfl
 refine (congrArg rfs (if_neg h1)).trans ?_
 by_cases h2:(w.loans.any fun l=>(l.key:Int) == loan)=true
 ·refine (congrArg rfs (if_pos h2)).trans ?_;simp only [h1,h2];rfl
 refine (congrArg rfs (if_neg h2)).trans ?_
 by_cases h3:(hs.any fun h=>(h:Int) == lender)=false
 ·refine (congrArg rfs (if_pos h3)).trans ?_;simp only [h1,h2,h3];rfl
 refine (congrArg rfs (if_neg h3)).trans ?_
 by_cases h4:(hs.any fun h=>(h:Int) == borrower)=false∨borrower=lender
 ·refine (congrArg rfs (if_pos h4)).trans ?_;simp only [h1,h2,h3,h4];rfl
 refine (congrArg rfs (if_neg h4)).trans ?_
 by_cases h5:dayOk due=false∨due < (d:Int)
 ·refine (congrArg rfs (if_pos h5)).trans ?_;simp only [h1,h2,h3,h4,h5];rfl
 refine (congrArg rfs (if_neg h5)).trans ?_
 by_cases h6:within onward 0 1=false
 ·refine (congrArg rfs (if_pos h6)).trans ?_;simp only [h1,h2,h3,h4,h5,h6];rfl
 refine (congrArg rfs (if_neg h6)).trans ?_
 simp only [h1,h2,h3,h4,h5,h6,if_false,if_true,not_true_eq_false]
 by_cases h7:listOk sheets=false
 ·refine (congrArg rfs (if_pos h7)).trans ?_;simp only [h7];rfl
 refine (congrArg rfs (if_neg h7)).trans ?_
 by_cases h8:known w sheets=false
 ·refine (congrArg rfs (if_pos h8)).trans ?_;simp only [h7,h8];rfl
 refine (congrArg rfs (if_neg h8)).trans ?_
 simp only [h7,h8,if_false,if_true,not_true_eq_false]
 by_cases h9:(each w sheets fun x=>here x && (holder w x:Int) == lender)=false
 ·refine (congrArg rfs (if_pos h9)).trans ?_;simp only [h9];rfl
 refine (congrArg rfs (if_neg h9)).trans ?_
 by_cases h10:(each w sheets fun x=>(last w x).all fun l=>l.onward)=false
 ·refine (congrArg rfs (if_pos h10)).trans ?_;simp only [h9,h10];rfl
 refine (congrArg rfs (if_neg h10)).trans ?_
 by_cases h11:(each w sheets fun x=>(last w x).all fun l=>decide (due≤(l.due:Int)))=false
 ·refine (congrArg rfs (if_pos h11)).trans ?_;simp only [h9,h10,h11];rfl
 refine (congrArg rfs (if_neg h11)).trans ?_
 simp only [h9,h10,h11,if_false,if_true,not_true_eq_false]
 by_cases h12:LOANS≤w.loans.length
 ·refine (congrArg rfs (if_pos h12)).trans ?_;simp only [h12];rfl
 refine (congrArg rfs (if_neg h12)).trans ?_
 simp only [h12];rfl
def ld(w:World)(sheets:List Int)(p:Sheet→Bool):Int:=if ¬ gL w sheets (-2)=0 then gL w sheets (-2) else if each w sheets p=false then -4 else 0
theorem fQ{w:World}{sheets:List Int}{p:Sheet→Bool}{v:World}:rfs (if listOk sheets=false then .inl (-2) else if known w sheets=false then .inl (-3) else if each w sheets p=false then .inl (-4) else .inr v)=ld w sheets p:=by
 unfold ld gL
 by_cases h7:listOk sheets=false
 ·simp only [h7];rfl
 by_cases h8:known w sheets=false
 ·simp only [h7,h8];rfl
 by_cases h9:each w sheets p=false
 ·simp only [h7,h8,h9];rfl
 simp only [h7,h8,h9];rfl
theorem arrive_rfs(hs:List Nat)(w:World)(d:Nat)(sheets:List Int):rfs (act hs w d (.arrive sheets))=ld w sheets fun x=>x.status == .way:=fQ
theorem lose_rfs(hs:List Nat)(w:World)(d:Nat)(sheets:List Int):rfs (act hs w d (.lose sheets))=ld w sheets fun x=>here x || x.status == .way:=fQ
theorem find_rfs(hs:List Nat)(w:World)(d:Nat)(sheets:List Int):rfs (act hs w d (.find sheets))=ld w sheets fun x=>x.status == .lost:=fQ
theorem back_rfs(hs:List Nat)(w:World)(d:Nat)(loan:Int)(sheets:List Int):rfs (act hs w d (.back loan sheets))=ld w sheets fun x=>here x && (x.loans.getLast?).any fun k=>(k:Int) == loan:=fQ
theorem give_rfs(hs:List Nat)(w:World)(d:Nat)(old new:Int)(sheets:List Int):rfs (act hs w d (.give old new sheets)) =
  if (hs.any fun h=>(h:Int) == old)=false then -2 else if (hs.any fun h=>(h:Int) == new)=false∨new=old then -3 else if ¬ gL w sheets (-4)=0 then gL w sheets (-4) else
   if (each w sheets fun x=>here x && (x.loans == [] && (x.owner:Int) == old))=false then -6 else if (each w sheets fun x=>x.type == 0)=false then -7 else 0:=by
 unfold gL
 by_cases h1:(hs.any fun h=>(h:Int) == old)=false
 ·refine (congrArg rfs (if_pos h1)).trans ?_;simp only [h1];rfl
 refine (congrArg rfs (if_neg h1)).trans ?_
 by_cases h2:(hs.any fun h=>(h:Int) == new)=false∨new=old
 ·refine (congrArg rfs (if_pos h2)).trans ?_;simp only [h1,h2];rfl
 refine (congrArg rfs (if_neg h2)).trans ?_
 by_cases h7:listOk sheets=false
 ·refine (congrArg rfs (if_pos h7)).trans ?_;simp only [h1,h2,h7];rfl
 refine (congrArg rfs (if_neg h7)).trans ?_
 by_cases h8:known w sheets=false
 ·refine (congrArg rfs (if_pos h8)).trans ?_;simp only [h1,h2,h7,h8];rfl
 refine (congrArg rfs (if_neg h8)).trans ?_
 simp only [h1,h2,h7,h8,if_false,if_true,not_true_eq_false]
 by_cases h9:(each w sheets fun x=>here x && (x.loans == [] && (x.owner:Int) == old))=false
 ·refine (congrArg rfs (if_pos h9)).trans ?_;simp only [h9];rfl
 refine (congrArg rfs (if_neg h9)).trans ?_
 by_cases h10:(each w sheets fun x=>x.type == 0)=false
 ·refine (congrArg rfs (if_pos h10)).trans ?_;simp only [h9,h10];rfl
 refine (congrArg rfs (if_neg h10)).trans ?_
 simp only [h9,h10];rfl
def newR(w:World)(first n:Int):Int:=if roomFor first n=false then -6 else if unused w (keysFrom first n)=false then -7 else if SHEETS < w.sheets.length + n.toNat then -8 else 0
theorem gather_rfs(hs:List Nat)(w:World)(d:Nat)(key person n first:Int):rfs (act hs w d (.gather key person n first)) =
  if keyOk key=false then -2 else if w.gatherings.contains key.toNat=true then -3 else match personOf w person with
   | none=> -4
   | some _=>if within n 1 8=false then -5 else newR w first n:=by
 simp only [act]
 by_cases h1:keyOk key=false
 ·simp only [h1];rfl
 by_cases h2:w.gatherings.contains key.toNat=true
 ·simp only [h1,h2];rfl
 simp only [h1,h2]
 cases personOf w person with
 | none=>rfl
 | some p=>
  simp only [if_false,if_true,Bool.false_eq_true]
  unfold newR
  by_cases h3:within n 1 8=false
  ·simp only [h3];rfl
  by_cases h4:roomFor first n=false
  ·simp only [h3,h4];rfl
  by_cases h5:unused w (keysFrom first n)=false
  ·simp only [h3,h4,h5];rfl
  by_cases h6:SHEETS < w.sheets.length + n.toNat
  ·simp only [h3,h4,h5,h6];rfl
  simp only [h3,h4,h5,h6];rfl
theorem split_rfs(hs:List Nat)(w:World)(d:Nat)(sheet first n:Int):rfs (act hs w d (.split sheet first n))=match sheetOf w sheet with
   | none=> -2
   | some x=>if here x=false then -3 else if x.type≠0 then -4 else if within n 2 4=false then -5 else newR w first n:=by
 simp only [act]
 cases sheetOf w sheet with
 | none=>rfl
 | some x=>
  simp only
  unfold newR
  by_cases h1:here x=false
  ·simp [h1,rfs]
  by_cases h2:x.type≠0
  ·simp [h1,h2,rfs]
  by_cases h3:within n 2 4=false
  ·simp [h1,h2,h3,rfs]
  by_cases h4:roomFor first n=false
  ·simp [h1,h2,h3,h4,rfs]
  by_cases h5:unused w (keysFrom first n)=false
  ·simp [h1,h2,h3,h4,h5,rfs]
  by_cases h6:SHEETS < w.sheets.length + n.toNat
  ·simp [h1,h2,h3,h4,h5,h6,rfs]
  simp [h1,h2,h3,h4,h5,h6,rfs]
theorem destroy_rfs(hs:List Nat)(w:World)(d:Nat)(sheet:Int):rfs (act hs w d (.destroy sheet))=kj w sheet:=by
 unfold kj
 simp only [act]
 cases sheetOf w sheet with
 | none=>rfl
 | some x=>
  simp only
  by_cases h1:here x=false
  ·simp [h1,rfs]
  by_cases h2:x.loans≠[]
  ·simp [h1,h2,rfs]
  by_cases h3:x.type≠0
  ·simp [h1,h2,h3,rfs]
  simp [h1,h2,h3,rfs]
theorem type_rfs(hs:List Nat)(w:World)(d:Nat)(sheet name:Int):rfs (act hs w d (.type sheet name))=if ¬ kj w sheet=0 then kj w sheet else if keyOk name=false then -6 else 0:=by
 unfold kj
 simp only [act]
 cases sheetOf w sheet with
 | none=>rfl
 | some x=>
  simp only
  by_cases h1:here x=false
  ·simp [h1,rfs]
  by_cases h2:x.loans≠[]
  ·simp [h1,h2,rfs]
  by_cases h3:x.type≠0
  ·simp [h1,h2,h3,rfs]
  by_cases h4:keyOk name=false
  ·simp [h1,h2,h3,h4,rfs]
  simp [h1,h2,h3,h4,rfs]
theorem bx{c:Prop}{_:Decidable c}{a:Int}{x:Int ⊕ World}{z:Int}(h:(if c then Sum.inl a else x)=Sum.inl z):z=a∨x=Sum.inl z:=by
 by_cases hc:c
 ·rw [if_pos hc] at h;cases h;exact .inl rfl
 ·rw [if_neg hc] at h;exact .inr h
theorem act_neg{hs:List Nat}{w:World}{d:Nat}{e:Entry}{z:Int}(h:act hs w d e = .inl z):z≠0:=by
 cases e with
 | lend loan lender borrower due onward sheets=>
  replace h:(if _ then _ else _)=Sum.inl _:=h
  iterate 12 (rcases bx h with e | h;· subst e;decide)
  cases h
 | give old new sheets=>
  replace h:(if _ then _ else _)=Sum.inl _:=h
  iterate 6 (rcases bx h with e | h;· subst e;decide)
  cases h
 | move a b=>
  simp only [act] at h
  cases e:personOf w a with
  | none=>rw [e] at h;cases h;decide
  | some p=>
   rw [e] at h
   rcases bx h with e | h
   ·subst e;decide
   ·cases h
 | rank a b=>
  simp only [act] at h
  cases e:personOf w a with
  | none=>rw [e] at h;cases h;decide
  | some p=>
   rw [e] at h
   rcases bx h with e | h
   ·subst e;decide
   ·cases h
 | gather a b c f=>
  simp only [act] at h
  iterate 2 (rcases bx h with e | h;· subst e;decide)
  cases e:personOf w b with
  | none=>rw [e] at h;cases h;decide
  | some p=>
   rw [e] at h
   iterate 4 (rcases bx h with e | h;· subst e;decide)
   cases h
 | split a b c=>
  simp only [act] at h
  cases e:sheetOf w a with
  | none=>rw [e] at h;cases h;decide
  | some p=>
   rw [e] at h
   iterate 6 (rcases bx h with e | h;· subst e;decide)
   cases h
 | arrive l=>
  simp only [act] at h
  iterate 3 (rcases bx h with e | h;· subst e;decide)
  cases h
 | back k l=>
  simp only [act] at h
  iterate 3 (rcases bx h with e | h;· subst e;decide)
  cases h
 | lose l=>
  simp only [act] at h
  iterate 3 (rcases bx h with e | h;· subst e;decide)
  cases h
 | find l=>
  simp only [act] at h
  iterate 3 (rcases bx h with e | h;· subst e;decide)
  cases h
 | cede a=>
  simp only [act] at h
  cases e:sheetOf w a with
  | none=>rw [e] at h;cases h;decide
  | some p=>
   rw [e] at h
   rcases bx h with e | h
   ·subst e;decide
   ·cases el:p.loans with
    | nil=>rw [el] at h;cases h;decide
    | cons k r=>
     rw [el] at h
     rcases bx h with e | h
     ·subst e;decide
     ·cases e2:loanOf w k with
      | none=>rw [e2] at h;cases h;decide
      | some l=>rw [e2] at h;cases h
 | extend a b=>
  simp only [act] at h
  cases e:w.loans.find? (fun l=>(l.key:Int) == a) with
  | none=>rw [e] at h;cases h;decide
  | some p=>
   rw [e] at h
   iterate 3 (rcases bx h with e | h;· subst e;decide)
   cases h
 | destroy a=>
  simp only [act] at h
  cases e:sheetOf w a with
  | none=>rw [e] at h;cases h;decide
  | some p=>
   rw [e] at h
   iterate 3 (rcases bx h with e | h;· subst e;decide)
   cases h
 | type a b=>
  simp only [act] at h
  cases e:sheetOf w a with
  | none=>rw [e] at h;cases h;decide
  | some p=>
   rw [e] at h
   iterate 4 (rcases bx h with e | h;· subst e;decide)
   cases h
 | determine a b c f=>
  simp only [act] at h
  cases e:sheetOf w a with
  | none=>rw [e] at h;cases h;decide
  | some p=>
   rw [e] at h
   dsimp only at h
   cases e2:personOf w b with
   | none=>rw [e2] at h;cases h;decide
   | some q=>
    rw [e2] at h
    iterate 4 (rcases bx h with e | h;· subst e;decide)
    cases h
theorem upTo_iff{s:State}(g:Good s){i d:Nat}{e:Nat×Entry}(h:s.log[i]? = some e):e.1≤d ↔ i < upTo s d:=by
 have hi:=(List.getElem?_eq_some_iff.mp h).1
 have ei:=(List.getElem?_eq_some_iff.mp h).2
 constructor
 ·intro hd
  have h1:(s.log.take (i + 1)).filter (fun e=>decide (e.1≤d))=s.log.take (i + 1):=by
   rw [List.filter_eq_self]
   intro x hx
   obtain ⟨j,hj,rfl⟩:=List.getElem_of_mem hx
   rw [List.length_take] at hj
   rw [List.getElem_take,decide_eq_true_eq]
   by_cases hji:j=i
   ·subst hji;rw [ei];exact hd
   ·have:=(List.pairwise_iff_getElem.mp g.days) j i (by omega) hi (by omega)
    rw [ei] at this
    omega
  have h2:((s.log.take (i + 1)).filter (fun e=>decide (e.1≤d))).length≤upTo s d:=((List.take_sublist _ _).filter _).length_le
  rw [h1,List.length_take] at h2
  omega
 ·intro hlt
  have h1:=iG g.days d
  have h2:(s.log.filter fun e=>decide (e.1≤d))[i]? = some e:=by
   rw [h1,List.getElem?_take,if_pos (show i < (s.log.filter fun e=>decide (e.1≤d)).length from hlt)]
   exact h
  have:=(List.mem_filter.mp (List.mem_of_getElem? h2)).2
  simpa using this
def SpOk:Entry→Prop
 | .gather _ _ n first=>(1≤first∧b32 first)∧1≤n∧n≤8
 | .split _ first n=>(1≤first∧b32 first)∧1≤n∧n≤8
 | _=>True
theorem spok_of{hs:List Nat}{w w':World}{d:Nat}{e:Entry}(h:act hs w d e = .inr w'):SpOk e:=by
 cases e with
 | gather a b n first=>
  simp only [act] at h
  obtain ⟨_,h⟩:=ac h
  obtain ⟨_,h⟩:=ac h
  cases e:personOf w b with
  | none=>rw [e] at h;cases h
  | some p=>
   rw [e] at h
   obtain ⟨h3,h⟩:=ac h
   obtain ⟨h4,h⟩:=ac h
   have hw:=cC.mp (bu h3)
   have hrm:=dm.mp (bu h4)
   unfold KEYS at hrm
   unfold SpOk b32
   omega
 | split a first n=>
  simp only [act] at h
  cases e:sheetOf w a with
  | none=>rw [e] at h;cases h
  | some p=>
   rw [e] at h
   obtain ⟨_,h⟩:=ac h
   obtain ⟨_,h⟩:=ac h
   obtain ⟨h3,h⟩:=ac h
   obtain ⟨h4,h⟩:=ac h
   have hw:=cC.mp (bu h3)
   have hrm:=dm.mp (bu h4)
   unfold KEYS at hrm
   unfold SpOk b32
   omega
 | _=>trivial
theorem Good.spok{s:State}(g:Good s){e:Nat×Entry}(h:e∈s.log):SpOk e.2:=by
 obtain ⟨i,hi,rfl⟩:=List.getElem_of_mem h
 exact spok_of (g.ok i _ _ (List.getElem?_eq_getElem hi))
def fA(l:List Det):Nat→Nat→Option Nat
 | 0,_=>none
 | i + 1,p=>match l[i]? with
  | some d=>if d.person=p then some i else fA l i p
  | none=>fA l i p
theorem nM{l:List Det}{i:Nat}{d:Det}(h:l[i]? = some d)(p:Nat):fA l (i + 1) p=if p=d.person then some i else fA l i p:=by
 show (match l[i]? with
  | some d=>if d.person=p then some i else fA l i p
  | none=>fA l i p)=_
 rw [h]
 simp only
 by_cases e:d.person=p
 ·rw [if_pos e,if_pos e.symm]
 ·rw [if_neg e,if_neg fun z=>e z.symm]
theorem kP{l:List Det}{i:Nat}{d:Det}(h:l[i]? = some d):∀ {n:Nat},i < n→n≤l.length→∃ j,fA l n d.person=some j∧i≤j∧j < n∧(j=i ↔ ∀ m,i < m→m < n→∀ e,l[m]? = some e→e.person≠d.person)
 | 0,hn,_=>absurd hn (by omega)
 | n + 1,hn,hl=>by
  have hln:n < l.length:=by omega
  have en:l[n]? = some l[n]:=List.getElem?_eq_getElem hln
  rw [nM en]
  by_cases e:d.person=l[n].person
  ·rw [if_pos e]
   refine ⟨n,rfl,by omega,by omega,?_⟩
   constructor
   ·intro z m h1 h2
    omega
   ·intro z
    apply Classical.byContradiction
    intro hne
    exact z n (by omega) (by omega) _ en e.symm
  ·rw [if_neg e]
   have hin:i≠n:=fun z=>by
    subst z
    rw [en] at h
    cases h
    exact e rfl
   obtain ⟨j,h1,h2,h3,h4⟩:=kP h (n:=n) (by omega) (by omega)
   refine ⟨j,h1,h2,by omega,h4.trans ⟨fun z m a b e' he=> ?_,fun z m a b=>z m a (by omega)⟩⟩
   by_cases hm:m=n
   ·subst hm
    rw [en] at he
    cases he
    exact fun z=>e z.symm
   ·exact z m a (by omega) e' he
theorem lastIx_weight{l:List Det}{i:Nat}{d:Det}(h:l[i]? = some d):∃ j,fA l l.length d.person=some j∧decide (j=i) = !kR d (l.drop (i + 1)):=by
 have hi:=(List.getElem?_eq_some_iff.mp h).1
 obtain ⟨j,h1,h2,h3,h4⟩:=kP h hi (Nat.le_refl _)
 refine ⟨j,h1,?_⟩
 rw [Bool.eq_iff_iff,decide_eq_true_eq,h4,Bool.not_eq_true']
 unfold kR
 constructor
 ·intro z
  cases e:(l.drop (i + 1)).any (fun e=>e.person == d.person) with
  | false=>rfl
  | true=>
   obtain ⟨x,hx,hp⟩:=List.any_eq_true.mp e
   obtain ⟨m,hm,ex⟩:=List.getElem_of_mem hx
   rw [List.length_drop] at hm
   rw [List.getElem_drop] at ex
   exact absurd (beq_iff_eq.mp hp) (z (i + 1 + m) (by omega) (by omega) x (by rw [List.getElem?_eq_getElem (by omega),ex]))
 ·intro z m a b e he hp
  have:(l.drop (i + 1)).any (fun e=>e.person == d.person)=true:=by
   rw [List.any_eq_true]
   refine ⟨e,?_,by simpa using hp⟩
   rw [List.mem_iff_getElem?]
   exact ⟨m - (i + 1),by rw [List.getElem?_drop,show i + 1 + (m - (i + 1))=m by omega];exact he⟩
  rw [z] at this
  cases this
def sumsAt(ps:List (Det×Nat)):List (Nat×Nat):=(cP (ps.map (·.1.name))).map fun n=>(n,S ps n)
theorem max_snoc(l:List Nat)(x:Nat):(l ++ [x]).foldl max 0=max (l.foldl max 0) x:=by rw [List.foldl_append];rfl
theorem nB(l:List Nat):(VbnlaiNeutral.ints l).length=l.length:=by unfold VbnlaiNeutral.ints;rw [List.length_map]
theorem og{k:Nat}:∀ {l:List (List Nat)},(∀ r∈l,r.length≤k)→(l.flatMap VbnlaiNeutral.ints).length≤k * l.length
 | [],_=>Nat.le_refl _
 | r :: l,h=>by
  have h1:=h r List.mem_cons_self
  have h2:=og fun r hr=>h r (List.mem_cons_of_mem _ hr)
  rw [List.flatMap_cons,List.length_append,nB,List.length_cons,Nat.mul_succ]
  omega
theorem Good.viewInv{s:State}(g:Good s)(d:Nat):∃ n,n≤300∧cy n (Vbnlai.view s d):=by
 rw [g.view]
 exact ⟨_,Nat.le_trans (pS s d) g.logN,g.inv _ (pS s d)⟩
theorem fL{s:State}(g:Good s){k d:Int}{f:World→Sheet→Answer}(h:∀ n w x,n≤300→cy n w→x∈w.sheets→(VbnlaiNeutral.shown (f w x)).length≤2000):(VbnlaiNeutral.shown (ofSheet s k d f).2).length≤2000:=by
 unfold ofSheet
 by_cases c:dayOk d=false
 ·rw [if_pos c];exact (by decide:1≤2000)
 ·rw [if_neg c]
  obtain ⟨n,hn,inv⟩:=g.viewInv d.toNat
  cases e:sheetOf (Vbnlai.view s d.toNat) k with
  | none=>exact (by decide:1≤2000)
  | some x=>exact h n _ x hn inv (dn e).1
theorem shown_len{s:State}(g:Good s)(q:Call):(VbnlaiNeutral.shown (step s q).2).length≤2000:=by
 have one:∀ z,(VbnlaiNeutral.shown (.number z)).length≤2000:=fun _=>(by decide:1≤2000)
 have two:∀ a b,(VbnlaiNeutral.shown (.pair a b)).length≤2000:=fun _ _=>(by decide:2≤2000)
 have row:∀ l:List Nat,l.length≤400→(VbnlaiNeutral.shown (.row l)).length≤2000:=fun l h=>by
  simp only [VbnlaiNeutral.shown,List.length_cons,nB];omega
 have rows:∀ l:List (List Nat),(∀ r∈l,r.length≤5)→l.length≤300→(VbnlaiNeutral.shown (.rows l)).length≤2000:=fun l h5 h=>by
  have:=og h5
  simp only [VbnlaiNeutral.shown,List.length_cons];omega
 cases q with
 | house k=>
  simp only [step]
  repeat' split
  all_goals exact one _
 | person k h r=>
  simp only [step]
  repeat' split
  all_goals exact one _
 | enter d e=>
  simp only [step,enter]
  repeat' split
  all_goals exact one _
 | whereIs k d=>exact fL g fun _ _ _ _ _ _=>two _ _
 | name k d=>exact fL g fun _ _ _ _ _ _=>two _ _
 | custody k d=>
  refine fL g fun n w x hn inv hx=> ?_
  have h1:=(inv.few x hx).1
  have h3:∀ r∈x.loans.filterMap fun k=>(loanOf w k).map fun l=>[k,l.borrower,l.due],r.length≤3:=fun r hr=>by
   obtain ⟨k,_,hk⟩:=List.mem_filterMap.mp hr
   cases el:loanOf w k with
   | none=>rw [el] at hk;cases hk
   | some l=>rw [el] at hk;cases hk;exact Nat.le_refl 3
  have h2:=og h3
  have h4:=List.length_filterMap_le (fun k=>(loanOf w k).map fun l=>[k,l.borrower,l.due]) x.loans
  simp only [VbnlaiNeutral.shown,List.length_cons]
  omega
 | dets k d=>
  refine fL g fun n w x hn inv hx=>rows _ (fun r hr=> ?_) ?_
  ·obtain ⟨k,_,hk⟩:=List.mem_filterMap.mp hr
   cases el:x.dets[k]? with
   | none=>rw [el] at hk;cases hk
   | some l=>rw [el] at hk;cases hk;exact Nat.le_refl 5
  ·refine Nat.le_trans (List.length_filterMap_le _ _) ?_
   rw [List.length_range]
   exact Nat.le_trans (inv.few x hx).2 hn
 | inHouse k d=>
  obtain ⟨n,hn,inv⟩:=g.viewInv d.toNat
  have:=inv.sN
  simp only [step,ofHouse]
  repeat' split
  ·exact one _
  ·exact one _
  ·refine row _ ?_
   rw [List.length_map]
   exact Nat.le_trans (List.length_filter_le _ _) (Nat.le_trans this (by decide))
 | books k d=>
  simp only [step,ofHouse]
  repeat' split
  ·exact one _
  ·exact one _
  ·exact row _ (by decide:5≤400)
 | overdue d=>
  obtain ⟨n,hn,inv⟩:=g.viewInv d.toNat
  have:=inv.lN
  simp only [step]
  split
  ·exact one _
  ·refine rows _ (fun r hr=> ?_) ?_
   ·unfold overdueOf at hr
    obtain ⟨l,_,rfl⟩:=List.mem_map.mp hr
    exact (by decide:2≤5)
   ·unfold overdueOf
    rw [List.length_map]
    exact Nat.le_trans (List.length_filter_le _ _) (Nat.le_trans this (by decide))
 | gathering k d=>
  obtain ⟨n,hn,inv⟩:=g.viewInv d.toNat
  have:=inv.sN
  simp only [step]
  repeat' split
  ·exact one _
  ·exact one _
  ·refine rows _ (fun r hr=> ?_) ?_
   ·obtain ⟨l,_,rfl⟩:=List.mem_map.mp hr
    exact (by decide:2≤5)
   ·rw [List.length_map]
    exact Nat.le_trans (List.length_filter_le _ _) (Nat.le_trans this (by decide))
 | types k d=>
  obtain ⟨n,hn,inv⟩:=g.viewInv d.toNat
  have:=inv.sN
  simp only [step]
  split
  ·exact one _
  ·refine row _ ?_
   rw [List.length_map]
   exact Nat.le_trans (List.length_filter_le _ _) (Nat.le_trans this (by decide))
 | history k=>
  have:=g.logN
  simp only [step]
  split
  ·exact one _
  ·refine row _ ?_
   rw [List.length_map]
   refine Nat.le_trans (List.length_filter_le _ _) ?_
   rw [List.length_range]
   exact Nat.le_trans this (by decide)
 | log=>exact two _ _
theorem step_q{s:State}{q:Call}(h:isQ q=true):(step s q).1=s:=by
 cases q with
 | house _=>cases h
 | person _ _ _=>cases h
 | enter _ _=>cases h
 | whereIs k d=>simp only [step,ofSheet];(repeat' split);all_goals rfl
 | custody k d=>simp only [step,ofSheet];(repeat' split);all_goals rfl
 | name k d=>simp only [step,ofSheet];(repeat' split);all_goals rfl
 | dets k d=>simp only [step,ofSheet];(repeat' split);all_goals rfl
 | inHouse k d=>simp only [step,ofHouse];(repeat' split);all_goals rfl
 | books k d=>simp only [step,ofHouse];(repeat' split);all_goals rfl
 | overdue d=>simp only [step];(repeat' split);all_goals rfl
 | gathering k d=>simp only [step];(repeat' split);all_goals rfl
 | types k d=>simp only [step];(repeat' split);all_goals rfl
 | history k=>simp only [step];(repeat' split);all_goals rfl
 | log=>rfl
theorem pl_range(e:Entry):2≤pl e∧pl e≤16:=by cases e <;> (simp only [pl];omega)
theorem qp_range{q:Call}(h:isQ q=true):17≤qp q:=by cases q <;> first | (simp only [qp];omega) | cases h
end SV
namespace L2
open PySem PySem.Spec PyProof.Rows
abbrev Key:=Sum Int Str
def iH:Key→Value→Bool
 | .inl k,v=>Value.isInt k v
 | .inr x,v=>Value.isStrOf x v
def keyH(w:World):Key→Int
 | .inl k=>hashInt k
 | .inr x=>hashStr w x
theorem bp:∀ {k:Key} {v:Value},iH k v=true→(∃ i t,k=Sum.inl i∧v=Value.int i t)∨(∃ x t,k=Sum.inr x∧v=Value.str x t)
 | .inl i,v,h=>by
  obtain ⟨t,e⟩:=Value.isInt_shape (k:=i) (v:=v) h
  exact .inl ⟨i,t,rfl,e⟩
 | .inr x,v,h=>by
  obtain ⟨t,e⟩:=Value.isStrOf_shape (x:=x) (v:=v) h
  exact .inr ⟨x,t,rfl,e⟩
theorem qw(i:Int)(t:Tok):iH (.inl i) (.int i t)=true:=by simp [iH,Value.isInt]
theorem keyIs_str(x:Str)(t:Tok):iH (.inr x) (.str x t)=true:=by simp [iH,Value.isStrOf]
theorem key_ll(a b:Int):decide ((Sum.inl a:Key)=Sum.inl b)=(a == b):=by
 by_cases e:a=b
 ·subst e;simp
 ·have h:¬ (Sum.inl a:Key)=Sum.inl b:=fun q=>e (Sum.inl.inj q)
  rw [decide_eq_false h]
  exact (beq_eq_false_iff_ne.mpr e).symm
theorem key_rr(a b:Str):decide ((Sum.inr a:Key)=Sum.inr b)=decide (a=b):=by
 by_cases e:a=b
 ·subst e;simp
 ·have h:¬ (Sum.inr a:Key)=Sum.inr b:=fun q=>e (Sum.inr.inj q)
  rw [decide_eq_false h,decide_eq_false e]
theorem key_lr(a:Int)(b:Str):decide ((Sum.inl a:Key)=Sum.inr b)=false:=decide_eq_false (fun q=>nomatch q)
theorem key_rl(a:Str)(b:Int):decide ((Sum.inr a:Key)=Sum.inl b)=false:=decide_eq_false (fun q=>nomatch q)
def bg(prog:Program)(w:World):PySem.KeyKind prog w Key where
 is:=iH
 hash:=keyH w
 inj:=fun v a b ha hb=>by
  rcases bp ha with ⟨i,t,rfl,rfl⟩ | ⟨x,t,rfl,rfl⟩
  ·rcases bp hb with ⟨j,u,rfl,e⟩ | ⟨y,u,rfl,e⟩
   ·injection e with e1 _;rw [e1]
   ·exact nomatch e
  ·rcases bp hb with ⟨j,u,rfl,e⟩ | ⟨y,u,rfl,e⟩
   ·exact nomatch e
   ·injection e with e1 _;rw [e1]
 byValue:=fun k v h=>by
  rcases bp h with ⟨i,t,rfl,rfl⟩ | ⟨x,t,rfl,rfl⟩ <;> rfl
 pyHash:=fun hv h=>by
  rcases bp hv with ⟨i,t,rfl,rfl⟩ | ⟨x,t,rfl,rfl⟩
  ·exact wpAny_pyHash_int h
  ·exact wpAny_pyHash_str h
 eqBool:=fun hu hv h=>by
  rcases bp hu with ⟨i,t,rfl,rfl⟩ | ⟨x,t,rfl,rfl⟩
  ·rcases bp hv with ⟨j,u,rfl,rfl⟩ | ⟨y,u,rfl,rfl⟩
   ·rw [key_ll] at h;exact wpAny_eqBool_int h
   ·rw [key_lr] at h;exact SeqAt.EqAt.int_str i t y u _ _ _ _ h
  ·rcases bp hv with ⟨j,u,rfl,rfl⟩ | ⟨y,u,rfl,rfl⟩
   ·rw [key_rl] at h;exact SeqAt.EqAt.str_int x t j u _ _ _ _ h
   ·rw [key_rr] at h;exact wpAny_eqBool_str h
 «strs» := fun k x t v h=>by
  rcases bp h with ⟨i,u,rfl,e⟩ | ⟨y,u,rfl,e⟩
  ·exact nomatch e
  ·injection e with e1 _
   subst e1
   cases v <;> rfl
theorem nJ(prog:Program)(w:World)(i:Int)(t:Tok):(bg prog w).is (.inl i) (.int i t)=true:=qw i t
theorem n9(prog:Program)(w:World)(x:Str)(t:Tok):(bg prog w).is (.inr x) (.str x t)=true:=keyIs_str x t
inductive V where
 | non | bl (b:Bool) | int (i:Int) | str (x:Str) | byt (b:Array UInt8) | flt (b:UInt64) | ref (a:Addr) | ty (n:String)
 deriving DecidableEq
def b6:V→Value→Prop
 | .non,u=>u=Value.none
 | .bl b,u=>u=Value.bool b
 | .int i,u=>∃ t,u=Value.int i t
 | .str x,u=>∃ t,u=Value.str x t
 | .byt b,u=>∃ t,u=Value.bytes b t
 | .flt b,u=>∃ t,u=Value.float b t
 | .ref a,u=>u=Value.ref a
 | .ty n,u=>u=Value.type n
abbrev aR:List V→List Value→Prop:=Paired b6
theorem aR.length{xs:List V}{us:List Value}(r:aR xs us):xs.length=us.length:=Paired.length r
theorem aR.get:∀ {xs:List V} {us:List Value} {i:Nat} {x:V},aR xs us→xs[i]? = some x→∃ u,us[i]? = some u∧b6 x u
 | _,_,_,_,.nil,e=>by simp at e
 | _,_,0,_,.cons r _,e=>by simp at e;subst e;exact ⟨_,rfl,r⟩
 | _,_,i + 1,x,.cons _ t,e=>by
  obtain ⟨u,h1,h2⟩:=aR.get (i:=i) (x:=x) t (by simpa using e)
  exact ⟨u,by simpa using h1,h2⟩
theorem aR.append:∀ {xs ys:List V} {us ws:List Value},aR xs us→aR ys ws→aR (xs ++ ys) (us ++ ws)
 | _,_,_,_,.nil,s=>s
 | _,_,_,_,.cons r t,s=>.cons r (aR.append t s)
theorem aR.take:∀ {xs:List V} {us:List Value} (n:Nat),aR xs us→aR (xs.take n) (us.take n)
 | _,_,0,_=>.nil
 | _,_,_ + 1,.nil=>.nil
 | _,_,n + 1,.cons r t=>.cons r (aR.take n t)
theorem aR.drop:∀ {xs:List V} {us:List Value} (n:Nat),aR xs us→aR (xs.drop n) (us.drop n)
 | _,_,0,r=>r
 | _,_,_ + 1,.nil=>.nil
 | _,_,n + 1,.cons _ t=>aR.drop n t
def eZ:Option V→Option Value→Prop
 | some v,some u=>b6 v u
 | none,none=>True
 | _,_=>False
def KV{κ : Type}:List (κ×V)→List (κ×Value)→Prop:=Paired fun (p : κ×V) (q : κ×Value)=>p.1=q.1∧b6 p.2 q.2
def kV:Key→V
 | .inl i=>.int i
 | .inr x=>.str x
inductive HO where
 | lst (xs:List V)
 | tup (xs:List V)
 | dK (kvs:List (Key×V)) | dT (kvs:List (List Key×V))
 | set (S:Int→Bool) (n:Nat)
 | ins (C dx:Addr) (fs:List (Str×V))
 | own (x:Addr)
 | xd (fs:List (Str×V))
 | met (f x:Addr)
 | rng (lo hi:Int)
 | frz (o:Obj) (u:HO)
 | tbl (ps:Array Value)
 | ext (φ : Heap→Prop)
abbrev Hp:=Addr→Option HO
def upd(H:Hp)(a:Addr)(o:HO):Hp:=fun b=>if b=a then some o else H b
theorem a9{H:Hp}{a:Addr}{o:HO}:upd H a o a=some o:=by unfold upd;rw [if_pos rfl]
theorem af{H:Hp}{a b:Addr}{o:HO}(h:b≠a):upd H a o b=H b:=by unfold upd;rw [if_neg h]
theorem bv{H:Hp}{a:Addr}{o u:HO}:upd (upd H a o) a u=upd H a u:=by
 funext b;unfold upd;split <;> rfl
theorem cu{H:Hp}{a b:Addr}{o u:HO}(h:H a=some o)(h':H b=some u)(d:o≠u):a≠b:=by
 intro e;subst e;rw [h] at h';exact d (Option.some.inj h')
theorem al{H:Hp}{a b:Addr}{o:HO}(h:H a=some o)(h':H b=none):a≠b:=by
 intro e;subst e;rw [h] at h';cases h'
section
variable(P:Program)(w:World)
def be(H:Hp)(h:Heap)(a:Addr):HO→Prop
 | .lst xs=>xs.length≤sizeLine∧∃ (its:List Value) (n:Nat),aR xs its∧h.get? a=some { cls:=.type "list",data:=.seq its.toArray n }
 | .tup xs=>xs.length≤sizeLine∧∃ its:List Value,aR xs its∧IsTup h a its.toArray
 | .dK kvs=>kvs.length≤sizeLine∧(a == sysModules)=false∧∃ vs,KV kvs vs∧h.DictOf (bg P w) a vs
 | .dT kvs=>kvs.length≤sizeLine∧(a == sysModules)=false∧∃ xs:List (List Key×Addr×Value),
   Paired (fun (p:List Key×V) (q:List Key×Addr×Value)=>p.1=q.1∧H q.2.1=some (.tup (p.1.map kV))∧b6 p.2 q.2.2) kvs xs ∧
   ∃ o es ep,h.get? a=some o∧o.ExactDict∧o.data = .dict es ep∧es.toList=xs.map (entryOfKey (tupleKind (bg P w)))∧(xs.map (·.1)).Nodup
 | .set S n=>h.SetOf (intKind P w) a S n
 | .ins C dx fs=>H dx=some (.own a)∧fs.length≤1000∧dx≠a∧h.get? a=some (PySem.W.instObj C dx) ∧
   ∃ mA,h.Ns1 dx mA∧(∀ f,eZ (fs.lookup f) (mA f))∧PySem.Within mA (fs.map (·.1))
 | .own _=>∃ o,h.get? a=some o
 | .xd fs=>∃ mA,h.Ns1 a mA∧∀ f,eZ (fs.lookup f) (mA f)
 | .rng lo hi=>∃ t u v,h.get? a=some { cls:=.type "range",data:=.fields #[.int lo t,.int hi u,.int 1 v] }
 | .frz o u=>h.get? a=some o∧be H h a u
 | .tbl ps=>h.get? a=some { cls:=.none,data:=.fields ps }
 | .met f x=>h.get? a=some (PySem.W.methodObj (.ref f) (.ref x))
 | .ext φ => φ h∧(∃ o,h.get? a=some o)∧∀ h1 h2:Heap,φ h1→(∀ o,h1.get? a=some o→h2.get? a=some o)→φ h2
def HOk(H:Hp)(h:Heap):Prop:=∀ a o,H a=some o→be P w H h a o
end
section
variable{P:Program}{w:World}{H H':Hp}{h h':Heap}{a:Addr}{o:HO}
theorem be.lt(x:be P w H h a o):a < h.objs.size:=by
 cases o with
 | lst xs=>obtain ⟨_,_,_,_,e⟩:=x;exact Heap.lt_size e
 | tup xs=>obtain ⟨_,_,_,p⟩:=x;exact p.lt
 | dK kvs=>obtain ⟨_,_,_,_,o,_,_,e,_⟩:=x;exact Heap.lt_size e
 | dT kvs=>obtain ⟨_,_,_,_,o,_,_,e,_⟩:=x;exact Heap.lt_size e
 | set S n=>obtain ⟨o,_,_,_,e,_⟩:=x;exact Heap.lt_size e
 | ins C dx fs=>obtain ⟨_,_,_,e,_⟩:=x;exact Heap.lt_size e
 | own y=>obtain ⟨_,e⟩:=x;exact Heap.lt_size e
 | xd fs=>obtain ⟨_,⟨_,_,_,e,_⟩,_⟩:=x;exact Heap.lt_size e
 | rng lo hi=>obtain ⟨_,_,_,e⟩:=x;exact Heap.lt_size e
 | frz ob u=>obtain ⟨e,_⟩:=x;exact Heap.lt_size e
 | tbl ps=>exact Heap.lt_size (show h.get? a=some _ from x)
 | met f y=>exact Heap.lt_size (show h.get? a=some _ from x)
 | ext φ =>obtain ⟨_,⟨_,e⟩,_⟩:=x;exact Heap.lt_size e
theorem Paired.mapP{α β : Type}{F G : α→β→Prop}:∀ {l₁ : List α} {l₂ : List β},Paired F l₁ l₂ → (∀ a b,F a b→G a b)→Paired G l₁ l₂
 | _,_,.nil,_=>.nil
 | _,_,.cons r t,f=>.cons (f _ _ r) (Paired.mapP t f)
theorem be.stay(x:be P w H h a o)(k:∀ b u,(b=a∨H b=some (.own a))→h.get? b=some u→h'.get? b=some u)
  (ho:∀ b,H b=some (.own a)→H' b=some (.own a)) (ht:∀ b xs,H b=some (.tup xs)→H' b=some (.tup xs)):be P w H' h' a o:=by
 induction o with
 | lst xs=>obtain ⟨z,its,n,r,e⟩:=x;exact ⟨z,its,n,r,k _ _ (.inl rfl) e⟩
 | tup xs=>obtain ⟨z,its,r,ob,e,c⟩:=x;exact ⟨z,its,r,ob,k _ _ (.inl rfl) e,c⟩
 | dK kvs=>obtain ⟨z,y,vs,r,ob,es,ep,e,c⟩:=x;exact ⟨z,y,vs,r,ob,es,ep,k _ _ (.inl rfl) e,c⟩
 | dT kvs=>
  obtain ⟨z,y,xs,r,ob,es,ep,e,c⟩:=x
  exact ⟨z,y,xs,Paired.mapP r fun p q z=>⟨z.1,ht _ _ z.2.1,z.2.2⟩,ob,es,ep,k _ _ (.inl rfl) e,c⟩
 | set S n=>obtain ⟨ob,es,ep,t,e,c⟩:=x;exact ⟨ob,es,ep,t,k _ _ (.inl rfl) e,c⟩
 | ins C dx fs=>
  obtain ⟨d,z,ne,e,mA,⟨od,es,ep,e2,c⟩,r⟩:=x
  exact ⟨ho _ d,z,ne,k _ _ (.inl rfl) e,mA,⟨od,es,ep,k _ _ (.inr d) e2,c⟩,r⟩
 | own y=>obtain ⟨ob,e⟩:=x;exact ⟨ob,k _ _ (.inl rfl) e⟩
 | xd fs=>obtain ⟨mA,⟨od,es,ep,e,c⟩,r⟩:=x;exact ⟨mA,⟨od,es,ep,k _ _ (.inl rfl) e,c⟩,r⟩
 | rng lo hi=>obtain ⟨t,u,v,e⟩:=x;exact ⟨t,u,v,k _ _ (.inl rfl) e⟩
 | frz ob u ih=>obtain ⟨e,q⟩:=x;exact ⟨k _ _ (.inl rfl) e,ih q⟩
 | tbl ps=>
  have e:h.get? a=some { cls:=.none,data:=.fields ps }:=x
  show h'.get? a=some { cls:=.none,data:=.fields ps }
  exact k a _ (.inl rfl) e
 | met f y=>
  have e:h.get? a=some (PySem.W.methodObj (.ref f) (.ref y)):=x
  show h'.get? a=some (PySem.W.methodObj (.ref f) (.ref y))
  exact k a _ (.inl rfl) e
 | ext φ =>obtain ⟨p,⟨o,e⟩,st⟩:=x;exact ⟨st _ _ p fun o q=>k _ _ (.inl rfl) q,⟨o,k _ _ (.inl rfl) e⟩,st⟩
theorem HOk.lt(x:HOk P w H h)(e:H a=some o):a < h.objs.size:=(x a o e).lt
theorem HOk.fresh(x:HOk P w H h)(e:h.objs.size≤a):H a=none:=by
 cases q:H a with
 | none=>rfl
 | some u=>exact absurd (Nat.lt_of_lt_of_le (x.lt q) e) (Nat.lt_irrefl _)
theorem HOk.kept(x:HOk P w H h)(k:∀ b u,h.get? b=some u→h'.get? b=some u):HOk P w H h':=fun a o e=>
 (x a o e).stay (fun b u _ q=>k b u q) (fun _ q=>q) fun _ _ q=>q
theorem HOk.laid(x:HOk P w H h)(k:∀ b u,h.get? b=some u→h'.get? b=some u)(hp:h.objs.size≤a)(new:be P w (upd H a o) h' a o):HOk P w (upd H a o) h':=fun b u e=>by
 have hn:=x.fresh hp
 by_cases hb:b=a
 ·subst hb;rw [a9] at e;cases e;exact new
 ·rw [af hb] at e
  exact (x b u e).stay (fun c v _ q=>k c v q) (fun c q=>by rw [af (al q hn)];exact q) fun c xs q=>by rw [af (al q hn)];exact q
end
def Rd(H:Hp)(a:Addr)(u:HO):Prop:=H a=some u∨∃ o,H a=some (.frz o u)
theorem Rd.ok{P:Program}{w:World}{H:Hp}{h:Heap}{a:Addr}{u:HO}(r:Rd H a u)(x:HOk P w H h):be P w H h a u:=by
 rcases r with r | ⟨o,r⟩
 ·exact x a u r
 ·obtain ⟨_,q⟩:=x a _ r
  exact q
def Mut:Option HO→Prop
 | some (.lst _)=>True
 | some (.dK _)=>True
 | some (.dT _)=>True
 | some (.set _ _)=>True
 | some (.ins _ _ _)=>True
 | some (.ext _)=>True
 | _=>False
section
variable{P:Program}{w:World}{H:Hp}{h h':Heap}{x e:Addr}{o':HO}
theorem HOk.write(ok:HOk P w H h)(mu:Mut (H x))(he:e=x∨H e=some (.own x))(k:∀ b u,b≠e→h.get? b=some u→h'.get? b=some u)(heo:∃ u,h'.get? e=some u)
  (new:be P w (upd H x o') h' x o'):HOk P w (upd H x o') h':=fun b u q=>by
 have nown:∀ c y,H c=some (.own y)→c≠x:=fun c y r z=>by subst z;rw [r] at mu;exact mu
 have ntup:∀ c xs,H c=some (.tup xs)→c≠x:=fun c xs r z=>by subst z;rw [r] at mu;exact mu
 by_cases hb:b=x
 ·subst hb;rw [a9] at q;cases q;exact new
 ·rw [af hb] at q
  by_cases hbe:b=e
  ·have q':H b=some (.own x):=by
    rcases he with z | z
    ·exact absurd (hbe.trans z) hb
    ·rw [hbe];exact z
   rw [q] at q';cases q'
   obtain ⟨v,hv⟩:=heo
   exact ⟨v,by rw [hbe];exact hv⟩
  ·refine (ok b u q).stay (fun c v hc r=>k c v ?_ r) (fun c r=>by rw [af (nown c b r)];exact r) fun c xs r=>by rw [af (ntup c xs r)];exact r
   rcases hc with rfl | hc
   ·exact hbe
   ·rintro rfl
    rcases he with z | z
    ·exact nown c b hc z
    ·rw [hc] at z;cases z;exact hb rfl
end
structure Un(fs ex:List Addr)(H H':Hp)(h h':Heap):Prop where
 keep:∀ b o,h.get? b=some o→H b=none→b∉fs→b∉ex→h'.get? b=some o
 slot:∀ b o,h.get? b=some o→H b=none→b∈fs→b∉ex→∃ sl,h'.get? b=some { o with slots:=sl }
 free:∀ b o,h.get? b=some o→H b=none→b∉ex→H' b=none
 there:∀ b o,h.get? b=some o→b∉ex→∃ o',h'.get? b=some o'
 tups:∀ b xs,H b=some (.tup xs)→H' b=some (.tup xs)
 frzs:∀ b o u,H b=some (.frz o u)→H' b=some (.frz o u)
 tbls:∀ b ps,H b=some (.tbl ps)→∃ more,H' b=some (.tbl (ps ++ more))
section
variable{fs fs' ex ex':List Addr}{H H1 H2:Hp}{h h1 h2 h':Heap}{a x e:Addr}{o:HO}
theorem Un.any(u:Un fs ex H H1 h h1){b:Addr}{ob:Obj}(q:h.get? b=some ob)(n:H b=none)(hx:b∉ex):∃ sl,h1.get? b=some { ob with slots:=sl }:=by
 by_cases hb:b∈fs
 ·exact u.slot b ob q n hb hx
 ·exact ⟨ob.slots,u.keep b ob q n hb hx⟩
theorem Un.kept(k:∀ b u,h.get? b=some u→h'.get? b=some u):Un fs ex H H h h':=
 ⟨fun b ob q _ _ _=>k b ob q,fun b ob q _ _ _=>⟨ob.slots,k b ob q⟩,fun _ _ _ n _=>n,fun b ob q _=>⟨ob,k b ob q⟩,fun _ _ q=>q,fun _ _ _ q=>q,fun _ ps q=>⟨#[],by rw [q];simp⟩⟩
theorem Un.refl:Un fs ex H H h h:=Un.kept fun _ _ q=>q
theorem Un.laid(k:∀ b u,h.get? b=some u→h'.get? b=some u)(hp:h.objs.size≤a)(hn:H a=none):Un fs ex H (upd H a o) h h' where
 keep:=fun b u q _ _ _=>k b u q
 slot:=fun b u q _ _ _=>⟨u.slots,k b u q⟩
 free:=fun b u q n _=>by rw [af (Nat.ne_of_lt (Nat.lt_of_lt_of_le (Heap.lt_size q) hp))];exact n
 there:=fun b u q _=>⟨u,k b u q⟩
 tups:=fun b xs q=>by rw [af (al q hn)];exact q
 frzs:=fun b u xs q=>by rw [af (al q hn)];exact q
 tbls:=fun b ps q=>⟨#[],by rw [af (al q hn),q];simp⟩
theorem Un.write(mu:Mut (H x))(he:e=x∨H e=some (.own x))(k:∀ b u,b≠e→h.get? b=some u→h'.get? b=some u)(heo:∃ u,h'.get? e=some u):Un fs ex H (upd H x o) h h':=by
 have hx:∀ b,H b=none→b≠x:=fun b n z=>by subst z;rw [n] at mu;exact mu
 have hb:∀ b,H b=none→b≠e:=fun b n z=>by
  subst z
  rcases he with r | r
  ·exact hx b n r
  ·rw [n] at r;cases r
 have hm:∀ b u,H b=some u→¬ Mut (some u)→b≠x:=fun b u q nm z=>by subst z;rw [q] at mu;exact nm mu
 refine ⟨fun b u q n _ _=>k b u (hb b n) q,fun b u q n _ _=>⟨u.slots,k b u (hb b n) q⟩,fun b u q n _=>by rw [af (hx b n)];exact n,fun b u q _=> ?_,
  fun b xs q=>by rw [af (hm b _ q fun z=>z)];exact q,fun b u xs q=>by rw [af (hm b _ q fun z=>z)];exact q,fun b ps q=>⟨#[],by rw [af (hm b _ q fun z=>z),q];simp⟩⟩
 by_cases hbe:b=e
 ·subst hbe;exact heo
 ·exact ⟨u,k b u hbe q⟩
end
def trk(h:Heap)(H:Hp):List Addr:=(List.range h.objs.size).filter fun a=>(H a).isSome
def lI(h:Heap)(H:Hp):Heap:=PySem.W.hideAll h (trk h H)
theorem qk(h:Heap)(H:Hp):(lI h H).objs.size=h.objs.size:=PySem.W.hideAll_size _ _
theorem hidT_get{h:Heap}{H:Hp}{b:Addr}{o:Obj}(e:h.get? b=some o)(n:H b=none):(lI h H).get? b=some o:=
 PySem.W.hideAll_get _ e fun hm=>by
  have q:(H b).isSome=true:=(List.mem_filter.mp hm).2
  rw [n] at q;simp at q
theorem of_hidT{h:Heap}{H:Hp}{b:Addr}{o:Obj}(e:(lI h H).get? b=some o):h.get? b=some o∧H b=none:=by
 have e':h.get? b=some o:=PySem.W.of_hideAll (trk h H) e
 refine ⟨e',?_⟩
 cases q:H b with
 | none=>rfl
 | some x=>
  have hm:b∈trk h H:=List.mem_filter.mpr ⟨List.mem_range.mpr (Heap.lt_size e'),by simp [q]⟩
  have z:(lI h H).get? b=none:=PySem.W.hideAll_none (trk h H) hm
  rw [z] at e;cases e
def allNews(g h:Heap)(L:Addr):List (Addr×Obj):=(List.range h.objs.size).filterMap fun a=>if a=L∨(g.get? a).isSome=true then none else (h.get? a).map fun o=>(a,o)
def rest(g h:Heap)(L d:Addr):List (Addr×Obj):=(allNews g h L).filter fun p=>decide (p.1≠d)
structure Mod(K:PySem.W.Frag)(mg:Str→Option Value)(base:Heap):Prop where
 kin:K.In base
 glob:base.Ns mainGlobals mg
 blt:∃ mb,base.Ns builtinsNs mb∧∀ x:Str,x ≠ "__name__" → mb x=bootBuiltins x
 nolimit:base.NoLimit
structure Cx where
 prog:Program
 w:World
 K:PySem.W.Frag
 mg:Str→Option Value
 base:Heap
 A:Around
 N:List Str
 s_0:Shared
 H_0:Hp
 env:Env
 outer:List Env
 stack:List Env
 ex:List Addr
 fn:Str→Bool
 calm:Bool
 pn:List (Addr×Obj)
 xe:Value→Shared→Prop
def frs(l:List Env):List Addr:=l.filterMap (·.frame)
abbrev Cx.fs(X:Cx):List Addr:=frs X.outer
def Vis(sc:Scope)(x:Str):Prop:=sc.names.lookup x=some .local∨sc.names.lookup x=some .cell∨sc.names.lookup x=some .free
def Loc(sc:Scope)(x:Str):Prop:=sc.names.lookup x=some .local∨sc.names.lookup x=some .cell
def Look(env:Env)(h:Heap)(m:Str→Option Value)(x:Str)(u:Value):Prop:=
 (env.kindOf x=some .local∧m x=some u)∨((env.kindOf x=some .cell∨env.kindOf x=some .free)∧∃ c,env.cells.lookup x=some c∧h.IsCell c (some u))
structure Cx.Ok(X:Cx):Prop where
 mod:Mod X.K X.mg X.base
 kind:X.env.scope.kind = .function
 glob:X.env.globals=mainGlobals
 blt:X.env.builtins=builtinsNs
 above:X.s_0.heap.objs.size≤X.env.locals
 inj:∀ x y c,X.env.cells.lookup x=some c→X.env.cells.lookup y=some c→x=y
 has:∀ x,(X.env.kindOf x=some .cell∨X.env.kindOf x=some .free)→∃ c,X.env.cells.lookup x=some c
 cab:∀ x c,X.fn x=true→X.env.cells.lookup x=some c→X.s_0.heap.objs.size≤c
 hd:X.calm=true→X.A.handled=none
 frames:X.A.frames=some X.stack
 stk:X.stack=X.outer∨(X.stack=X.env :: X.outer∧X.env.frame=some X.env.locals)
 exf:∀ b∈X.ex,b≠X.env.locals∧∀ x c,X.env.cells.lookup x=some c→c≠b
 bs:∀ b o,X.base.get? b=some o→X.s_0.heap.get? b=some o∧X.H_0 b=none
 bsz:X.base.objs.size≤X.s_0.heap.objs.size
 noex:∀ b o,X.base.get? b=some o→b∉X.ex
 exfs:∀ b∈X.ex,b∉X.fs
 funs:X.s_0.heap.FunFrames X.base X.outer
 frf:∀ b∈X.fs,X.H_0 b=none
structure Inv(X:Cx)(pins:List (Addr×Obj))(σ : List (Option V))(H:Hp)(s:Shared):Prop where
 ok:X.Ok
 os:s.os=X.s_0.os
 bare:AllBare s.gens
 base:Un X.fs X.ex X.H_0 H X.s_0.heap s.heap
 loc:∃ m,s.heap.Ns X.env.locals m∧∀ (i:Nat) (x:Str) (v:V),X.N[i]? = some x→σ[i]? = some (some v)→Vis X.env.scope x→∃ u,b6 v u∧Look X.env s.heap m x u
 cell:∀ x c,X.env.cells.lookup x=some c→∃ v,s.heap.IsCell c v
 free:H X.env.locals=none
 freeC:∀ x c,X.env.cells.lookup x=some c→H c=none
 pin:∀ p∈X.pn ++ pins,s.heap.get? p.1=some p.2∧H p.1=none∧p.1≠X.env.locals∧p.1∉X.fs∧∀ v,p.2.data ≠ .cell v
 hok:HOk X.prog X.w H s.heap
 len : σ.length=X.N.length
section
variable{X:Cx}{pins:List (Addr×Obj)}{σ : List (Option V)}{H H':Hp}{s:Shared}{h':Heap}
theorem Cx.Ok.nofr(ok:X.Ok){b:Addr}{o:Obj}(e:X.base.get? b=some o):b∉X.fs:=fun hb=>by
 have:=(ok.funs.mem hb).1
 rw [e] at this;cases this
theorem Inv.bs(I:Inv X pins σ H s):∀ b o,X.base.get? b=some o→s.heap.get? b=some o∧H b=none:=fun b o e=>
 ⟨I.base.keep b o (I.ok.bs b o e).1 (I.ok.bs b o e).2 (I.ok.nofr e) (I.ok.noex b o e),I.base.free b o (I.ok.bs b o e).1 (I.ok.bs b o e).2 (I.ok.noex b o e)⟩
theorem Inv.bk(I:Inv X pins σ H s):∀ b o,X.base.get? b=some o→s.heap.get? b=some o:=fun b o e=>(I.bs b o e).1
theorem Inv.mod(I:Inv X pins σ H s):Mod X.K X.mg X.base:=I.ok.mod
theorem Inv.kIn(I:Inv X pins σ H s):X.K.In s.heap:=I.ok.mod.kin.keeps I.bk
theorem Inv.lt(I:Inv X pins σ H s):X.env.locals < s.heap.objs.size:=let ⟨_,hn,_⟩:=I.loc;hn.lt
theorem Inv.sz(I:Inv X pins σ H s):X.s_0.heap.objs.size≤s.heap.objs.size:=Nat.le_trans I.ok.above (Nat.le_of_lt I.lt)
theorem Inv.nofs(I:Inv X pins σ H s){a:Addr}(h:s.heap.objs.size≤a):a∉X.fs:=fun hb=>by
 obtain ⟨_,o,ho,_⟩:=I.ok.funs.mem hb
 exact absurd (Nat.lt_of_lt_of_le (Heap.lt_size ho) (Nat.le_trans I.sz h)) (Nat.lt_irrefl _)
theorem Inv.cne(I:Inv X pins σ H s):∀ x c,X.env.cells.lookup x=some c→c≠X.env.locals:=fun x c e z=>by
 obtain ⟨v,o,ho,hd⟩:=I.cell x c e
 obtain ⟨m,⟨o',es,ep,ho',hd',_⟩,_⟩:=I.loc
 rw [z,ho'] at ho;cases ho;rw [hd'] at hd;cases hd
theorem Inv.funs(I:Inv X pins σ H s):s.heap.FunFrames X.base X.outer:=by
 have all:∀ (l:List Env),(∀ b∈frs l,b∈X.fs)→X.s_0.heap.FunFrames X.base l→s.heap.FunFrames X.base l:=by
  intro l
  induction l with
  | nil=>intro _ _;trivial
  | cons env r ih=>
   intro hs hl
   obtain ⟨hk,⟨L,o,hf,hn,ho,hd⟩,hr⟩:=hl
   have hL:L∈X.fs:=hs L (by unfold frs;rw [List.filterMap_cons,hf];exact List.mem_cons_self)
   obtain ⟨sl,e⟩:=I.base.slot L o ho (I.ok.frf L hL) hL fun z=>I.ok.exfs L z hL
   exact ⟨hk,⟨L,_,hf,hn,e,hd⟩,ih (fun b hb=>hs b (by unfold frs;rw [List.filterMap_cons,hf];exact List.mem_cons_of_mem _ hb)) hr⟩
 exact all X.outer (fun _ hb=>hb) I.ok.funs
theorem Inv.stack(I:Inv X pins σ H s):s.heap.FunFrames X.base X.stack:=by
 rcases I.ok.stk with e | ⟨e,hf⟩
 ·rw [e];exact I.funs
 ·rw [e]
  obtain ⟨m,hn,_⟩:=I.loc
  refine .cons (by rw [I.ok.kind];decide) hf hn ?_ I.funs
  exact Heap.get?_none_of_le (Nat.le_trans I.ok.bsz I.ok.above)
theorem Inv.stkSub(I:Inv X pins σ H s):∀ b∈frs X.stack,b∈X.env.locals :: X.fs:=fun b hb=>by
 rcases I.ok.stk with e | ⟨e,hf⟩
 ·rw [e] at hb;exact List.mem_cons_of_mem _ hb
 ·rw [e] at hb
  unfold frs at hb
  rw [List.filterMap_cons,hf] at hb
  exact hb
theorem Inv.stkFree(I:Inv X pins σ H s):∀ b∈frs X.stack,H b=none:=fun b hb=>by
 rcases List.mem_cons.mp (I.stkSub b hb) with e | hb
 ·rw [e];exact I.free
 ·obtain ⟨_,o,ho,_⟩:=I.ok.funs.mem hb
  exact I.base.free b o ho (I.ok.frf b hb) fun z=>I.ok.exfs b z hb
theorem Inv.step{g':Array GenState}{t':Nat}{d':Drawn}{ch:List Addr}(I:Inv X pins σ H s)
  (hch:∀ b∈ch,(b∈X.ex∨X.s_0.heap.objs.size≤b)∧b≠X.env.locals∧(∀ x c,X.env.cells.lookup x=some c→c≠b)∧∀ p∈X.pn ++ pins,p.1≠b)
  (keep:∀ b o,b≠X.env.locals→b∉X.fs→b∉ch→s.heap.get? b=some o→H b=none→h'.get? b=some o)
  (slot:∀ b o,b≠X.env.locals→b∈X.fs→b∉ch→s.heap.get? b=some o→H b=none→∃ sl,h'.get? b=some { o with slots:=sl }) (free:∀ b o,b∉ch→s.heap.get? b=some o→H b=none→H' b=none)
  (there:∀ b o,b∉ch→s.heap.get? b=some o→∃ o',h'.get? b=some o')
  (tups:∀ b xs,H b=some (.tup xs)→H' b=some (.tup xs)) (frzs:∀ b o u,H b=some (.frz o u)→H' b=some (.frz o u)) (tbls:∀ b ps,H b=some (.tbl ps)→∃ more,H' b=some (.tbl (ps ++ more)))
  (ns:∀ m,s.heap.Ns X.env.locals m→h'.Ns X.env.locals m) (hok:HOk X.prog X.w H' h') (hg:AllBare g') :
  Inv X pins σ H' { s with heap:=h',gens:=g',drawn:=d',toks:=t' }:=by
 have neL:∀ b o,X.s_0.heap.get? b=some o→b≠X.env.locals:=fun b o e=>Nat.ne_of_lt (Nat.lt_of_lt_of_le (Heap.lt_size e) I.ok.above)
 have neC:∀ b o,X.s_0.heap.get? b=some o→b∉X.ex→b∉ch:=fun b o e hx hb=>by
  rcases (hch b hb).1 with z | z
  ·exact hx z
  ·exact absurd (Nat.lt_of_lt_of_le (Heap.lt_size e) z) (Nat.lt_irrefl _)
 have cellK:∀ x c,X.env.cells.lookup x=some c→∀ v,s.heap.IsCell c v→h'.IsCell c v:=fun x c e v ⟨o,ho,hd⟩=>by
  have nch:c∉ch:=fun z=>(hch c z).2.2.1 x c e rfl
  by_cases hc:c∈X.fs
  ·obtain ⟨sl,q⟩:=slot c o (I.cne x c e) hc nch ho (I.freeC x c e)
   exact ⟨_,q,hd⟩
  ·exact ⟨o,keep c o (I.cne x c e) hc nch ho (I.freeC x c e),hd⟩
 refine ⟨I.ok,I.os,hg,⟨fun b o e n hb hx=> ?_,fun b o e n hb hx=> ?_,fun b o e n hx=> ?_,fun b o e hx=> ?_,fun b xs e=>tups b xs (I.base.tups b xs e),fun b o xs e=>frzs b o xs (I.base.frzs b o xs e),fun b ps e=> ?_⟩,?_,fun x c e=> ?_,?_,fun x c e=> ?_,fun p hp=> ?_,hok,I.len⟩
 ·exact keep b o (neL b o e) hb (neC b o e hx) (I.base.keep b o e n hb hx) (I.base.free b o e n hx)
 ·obtain ⟨sl,e1⟩:=I.base.slot b o e n hb hx
  obtain ⟨sl',e2⟩:=slot b _ (neL b o e) hb (neC b o e hx) e1 (I.base.free b o e n hx)
  exact ⟨sl',e2⟩
 ·obtain ⟨o',e1⟩:=I.base.there b o e hx
  exact free b o' (neC b o e hx) e1 (I.base.free b o e n hx)
 ·obtain ⟨o',e1⟩:=I.base.there b o e hx
  exact there b o' (neC b o e hx) e1
 ·obtain ⟨m1,e1⟩:=I.base.tbls b ps e
  obtain ⟨m2,e2⟩:=tbls b _ e1
  exact ⟨m1 ++ m2,by rw [e2,Array.append_assoc]⟩
 ·obtain ⟨m,hn,hl⟩:=I.loc
  refine ⟨m,ns m hn,fun i x v e1 e2 e3=> ?_⟩
  obtain ⟨u,r,l⟩:=hl i x v e1 e2 e3
  refine ⟨u,r,?_⟩
  rcases l with l | ⟨k,c,e,z⟩
  ·exact .inl l
  ·exact .inr ⟨k,c,e,cellK x c e _ z⟩
 ·obtain ⟨v,z⟩:=I.cell x c e
  exact ⟨v,cellK x c e v z⟩
 ·obtain ⟨m,⟨o,_,_,ho,_⟩,_⟩:=I.loc
  exact free _ o (fun z=>(hch _ z).2.1 rfl) ho I.free
 ·obtain ⟨v,o,ho,hd⟩:=I.cell x c e
  exact free c o (fun z=>(hch c z).2.2.1 x c e rfl) ho (I.freeC x c e)
 ·obtain ⟨e,n,ne,nf,d⟩:=I.pin p hp
  have nch:p.1∉ch:=fun z=>(hch p.1 z).2.2.2 p hp rfl
  exact ⟨keep p.1 p.2 ne nf nch e n,free p.1 p.2 nch e n,ne,nf,d⟩
theorem Inv.un{t':Nat}(I:Inv X pins σ H s)(u:Un X.fs [] H H' s.heap h')(hok:HOk X.prog X.w H' h'):Inv X pins σ H' { s with heap:=h',toks:=t' }:=by
 obtain ⟨m,⟨o,es,ep,ho,r⟩,_⟩:=id I.loc
 obtain ⟨sl,hL⟩:=u.any ho I.free (by simp)
 exact I.step (g':=s.gens) (d':=s.drawn) (ch:=[]) (fun _ z=>nomatch z) (fun b o _ hb _ e n=>u.keep b o e n hb (by simp)) (fun b o _ hb _ e n=>u.slot b o e n hb (by simp)) (fun b o _ e n=>u.free b o e n (by simp)) (fun b o _ e=>u.there b o e (by simp)) u.tups u.frzs u.tbls (fun m' hm=>by
  obtain ⟨o',es',ep',ho',r'⟩:=hm
  rw [ho] at ho';cases ho'
  exact ⟨_,es',ep',hL,r'⟩) hok I.bare
theorem Inv.call{g':Array GenState}{t':Nat}{d':Drawn}{ch:List Addr}(I:Inv X pins σ H s)(u:Un (frs X.stack) ch H H' s.heap h')(hok:HOk X.prog X.w H' h')(hg:AllBare g')
  (hch:∀ b∈ch,(b∈X.ex∨X.s_0.heap.objs.size≤b)∧b≠X.env.locals∧(∀ x c,X.env.cells.lookup x=some c→c≠b)∧∀ p∈X.pn ++ pins,p.1≠b) :
  Inv X pins σ H' { s with heap:=h',gens:=g',drawn:=d',toks:=t' }:=by
 obtain ⟨m,⟨o,es,ep,ho,r⟩,_⟩:=id I.loc
 obtain ⟨sl,hL⟩:=u.any ho I.free fun z=>(hch _ z).2.1 rfl
 exact I.step (ch:=ch) hch (fun b o hL hb hc e n=>u.keep b o e n (fun z=>(List.mem_cons.mp (I.stkSub b z)).elim hL hb) hc) (fun b o _ _ hc e n=>u.any e n hc) (fun b o hc e n=>u.free b o e n hc) (fun b o hc e=>u.there b o e hc) u.tups u.frzs u.tbls (fun m' hm=>by
  obtain ⟨o',es',ep',ho',r'⟩:=hm
  rw [ho] at ho';cases ho'
  exact ⟨_,es',ep',hL,r'⟩) hok hg
theorem Inv.turned{t':Nat}{it:Addr}(I:Inv X pins σ H s)(k:∀ b o,b≠it→s.heap.get? b=some o→h'.get? b=some o)(hn:H it=none)(hL:it≠X.env.locals)
  (h1:it∈X.ex∨X.s_0.heap.objs.size≤it) (h2:∀ x c,X.env.cells.lookup x=some c→c≠it) (h3:∀ p∈X.pn ++ pins,p.1≠it):Inv X pins σ H { s with heap:=h',toks:=t' }:=by
 have nit:∀ b u,H b=some u→b≠it:=fun b u e z=>by rw [z,hn] at e;cases e
 refine I.step (g':=s.gens) (d':=s.drawn) (ch:=[it]) (fun b hb=> ?_) (fun b o _ _ hc e _=>k b o (fun z=>hc (by simp [z])) e) (fun b o _ _ hc e _=>⟨o.slots,k b o (fun z=>hc (by simp [z])) e⟩) (fun _ _ _ _ n=>n)
  (fun b o hc e=>⟨o,k b o (fun z=>hc (by simp [z])) e⟩) (fun _ _ e=>e) (fun _ _ _ e=>e) (fun b ps e=>⟨#[],by rw [e];simp⟩) (fun m hm=> ?_) (fun b u e=> ?_) I.bare
 ·have e:b=it:=by simpa using hb
  subst e
  exact ⟨h1,hL,h2,h3⟩
 ·obtain ⟨o,es,ep,ho,r⟩:=hm
  exact ⟨o,es,ep,k _ o (Ne.symm hL) ho,r⟩
 ·refine (I.hok b u e).stay (fun c v hc q=>k c v ?_ q) (fun _ q=>q) fun _ _ q=>q
  rcases hc with z | z
  ·rw [z];exact nit b u e
  ·exact nit c _ z
theorem Inv.tok(I:Inv X pins σ H s)(t:Nat):Inv X pins σ H { s with toks:=t }:=I.un (h':=s.heap) (t':=t) Un.refl I.hok
theorem Inv.kept{t':Nat}(I:Inv X pins σ H s)(k:∀ b u,s.heap.get? b=some u→h'.get? b=some u):Inv X pins σ H { s with heap:=h',toks:=t' }:=I.un (Un.kept k) (I.hok.kept k)
theorem Inv.laid{a:Addr}{o:HO}{t':Nat}(I:Inv X pins σ H s)(k:∀ b u,s.heap.get? b=some u→h'.get? b=some u)(hp:s.heap.objs.size≤a)(new:be X.prog X.w (upd H a o) h' a o) :
  Inv X pins σ (upd H a o) { s with heap:=h',toks:=t' }:=I.un (Un.laid k hp (I.hok.fresh hp)) (I.hok.laid k hp new)
theorem Inv.write{x e:Addr}{o:HO}{t':Nat}(I:Inv X pins σ H s)(mu:Mut (H x))(he:e=x∨H e=some (.own x))(k:∀ b u,b≠e→s.heap.get? b=some u→h'.get? b=some u)(heo:∃ u,h'.get? e=some u)
  (new:be X.prog X.w (upd H x o) h' x o):Inv X pins σ (upd H x o) { s with heap:=h',toks:=t' }:=I.un (Un.write mu he k heo) (I.hok.write mu he k heo new)
theorem Inv.weak{σ':List (Option V)}(I:Inv X pins σ H s)(hl : σ'.length = σ.length)(w:∀ (i:Nat) v,σ'[i]? = some (some v)→σ[i]? = some (some v)):Inv X pins σ' H s:=
 ⟨I.ok,I.os,I.bare,I.base,let ⟨m,hn,hl'⟩:=I.loc;⟨m,hn,fun i x v e1 e2 e3=>hl' i x v e1 (w i v e2) e3⟩,I.cell,I.free,I.freeC,I.pin,I.hok,hl.trans I.len⟩
theorem Inv.pins_of{pins':List (Addr×Obj)}(I:Inv X pins σ H s)(h:∀ p∈pins',s.heap.get? p.1=some p.2∧H p.1=none∧p.1≠X.env.locals∧p.1∉X.fs∧∀ v,p.2.data ≠ .cell v):Inv X pins' σ H s:=
 ⟨I.ok,I.os,I.bare,I.base,I.loc,I.cell,I.free,I.freeC,fun p hp=>(List.mem_append.mp hp).elim (fun z=>I.pin p (List.mem_append_left _ z)) (h p),I.hok,I.len⟩
theorem kc{N:List Str}(hN:N.Nodup){i j:Nat}{x:Str}(a:N[i]? = some x)(b:N[j]? = some x):i=j:=by
 obtain ⟨h1,e1⟩:=List.getElem?_eq_some_iff.mp a
 obtain ⟨h2,e2⟩:=List.getElem?_eq_some_iff.mp b
 exact (List.getElem_inj hN).mp (e1.trans e2.symm)
theorem l8{M:Model}{A:Around}{E:Value→Shared→Prop}{i:Nat}{x:Str}{v:V}{u:Value}{Q:Unit→Shared→Prop}(I:Inv X pins σ H s)(hN:X.N.Nodup)(hi:X.N[i]? = some x)(hx:Loc X.env.scope x)(r:b6 v u)
  (h:∀ s',Inv X pins (σ.set i (some v)) H s'→(∃ a,Heap.SameBut a s.heap s'.heap∧(a=X.env.locals∨X.env.cells.lookup x=some a))→Q () s') (hf:X.fn x=true∨X.env.scope.names.lookup x=some .local:=by first | exact .inl rfl | exact .inr rfl | assumption):wpAny M A (storeName X.env x u) Q E s:=by
 obtain ⟨m,hn,hl⟩:=id I.loc
 have hcls:(X.env.scope.kind == .class || (X.env.scope.kind == .module && X.env.locals != X.env.globals))=false:=by rw [I.ok.kind];rfl
 have hiσ : i < σ.length:=by rw [I.len];exact (List.getElem?_eq_some_iff.mp hi).1
 have cne:=I.cne
 have tracked:∀ {a:Addr} {h':Heap},(∃ o,s.heap.get? a=some o∧H a=none)→Heap.SameBut a s.heap h'→HOk X.prog X.w H h':=fun {a h'} ha hs b ob e=>by
  obtain ⟨_,_,hfree⟩:=ha
  refine (I.hok b ob e).stay (fun c w' hc q=>(hs.2 c ?_).trans q) (fun _ q=>q) fun _ _ q=>q
  rintro rfl
  rcases hc with rfl | hc
  ·rw [hfree] at e;cases e
  ·rw [hfree] at hc;cases hc
 rcases hx with hk | hk
 ·refine wpAny_storeName_local hk hn (fun h' hn' hs=> ?_) hcls
  obtain ⟨oL,_,_,hoL,_⟩:=id hn
  refine h _ ⟨I.ok,I.os,I.bare,⟨fun b o e n hb hx=> ?_,fun b o e n hb hx=> ?_,I.base.free,fun b o e hx=> ?_,I.base.tups,I.base.frzs,I.base.tbls⟩,⟨_,hn',fun j y v' e1 e2 e3=> ?_⟩,fun y c e=> ?_,I.free,I.freeC,fun p hp=> ?_,tracked ⟨oL,hoL,I.free⟩ hs,by simpa using I.len⟩ ⟨_,hs,.inl rfl⟩
  ·exact (hs.2 b (Nat.ne_of_lt (Nat.lt_of_lt_of_le (Heap.lt_size e) I.ok.above))).trans (I.base.keep b o e n hb hx)
  ·obtain ⟨sl,e1⟩:=I.base.slot b o e n hb hx
   exact ⟨sl,(hs.2 b (Nat.ne_of_lt (Nat.lt_of_lt_of_le (Heap.lt_size e) I.ok.above))).trans e1⟩
  ·obtain ⟨o',e1⟩:=I.base.there b o e hx
   exact ⟨o',(hs.2 b (Nat.ne_of_lt (Nat.lt_of_lt_of_le (Heap.lt_size e) I.ok.above))).trans e1⟩
  ·by_cases hj:j=i
   ·subst hj
    rw [hi] at e1;cases e1
    rw [List.getElem?_set_self hiσ] at e2
    cases e2
    exact ⟨u,r,.inl ⟨hk,by simp⟩⟩
   ·rw [List.getElem?_set_ne (Ne.symm hj)] at e2
    obtain ⟨u',r',q⟩:=hl j y v' e1 e2 e3
    refine ⟨u',r',?_⟩
    rcases q with ⟨k,e⟩ | ⟨k,c,e,z⟩
    ·refine .inl ⟨k,?_⟩
     have:y≠x:=fun e=>hj (kc hN e1 (e ▸ hi))
     simp [this,e]
    ·exact .inr ⟨k,c,e,z.sameBut hs (cne y c e)⟩
  ·obtain ⟨w',z⟩:=I.cell y c e
   exact ⟨w',z.sameBut hs (cne y c e)⟩
  ·obtain ⟨e,n,ne,nf,d⟩:=I.pin p hp
   exact ⟨(hs.2 p.1 ne).trans e,n,ne,nf,d⟩
 ·have hfn:X.fn x=true:=by
   rcases hf with z | z
   ·exact z
   ·rw [z] at hk;cases hk
  obtain ⟨c,hc⟩:=I.ok.has x (.inl hk)
  obtain ⟨w',z⟩:=I.cell x c hc
  refine wpAny_storeName_cell I.ok.kind hk hc z (fun h' hc' hs=> ?_)
  obtain ⟨oc,hoc,hocd⟩:=id z
  refine h { s with heap:=h' } ⟨I.ok,I.os,I.bare,⟨fun b o e n hb hx=> ?_,fun b o e n hb hx=> ?_,I.base.free,fun b o e hx=> ?_,I.base.tups,I.base.frzs,I.base.tbls⟩,⟨m,hn.sameBut hs (Ne.symm (cne x c hc)),fun j y v' e1 e2 e3=> ?_⟩,fun y c' e=> ?_,I.free,I.freeC,fun p hp=> ?_,tracked ⟨oc,hoc,I.freeC x c hc⟩ hs,by simpa using I.len⟩ ⟨c,hs,.inr hc⟩
  ·exact (hs.2 b (Nat.ne_of_lt (Nat.lt_of_lt_of_le (Heap.lt_size e) (I.ok.cab x c hfn hc)))).trans (I.base.keep b o e n hb hx)
  ·obtain ⟨sl,e1⟩:=I.base.slot b o e n hb hx
   exact ⟨sl,(hs.2 b (Nat.ne_of_lt (Nat.lt_of_lt_of_le (Heap.lt_size e) (I.ok.cab x c hfn hc)))).trans e1⟩
  ·obtain ⟨o',e1⟩:=I.base.there b o e hx
   exact ⟨o',(hs.2 b (Nat.ne_of_lt (Nat.lt_of_lt_of_le (Heap.lt_size e) (I.ok.cab x c hfn hc)))).trans e1⟩
  ·by_cases hj:j=i
   ·subst hj
    rw [hi] at e1;cases e1
    rw [List.getElem?_set_self hiσ] at e2
    cases e2
    exact ⟨u,r,.inr ⟨.inl hk,c,hc,hc'⟩⟩
   ·rw [List.getElem?_set_ne (Ne.symm hj)] at e2
    obtain ⟨u',r',q⟩:=hl j y v' e1 e2 e3
    refine ⟨u',r',?_⟩
    rcases q with q | ⟨k,c',e,z'⟩
    ·exact .inl q
    ·refine .inr ⟨k,c',e,z'.sameBut hs ?_⟩
     rintro rfl
     exact hj (kc hN e1 (I.ok.inj _ _ _ e hc ▸ hi))
  ·by_cases hcc:c'=c
   ·subst hcc;exact ⟨_,hc'⟩
   ·obtain ⟨w2,z2⟩:=I.cell y c' e
    exact ⟨w2,z2.sameBut hs hcc⟩
  ·obtain ⟨e,n,ne,nf,d⟩:=I.pin p hp
   refine ⟨(hs.2 p.1 ?_).trans e,n,ne,nf,d⟩
   intro q
   rw [q,hoc] at e
   have q':oc=p.2:=Option.some.inj e
   exact d w' (by rw [← q'];exact hocd)
theorem mV{M:Model}{A:Around}{E:Value→Shared→Prop}{i:Nat}{x:Str}{v:V}{u:Value}{Q:Unit→Shared→Prop}(I:Inv X pins σ H s)(hN:X.N.Nodup)(hi:X.N[i]? = some x)(hx:Loc X.env.scope x)(r:b6 v u)
  (h:∀ s',Inv X pins (σ.set i (some v)) H s'→Q () s') (hf:X.fn x=true∨X.env.scope.names.lookup x=some .local:=by first | exact .inl rfl | exact .inr rfl | assumption):wpAny M A (storeName X.env x u) Q E s:=
 l8 I hN hi hx r (fun s' I' _=>h s' I') hf
theorem Inv.call'{s':Shared}{ch:List Addr}(I:Inv X pins σ H s)(ho:s'.os=s.os)(u:Un (frs X.stack) ch H H' s.heap s'.heap)(hok:HOk X.prog X.w H' s'.heap)(hg:AllBare s'.gens)
  (hch:∀ b∈ch,(b∈X.ex∨X.s_0.heap.objs.size≤b)∧b≠X.env.locals∧(∀ x c,X.env.cells.lookup x=some c→c≠b)∧∀ p∈X.pn ++ pins,p.1≠b):Inv X pins σ H' s':=by
 obtain ⟨h',g',d',t',o'⟩:=s'
 have e:o'=s.os:=ho
 subst e
 exact I.call (g':=g') (t':=t') (d':=d') u hok hg hch
end
abbrev XK:=Value→Option Addr→Hp→Prop
abbrev St:=List (Option V)
abbrev VK:=V→Hp→Prop
abbrev TE:=St→Hp→VK→Prop
abbrev TT:=St→Hp→(Bool→Hp→Prop)→Prop
abbrev TA:=St→Hp→(List V→Hp→Prop)→Prop
structure i6 where
 nx:St→Hp→Prop
 rt:VK
 bk:St→Hp→Prop:=fun _ _=>False
 ct:St→Hp→Prop:=fun _ _=>False
abbrev TS:=i6→St→Hp→Prop
def EP(X:Cx)(pins:List (Addr×Obj))(σ : St)(Q:VK)(u:Value)(s':Shared):Prop:=∃ v H',Inv X pins σ H' s'∧b6 v u∧Q v H'
def TP(X:Cx)(pins:List (Addr×Obj))(σ : St)(Q:Bool→Hp→Prop)(b:Bool)(s':Shared):Prop:=∃ H',Inv X pins σ H' s'∧Q b H'
def AP(X:Cx)(pins:List (Addr×Obj))(σ : St)(Q:List V→Hp→Prop)(us:List Value)(s':Shared):Prop:=∃ vs H',Inv X pins σ H' s'∧aR vs us∧Q vs H'
def SP(X:Cx)(pins:List (Addr×Obj))(D:i6)(f:Flow)(s':Shared):Prop:=
 match f with
 | .next=>∃ σ' H',Inv X pins σ' H' s'∧D.nx σ' H'
 | .brk=>∃ σ' H',Inv X pins σ' H' s'∧D.bk σ' H'
 | .cont=>∃ σ' H',Inv X pins σ' H' s'∧D.ct σ' H'
 | .ret u=>∃ v σ' H',Inv X pins σ' H' s'∧b6 v u∧D.rt v H'
def PE(X:Cx)(e:Expr)(t:TE):Prop:=
 ∀ (pins:List (Addr×Obj)) (s:Shared) (σ : St) (H:Hp) (Q:VK),Inv X pins σ H s→t σ H Q→wpAny (model X.prog X.w) X.A (eval e X.env) (EP X pins σ Q) X.xe s
def PT(X:Cx)(e:Expr)(t:TT):Prop:=
 ∀ (pins:List (Addr×Obj)) (s:Shared) (σ : St) (H:Hp) (Q:Bool→Hp→Prop),Inv X pins σ H s→t σ H Q→wpAny (model X.prog X.w) X.A (isTrue e X.env (eval e X.env)) (TP X pins σ Q) X.xe s
def PW(X:Cx)(e:Expr)(t:TT):Prop:=
 ∀ (whole:Sem Value) (pins:List (Addr×Obj)) (s:Shared) (σ : St) (H:Hp) (Q:Bool→Hp→Prop),Inv X pins σ H s→t σ H Q→wpAny (model X.prog X.w) X.A (isTrue e X.env whole) (TP X pins σ Q) X.xe s
theorem PW.pt{X:Cx}{e:Expr}{t:TT}(h:PW X e t):PT X e t:=h _
def PA(X:Cx)(es:List Expr)(t:TA):Prop:=
 ∀ (pos:Pos) (pins:List (Addr×Obj)) (s:Shared) (σ : St) (H:Hp) (Q:List V→Hp→Prop),Inv X pins σ H s→t σ H Q→wpAny (model X.prog X.w) X.A (spliced (backTo pos (starEach es X.env))) (AP X pins σ Q) X.xe s
def PS(X:Cx)(st:Stmt)(t:TS):Prop:=
 ∀ (pins:List (Addr×Obj)) (s:Shared) (σ : St) (H:Hp) (D:i6),Inv X pins σ H s→t D σ H→wpAny (model X.prog X.w) X.A (exec st X.env) (SP X pins D) X.xe s
def PSs(X:Cx)(st:List Stmt)(t:TS):Prop:=
 ∀ (pins:List (Addr×Obj)) (s:Shared) (σ : St) (H:Hp) (D:i6),Inv X pins σ H s→t D σ H→wpAny (model X.prog X.w) X.A (execs st X.env) (SP X pins D) X.xe s
theorem thn{α : Type}{t:Sem α}{Q Q' : α→Shared→Prop}{M:Model}{A:Around}{E:Value→Shared→Prop}{s:Shared}(h:wpAny M A t Q E s)(hQ:∀ a s,Q a s→Q' a s):wpAny M A t Q' E s:=wpAny_mono h hQ fun _ _ x=>x
section
variable{X:Cx}
def bq(i:Nat):TE:=fun σ H Q=>∃ v,σ[i]? = some (some v)∧Q v H
def tC(v:V):TE:=fun _ H Q=>Q v H
theorem pe_var{i:Nat}{x:Str}{pos:Pos}(hN:X.N[i]? = some x)(hv:Vis X.env.scope x)(hd:(x == ("__debug__" : Str))=false:=by decide)(hcd:(x == ("__classdict__" : Str))=false:=by decide):PE X (.Name x pos) (bq i):=by
 intro pins s σ H Q I h
 obtain ⟨v,e,h⟩:=h
 obtain ⟨m,hn,hl⟩:=I.loc
 obtain ⟨u,r,l⟩:=hl i x v hN e hv
 have fin:EP X pins σ Q u s:=⟨v,H,I,r,h⟩
 rcases l with ⟨hk,hm⟩ | ⟨hk,c,hc,hcell⟩
 ·exact wpAny_Name (wpAny_loadName_local I.ok.kind hk hn hm fin) hd
 ·rcases hk with hk | hk
  ·exact wpAny_Name (wpAny_loadName_cell I.ok.kind hk hc hcell fin) hd
  ·exact wpAny_Name (wpAny_loadName_free I.ok.kind hk hc hcell fin hcd) hd
theorem ag{i j pos}:PE X (.Constant (.int i) j pos) (tC (.int i)):=fun _ _ _ H _ I h=>wpAny_Constant_int ⟨.int i,H,I.tok _,⟨_,rfl⟩,h⟩
theorem pe_bl{b j pos}:PE X (.Constant (.bool b) j pos) (tC (.bl b)):=fun _ _ _ H _ I h=>Constant_bool ⟨.bl b,H,I,rfl,h⟩
def Gl(X:Cx)(x:Str):Prop:=X.env.kindOf x=some .globalImplicit
theorem jk{E:Value→Shared→Prop}{pins:List (Addr×Obj)}{s:Shared}{σ : St}{H:Hp}{x:Str}{u:Value}{pos:Pos}{Q:Value→Shared→Prop}(I:Inv X pins σ H s)(hg:Gl X x)(hm:X.mg x=some u)(h:Q u s)
  (hd:(x == ("__debug__" : Str))=false:=by decide):wpAny (model X.prog X.w) X.A (eval (.Name x pos) X.env) Q E s:=
 Calls.Name_function_global I.ok.kind hg (Calls.loadGlobal_global (by rw [I.ok.glob];exact I.mod.glob.keeps I.bk) hm h) hd
theorem kh{E:Value→Shared→Prop}{pins:List (Addr×Obj)}{s:Shared}{σ : St}{H:Hp}{x:Str}{u:Value}{pos:Pos}{Q:Value→Shared→Prop}(I:Inv X pins σ H s)(hg:Gl X x)(hm:X.mg x=none)(hv:bootBuiltins x=some u)(h:Q u s)
  (hn:x ≠ "__name__" := by decide) (hd:(x == ("__debug__" : Str))=false:=by decide):wpAny (model X.prog X.w) X.A (eval (.Name x pos) X.env) Q E s:=by
 obtain ⟨mb,h1,h2⟩:=I.mod.blt
 exact Calls.Name_function_global I.ok.kind hg (Calls.loadGlobal_builtin (by rw [I.ok.glob];exact I.mod.glob.keeps I.bk) hm (by rw [I.ok.blt];exact h1.keeps I.bk) ((h2 x hn).trans hv) h) hd
theorem pM{x:Str}{v:V}{u:Value}{pos:Pos}(hg:Gl X x)(hm:X.mg x=some u)(r:b6 v u)(hd:(x == ("__debug__" : Str))=false:=by decide):PE X (.Name x pos) (tC v):=
 fun _ _ _ H _ I h=>jk I hg hm ⟨v,H,I,r,h⟩ hd
variable{a b:Expr}{ta tb:TE}{pos:Pos}
def PC(X:Cx)(op:CmpOp)(a b:Expr)(t:TE):Prop:=
 ∀ (pins:List (Addr×Obj)) (s:Shared) (σ : St) (H:Hp) (Q:VK),Inv X pins σ H s→t σ H Q →
  wpAny (model X.prog X.w) X.A (eval a X.env) (fun v s₁ =>wpAny (model X.prog X.w) X.A (eval b X.env) (fun u s₂ =>wpAny (model X.prog X.w) X.A (compareOp op v u) (EP X pins σ Q) X.xe s₂) X.xe s₁) X.xe s
def tB(t:TE):TT:=fun σ H Q=>t σ H fun x H1=>∃ c,x = .bl c∧Q c H1
theorem pe_cmp{op:CmpOp}{t:TE}(h:PC X op a b t)(h1:behindInMarks op b=false:=by first | exact nobehind _ (by decide) (by decide) | rfl):PE X (.Compare a [op] [b] pos) t:=fun pins s σ H Q I hw=>wpAny_Compare1 (h pins s σ H Q I hw) h1
theorem br{op:CmpOp}{t:TE}(h:PC X op a b t)(h1:behindInMarks op b=false:=by first | exact nobehind _ (by decide) (by decide) | rfl):PT X (.Compare a [op] [b] pos) (tB t):=by
 intro pins s σ H Q I hw
 refine wpAny_isTrue_Compare1 (thn (h pins s σ H _ I hw) fun v s1 h1=>thn h1 fun u s2 h2=>thn h2 fun c s3 ⟨x,H1,I1,r1,q1⟩=> ?_) h1
 obtain ⟨d,rfl,q⟩:=q1
 cases r1
 exact wpAny_truthy_bool ⟨H1,I1,q⟩
theorem b9{e:Expr}{t:TE}(h:PE X e t)(he:∀ whole,isTrue e X.env whole=(do let v ← whole;standAt e.pos;holding [v] (truthy v)):=by intro _;rfl):PT X e (tB t):=by
 intro pins s σ H Q I hw
 refine isTrue_plain (thn (h pins s σ H _ I hw) fun v s1 ⟨x,H1,I1,r1,q1⟩=> ?_) (he _)
 obtain ⟨d,rfl,q⟩:=q1
 cases r1
 exact wpAny_truthy_bool ⟨H1,I1,q⟩
variable{tA tB':TT}{rest:List Expr}
def tAnd(t u:TT):TT:=fun σ H Q=>t σ H fun c H1=>if c=true then u σ H1 Q else Q false H1
def tOr(t u:TT):TT:=fun σ H Q=>t σ H fun c H1=>if c=true then Q true H1 else u σ H1 Q
def tNot(t:TT):TT:=fun σ H Q=>t σ H fun c H1=>Q (!c) H1
theorem dl(ha:PT X a tA):PW X (.BoolOp .And [a] pos) tA:=by
 intro wh pins s σ H Q I h
 refine isTrue_and (thn (ha pins s σ H Q I h) fun c s1 e=> ?_)
 cases c with
 | true=>exact isTrue_and_nil e
 | false=>exact e
theorem dW(ha:PT X a tA):PW X (.BoolOp .Or [a] pos) tA:=by
 intro wh pins s σ H Q I h
 refine isTrue_or (thn (ha pins s σ H Q I h) fun c s1 e=> ?_)
 cases c with
 | false=>exact isTrue_or_nil e
 | true=>exact e
theorem ff(ha:PT X a tA)(hb:PW X (.BoolOp .And (b :: rest) pos) tB'):PW X (.BoolOp .And (a :: b :: rest) pos) (tAnd tA tB'):=by
 intro wh pins s σ H Q I h
 refine isTrue_and (thn (ha pins s σ H _ I h) fun c s1 ⟨H1,I1,q1⟩=> ?_)
 cases c with
 | true=>exact hb wh pins s1 σ H1 Q I1 q1
 | false=>exact ⟨H1,I1,q1⟩
theorem fZ(ha:PT X a tA)(hb:PW X (.BoolOp .Or (b :: rest) pos) tB'):PW X (.BoolOp .Or (a :: b :: rest) pos) (tOr tA tB'):=by
 intro wh pins s σ H Q I h
 refine isTrue_or (thn (ha pins s σ H _ I h) fun c s1 ⟨H1,I1,q1⟩=> ?_)
 cases c with
 | true=>exact ⟨H1,I1,q1⟩
 | false=>exact hb wh pins s1 σ H1 Q I1 q1
theorem bG(ha:PT X a tA):PT X (.UnaryOp .Not a pos) (tNot tA):=by
 intro pins s σ H Q I h
 exact isTrue_not (ha pins s σ H (fun c H1=>Q (!c) H1) I h)
def tAndV(ta tb:TE):TE:=fun σ H Q=>ta σ H fun x H1=>∃ c,x = .bl c∧if c=true then tb σ H1 Q else Q (.bl false) H1
def tOrV(ta tb:TE):TE:=fun σ H Q=>ta σ H fun x H1=>∃ c,x = .bl c∧if c=true then Q (.bl true) H1 else tb σ H1 Q
def tNotV(ta:TE):TE:=fun σ H Q=>ta σ H fun x H1=>∃ c,x = .bl c∧Q (.bl (!c)) H1
theorem i5{op}{t:TE}(h:PE X a t):PE X (.BoolOp op [a] pos) t:=fun pins s σ H Q I hw=>BoolOp_one (h pins s σ H Q I hw)
theorem oF(ha:PE X a ta)(hb:PE X (.BoolOp .And (b :: rest) pos) tb):PE X (.BoolOp .And (a :: b :: rest) pos) (tAndV ta tb):=by
 intro pins s σ H Q I h
 refine BoolOp_and (thn (ha pins s σ H _ I h) fun v s1 ⟨x,H1,I1,r1,q1⟩=> ?_)
 obtain ⟨c,rfl,q1⟩:=q1
 cases r1
 refine wpAny_truthy_bool ?_
 cases c with
 | true=>exact hb pins s1 σ H1 Q I1 q1
 | false=>exact ⟨.bl false,H1,I1,rfl,q1⟩
theorem pY(ha:PE X a ta)(hb:PE X (.BoolOp .Or (b :: rest) pos) tb):PE X (.BoolOp .Or (a :: b :: rest) pos) (tOrV ta tb):=by
 intro pins s σ H Q I h
 refine BoolOp_or (thn (ha pins s σ H _ I h) fun v s1 ⟨x,H1,I1,r1,q1⟩=> ?_)
 obtain ⟨c,rfl,q1⟩:=q1
 cases r1
 refine wpAny_truthy_bool ?_
 cases c with
 | false=>exact hb pins s1 σ H1 Q I1 q1
 | true=>exact ⟨.bl true,H1,I1,rfl,q1⟩
def tIf(t:TT)(ta tb:TE):TE:=fun σ H Q=>t σ H fun c H1=>if c=true then ta σ H1 Q else tb σ H1 Q
theorem nF{c:Expr}(hc:PT X c tA)(ha:PE X a ta)(hb:PE X b tb):PE X (.IfExp c a b pos) (tIf tA ta tb):=by
 intro pins s σ H Q I h
 refine wpAny_IfExp (thn (hc pins s σ H _ I h) fun d s1 ⟨H1,I1,q1⟩=> ?_)
 cases d with
 | true=>exact ha pins s1 σ H1 Q I1 q1
 | false=>exact hb pins s1 σ H1 Q I1 q1
end
def SqL(K:PySem.W.Frag)(H:Hp)(a:Addr)(xs:List V):Prop:=
 Rd H a (.lst xs) ∨
  ∃ (o:Obj) (its:Array Value) (n:Nat),K.lookup a=some o∧o.cls = .type "list" ∧ o.dict=none∧o.data = .seq its n∧its.size≤sizeLine∧aR xs its.toList
def SqT(K:PySem.W.Frag)(H:Hp)(a:Addr)(xs:List V):Prop:=
 Rd H a (.tup xs) ∨
  ∃ (o:Obj) (its:Array Value) (n:Nat),K.lookup a=some o∧o.cls = .type "tuple" ∧ o.data = .seq its n∧its.size≤sizeLine∧aR xs its.toList
def absV:Value→Option V
 | .none=>some .non
 | .bool b=>some (.bl b)
 | .int i _=>some (.int i)
 | .str x _=>some (.str x)
 | .bytes b _=>some (.byt b)
 | .float b _=>some (.flt b)
 | .ref a=>some (.ref a)
 | .type n=>some (.ty n)
 | _=>none
theorem b6.abs{x:V}{u:Value}(r:b6 x u):absV u=some x:=by
 cases x with
 | non=>cases r;rfl
 | bl _=>cases r;rfl
 | int _=>obtain ⟨t,rfl⟩:=r;rfl
 | str _=>obtain ⟨t,rfl⟩:=r;rfl
 | byt _=>obtain ⟨t,rfl⟩:=r;rfl
 | flt _=>obtain ⟨t,rfl⟩:=r;rfl
 | ref _=>cases r;rfl
 | ty _=>cases r;rfl
theorem b6.inj{x y:V}{u:Value}(r:b6 x u)(q:b6 y u):x=y:=Option.some.inj (r.abs.symm.trans q.abs)
theorem aR.inj:∀ {xs ys:List V} {us:List Value},aR xs us→aR ys us→xs=ys
 | _,_,_,.nil,.nil=>rfl
 | _,_,_,.cons r t,.cons r' t'=>by rw [r.inj r',aR.inj t t']
section
variable{X:Cx}{pins:List (Addr×Obj)}{σ : St}{H:Hp}{s:Shared}{a:Addr}{xs ys:List V}
theorem SqL.of{K:PySem.W.Frag}(h:H a=some (.lst xs)):SqL K H a xs:=.inl (.inl h)
theorem SqT.of{K:PySem.W.Frag}(h:H a=some (.tup xs)):SqT K H a xs:=.inl (.inl h)
theorem Inv.list(I:Inv X pins σ H s)(h:SqL X.K H a xs):∃ its:List Value,aR xs its∧PlainL s.heap a its.toArray∧xs.length≤sizeLine:=by
 rcases h with h | ⟨o,its,n,hk,hc,hd,hs,hz,r⟩
 ·obtain ⟨z,its,n,r,e⟩:=h.ok I.hok
  exact ⟨its,r,⟨_,n,e,rfl,rfl,rfl⟩,z⟩
 ·refine ⟨its.toList,r,⟨o,n,I.kIn a o hk,hc,hd,by simpa using hs⟩,?_⟩
  have e:=r.length
  simp only [Array.length_toList] at e
  omega
theorem Inv.tuple(I:Inv X pins σ H s)(h:SqT X.K H a xs):∃ its:List Value,aR xs its∧IsTup s.heap a its.toArray∧xs.length≤sizeLine:=by
 rcases h with h | ⟨o,its,n,hk,hc,hs,hz,r⟩
 ·obtain ⟨z,its,r,p⟩:=h.ok I.hok
  exact ⟨its,r,p,z⟩
 ·refine ⟨its.toList,r,⟨o,I.kIn a o hk,hc,n,by simpa using hs⟩,?_⟩
  have e:=r.length
  simp only [Array.length_toList] at e
  omega
theorem Inv.list_inj(I:Inv X pins σ H s)(h:SqL X.K H a xs)(h':SqL X.K H a ys):xs=ys:=by
 obtain ⟨its,r,⟨o,n,e,_,_,d⟩,_⟩:=I.list h
 obtain ⟨its',r',⟨o',n',e',_,_,d'⟩,_⟩:=I.list h'
 rw [e] at e';cases e'
 rw [d] at d'
 injection d' with d1 _
 have:its=its':=by simpa using congrArg Array.toList d1
 subst this
 exact r.inj r'
end
abbrev Cx.wish(X:Cx)(E:Value→Shared→Prop):Cx:={ X with xe:=E }
abbrev Cx.nox(X:Cx):Cx:=X.wish fun _ _=>False
theorem Cx.Ok.wish{X:Cx}(ok:X.Ok)(E:Value→Shared→Prop):(X.wish E).Ok:=
 ⟨ok.mod,ok.kind,ok.glob,ok.blt,ok.above,ok.inj,ok.has,ok.cab,ok.hd,ok.frames,ok.stk,ok.exf,ok.bs,ok.bsz,ok.noex,ok.exfs,ok.funs,ok.frf⟩
theorem Cx.Ok.unwish{X:Cx}{E:Value→Shared→Prop}(ok:(X.wish E).Ok):X.Ok:=
 ⟨ok.mod,ok.kind,ok.glob,ok.blt,ok.above,ok.inj,ok.has,ok.cab,ok.hd,ok.frames,ok.stk,ok.exf,ok.bs,ok.bsz,ok.noex,ok.exfs,ok.funs,ok.frf⟩
section
variable{X:Cx}{pins:List (Addr×Obj)}{σ : St}{H:Hp}{s:Shared}{E:Value→Shared→Prop}
theorem Inv.wish(I:Inv X pins σ H s)(E:Value→Shared→Prop):Inv (X.wish E) pins σ H s:=⟨I.ok.wish E,I.os,I.bare,I.base,I.loc,I.cell,I.free,I.freeC,I.pin,I.hok,I.len⟩
theorem Inv.unwish(I:Inv (X.wish E) pins σ H s):Inv X pins σ H s:=⟨I.ok.unwish,I.os,I.bare,I.base,I.loc,I.cell,I.free,I.freeC,I.pin,I.hok,I.len⟩
theorem SP.unwish{D:i6}{f:Flow}{s':Shared}(h:SP (X.wish E) pins D f s'):SP X pins D f s':=by
 cases f with
 | next=>obtain ⟨σ',H',I,q⟩:=h;exact ⟨σ',H',I.unwish,q⟩
 | brk=>obtain ⟨σ',H',I,q⟩:=h;exact ⟨σ',H',I.unwish,q⟩
 | cont=>obtain ⟨σ',H',I,q⟩:=h;exact ⟨σ',H',I.unwish,q⟩
 | ret u=>obtain ⟨v,σ',H',I,r,q⟩:=h;exact ⟨v,σ',H',I.unwish,r,q⟩
theorem PSs.nox{st:List Stmt}{t:TS}(h:PSs X.nox st t):PSs X st t:=fun pins s σ H D I hw=>
 wpAny_mono (h pins s σ H D (I.wish _) hw) (fun _ _ q=>q.unwish) fun _ _ z=>False.elim z
end
section
variable{X:Cx}{st:Stmt}{rest:List Stmt}{t u:TS}{e:Expr}{te:TE}{pos:Pos}
def kY:TS:=fun D σ H=>D.nx σ H
def tSeq(t u:TS):TS:=fun D σ H=>t { D with nx:=u D } σ H
theorem aj:PSs X [] kY:=fun _ _ σ H _ I h=>wpAny_execs_nil ⟨σ,H,I,h⟩
theorem a7(h1:PS X st t)(h2:PSs X rest u):PSs X (st :: rest) (tSeq t u):=by
 intro pins s σ H D I h
 refine wpAny_execs_cons (thn (h1 pins s σ H { D with nx:=u D } I h) fun f s1 q=> ?_)
 cases f with
 | next=>
  obtain ⟨σ',H',I',q⟩:=q
  exact h2 pins s1 σ' H' D I' q
 | ret v=>exact q
 | brk=>exact q
 | cont=>exact q
theorem a8(h1:PS X st t):PSs X [st] t:=by
 intro pins s σ H D I h
 refine wpAny_execs_cons (thn (h1 pins s σ H D I h) fun f s1 q=> ?_)
 cases f with
 | next=>exact wpAny_execs_nil q
 | ret v=>exact q
 | brk=>exact q
 | cont=>exact q
def tBreak:TS:=fun D σ H=>D.bk σ H
theorem ps_break:PS X (.Break pos) tBreak:=fun _ _ σ H _ I h=>wpAny_Break ⟨σ,H,I,h⟩
theorem Inv.quiet{pins:List (Addr×Obj)}{σ : St}{H:Hp}{s:Shared}(I:Inv X pins σ H s):interactive X.env=false:=by simp [interactive,I.ok.kind]
def kT(te:TE):TS:=fun D σ H=>te σ H fun _ H1=>D.nx σ H1
theorem aY(he:PE X e te)(hs:swapsWith e none pos.line X.env=pure false:=by rfl):PS X (.Expr e pos) (kT te):=by
 intro pins s σ H D I h
 exact wpAny_Expr_any (thn (he pins s σ H _ I h) fun v s1 ⟨x,H1,I1,r1,q1⟩=>⟨σ,H1,I1,q1⟩) I.quiet hs
def tRet(te:TE):TS:=fun D σ H=>te σ H D.rt
theorem ai(he:PE X e te):PS X (.Return (some e) pos) (tRet te):=by
 intro pins s σ H D I h
 exact wpAny_Return_some (thn (he pins s σ H _ I h) fun v s1 ⟨x,H1,I1,r1,q1⟩=>⟨x,σ,H1,I1,r1,q1⟩)
def tRetN:TS:=fun D _ H=>D.rt .non H
def kC(c:TT)(t u:TS):TS:=fun D σ H=>c σ H fun b H1=>if b=true then t D σ H1 else u D σ H1
theorem aw{c:Expr}{a b:List Stmt}{tc:TT}(hc:PT X c tc)(ha:PSs X a t)(hb:PSs X b u):PS X (.If c a b pos) (kC tc t u):=by
 intro pins s σ H D I h
 refine wpAny_If (thn (hc pins s σ H _ I h) fun d s1 ⟨H1,I1,q1⟩=> ?_)
 cases d with
 | true=>exact ha pins s1 σ H1 D I1 q1
 | false=>exact hb pins s1 σ H1 D I1 q1
end
abbrev TG:=V→St→Hp→(St→Hp→Prop)→Prop
abbrev TGs:=List V→St→Hp→(St→Hp→Prop)→Prop
def PG(X:Cx)(target:Expr)(t:TG):Prop:=
 ∀ (pins:List (Addr×Obj)) (s:Shared) (σ : St) (H:Hp) (v:V) (u:Value) (Q:St→Hp→Prop),Inv X pins σ H s→b6 v u→t v σ H Q →
  wpAny (model X.prog X.w) X.A (assign target X.env u) (fun _ s'=>∃ σ' H',Inv X pins σ' H' s'∧Q σ' H') X.xe s
def PGs(X:Cx)(ts:List Expr)(t:TGs):Prop:=
 ∀ (pins:List (Addr×Obj)) (s:Shared) (σ : St) (H:Hp) (vs:List V) (us:List Value) (Q:St→Hp→Prop),Inv X pins σ H s→aR vs us→t vs σ H Q →
  wpAny (model X.prog X.w) X.A (assignInOrder ((assignEach ts X.env).map (·.2)) us) (fun _ s'=>∃ σ' H',Inv X pins σ' H' s'∧Q σ' H') X.xe s
section
variable{X:Cx}{pos:Pos}
def bZ(i:Nat):TG:=fun v σ H Q=>Q (σ.set i (some v)) H
theorem aC{i:Nat}{x:Str}(hN:X.N.Nodup)(hi:X.N[i]? = some x)(hx:Loc X.env.scope x)(hf:X.fn x=true∨X.env.scope.names.lookup x=some .local:=by first | exact .inl rfl | exact .inr rfl | assumption):PG X (.Name x pos) (bZ i):=by
 intro pins s σ H v u Q I r h
 exact wpAny_assign_Name (mV I hN hi hx r (fun s' I'=>⟨_,H,I',h⟩) hf)
def gNil:TGs:=fun vs σ H Q=>vs=[]∧Q σ H
def gCons(t:TG)(u:TGs):TGs:=fun vs σ H Q=>∃ v r,vs=v :: r∧t v σ H fun σ' H'=>u r σ' H' Q
theorem eF:PGs X [] gNil:=by
 intro pins s σ H vs us Q I r h
 obtain ⟨e,h⟩:=h
 subst e
 cases r
 exact assignInOrder_nil ⟨σ,H,I,h⟩
theorem bw{e:Expr}{es:List Expr}{t:TG}{u:TGs}(h1:PG X e t)(h2:PGs X es u)
  (hs:(assignEach (e :: es) X.env).map (·.2)=assign e X.env :: (assignEach es X.env).map (·.2):=by rfl):PGs X (e :: es) (gCons t u):=by
 intro pins s σ H vs us Q I r h
 obtain ⟨v,vr,e1,h⟩:=h
 subst e1
 cases r with
 | cons r rr=>
  rw [hs]
  refine assignInOrder_cons (thn (h1 pins s σ H _ _ _ I r h) fun _ s1 ⟨σ1,H1,I1,q1⟩=> ?_)
  exact h2 pins s1 σ1 H1 _ _ Q I1 rr q1
def gTup(K:PySem.W.Frag)(n:Nat)(t:TGs):TG:=fun v σ H Q=>∃ a xs,v = .ref a∧SqT K H a xs∧xs.length=n∧t xs σ H Q
theorem pg_tup{es:List Expr}{k:Nat}{t:TGs}{n:Nat}(hc:X.calm=true)(h:PGs X es t)
  (hn:(assignEach es X.env).length=n:=by rfl) (hst:(assignEach es X.env).findIdx? (·.1)=none:=by rfl):PG X (.Tuple es k pos) (gTup X.K n t):=by
 intro pins s σ H v u Q I r hw
 obtain ⟨a,xs,e1,hq,hl,hw⟩:=hw
 subst e1
 cases r
 obtain ⟨its,rv,ht,hz⟩:=I.tuple hq
 refine assign_Tuple_tuple (I.ok.hd hc) ht (by simp [hn,← hl,rv.length]) hst fun h' hx=> ?_
 have I1:Inv X pins σ H { s with heap:=h' }:=I.kept (t':=s.toks) fun b o e=>hx b o (Nat.ne_of_lt (Heap.lt_size e)) e
 exact h pins _ σ H xs _ Q I1 (by simpa using rv) hw
def ms(te:TE)(g:TG):TS:=fun D σ H=>te σ H fun x H1=>g x σ H1 D.nx
theorem aI{i:Nat}{x:Str}{e:Expr}{te:TE}{pos':Pos}(hN:X.N.Nodup)(hi:X.N[i]? = some x)(hx:Loc X.env.scope x)(he:PE X e te)(hs:swapsWith e (some (.Name x pos')) pos.line X.env=pure false:=by rfl)(hf:X.fn x=true∨X.env.scope.names.lookup x=some .local:=by first | exact .inl rfl | exact .inr rfl | assumption) :
  PS X (.Assign [.Name x pos'] e pos) (ms te (bZ i)):=by
 intro pins s σ H D I h
 refine wpAny_Assign_Name (thn (he pins s σ H _ I h) fun v s1 ⟨y,H1,I1,r1,q1⟩=> ?_) hs
 exact mV I1 hN hi hx r1 (fun s2 I2=>⟨_,H1,I2,q1⟩) hf
end
section
variable{X:Cx}{pos:Pos}
def tWhile(c:TT)(tb:TS):TS:=fun D σ H=>∃ W:Nat→St→Hp→Prop,(∃ m,W m σ H)∧∀ m σ H,W m σ H →
 c σ H fun b H1=>if b=true then ∃ N:St→Hp→Prop,(∀ σ' H',N σ' H'→∃ m',m' < m∧W m' σ' H')∧tb { D with nx:=N,ct:=N,bk:=D.nx } σ H1 else D.nx σ H1
theorem ps_while{c:Expr}{body:List Stmt}{tc:TT}{tb:TS}(hp:PassesOwn (model X.prog X.w) X.A X.env X.xe)(hc:PT X c tc)(hb:PSs X body tb):PS X (.While c body [] pos) (tWhile tc tb):=by
 intro pins s σ H D I h
 obtain ⟨W,⟨m0,w0⟩,turn⟩:=h
 refine wpAny_While (codeAny_whileLoop (fun n s'=>∃ σ' H',Inv X pins σ' H' s'∧W n σ' H') ?_ m0 ⟨σ,H,I,w0⟩)
 rintro n s1 ⟨σ1,H1,I1,w1⟩
 refine wpAny_passesOwn hp (thn (hc pins s1 σ1 H1 _ I1 (turn n σ1 H1 w1)) fun b s2 ⟨H2,I2,q2⟩=> ?_)
 cases b with
 | true=>
  obtain ⟨N,hN,q2⟩:=q2
  rw [if_pos rfl]
  refine wpAny_passesOwn hp (thn (hb pins s2 σ1 H2 _ I2 q2) fun f s3 q3=> ?_)
  cases f with
  | next=>
   obtain ⟨σ3,H3,I3,n3⟩:=q3
   obtain ⟨m',hm,w3⟩:=hN σ3 H3 n3
   exact ⟨m',hm,σ3,H3,I3,w3⟩
  | cont=>
   obtain ⟨σ3,H3,I3,n3⟩:=q3
   obtain ⟨m',hm,w3⟩:=hN σ3 H3 n3
   exact ⟨m',hm,σ3,H3,I3,w3⟩
  | brk=>exact q3
  | ret v=>exact q3
 | false=>
  rw [if_neg Bool.false_ne_true]
  exact wpAny_execs_nil ⟨σ1,H2,I2,q2⟩
end
structure It where
 go:Nat→Hp→Prop
 yld:Nat→Hp→V→Hp→Prop
 stop:Nat→Hp→Prop
def je(X:Cx)(pins:List (Addr×Obj))(H:Hp)(b:Addr):Prop:=
 H b=none∧b≠X.env.locals∧b∉X.fs∧(b∈X.ex∨X.s_0.heap.objs.size≤b)∧(∀ x c,X.env.cells.lookup x=some c→c≠b)∧∀ p∈X.pn ++ pins,p.1≠b
theorem Inv.fpOk{X:Cx}{pins:List (Addr×Obj)}{σ : St}{H H':Hp}{s:Shared}{b:Addr}(I:Inv X pins σ H s)(hb:s.heap.objs.size≤b)(hn:H' b=none):je X pins H' b:=by
 refine ⟨hn,Nat.ne_of_gt (Nat.lt_of_lt_of_le I.lt hb),I.nofs hb,.inr (Nat.le_trans I.sz hb),fun x c e z=> ?_,fun p hp z=> ?_⟩
 ·obtain ⟨v,q⟩:=I.cell x c e
  exact absurd (Nat.lt_of_lt_of_le q.lt (by rw [z];exact hb)) (Nat.lt_irrefl _)
 ·exact absurd (Nat.lt_of_lt_of_le (Heap.lt_size (I.pin p hp).1) (by rw [z];exact hb)) (Nat.lt_irrefl _)
structure nP(P:Program)(w:World)(K:PySem.W.Frag)(tg:Expr)(J:It)(fp:List Addr)(it:Addr)(tn:Nat→Heap→Prop):Prop where
 mem:it∈fp
 obj:∀ i h,tn i h→∀ b∈fp,∃ o,h.get? b=some o∧∀ v,o.data ≠ .cell v
 keep:∀ i h h',tn i h→(∀ b∈fp,∀ o,h.get? b=some o→h'.get? b=some o)→tn i h'
 item:∀ (X:Cx),X.prog=P→X.w=w→X.K=K→X.calm=true→∀ (i:Nat) (pins:List (Addr×Obj)) (s:Shared) (σ : St) (H:Hp) (E:Value→Shared→Prop),Inv X pins σ H s→(∀ b∈fp,je X pins H b)→tn i s.heap→J.go i H →
  wpAny (model P w) X.A (pyNext (.ref it)) (fun r s1=>∃ u,r=some u ∧
   wpAny (model P w) X.A (letOwnedTupleGo tg (.ref it) u) (fun _ s2=>∃ x H',Inv X pins σ H' s2∧b6 x u∧J.yld i H x H'∧tn (i + 1) s2.heap∧∀ b∈fp,H' b=none) E s1) E s
 done:∀ (X:Cx),X.prog=P→X.w=w→X.K=K→X.calm=true→∀ (i:Nat) (pins:List (Addr×Obj)) (s:Shared) (σ : St) (H:Hp) (E:Value→Shared→Prop),Inv X pins σ H s→(∀ b∈fp,je X pins H b)→tn i s.heap→J.stop i H →
  wpAny (model P w) X.A (pyNext (.ref it)) (fun r s1=>r=none∧Inv X pins σ H s1) E s
 self:∀ (A:Around) (i:Nat) (s:Shared) (Q:Value→Shared→Prop) (E:Value→Shared→Prop),tn i s.heap→Q (.ref it) s→wpAny (model P w) A (pyIter (.ref it)) Q E s
abbrev TI:=St→Hp→(It→Hp→Prop)→Prop
def PIE(X:Cx)(pins:List (Addr×Obj))(σ : St)(tg:Expr)(R:It→Hp→Prop)(itv:Value)(s2:Shared):Prop:=
 ∃ (it:Addr) (fp:List Addr) (tn:Nat→Heap→Prop) (J:It) (H':Hp),itv = .ref it∧Inv X pins σ H' s2∧nP X.prog X.w X.K tg J fp it tn∧tn 0 s2.heap∧(∀ b∈fp,je X pins H' b)∧R J H'
def PI(X:Cx)(tg iter:Expr)(wi:TI):Prop:=
 ∀ (pins:List (Addr×Obj)) (s:Shared) (σ : St) (H:Hp) (R:It→Hp→Prop),Inv X pins σ H s→wi σ H R →
  wpAny (model X.prog X.w) X.A (eval iter X.env) (fun v s1=>wpAny (model X.prog X.w) X.A (pyIter v) (PIE X pins σ tg R) X.xe s1) X.xe s
theorem go_of{M:Model}{A:Around}{E:Value→Shared→Prop}{s:Shared}{tg:Expr}{it:Addr}{u:Value}{o:Obj}{n:String}{vs:Array Value}{Q:Unit→Shared→Prop}(ho:s.heap.get? it=some o)(hc:o.cls = .type n)(hd:o.data = .fields vs)
  (hn:["enumerate", "zip", "dict_itemiterator", "dict_reverseitemiterator", "odict_iterator", "itertools.zip_longest", "itertools.pairwise"].contains n=false) (hQ:Q () s):wpAny M A (letOwnedTupleGo tg (.ref it) u) Q E s:=by
 unfold letOwnedTupleGo
 cases tg <;> first
  | exact wpAny_pure hQ
  |(cases u <;> first
    | exact wpAny_pure hQ
    |(refine wpAny_bind (wpAny_load ho ?_)
      rw [hc,hd]
      show wpAny M A (if (["enumerate", "zip", "dict_itemiterator", "dict_reverseitemiterator", "odict_iterator", "itertools.zip_longest", "itertools.pairwise"].contains n && vs[0]? == some (rawInt _))=true then _ else _) Q E s
      rw [if_neg (by intro h;rw [hn,Bool.false_and] at h;cases h)]
      exact wpAny_pure hQ))
def Itl(K:PySem.W.Frag)(a:Addr):It:=
 ⟨fun i H=>∃ xs x,SqL K H a xs∧xs[i]? = some x,fun i H x H'=>H'=H∧∀ xs,SqL K H a xs→xs[i]? = some x,fun i H=>∃ xs,SqL K H a xs∧xs.length≤i⟩
theorem turn_list{P:Program}{w:World}{K:PySem.W.Frag}{tg:Expr}(a it:Addr):nP P w K tg (Itl K a) [it] it (fun i h=>h.IsListIter it a i) where
 mem:=by simp
 obj:=fun i h st b hb=>by
  have e:b=it:=by simpa using hb
  subst e
  obtain ⟨o,e,c,d⟩:=st
  exact ⟨o,e,fun v z=>by rw [d] at z;cases z⟩
 keep:=fun i h h' st k=>st.at fun o e=>k it (by simp) o e
 item:=by
  intro X hP hw hK hc i pins s σ H E I hf st hg
  subst hP hw hK
  obtain ⟨xs,x,hq,hx⟩:=hg
  obtain ⟨its,rv,p,hz⟩:=I.list hq
  obtain ⟨u,hu,ru⟩:=rv.get hx
  obtain ⟨f0,f1,f2,f3,f4,f5⟩:=hf it (by simp)
  refine wpAny_pyNext_list_item st p.isList (x:=u) (by simpa using hu) fun h' st' sb=> ?_
  have I1:Inv X pins σ H { s with heap:=h' }:=I.turned (t':=s.toks) (fun b o hb e=>(sb.2 b hb).trans e) f0 f1 f3 f4 f5
  obtain ⟨o,e,c,d⟩:=id st'
  exact ⟨u,rfl,go_of (s:={ s with heap:=h' }) e c d (by decide) ⟨x,H,I1,ru,⟨rfl,fun ys hy=>by rw [I.list_inj hy hq];exact hx⟩,st',fun b hb=>(hf b hb).1⟩⟩
 done:=by
  intro X hP hw hK hc i pins s σ H E I hf st hg
  subst hP hw hK
  obtain ⟨xs,hq,hx⟩:=hg
  obtain ⟨its,rv,p,hz⟩:=I.list hq
  obtain ⟨f0,f1,f2,f3,f4,f5⟩:=hf it (by simp)
  have hl:=rv.length
  exact wpAny_pyNext_list_end (I.ok.hd hc) st p.isList (by simp;omega) fun h' eb=>⟨rfl,I.turned (t':=s.toks) (fun b o hb e=>eb b o hb e) f0 f1 f3 f4 f5⟩
 self:=fun _ _ _ _ _ st h=>wpAny_pyIter_listiter st h
section
variable{X:Cx}{tg:Expr}
def iList(K:PySem.W.Frag)(tl:TE):TI:=fun σ H R=>tl σ H fun x H1=>∃ a,x = .ref a∧(∃ xs,SqL K H1 a xs)∧R (Itl K a) H1
theorem pi_list{l:Expr}{tl:TE}(hl:PE X l tl):PI X tg l (iList X.K tl):=by
 intro pins s σ H R I h
 refine thn (hl pins s σ H _ I h) fun v s1 ⟨x,H1,I1,r1,q1⟩=> ?_
 obtain ⟨a,e,⟨xs,hq⟩,q⟩:=q1
 subst e
 cases r1
 obtain ⟨its,rv,p,hz⟩:=I1.list hq
 refine wpAny_pyIter_list p.isList ?_
 refine ⟨s1.heap.objs.size,[s1.heap.objs.size],_,_,H1,rfl,I1.kept (t':=s1.toks) fun b o e=>Heap.get?_push_of_some _ e,turn_list a _,⟨_,Heap.get?_push_size _ rfl,rfl,rfl⟩,fun b hb=> ?_,q⟩
 have e:b=s1.heap.objs.size:=by simpa using hb
 subst e
 exact I1.fpOk (Nat.le_refl _) (I1.hok.fresh (Nat.le_refl _))
def tFor(wi:TI)(g:TG)(tb:TS):TS:=fun D σ H=>wi σ H fun J H1=>∃ W:Nat→Nat→St→Hp→Prop,(∃ m,W 0 m σ H1)∧∀ i m σ H,W i m σ H →
 (J.stop i H∧D.nx σ H)∨(J.go i H∧∃ N:St→Hp→Prop,(∀ σ' H',N σ' H'→∃ m',m' < m∧W (i + 1) m' σ' H')∧∀ x H',J.yld i H x H'→g x σ H' fun σ2 H2=>tb { D with nx:=N,ct:=N,bk:=D.nx } σ2 H2)
def jF(fp:List Addr)(h:Heap):List (Addr×Obj):=fp.filterMap fun b=>(h.get? b).map fun o=>(b,o)
theorem ge{fp:List Addr}{h:Heap}{b:Addr}{o:Obj}(hb:b∈fp)(e:h.get? b=some o):(b,o)∈jF fp h:=List.mem_filterMap.mpr ⟨b,hb,by rw [e];rfl⟩
theorem of_pinsAt{fp:List Addr}{h:Heap}{p:Addr×Obj}(hp:p∈jF fp h):p.1∈fp∧h.get? p.1=some p.2:=by
 obtain ⟨b,hb,e⟩:=List.mem_filterMap.mp hp
 cases q:h.get? b with
 | none=>rw [q] at e;cases e
 | some o=>
  rw [q] at e
  have e':(b,o)=p:=Option.some.inj e
  subst e'
  exact ⟨hb,q⟩
theorem Inv.pinned{pins:List (Addr×Obj)}{σ : St}{H:Hp}{s:Shared}{fp:List Addr}(I:Inv X pins σ H s)(hf:∀ b∈fp,je X pins H b)(ho:∀ b∈fp,∃ o,s.heap.get? b=some o∧∀ v,o.data ≠ .cell v):Inv X (pins ++ jF fp s.heap) σ H s:=
 I.pins_of fun p hp=>(List.mem_append.mp hp).elim (fun z=>I.pin p (List.mem_append_right _ z)) fun z=>by
  obtain ⟨hb,e⟩:=of_pinsAt z
  obtain ⟨f0,f1,f2,_⟩:=hf p.1 hb
  obtain ⟨o,e',d⟩:=ho p.1 hb
  rw [e] at e';cases e'
  exact ⟨e,f0,f1,f2,d⟩
theorem Inv.unpinned{pins pl:List (Addr×Obj)}{σ : St}{H:Hp}{s:Shared}(I:Inv X (pins ++ pl) σ H s):Inv X pins σ H s:=I.pins_of fun p hp=>I.pin p (List.mem_append_right _ (List.mem_append_left _ hp))
theorem bO{iter:Expr}{body:List Stmt}{wi:TI}{g:TG}{tb:TS}{pos:Pos}(hp:PassesOwn (model X.prog X.w) X.A X.env X.xe)(hc:X.calm=true)(hi:PI X tg iter wi)(hg:PG X tg g)(hb:PSs X body tb)
  (hs:∀ x,foldedSetIterable iter X.env x=pure x:=by intro _;rfl):PS X (.For tg iter body [] pos) (tFor wi g tb):=by
 intro pins s σ H D I h
 refine wpAny_For (thn (hi pins s σ H _ I h) fun v s1 h1=>thn h1 fun itv s2 h2=> ?_) hs
 obtain ⟨it,fp,tn,J,H2,e,I2,T,st2,f2,W,⟨m0,w0⟩,turn⟩:=h2
 subst e
 have stat:∀ {H':Hp},(∀ b∈fp,H' b=none)→∀ b∈fp,je X pins H' b:=fun hn b hb=>⟨hn b hb,(f2 b hb).2⟩
 refine codeAny_forLoop_any (fun n s'=>∃ i σ' H',Inv X pins σ' H' s'∧tn i s'.heap∧(∀ b∈fp,H' b=none)∧W i n σ' H') ?_ m0 ⟨0,σ,H2,I2,st2,fun b hb=>(f2 b hb).1,w0⟩
 rintro n s3 ⟨i,σ3,H3,I3,st3,fr3,w3⟩
 rcases turn i n σ3 H3 w3 with ⟨stop,qn⟩ | ⟨go,N,hN,step⟩
 ·refine wpAny_passesOwn hp (thn (T.done X rfl rfl rfl hc i pins s3 σ3 H3 X.xe I3 (stat fr3) st3 stop) fun r s4 ⟨hr,I4⟩=> ?_)
  subst hr
  exact wpAny_execs_nil ⟨σ3,H3,I4,qn⟩
 ·refine wpAny_passesOwn hp (thn (T.item X rfl rfl rfl hc i pins s3 σ3 H3 X.xe I3 (stat fr3) st3 go) fun r s4 ⟨u,hr,h4⟩=> ?_)
  subst hr
  refine wpAny_passesOwn hp (thn h4 fun _ s5 ⟨x,H5,I5,r5,y5,st5,fr5⟩=> ?_)
  have I5':=I5.pinned (stat fr5) (T.obj _ _ st5)
  refine wpAny_passesOwn hp (thn (hg _ s5 σ3 H5 x u _ I5' r5 (step x H5 y5)) fun _ s6 ⟨σ6,H6,I6,q6⟩=> ?_)
  refine wpAny_passesOwn hp (thn (hb _ s6 σ6 H6 _ I6 q6) fun f s7 q7=> ?_)
  have again:∀ {σ7:St} {H7:Hp},Inv X (pins ++ jF fp s5.heap) σ7 H7 s7→N σ7 H7→∃ m,m < n∧∃ i σ' H',Inv X pins σ' H' s7∧tn i s7.heap∧(∀ b∈fp,H' b=none)∧W i m σ' H':=fun {σ7 H7} I7 n7=>by
   obtain ⟨m',hm,w7⟩:=hN σ7 H7 n7
   refine ⟨m',hm,i + 1,σ7,H7,I7.unpinned,T.keep _ _ _ st5 fun b hb o e=>(I7.pin (b,o) (List.mem_append_right _ (List.mem_append_right _ (ge hb e)))).1,fun b hb=> ?_,w7⟩
   obtain ⟨o,e,d⟩:=T.obj _ _ st5 b hb
   exact (I7.pin (b,o) (List.mem_append_right _ (List.mem_append_right _ (ge hb e)))).2.1
  cases f with
  | next=>obtain ⟨σ7,H7,I7,n7⟩:=q7;exact again I7 n7
  | cont=>obtain ⟨σ7,H7,I7,n7⟩:=q7;exact again I7 n7
  | brk=>obtain ⟨σ7,H7,I7,q7⟩:=q7;exact ⟨σ7,H7,I7.unpinned,q7⟩
  | ret v=>obtain ⟨x7,σ7,H7,I7,r7,q7⟩:=q7;exact ⟨x7,σ7,H7,I7.unpinned,r7,q7⟩
end
theorem di{K:PySem.W.Frag}{a:Addr}{xs:List V}{g:TG}{tb:TS}{D:i6}{σ : St}{H:Hp}(Pv:Nat→St→Hp→Prop)(h0:Pv 0 σ H)(hl:∀ i σ H,i≤xs.length→Pv i σ H→SqL K H a xs)
  (hs:∀ i x σ H,xs[i]? = some x→Pv i σ H→g x σ H fun σ2 H2=>tb { D with nx:=Pv (i + 1),ct:=Pv (i + 1),bk:=D.nx } σ2 H2) (hd:∀ σ H,Pv xs.length σ H→D.nx σ H) :
  ∃ W:Nat→Nat→St→Hp→Prop,(∃ m,W 0 m σ H)∧∀ i m σ H,W i m σ H →
   ((Itl K a).stop i H∧D.nx σ H)∨((Itl K a).go i H∧∃ N:St→Hp→Prop,(∀ σ' H',N σ' H'→∃ m',m' < m∧W (i + 1) m' σ' H')∧∀ x H',(Itl K a).yld i H x H'→g x σ H' fun σ2 H2=>tb { D with nx:=N,ct:=N,bk:=D.nx } σ2 H2):=by
 refine ⟨fun i m σ H=>m=xs.length - i∧i≤xs.length∧Pv i σ H,⟨xs.length,by simp,Nat.zero_le _,h0⟩,?_⟩
 rintro i m σ H ⟨rfl,hi,p⟩
 have q:=hl i σ H hi p
 by_cases hlt:i < xs.length
 ·refine .inr ⟨⟨xs,xs[i],q,by simp [hlt]⟩,Pv (i + 1),fun σ' H' p'=>⟨xs.length - (i + 1),by omega,rfl,hlt,p'⟩,fun x H' y=> ?_⟩
  obtain ⟨e,y⟩:=y
  subst e
  exact hs i x σ _ (y xs q) p
 ·have e:i=xs.length:=by omega
  subst e
  exact .inl ⟨⟨xs,q,Nat.le_refl _⟩,hd σ H p⟩
abbrev R2:=V→V→Hp→VK→Prop
def OpR(X:Cx)(f:Value→Value→Sem Value)(r:R2):Prop:=
 ∀ (pins:List (Addr×Obj)) (s:Shared) (σ : St) (H:Hp) (x y:V) (v u:Value) (Q:VK),Inv X pins σ H s→b6 x v→b6 y u→r x y H Q →
  wpAny (model X.prog X.w) X.A (f v u) (EP X pins σ Q) X.xe s
def UnR(X:Cx)(f:Value→Sem Value)(r:V→Hp→VK→Prop):Prop:=
 ∀ (pins:List (Addr×Obj)) (s:Shared) (σ : St) (H:Hp) (x:V) (v:Value) (Q:VK),Inv X pins σ H s→b6 x v→r x H Q →
  wpAny (model X.prog X.w) X.A (f v) (EP X pins σ Q) X.xe s
def bX(X:Cx)(f:Value)(r:List V→Hp→VK→Prop):Prop:=
 ∀ (pins:List (Addr×Obj)) (s:Shared) (σ : St) (H:Hp) (xs:List V) (us:List Value) (Q:VK),Inv X pins σ H s→aR xs us→r xs H Q →
  wpAny (model X.prog X.w) X.A (call f us) (EP X pins σ Q) X.xe s
def tOp(r:R2)(ta tb:TE):TE:=fun σ H Q=>ta σ H fun x H1=>tb σ H1 fun y H2=>r x y H2 Q
def tUn(r:V→Hp→VK→Prop)(ta:TE):TE:=fun σ H Q=>ta σ H fun x H1=>r x H1 Q
def rI(C:Int→Int→Prop)(g:Int→Int→V):R2:=fun x y H Q=>∃ i j,x = .int i∧y = .int j∧C i j∧Q (g i j) H
def rI0(g:Int→Int→V):R2:=fun x y H Q=>∃ i j,x = .int i∧y = .int j∧Q (g i j) H
def rU(g:Int→V):V→Hp→VK→Prop:=fun x H Q=>∃ i,x = .int i∧Q (g i) H
section
variable{X:Cx}{a b c:Expr}{ta tb tc:TE}{pos:Pos}
theorem binT(ha:PE X a ta)(hb:PE X b tb){pins:List (Addr×Obj)}{s:Shared}{σ : St}{H:Hp}{R:V→V→Hp→Prop}(I:Inv X pins σ H s)
  (h:ta σ H fun x H1=>tb σ H1 fun y H2=>R x y H2) {Q:Value→Shared→Prop} {f:Value→Value→Sem Value}
  (hf:∀ v u s2 x y H2,Inv X pins σ H2 s2→b6 x v→b6 y u→R x y H2→wpAny (model X.prog X.w) X.A (f v u) Q X.xe s2) :
  wpAny (model X.prog X.w) X.A (eval a X.env) (fun v s₁ =>wpAny (model X.prog X.w) X.A (eval b X.env) (fun u s₂ =>wpAny (model X.prog X.w) X.A (f v u) Q X.xe s₂) X.xe s₁) X.xe s:=by
 refine thn (ha pins s σ H _ I h) fun v s1 ⟨x,H1,I1,r1,q1⟩=> ?_
 refine thn (hb pins s1 σ H1 _ I1 q1) fun u s2 ⟨y,H2,I2,r2,q2⟩=> ?_
 exact hf v u s2 x y H2 I2 r1 r2 q2
theorem df{op:Operator}{r:R2}(ho:OpR X (binaryOp op) r)(ha:PE X a ta)(hb:PE X b tb):PE X (.BinOp a op b pos) (tOp r ta tb):=by
 intro pins s σ H Q I h
 exact wpAny_BinOp (binT ha hb I h fun v u s2 x y H2 I2 rx ry q=>ho pins s2 σ H2 x y v u Q I2 rx ry q)
theorem aJ{op:UnaryOp}{r:V→Hp→VK→Prop}(ho:UnR X (unaryOp op) r)(ha:PE X a ta):PE X (.UnaryOp op a pos) (tUn r ta):=by
 intro pins s σ H Q I h
 exact UnaryOp_ (thn (ha pins s σ H _ I h) fun v s1 ⟨x,H1,I1,r1,q1⟩=>ho pins s1 σ H1 x v Q I1 r1 q1)
theorem opI{f:Value→Value→Sem Value}{C:Int→Int→Prop}{g:Int→Int→Int}
  (rule:∀ (i j:Int) (t u:Tok) (s:Shared) (Q:Value→Shared→Prop) (E:Value→Shared→Prop),C i j→Q (.int (g i j) s.toks) { s with toks:=s.toks + 1 }→wpAny (model X.prog X.w) X.A (f (.int i t) (.int j u)) Q E s) :
  OpR X f (rI C fun i j=>.int (g i j)):=by
 intro pins s σ H x y v u Q I rx ry h
 obtain ⟨i,j,rfl,rfl,hc,q⟩:=h
 obtain ⟨t,rfl⟩:=rx
 obtain ⟨t',rfl⟩:=ry
 exact rule i j t t' s _ _ hc ⟨.int (g i j),H,I.tok _,⟨_,rfl⟩,q⟩
theorem opI0{f:Value→Value→Sem Value}{g:Int→Int→Int}
  (rule:∀ (i j:Int) (t u:Tok) (s:Shared) (Q:Value→Shared→Prop) (E:Value→Shared→Prop),Q (.int (g i j) s.toks) { s with toks:=s.toks + 1 }→wpAny (model X.prog X.w) X.A (f (.int i t) (.int j u)) Q E s) :
  OpR X f (rI0 fun i j=>.int (g i j)):=by
 intro pins s σ H x y v u Q I rx ry h
 obtain ⟨i,j,rfl,rfl,q⟩:=h
 obtain ⟨t,rfl⟩:=rx
 obtain ⟨t',rfl⟩:=ry
 exact rule i j t t' s _ _ ⟨.int (g i j),H,I.tok _,⟨_,rfl⟩,q⟩
theorem opB0{f:Value→Value→Sem Value}{g:Int→Int→Bool}
  (rule:∀ (i j:Int) (t u:Tok) (s:Shared) (Q:Value→Shared→Prop) (E:Value→Shared→Prop),Q (.bool (g i j)) s→wpAny (model X.prog X.w) X.A (f (.int i t) (.int j u)) Q E s) :
  OpR X f (rI0 fun i j=>.bl (g i j)):=by
 intro pins s σ H x y v u Q I rx ry h
 obtain ⟨i,j,rfl,rfl,q⟩:=h
 obtain ⟨t,rfl⟩:=rx
 obtain ⟨t',rfl⟩:=ry
 exact rule i j t t' s _ _ ⟨.bl (g i j),H,I,rfl,q⟩
def CMul(i j:Int):Prop:=(-(2 ^ 64) < i∧i < 2 ^ 64)∨(-(2 ^ 64) < j∧j < 2 ^ 64)
theorem CMul.ok{i j:Int}(h:CMul i j):IntMulOk i j:=by
 rcases h with ⟨h1,h2⟩ | ⟨h1,h2⟩
 ·exact .of_left (intBits_le_64 h1 h2)
 ·exact .of_right (intBits_le_64 h1 h2)
theorem eL:OpR X (binaryOp .Add) (rI0 fun i j=>.int (i + j)):=opI0 fun _ _ _ _ _ _ _ q=>add_int q
theorem o8:OpR X (binaryOp .Sub) (rI0 fun i j=>.int (i - j)):=opI0 fun _ _ _ _ _ _ _ q=>sub_int q
theorem op_mul:OpR X (binaryOp .Mult) (rI CMul fun i j=>.int (i * j)):=opI fun _ _ _ _ _ _ _ hc q=>mul_int q hc.ok
theorem unI{f:Value→Sem Value}{g:Int→Int}
  (rule:∀ (i:Int) (t:Tok) (s:Shared) (Q:Value→Shared→Prop) (E:Value→Shared→Prop),Q (.int (g i) s.toks) { s with toks:=s.toks + 1 }→wpAny (model X.prog X.w) X.A (f (.int i t)) Q E s) :
  UnR X f (rU fun i=>.int (g i)):=by
 intro pins s σ H x v Q I rx h
 obtain ⟨i,rfl,q⟩:=h
 obtain ⟨t,rfl⟩:=rx
 exact rule i t s _ _ ⟨.int (g i),H,I.tok _,⟨_,rfl⟩,q⟩
theorem az:UnR X (unaryOp .USub) (rU fun i=>.int (-i)):=unI fun _ _ _ _ _ q=>neg_int q
end
def lz:V→V→Bool
 | .non,.non=>true | .non,.int _=>true | .int _,.non=>true | .non,.bl _=>true | .bl _,.non=>true | .non,.str _=>true | .str _,.non=>true
 | .int _,.int _=>true | .bl _,.bl _=>true | .str _,.str _=>true | .byt _,.byt _=>true
 | .int _,.str _=>true | .str _,.int _=>true | .bl _,.str _=>true | .str _,.bl _=>true
 | _,_=>false
def rEq:R2:=fun x y H Q=>lz x y=true∧Q (.bl (decide (x=y))) H
def rNe:R2:=fun x y H Q=>lz x y=true∧Q (.bl (!decide (x=y))) H
theorem qf{i j:Int}:decide (V.int i=V.int j)=(i == j):=by
 rw [Bool.eq_iff_iff]
 simp
theorem dec_bl{i j:Bool}:decide (V.bl i=V.bl j)=(i == j):=by
 rw [Bool.eq_iff_iff]
 simp
theorem pZ{i j:Str}:decide (V.str i=V.str j)=(i == j):=by
 rw [Bool.eq_iff_iff]
 simp
theorem qa{i j:Array UInt8}:decide (V.byt i=V.byt j)=(i.toList == j.toList):=by
 rw [Bool.eq_iff_iff]
 cases i
 cases j
 simp
section
variable{X:Cx}{a b c:Expr}{ta tb tc:TE}{pos:Pos}
theorem ba{pins:List (Addr×Obj)}{σ : St}{H:Hp}{s:Shared}{Q:VK}{k k':Bool}(I:Inv X pins σ H s)(q:Q (.bl k) H)(e:k=k'):EP X pins σ Q (.bool k') s:=by
 subst e
 exact ⟨.bl k,H,I,rfl,q⟩
theorem aL:OpR X (compareOp .Eq) rEq:=by
 intro pins s σ H x y v u Q I rx ry h
 obtain ⟨hs,q⟩:=h
 cases x with
 | non=>
  cases rx
  cases y with
  | non=>cases ry;exact PySem.EqNone.eq_none_none (ba I q (by simp))
  | bl j=>cases ry;exact PySem.EqNone.eq_none_bool (ba I q (by simp))
  | int j=>obtain ⟨t',rfl⟩:=ry;exact PySem.EqNone.eq_none_int (ba I q (by simp))
  | str j=>obtain ⟨t',rfl⟩:=ry;exact PySem.EqNone.eq_none_str (ba I q (by simp))
  | _=>exact absurd (show false=true from hs) Bool.false_ne_true
 | bl i=>
  cases rx
  cases y with
  | non=>cases ry;exact PySem.EqNone.eq_bool_none (ba I q (by simp))
  | bl j=>cases ry;exact eq_bool (ba I q dec_bl)
  | str j=>obtain ⟨t',rfl⟩:=ry;exact PySem.EqMixed.eq_bool_str (ba I q (by simp))
  | _=>exact absurd (show false=true from hs) Bool.false_ne_true
 | int i=>
  obtain ⟨t,rfl⟩:=rx
  cases y with
  | non=>cases ry;exact PySem.EqNone.eq_int_none (ba I q (by simp))
  | int j=>obtain ⟨t',rfl⟩:=ry;exact eq_int (ba I q qf)
  | str j=>obtain ⟨t',rfl⟩:=ry;exact PySem.EqMixed.eq_int_str (ba I q (by simp))
  | _=>exact absurd (show false=true from hs) Bool.false_ne_true
 | str i=>
  obtain ⟨t,rfl⟩:=rx
  cases y with
  | non=>cases ry;exact PySem.EqNone.eq_str_none (ba I q (by simp))
  | bl j=>cases ry;exact PySem.EqMixed.eq_str_bool (ba I q (by simp))
  | int j=>obtain ⟨t',rfl⟩:=ry;exact PySem.EqMixed.eq_str_int (ba I q (by simp))
  | str j=>obtain ⟨t',rfl⟩:=ry;exact eq_str (ba I q pZ)
  | _=>exact absurd (show false=true from hs) Bool.false_ne_true
 | byt i=>
  obtain ⟨t,rfl⟩:=rx
  cases y with
  | byt j=>obtain ⟨t',rfl⟩:=ry;exact PySem.W.eq_bytes (ba I q qa)
  | _=>exact absurd (show false=true from hs) Bool.false_ne_true
 | _=>cases y <;> exact absurd (show false=true from hs) Bool.false_ne_true
theorem bU:OpR X (compareOp .NotEq) rNe:=by
 intro pins s σ H x y v u Q I rx ry h
 obtain ⟨hs,q⟩:=h
 cases x with
 | non=>
  cases rx
  cases y with
  | non=>cases ry;exact PySem.EqNone.ne_none_none (ba I q (by simp))
  | bl j=>cases ry;exact PySem.EqNone.ne_none_bool (ba I q (by simp))
  | int j=>obtain ⟨t',rfl⟩:=ry;exact PySem.EqNone.ne_none_int (ba I q (by simp))
  | str j=>obtain ⟨t',rfl⟩:=ry;exact PySem.EqNone.ne_none_str (ba I q (by simp))
  | _=>exact absurd (show false=true from hs) Bool.false_ne_true
 | bl i=>
  cases rx
  cases y with
  | non=>cases ry;exact PySem.EqNone.ne_bool_none (ba I q (by simp))
  | bl j=>cases ry;exact ne_bool (ba I q (congrArg not dec_bl))
  | str j=>obtain ⟨t',rfl⟩:=ry;exact PySem.EqMixed.ne_bool_str (ba I q (by simp))
  | _=>exact absurd (show false=true from hs) Bool.false_ne_true
 | int i=>
  obtain ⟨t,rfl⟩:=rx
  cases y with
  | non=>cases ry;exact PySem.EqNone.ne_int_none (ba I q (by simp))
  | int j=>obtain ⟨t',rfl⟩:=ry;exact ne_int (ba I q (congrArg not qf))
  | str j=>obtain ⟨t',rfl⟩:=ry;exact PySem.EqMixed.ne_int_str (ba I q (by simp))
  | _=>exact absurd (show false=true from hs) Bool.false_ne_true
 | str i=>
  obtain ⟨t,rfl⟩:=rx
  cases y with
  | non=>cases ry;exact PySem.EqNone.ne_str_none (ba I q (by simp))
  | bl j=>cases ry;exact PySem.EqMixed.ne_str_bool (ba I q (by simp))
  | int j=>obtain ⟨t',rfl⟩:=ry;exact PySem.EqMixed.ne_str_int (ba I q (by simp))
  | str j=>obtain ⟨t',rfl⟩:=ry;exact ne_str (ba I q (congrArg not pZ))
  | _=>exact absurd (show false=true from hs) Bool.false_ne_true
 | byt i=>
  obtain ⟨t,rfl⟩:=rx
  cases y with
  | byt j=>obtain ⟨t',rfl⟩:=ry;exact PySem.W.ne_bytes (ba I q (congrArg not qa))
  | _=>exact absurd (show false=true from hs) Bool.false_ne_true
 | _=>cases y <;> exact absurd (show false=true from hs) Bool.false_ne_true
theorem fC:OpR X (compareOp .Lt) (rI0 fun i j=>.bl (decide (i < j))):=opB0 fun _ _ _ _ _ _ _ q=>lt_int q
theorem iC:OpR X (compareOp .LtE) (rI0 fun i j=>.bl (decide (i≤j))):=opB0 fun _ _ _ _ _ _ _ q=>le_int q
theorem dI:OpR X (compareOp .Gt) (rI0 fun i j=>.bl (decide (j < i))):=opB0 fun _ _ _ _ _ _ _ q=>gt_int q
theorem qb:OpR X (compareOp .GtE) (rI0 fun i j=>.bl (decide (j≤i))):=opB0 fun _ _ _ _ _ _ _ q=>ge_int q
theorem ap(b:Expr){op:CmpOp}(h:op ≠ .In:=by decide)(h2:op ≠ .NotIn:=by decide):behindInMarks op b=false:=by
 have e1:(op == CmpOp.In)=false:=by cases op <;> first | rfl | exact absurd rfl h
 have e2:(op == CmpOp.NotIn)=false:=by cases op <;> first | rfl | exact absurd rfl h2
 cases b <;> simp [behindInMarks,e1,e2]
theorem bm{op:CmpOp}{r:R2}(ho:OpR X (compareOp op) r)(ha:PE X a ta)(hb:PE X b tb)(hm:behindInMarks op b=false):PE X (.Compare a [op] [b] pos) (tOp r ta tb):=by
 intro pins s σ H Q I h
 exact wpAny_Compare1 (binT ha hb I h fun v u s2 x y H2 I2 rx ry q=>ho pins s2 σ H2 x y v u Q I2 rx ry q) hm
def fE(t:TE):TT:=fun σ H Q=>t σ H fun x H'=>∃ k,x = .bl k∧Q k H'
theorem ak{op:CmpOp}{r:R2}(ho:OpR X (compareOp op) r)(ha:PE X a ta)(hb:PE X b tb)(hm:behindInMarks op b=false):PT X (.Compare a [op] [b] pos) (fE (tOp r ta tb)):=by
 intro pins s σ H Q I h
 refine wpAny_isTrue_Compare1 (thn (ha pins s σ H _ I h) fun v s1 ⟨x,H1,I1,r1,q1⟩=>thn (hb pins s1 σ H1 _ I1 q1) fun u s2 ⟨y,H2,I2,r2,q2⟩=>
  thn (ho pins s2 σ H2 x y v u _ I2 r1 r2 q2) fun c s3 ⟨z,H3,I3,r3,k,e,q3⟩=> ?_) hm
 subst e
 cases r3
 exact wpAny_truthy_bool ⟨H3,I3,q3⟩
def tChain(r r':R2)(ta tb tc:TE):TE:=fun σ H Q=>ta σ H fun x H1=>tb σ H1 fun y H2=>r x y H2 fun z H3=>∃ k,z = .bl k ∧
 (if k=true then tc σ H3 fun w' H4=>r' y w' H4 Q else Q (.bl false) H3)
theorem gn{op op':CmpOp}{r r':R2}(ho:OpR X (compareOp op) r)(ho':OpR X (compareOp op') r')(ha:PE X a ta)(hb:PE X b tb)(hc:PE X c tc)
  (hm:lastMarks [op,op'] [b,c] = false:=by with_unfolding_all rfl):PE X (.Compare a [op,op'] [b,c] pos) (tChain r r' ta tb tc):=by
 intro pins s σ H Q I h
 refine Compare_chain (thn (ha pins s σ H _ I h) fun v s1 ⟨x,H1,I1,r1,q1⟩=>chain_link (thn (hb pins s1 σ H1 _ I1 q1) fun u s2 ⟨y,H2,I2,r2,q2⟩=>
  thn (ho pins s2 σ H2 x y v u _ I2 r1 r2 q2) fun d s3 ⟨z,H3,I3,r3,k,e,q3⟩=> ?_)) hm
 subst e
 cases r3
 refine wpAny_truthy_bool ?_
 cases k with
 | false=>exact ite_ff ⟨.bl false,H3,I3,rfl,q3⟩
 | true=>exact ite_tt (chain_last (thn (hc pins s3 σ H3 _ I3 q3) fun w' s4 ⟨z',H4,I4,r4,q4⟩=>ho' pins s4 σ H4 y z' u w' Q I4 r2 r4 q4))
theorem pj:(sizeLine:Nat) < 2 ^ 63:=by rw [sizeLine_eq];decide
theorem iF{x:V}{us:List Value}(r:aR [x] us):∃ u,us=[u]∧b6 x u:=by
 cases r with
 | cons r1 r2=>cases r2;exact ⟨_,rfl,r1⟩
theorem vals2{x y:V}{us:List Value}(r:aR [x,y] us):∃ u w',us=[u,w']∧b6 x u∧b6 y w':=by
 cases r with
 | cons r1 r2=>
  cases r2 with
  | cons r3 r4=>cases r4;exact ⟨_,_,rfl,r1,r3⟩
theorem call_max2(hc:X.calm=true):bX X (.builtin "max") (fun xs H Q=>∃ i j,xs=[.int i,.int j]∧Q (.int (if j > i then j else i)) H):=by
 intro pins s σ H xs us Q I r h
 obtain ⟨i,j,rfl,q⟩:=h
 obtain ⟨u,w',rfl,⟨t,rfl⟩,⟨t',rfl⟩⟩:=vals2 r
 refine max_two_ints (I.ok.hd hc) fun h' tk k=>⟨_,H,I.kept k,?_,q⟩
 by_cases hj:j > i
 ·rw [if_pos hj,if_pos hj];exact ⟨_,rfl⟩
 ·rw [if_neg hj,if_neg hj];exact ⟨_,rfl⟩
end
structure nY(h:Heap)(x dx C:Addr)(mA:Str→Option Value):Prop where
 obj:h.get? x=some (PySem.W.instObj C dx)
 ns:h.Ns1 dx mA
 ne:dx≠x
theorem lh{h:Heap}{dx:Addr}{mA:Str→Option Value}(n:h.Ns1 dx mA):∃ od,h.get? dx=some od∧∀ name,PySem.W.lookIn name od=some (mA name):=by
 obtain ⟨o,es,ep,ho,hd,hk,_,hm⟩:=n
 refine ⟨o,ho,fun name=> ?_⟩
 have e:=hm name
 unfold nsFind findBy at e
 rw [← Array.find?_toList] at e
 unfold PySem.W.lookIn
 rw [hd]
 dsimp only
 split
 ·rename_i y q
  rw [q] at e
  exact congrArg some e
 ·rename_i q
  rw [q] at e
  have a:es.toList.any (·.refKey)=false:=by
   rw [List.any_eq_false]
   intro y hy
   obtain ⟨z,t,hkey⟩:=hk y (Array.mem_toList_iff.mp hy)
   simp [DictEntry.refKey,hkey]
  have a':¬ es.toList.any (·.refKey)=true:=by rw [a];exact Bool.false_ne_true
  rw [if_neg a']
  exact congrArg some e
theorem nY.look{h:Heap}{x dx C:Addr}{mA:Str→Option Value}(I:nY h x dx C mA):∃ od,PySem.W.InstAt h x (PySem.W.instObj C dx) C (some od)∧∀ name,PySem.W.lookIn name od=some (mA name):=
 let ⟨od,ho,hl⟩:=lh I.ns
 ⟨od,⟨I.obj,rfl,rfl,ho⟩,hl⟩
section
variable{prog:Program}{w:World}{A:Around}{E:Value→Shared→Prop}{s:Shared}{K:PySem.W.Frag}{x dx C f:Addr}{mA:Str→Option Value}{name:Str}{v:Value}
theorem get_map{expr:Bool}{Q:Value→Shared→Prop}(X:K.In s.heap)(I:nY s.heap x dx C mA)(hg:PySem.W.plainGet K C name=true)(hh:PySem.W.hasDictIn K C=true)
  (ha:PySem.W.findIn K (.ref C) name=some none) (hv:mA name=some v) (hv':PySem.W.handedIn v=true) (h:Q v { s with toks:=s.toks + 1 }) :
  wpAny (model prog w) A (getAttr (.ref x) name expr) Q E s:=by
 obtain ⟨od,J,hl⟩:=I.look
 exact PySem.W.get_value X J (PySem.W.plainGet_of hg).1 (PySem.W.findObj_own hh ha rfl (by rw [hl,hv])) hv' h
theorem get_meth{pl:Sem Bool}{Q:Value×List Value→Shared→Prop}(X:K.In s.heap)(I:nY s.heap x dx C mA)(hg:PySem.W.plainGet K C name=true)
  (hf:PySem.W.findIn K (.ref C) name=some (some (.ref f))) (ht:PySem.W.isFn K (.ref f)=true) (hv:mA name=none) (h:Q (.ref f,[.ref x]) s) :
  wpAny (model prog w) A (getMethod (.ref x) name pl) Q E s:=by
 obtain ⟨od,J,hl⟩:=I.look
 exact PySem.W.method_fn X J (PySem.W.plainGet_of hg).1 (PySem.W.plainGet_of hg).2 hf (beq_iff_eq.mp ht) (by show (PySem.W.lookIn name od).map (·.isSome)=some false;rw [hl,hv];rfl) h
theorem set_map{ns:List Str}{Q:Unit→Shared→Prop}(X:K.In s.heap)(I:nY s.heap x dx C mA)
  (hs:PySem.W.findIn K (.ref C) "__setattr__" = some (some (.builtin "object.__setattr__"))) (hp:PySem.W.plainOver K C=true) (ht:PySem.W.takerIn K C name=some none) (hh:PySem.W.hasDictIn K C=true)
  (hw:PySem.Within mA ns) (hsz:ns.length≤sizeLine)
  (h:∀ h',nY h' x dx C (fun y=>if y=name then some v else mA y)→Heap.SameBut dx s.heap h'→Q () { s with heap:=h',toks:=s.toks + 2 }) :
  wpAny (model prog w) A (setAttr (.ref x) name v) Q E s:=by
 obtain ⟨od,J,hl⟩:=I.look
 refine PySem.W.set_plain X J hs (PySem.W.osa_open (s:={ s with toks:=s.toks + 1 }) (r:=none) X J hp ht fun b=> ?_)
 obtain ⟨cd,hc,hd'⟩:=PySem.W.any_some hh
 have hx:s.heap.get? x=some ⟨.ref C,some dx,.plain,#[]⟩:=I.obj
 refine wpAny_bind (wpAny_pure (wpAny_bind (wpAny_bind (wpAny_loadPart hx (wpAny_bind (PySem.W.Looks.here (s:={ s with toks:=s.toks + 1 }) (PySem.W.looks_clsIn X hc) ?_))))))
 rw [hd']
 refine wpAny_pure (a:=some dx) (wpAny_bind (wpAny_pure (wpAny_bind ?_)))
 refine wpAny_nsSet1 (s:={ s with toks:=s.toks + 1 }) I.ns fun h' hn2 hs2=> ?_
 obtain ⟨oD,esD,epD,hoD,hdD,hcD⟩:=hn2.count (PySem.Within.cons name v hw)
 refine wpAny_bind (wpAny_lookBehind hoD (by rw [hdD];exact pastItsLine_dict (Nat.le_trans hcD (by rw [List.length_cons];omega))) ?_)
 exact wpAny_pure (h _ ⟨(hs2.2 _ (Ne.symm I.ne)).trans I.obj,hn2,I.ne⟩ hs2)
theorem make_map{R:Result→Shared→Prop}{vs:List Value}{kw:List (Str×Value)}(X:K.In s.heap)(hm:PySem.W.makesIn K C=true)
  (hi:PySem.W.findIn K (.ref C) "__init__" = some (some (.ref f))) (hf:PySem.W.typeIn K (.ref f)=some (.type "function"))
  (h:codeAny (model prog w) (A.under (.builtin "type.__call__" ⟨.ref C :: vs,kw⟩)) (.call (.ref f) ⟨.ref (s.heap.objs.size + 1) :: vs,kw⟩) (PySem.W.InitBack (s.heap.objs.size + 1) R)
   { s with heap:=(s.heap.push PySem.W.emptyDict).push (PySem.W.instObj C s.heap.objs.size) }) :
  codeAny (model prog w) A (.call (.ref C) ⟨vs,kw⟩) R s:=by
 obtain ⟨hh,g,d,t,os⟩:=s
 exact PySem.W.make_core (PySem.W.makes_of X hm) (PySem.W.looks_findIn X hi) (fun self=>PySem.W.bind_fn X self hf) (.inl rfl) h
end
def b0(f:Str)(v:V):List (Str×V)→List (Str×V)
 | [] =>[(f,v)]
 |(g,x) :: r=>if g=f then (g,v) :: r else (g,x) :: b0 f v r
theorem iA(f g:Str)(v:V):∀ fs:List (Str×V),(b0 f v fs).lookup g=if g=f then some v else fs.lookup g
 | [] =>by
  show List.lookup g [(f,v)] = _
  by_cases h:g=f
  ·have hb:(g == f)=true:=beq_iff_eq.mpr h
   simp only [List.lookup,hb,if_pos h]
  ·have hb:(g == f)=false:=beq_eq_false_iff_ne.mpr h
   simp only [List.lookup,hb,if_neg h]
 |(k,x) :: r=>by
  have ih:=iA f g v r
  rw [show b0 f v ((k,x) :: r)=(if k=f then (k,v) :: r else (k,x) :: b0 f v r) from rfl]
  by_cases hk:k=f
  ·rw [if_pos hk]
   by_cases h:g=k
   ·have hb:(g == k)=true:=beq_iff_eq.mpr h
    simp only [List.lookup,hb,if_pos (h.trans hk)]
   ·have hb:(g == k)=false:=beq_eq_false_iff_ne.mpr h
    simp only [List.lookup,hb,if_neg (fun e:g=f=>h (e.trans hk.symm))]
  ·rw [if_neg hk]
   by_cases h:g=k
   ·have hb:(g == k)=true:=beq_iff_eq.mpr h
    simp only [List.lookup,hb,if_neg (fun e:g=f=>hk (h.symm.trans e))]
   ·have hb:(g == k)=false:=beq_eq_false_iff_ne.mpr h
    simp only [List.lookup,hb]
    exact ih
theorem ik(f:Str)(v:V):∀ fs:List (Str×V),f∈(b0 f v fs).map (·.1)∧∀ g,g∈fs.map (·.1)→g∈(b0 f v fs).map (·.1)
 | [] =>⟨by simp [b0],fun g h=>by simp at h⟩
 |(k,x) :: r=>by
  obtain ⟨i1,i2⟩:=ik f v r
  rw [show b0 f v ((k,x) :: r)=(if k=f then (k,v) :: r else (k,x) :: b0 f v r) from rfl]
  by_cases hk:k=f
  ·rw [if_pos hk]
   subst hk
   exact ⟨by simp,fun g h=>by simpa using h⟩
  ·rw [if_neg hk]
   refine ⟨?_,fun g h=> ?_⟩
   ·rw [List.map_cons]
    exact List.mem_cons_of_mem _ i1
   ·rw [List.map_cons] at h ⊢
    rcases List.mem_cons.mp h with e | e
    ·exact List.mem_cons.mpr (.inl e)
    ·exact List.mem_cons_of_mem _ (i2 g e)
theorem iE(f:Str)(v:V):∀ fs:List (Str×V),(b0 f v fs).length≤fs.length + 1
 | [] =>by simp [b0]
 |(k,x) :: r=>by
  have ih:=iE f v r
  rw [show b0 f v ((k,x) :: r)=(if k=f then (k,v) :: r else (k,x) :: b0 f v r) from rfl]
  by_cases hk:k=f
  ·rw [if_pos hk,List.length_cons,List.length_cons];omega
  ·rw [if_neg hk,List.length_cons,List.length_cons];omega
theorem eZ.some_of{v:V}{o:Option Value}(r:eZ (some v) o):∃ u,o=some u∧b6 v u:=by
 cases o with
 | none=>exact (show False from r).elim
 | some u=>exact ⟨u,rfl,r⟩
theorem eZ.none_of{o:Option Value}(r:eZ none o):o=none:=by
 cases o with
 | none=>rfl
 | some u=>exact (show False from r).elim
theorem handed_of{v:V}{u:Value}(r:b6 v u):PySem.W.handedIn u=true:=by
 cases v with
 | non=>cases (show u=Value.none from r);rfl
 | bl b=>cases (show u=Value.bool b from r);rfl
 | int i=>obtain ⟨t,e⟩:=(show ∃ t,u=Value.int i t from r);cases e;rfl
 | str x=>obtain ⟨t,e⟩:=(show ∃ t,u=Value.str x t from r);cases e;rfl
 | byt b=>obtain ⟨t,e⟩:=(show ∃ t,u=Value.bytes b t from r);cases e;rfl
 | flt b=>obtain ⟨t,e⟩:=(show ∃ t,u=Value.float b t from r);cases e;rfl
 | ref a=>cases (show u=Value.ref a from r);rfl
 | ty n=>cases (show u=Value.type n from r);rfl
section
variable{P:Program}{w:World}{H H':Hp}{h h':Heap}{a C dx:Addr}{fs fs':List (Str×V)}
theorem mh(hok:HOk P w H h)(e:H a=some (.ins C dx fs)):∃ mA,nY h a dx C mA∧(∀ f,eZ (fs.lookup f) (mA f))∧PySem.Within mA (fs.map (·.1))∧fs.length≤1000∧H dx=some (.own a):=by
 obtain ⟨d,z,ne,ob,mA,n,r,q⟩:=(show be P w H h a (.ins C dx fs) from hok a _ e)
 exact ⟨mA,⟨ob,n,ne⟩,r,q,z,d⟩
end
structure Cls(K:PySem.W.Frag)(C:Addr):Prop where
 pg:PySem.W.plainGet K C Str.empty=true
 hd:PySem.W.hasDictIn K C=true
 po:PySem.W.plainOver K C=true
 sa:PySem.W.findIn K (.ref C) "__setattr__" = some (some (.builtin "object.__setattr__"))
theorem Cls.get{K:PySem.W.Frag}{C:Addr}(c:Cls K C)(f:Str):PySem.W.plainGet K C f=true:=c.pg
def aZ(K:PySem.W.Frag)(C:Addr)(f:Str):Prop:=PySem.W.findIn K (.ref C) f=some none
theorem aZ.taker{K:PySem.W.Frag}{C:Addr}{f:Str}(n:aZ K C f):PySem.W.takerIn K C f=some none:=by
 unfold PySem.W.takerIn
 rw [show PySem.W.findIn K (.ref C) f=some none from n]
 rfl
structure Meth(K:PySem.W.Frag)(C:Addr)(m:Str)(f:Addr):Prop where
 at_:PySem.W.findIn K (.ref C) m=some (some (.ref f))
 fn:PySem.W.isFn K (.ref f)=true
 kp:PySem.W.keepIn K (.ref f)=true
section
variable{X:Cx}{pins:List (Addr×Obj)}{σ : St}{H:Hp}{s:Shared}{a C dx:Addr}{fs:List (Str×V)}{f:Str}{v:V}{A:Around}{E:Value→Shared→Prop}
theorem oe{b:Bool}{Q:Value→Shared→Prop}(I:Inv X pins σ H s)(e:H a=some (.ins C dx fs))(c:Cls X.K C)(n:aZ X.K C f)(l:fs.lookup f=some v)
  (h:∀ u s',Inv X pins σ H s'→b6 v u→Q u s'):wpAny (model X.prog X.w) A (getAttr (.ref a) f b) Q E s:=by
 obtain ⟨mA,O,r,_,_,_⟩:=mh I.hok e
 obtain ⟨u,hu,ru⟩:=eZ.some_of (v:=v) (o:=mA f) (by rw [← l];exact r f)
 exact get_map I.kIn O (c.get f) c.hd n hu (handed_of ru) (h u _ (I.tok _) ru)
theorem o0{m:Str}{g:Addr}{pl:Sem Bool}{Q:Value×List Value→Shared→Prop}(I:Inv X pins σ H s)(e:H a=some (.ins C dx fs))(c:Cls X.K C)(k:Meth X.K C m g)(l:fs.lookup m=none)
  (h:Q (.ref g,[.ref a]) s):wpAny (model X.prog X.w) A (getMethod (.ref a) m pl) Q E s:=by
 obtain ⟨mA,O,r,_,_,_⟩:=mh I.hok e
 have hn:mA m=none:=eZ.none_of (by rw [← l];exact r m)
 exact get_meth I.kIn O (c.get m) k.at_ k.fn hn h
theorem oz{y:V}{u:Value}{Q:Unit→Shared→Prop}(I:Inv X pins σ H s)(e:H a=some (.ins C dx fs))(c:Cls X.K C)(n:aZ X.K C f)(hl:fs.length < 1000)(ry:b6 y u)
  (h:∀ s',Inv X pins σ (upd H a (.ins C dx (b0 f y fs))) s'→Q () s'):wpAny (model X.prog X.w) A (setAttr (.ref a) f u) Q E s:=by
 obtain ⟨mA,O,r,wi,_,ho⟩:=mh I.hok e
 have hz:(fs.map (·.1)).length≤sizeLine:=by rw [List.length_map,sizeLine_eq];omega
 refine set_map I.kIn O c.sa c.po n.taker c.hd wi hz fun h' O' sb=>h _ ?_
 have hd:∃ o,h'.get? dx=some o:=let ⟨o,_,_,e',_⟩:=O'.ns;⟨o,e'⟩
 refine I.write (x:=a) (e:=dx) (by rw [e];exact True.intro) (.inr ho) (fun b q hb z=>(sb.2 b hb).trans z) hd ?_
 refine ⟨by rw [af O.ne];exact ho,?_,O.ne,O'.obj,_,O'.ns,fun g=> ?_,fun g hg=> ?_⟩
 ·have:=iE f y fs;omega
 ·show eZ ((b0 f y fs).lookup g) (if g=f then some u else mA g)
  rw [iA]
  by_cases q:g=f
  ·rw [if_pos q,if_pos q];exact ry
  ·rw [if_neg q,if_neg q];exact r g
 ·by_cases q:g=f
  ·rw [q];exact (ik f y fs).1
  ·refine (ik f y fs).2 g (wi g fun z=>hg ?_)
   show (if g=f then some u else mA g)=none
   rw [if_neg q];exact z
theorem Inv.made(I:Inv X pins σ H s):Inv X pins σ (upd (upd H s.heap.objs.size (.own (s.heap.objs.size + 1))) (s.heap.objs.size + 1) (.ins C s.heap.objs.size []))
  { s with heap:=(s.heap.push PySem.W.emptyDict).push (PySem.W.instObj C s.heap.objs.size) }:=by
 have e1:(s.heap.push PySem.W.emptyDict).get? s.heap.objs.size=some PySem.W.emptyDict:=Heap.get?_push_size s.heap rfl
 have e2:((s.heap.push PySem.W.emptyDict).push (PySem.W.instObj C s.heap.objs.size)).get? (s.heap.objs.size + 1)=some (PySem.W.instObj C s.heap.objs.size):=by
  have:=Heap.get?_push_size (s.heap.push PySem.W.emptyDict) (o:=PySem.W.instObj C s.heap.objs.size) rfl
  rwa [Heap.size_push] at this
 have e3:(s.heap.push PySem.W.emptyDict).Ns s.heap.objs.size (fun _=>none):=⟨PySem.W.emptyDict,#[],_,e1,rfl,(fun e he=>absurd he (by simp)),fun _=>rfl⟩
 have I1:=I.laid (a:=s.heap.objs.size) (o:=.own (s.heap.objs.size + 1)) (h':=s.heap.push PySem.W.emptyDict) (t':=s.toks) (fun b u q=>Heap.get?_push_of_some _ q) (Nat.le_refl _) ⟨_,e1⟩
 refine I1.laid (a:=s.heap.objs.size + 1) (o:=.ins C s.heap.objs.size []) (t':=s.toks) (fun b u q=>Heap.get?_push_of_some _ q) (Nat.le_of_eq (Heap.size_push _ _)) ?_
 have ne:s.heap.objs.size≠s.heap.objs.size + 1:=Nat.ne_of_lt (Nat.lt_succ_self _)
 refine ⟨by rw [af ne,a9],Nat.zero_le _,ne,e2,fun _=>none,(Heap.Ns1.of_empty e3).at fun o q=>Heap.get?_push_of_some _ q,fun _=>True.intro,fun y hy=>absurd rfl hy⟩
theorem attr_of{prog:Program}{w:World}{env:Env}{e:Expr}{f:Str}{pos:Pos}{s:Shared}{Q:Value→Shared→Prop}(hb:attributeBase e f env (eval e env)=eval e env)
  (h:wpAny (model prog w) A (eval e env) (fun o s₁ =>wpAny (model prog w) A (getAttr o f true) Q E s₁) E s):wpAny (model prog w) A (eval (.Attribute e f pos) env) Q E s:=
 Attribute_any_ h (by rw [arm_eval_Attribute,hb])
end
def tFld(K:PySem.W.Frag)(ta:TE)(f:Str):TE:=fun σ H Q=>ta σ H fun x H1=>∃ a C dx fs v,x = .ref a∧H1 a=some (.ins C dx fs)∧Cls K C∧aZ K C f∧fs.lookup f=some v∧Q v H1
def sFld(K:PySem.W.Frag)(ta tv:TE)(f:Str):TS:=fun D σ H=>tv σ H fun y H1=>ta σ H1 fun x H2=>∃ a C dx fs,x = .ref a∧H2 a=some (.ins C dx fs)∧Cls K C∧aZ K C f∧fs.length < 1000 ∧
 D.nx σ (upd H2 a (.ins C dx (b0 f y fs)))
section
variable{X:Cx}{o e value:Expr}{f:Str}{pos pos' tpos:Pos}{ta tv:TE}
theorem pe_fld(he:PE X e ta)(hb:attributeBase e f X.env (eval e X.env)=eval e X.env):PE X (.Attribute e f pos) (tFld X.K ta f):=by
 intro pins s σ H Q I h
 refine attr_of hb (thn (he pins s σ H _ I h) fun u s1 ⟨x,H1,I1,rx,a,C,dx,fs,v,ex,ea,c,n,l,q⟩=> ?_)
 subst ex
 obtain rfl:u=Value.ref a:=rx
 exact oe I1 ea c n l fun u' s2 I2 ru=>⟨v,H1,I2,ru,q⟩
theorem ps_fld(ha:PE X o ta)(hv:PE X value tv)(hs:swapsWith value (some (.Attribute o f pos')) pos.line X.env=pure false):PS X (.Assign [.Attribute o f pos'] value pos) (sFld X.K ta tv f):=by
 intro pins s σ H D I h
 refine plainObj_wpAny_Assign_Attribute (thn (hv pins s σ H _ I h) fun u s1 ⟨y,H1,I1,ry,q⟩=>thn (ha pins s1 σ H1 _ I1 q) fun ov s2 ⟨x,H2,I2,rx,a,C,dx,fs,ex,ea,c,n,l,q2⟩=> ?_) hs
 subst ex
 obtain rfl:ov=Value.ref a:=rx
 exact oz I2 ea c n l ry fun s3 I3=>⟨σ,_,I3,q2⟩
end
structure bW(k:Nat)(A:Around):Prop where
 hd:A.handled=none
 dp:A.depth + 3 * k + 5 < recursionLimit
 un:A.units + 16 * k + 200 < cLine
theorem bW.mono{j k:Nat}{A:Around}(r:bW k A)(h:j≤k):bW j A:=⟨r.hd,by have:=r.dp;omega,by have:=r.un;omega⟩
theorem bW.deeper{k:Nat}{A:Around}(r:bW (k + 1) A)(env:Env):bW k (A.deeper env):=
 ⟨r.hd,by have:=r.dp;show A.depth + 1 + 3 * k + 5 < _;omega,by have:=r.un;show A.units + 3 + 16 * k + 200 < _;omega⟩
theorem oP{A:Around}{C:Addr}{us:List Value}{kw:List (Str×Value)}:(A.under (.builtin "type.__call__" ⟨.ref C :: us,kw⟩)).depth=A.depth + 1:=by
 first | rfl | simp [Around.under,Code.weight,Code.isCreation,Code.isGuard,Code.isCaller,Code.frames,Code.isFrame,guardIds]
theorem pw{A:Around}{C:Addr}{us:List Value}{kw:List (Str×Value)}:(A.under (.builtin "type.__call__" ⟨.ref C :: us,kw⟩)).units=A.units + 1:=by
 first | rfl | simp [Around.under,Code.cUnits,Code.frames,Code.isFrame]
theorem bW.make{k:Nat}{A:Around}(r:bW (k + 1) A)(C:Addr)(us:List Value)(kw:List (Str×Value)):bW k (A.under (.builtin "type.__call__" ⟨.ref C :: us,kw⟩)):=
 ⟨r.hd,by have:=r.dp;rw [oP];omega,by have:=r.un;rw [pw];omega⟩
theorem bW.depth{k:Nat}{A:Around}(r:bW k A):A.depth < recursionLimit:=by have:=r.dp;omega
theorem bW.units{k:Nat}{A:Around}(r:bW k A):A.units + 64 < cLine:=by have:=r.un;omega
def ip:TA:=fun _ H Q=>Q [] H
def bI(ta:TE)(tr:TA):TA:=fun σ H Q=>ta σ H fun x H1=>tr σ H1 fun xs H2=>Q (x :: xs) H2
section
variable{X:Cx}{e:Expr}{es:List Expr}{te:TE}{t:TA}{pos:Pos}
theorem ab:PA X [] ip:=fun _ _ _ _ H Q I h=>Calls.spliced_nil ⟨[],H,I,.nil,h⟩
theorem a6(ha:PE X e te)(hr:PA X es t)(hs:starEach (e :: es) X.env=(false,eval e X.env) :: starEach es X.env:=by rfl):PA X (e :: es) (bI te t):=by
 intro pos pins s σ H Q I h
 rw [hs]
 show wpAny _ _ (spliced ((false,eval e X.env) :: backTo pos (starEach es X.env))) _ _ s
 refine Calls.spliced_cons (thn (ha pins s σ H _ I h) fun u s1 ⟨x,H1,I1,r1,q1⟩=> ?_)
 exact thn (hr pos pins s1 σ H1 _ I1 q1) fun us s2 ⟨xs,H2,I2,r2,q2⟩=>⟨x :: xs,H2,I2,.cons r1 r2,q2⟩
def tTup(t:TA):TE:=fun σ H Q=>t σ H fun xs H1=>xs.length≤sizeLine∧∀ p,H1 p=none→Q (.ref p) (upd H1 p (.tup xs))
def tLst(t:TA):TE:=fun σ H Q=>t σ H fun xs H1=>xs.length≤sizeLine∧∀ p,H1 p=none→Q (.ref p) (upd H1 p (.lst xs))
theorem i0{x1}(h:PA X es t):PE X (.Tuple es x1 pos) (tTup t):=by
 intro pins s σ H Q I hq
 refine wpAny_Tuple_spliced (thn (h pos pins s σ H _ I hq) fun us s1 ⟨xs,H1,I1,r,z,q⟩=>⟨by rw [← r.length];exact z,?_⟩)
 have hf:H1 s1.heap.objs.size=none:=I1.hok.fresh (Nat.le_refl _)
 refine ⟨.ref s1.heap.objs.size,upd H1 s1.heap.objs.size (.tup xs),I1.laid (t':=s1.toks) (fun b u e=>Heap.get?_push_of_some _ e) (Nat.le_refl _) ?_,rfl,q _ hf⟩
 exact ⟨z,us,r,⟨_,Heap.get?_push_size _ rfl,rfl,_,rfl⟩⟩
theorem bf(h:PA X es t):PE X (.List es pos) (tLst t):=by
 intro pins s σ H Q I hq
 refine wpAny_List_spliced (thn (h pos pins s σ H _ I hq) fun us s1 ⟨xs,H1,I1,r,z,q⟩=>⟨by rw [← r.length];exact z,?_⟩)
 have hf:H1 s1.heap.objs.size=none:=I1.hok.fresh (Nat.le_refl _)
 refine ⟨.ref s1.heap.objs.size,upd H1 s1.heap.objs.size (.lst xs),I1.laid (t':=s1.toks) (fun b u e=>Heap.get?_push_of_some _ e) (Nat.le_refl _) ?_,rfl,q _ hf⟩
 exact ⟨z,us,0,r,Heap.get?_push_size _ rfl⟩
end
abbrev Sp:=List V→Hp→VK→XK→Prop
abbrev CXT:=List Env→Hp→Shared→XK→Value→Shared→Prop
structure pq(P:Program)(w:World)(K:PySem.W.Frag)(mg:Str→Option Value)(base:Heap)(A:Around)(outer:List Env)(s:Shared)(H:Hp):Prop where
 frames:A.frames=some outer
 mod:Mod K mg base
 bs:∀ b o,base.get? b=some o→s.heap.get? b=some o∧H b=none
 bsz:base.objs.size≤s.heap.objs.size
 funs:s.heap.FunFrames base outer
 frf:∀ b∈frs outer,H b=none
 hok:HOk P w H s.heap
 bare:AllBare s.gens
def CE(outer:List Env)(P:Program)(w:World)(H:Hp)(s:Shared)(Q:VK)(u:Value)(s':Shared):Prop:=
 ∃ v H',s'.os=s.os∧AllBare s'.gens∧Un (frs outer) [] H H' s.heap s'.heap∧HOk P w H' s'.heap∧b6 v u∧Q v H'
def CR(CX:CXT)(outer:List Env)(P:Program)(w:World)(H:Hp)(s:Shared)(Q:VK)(E:XK)(r:Result)(s':Shared):Prop:=
 match r with
 | .ok (.ret u)=>CE outer P w H s Q u s'
 | .ok _=>False
 | .error e=>CX outer H s E e s'
structure eI(P:Program)(w:World)(K:PySem.W.Frag)(mg:Str→Option Value)(base:Heap)(CX:CXT)(k:Nat)(f:Addr)(fd:FuncData)(ps:List Str)(sp:Sp):Prop where
 len:∀ vs H Q E,sp vs H Q E→vs.length=ps.length
 run:∀ (A:Around) (outer:List Env) (s:Shared) (H:Hp) (args:Args) (us:List Value) (vs:List V) (Q:VK) (E:XK),bW k A→pq P w K mg base A outer s H→BindsTo s fd args (ps.zip us)→aR vs us→sp vs H Q E →
  codeAny (model P w) A (.call (.ref f) args) (CR CX outer P w H s Q E) s
theorem pq.make{P:Program}{w:World}{K:PySem.W.Frag}{mg:Str→Option Value}{base:Heap}{A:Around}{outer:List Env}{s:Shared}{H:Hp}(e:pq P w K mg base A outer s H)(C:Addr)(us:List Value)(kw:List (Str×Value)) :
  pq P w K mg base (A.under (.builtin "type.__call__" ⟨.ref C :: us,kw⟩)) outer s H:=⟨by first | exact e.frames | (simpa [Around.under,Code.envs,Code.isFrame,pushEnvs] using e.frames),e.mod,e.bs,e.bsz,e.funs,e.frf,e.hok,e.bare⟩
section
variable{X:Cx}{pins:List (Addr×Obj)}{σ : St}{H:Hp}{s s':Shared}
theorem Inv.env0(I:Inv X pins σ H s):pq X.prog X.w X.K X.mg X.base X.A X.stack s H:=
 ⟨I.ok.frames,I.ok.mod,I.bs,Nat.le_trans I.ok.bsz I.sz,I.stack,I.stkFree,I.hok,I.bare⟩
theorem Inv.after{Q:VK}{u:Value}(I:Inv X pins σ H s)(h:CE X.stack X.prog X.w H s Q u s'):EP X pins σ Q u s':=by
 obtain ⟨v,H',os,bare,un,hok,r,q⟩:=h
 obtain ⟨hh,g,d,t,os'⟩:=s'
 obtain rfl:os'=s.os:=os
 exact ⟨v,H',I.call (h':=hh) (g':=g) (d':=d) (t':=t) (ch:=[]) un hok bare (fun b z=>absurd z (by simp)),r,q⟩
end
def nO(sp:Sp)(dvs:List V)(E:XK)(t:TA):TE:=fun σ H Q=>t σ H fun vs H1=>sp (vs ++ dvs) H1 Q E
def tMeth(C:Addr)(m:Str)(sp:Sp)(dvs:List V)(E:XK)(ta:TE)(t:TA):TE:=fun σ H Q=>ta σ H fun x H1=>∃ a dx fs,x = .ref a∧H1 a=some (.ins C dx fs)∧fs.lookup m=none ∧
 t σ H1 fun vs H2=>sp (x :: (vs ++ dvs)) H2 Q E
def dO(C:Addr)(sp:Sp)(dvs:List V)(E:XK)(t:TA):TE:=fun σ H Q=>t σ H fun vs H1=>∀ x dx,H1 x=none→H1 dx=none→dx≠x →
 sp (.ref x :: (vs ++ dvs)) (upd (upd H1 dx (.own x)) x (.ins C dx [])) (fun v H2=>v = .non∧Q (.ref x) H2) E
def dc(K:PySem.W.Frag)(fd:FuncData)(ps:List Str)(ds:List Value):Prop:=
 ∀ (s:Shared) (us:List Value),K.In s.heap→(us ++ ds).length=ps.length→BindsTo s fd ⟨us,[]⟩ (ps.zip (us ++ ds))
theorem dc.all{K:PySem.W.Frag}{fd:FuncData}{ps:List Str}(h:∀ us:List Value,us.length=ps.length→bindArgs fd ⟨us,[]⟩=pure (ps.zip us)):dc K fd ps []:=fun s us _ hl=>by
 rw [List.append_nil] at hl ⊢
 exact .of_eq (h us hl)
def gl(CX:CXT)(X:Cx)(E:XK):Prop:=∀ (pins:List (Addr×Obj)) (σ : St) (H:Hp) (s:Shared) (e:Value) (s':Shared),Inv X pins σ H s→CX X.stack H s E e s'→X.xe e s'
section
variable{X:Cx}{CX:CXT}{k:Nat}{f C:Addr}{fd:FuncData}{ps:List Str}{sp:Sp}{dvs:List V}{ds:List Value}{E:XK}{x m:Str}{p pos apos:Pos}{e o:Expr}{es:List Expr}{ta:TE}{t:TA}
theorem run_fn{pins:List (Addr×Obj)}{σ : St}{H:Hp}{s:Shared}{Q:VK}{us:List Value}{vs:List V}(F:eI X.prog X.w X.K X.mg X.base CX k f fd ps sp)(hr:bW k X.A)(hb:dc X.K fd ps ds)(hd:aR dvs ds)(hx:gl CX X E)
  (I:Inv X pins σ H s) (r:aR vs us) (h:sp (vs ++ dvs) H Q E):wpAny (model X.prog X.w) X.A (call (.ref f) us) (EP X pins σ Q) X.xe s:=by
 have r2:aR (vs ++ dvs) (us ++ ds):=r.append hd
 have hl:(us ++ ds).length=ps.length:=by rw [← r2.length];exact F.len _ _ _ _ h
 refine wpAny_call (codeAny_mono (F.run X.A X.stack s H ⟨us,[]⟩ (us ++ ds) (vs ++ dvs) Q E hr I.env0 (hb s us I.kIn hl) r2 h) fun r s' hq=> ?_)
 cases r with
 | error e=>exact hx pins σ H s e s' I hq
 | ok fl=>
  cases fl with
  | ret u=>exact I.after hq
  | next=>exact False.elim hq
  | brk=>exact False.elim hq
  | cont=>exact False.elim hq
theorem pe_call(F:eI X.prog X.w X.K X.mg X.base CX k f fd ps sp)(hr:bW k X.A)(hg:Gl X x)(hm:X.mg x=some (.ref f))(hk:PySem.W.keepIn X.K (.ref f)=true)(hb:dc X.K fd ps ds)(hd:aR dvs ds)(hx:gl CX X E)
  (ha:PA X (e :: es) t) (hdb:(x == ("__debug__" : Str))=false:=by decide) (he:starEach (e :: es) X.env=(false,eval e X.env) :: starEach es X.env:=by rfl) (hpl:(backTo pos (starEach es X.env)).any (·.1)=false:=by rfl) :
  PE X (.Call (.Name x p) (e :: es) [] pos) (nO sp dvs E t):=by
 intro pins s σ H Q I h
 refine wpAny_Call_Name_kw (jk I hg hm ?_ hdb)
 refine PySem.W.callWith_K (h₀ := X.base) I.ok.mod.kin hk (thn (ha pos pins s σ H _ I h) fun us s1 ⟨vs,H1,I1,r,q⟩=>⟨I1.kIn,?_⟩) he hpl
 exact run_fn F hr hb hd hx I1 r q
theorem pe_meth0{pl:Sem Bool}(he:PE X o ta)(c:Cls X.K C)(hm:Meth X.K C m f)(F:eI X.prog X.w X.K X.mg X.base CX k f fd ps sp)(hr:bW k X.A)(hb:dc X.K fd ps ds)(hd:aR dvs ds)(hx:gl CX X E)
  (ht:eval (.Call (.Attribute o m apos) [] [] pos) X.env=(do
   let ov ← eval o X.env
   standAt apos.atName
   let (f,first) ← holding [ov] (getMethod ov m pl)
   callWith pos f first (backTo pos (starEach [] X.env)) (backToKw pos (keywordEach [] X.env))):=by rfl) :
  PE X (.Call (.Attribute o m apos) [] [] pos) (tMeth C m sp dvs E ta ip):=by
 intro pins s σ H Q I h
 refine PySem.W.methodCall_KW (pl:=pl) (thn (he pins s σ H _ I h) fun u s1 ⟨x,H1,I1,rx,a,dx,fs,ex,ea,l,q⟩=> ?_) ht
 subst ex
 obtain rfl:u=Value.ref a:=rx
 refine o0 I1 ea c hm l ?_
 exact PySem.W.callWith_K0 (first:=[.ref a]) I1.kIn hm.kp (run_fn (us:=[.ref a]) (vs:=[.ref a]) F hr hb hd hx I1 (.cons rfl .nil) q)
structure Mk(K:PySem.W.Frag)(C f:Addr):Prop where
 makes:PySem.W.makesIn K C=true
 init:PySem.W.findIn K (.ref C) "__init__" = some (some (.ref f))
 fn:PySem.W.isFn K (.ref f)=true
 kp:PySem.W.keepIn K (.ref C)=true
theorem nk{pins:List (Addr×Obj)}{σ : St}{H:Hp}{s:Shared}{Q:VK}{us:List Value}{vs:List V}(M:Mk X.K C f)(F:eI X.prog X.w X.K X.mg X.base CX k f fd ps sp)(hr:bW (k + 1) X.A)(hb:dc X.K fd ps ds)(hd:aR dvs ds)
  (hx:gl CX X E) (I:Inv X pins σ H s) (r:aR vs us)
  (h:∀ x dx,H x=none→H dx=none→dx≠x→sp (.ref x :: (vs ++ dvs)) (upd (upd H dx (.own x)) x (.ins C dx [])) (fun v H2=>v = .non∧Q (.ref x) H2) E) :
  wpAny (model X.prog X.w) X.A (call (.ref C) us) (EP X pins σ Q) X.xe s:=by
 have hq:=h (s.heap.objs.size + 1) s.heap.objs.size (I.hok.fresh (Nat.le_succ _)) (I.hok.fresh (Nat.le_refl _)) (Nat.ne_of_lt (Nat.lt_succ_self _))
 have I2:=Inv.made (C:=C) I
 have r2:aR (V.ref (s.heap.objs.size + 1) :: (vs ++ dvs)) (Value.ref (s.heap.objs.size + 1) :: (us ++ ds)):=.cons rfl (r.append hd)
 have hl:(Value.ref (s.heap.objs.size + 1) :: us ++ ds).length=ps.length:=by
  have e:=r2.length
  rw [F.len _ _ _ _ hq] at e
  exact e.symm
 refine wpAny_call (make_map (f:=f) I.kIn M.makes M.init (beq_iff_eq.mp M.fn) (codeAny_mono (F.run _ X.stack _ _ ⟨Value.ref (s.heap.objs.size + 1) :: us,[]⟩ (Value.ref (s.heap.objs.size + 1) :: (us ++ ds)) _ _ E (hr.make C us [])
  (I2.env0.make C us []) (hb _ (Value.ref (s.heap.objs.size + 1) :: us) I2.kIn hl) r2 hq) fun r s' hq'=> ?_))
 cases r with
 | error e=>exact hx pins σ _ _ e s' I2 hq'
 | ok fl=>
  cases fl with
  | ret u=>
   obtain ⟨v,H',I3,rv,ev,q3⟩:=I2.after hq'
   subst ev
   exact ⟨rv,⟨V.ref (s.heap.objs.size + 1),H',I3,rfl,q3⟩⟩
  | next=>exact False.elim hq'
  | brk=>exact False.elim hq'
  | cont=>exact False.elim hq'
theorem pe_make(M:Mk X.K C f)(F:eI X.prog X.w X.K X.mg X.base CX k f fd ps sp)(hr:bW (k + 1) X.A)(hg:Gl X x)(hm:X.mg x=some (.ref C))(hb:dc X.K fd ps ds)(hd:aR dvs ds)(hx:gl CX X E)
  (ha:PA X (e :: es) t) (hdb:(x == ("__debug__" : Str))=false:=by decide) (he:starEach (e :: es) X.env=(false,eval e X.env) :: starEach es X.env:=by rfl) (hpl:(backTo pos (starEach es X.env)).any (·.1)=false:=by rfl) :
  PE X (.Call (.Name x p) (e :: es) [] pos) (dO C sp dvs E t):=by
 intro pins s σ H Q I h
 refine wpAny_Call_Name_kw (jk I hg hm ?_ hdb)
 refine PySem.W.callWith_K (h₀ := X.base) I.ok.mod.kin M.kp (thn (ha pos pins s σ H _ I h) fun us s1 ⟨vs,H1,I1,r,q⟩=>⟨I1.kIn,?_⟩) he hpl
 exact nk M F hr hb hd hx I1 r q
theorem pe_make0(M:Mk X.K C f)(F:eI X.prog X.w X.K X.mg X.base CX k f fd ps sp)(hr:bW (k + 1) X.A)(hg:Gl X x)(hm:X.mg x=some (.ref C))(hb:dc X.K fd ps ds)(hd:aR dvs ds)(hx:gl CX X E)
  (hdb:(x == ("__debug__" : Str))=false:=by decide):PE X (.Call (.Name x p) [] [] pos) (dO C sp dvs E ip):=by
 intro pins s σ H Q I h
 refine wpAny_Call_Name_kw (jk I hg hm ?_ hdb)
 exact PySem.W.callWith_K0 I.kIn M.kp (nk (us:=[]) M F hr hb hd hx I .nil h)
end
def PK(X:Cx)(kws:List Keyword)(t:TA):Prop:=
 ∀ (pos:Pos) (pins:List (Addr×Obj)) (s:Shared) (σ : St) (H:Hp) (Q:List V→Hp→Prop),Inv X pins σ H s→t σ H Q→wpAny (model X.prog X.w) X.A (evalAll ((backToKw pos (keywordEach kws X.env)).map (·.2))) (AP X pins σ Q) X.xe s
section
variable{X:Cx}{CX:CXT}{k:Nat}{f C:Addr}{fd:FuncData}{ps ks:List Str}{sp:Sp}{E:XK}{x m:Str}{p pos apos kpos:Pos}{e o:Expr}{es:List Expr}{kws:List Keyword}{te ta:TE}{t tk:TA}{nm:Option Str}
theorem pk_nil:PK X [] ip:=fun _ _ _ _ H Q I h=>wpAny_evalAll_nil ⟨[],H,I,.nil,h⟩
theorem pk_cons(ha:PE X e te)(hr:PK X kws t):PK X (⟨nm,e,kpos⟩ :: kws) (bI te t):=by
 intro pos pins s σ H Q I h
 show wpAny _ _ (evalAll ((do let v ← eval e X.env;standAt pos;pure v) :: (backToKw pos (keywordEach kws X.env)).map (·.2))) _ _ s
 refine wpAny_evalAll_cons (wpAny_bind (thn (ha pins s σ H _ I h) fun u s1 ⟨x,H1,I1,r1,q1⟩=>wpAny_bind (wpAny_standAt (wpAny_pure ?_))))
 exact thn (hr pos pins s1 σ H1 _ I1 q1) fun us s2 ⟨xs,H2,I2,r2,q2⟩=>⟨x :: xs,H2,I2,.cons r1 r2,q2⟩
variable{g:List Value→List Value→List Value}{gV:List V→List V→List V}
end
structure au(N P:List Str)(sc:Scope):Prop where
 kind:sc.kind = .function
 co:sc.isCoroutine=false
 gen:sc.isGenerator=false
 nd:N.Nodup
 pre:N.take P.length=P
 par:∀ x∈P,sc.names.lookup x=some .local∨sc.names.lookup x=some .cell
 nofree:∀ y∈sc.names,y.2 ≠ .free
theorem kN{kindOf:Str→Option NameKind}{x:Str}:∀ {binds:List (Str×Value)} {m:Str→Option Value},(∀ v,(x,v)∉binds)→bindL kindOf binds m x=m x
 | [],_,_=>rfl
 |(n,v) :: r,m,h=>by
  unfold bindL
  rw [kN fun w hw=>h w (List.mem_cons_of_mem _ hw)]
  split
  ·have:x≠n:=by rintro rfl;exact h v List.mem_cons_self
   simp [this]
  ·rfl
theorem kO{kindOf:Str→Option NameKind}{x:Str}:∀ {binds:List (Str×Value)} {m:Str→Option Value},(∀ v,(x,v)∉binds)→bindC kindOf binds m x=m x
 | [],_,_=>rfl
 |(n,v) :: r,m,h=>by
  unfold bindC
  rw [kO fun w hw=>h w (List.mem_cons_of_mem _ hw)]
  split
  ·rfl
  ·have:x≠n:=by rintro rfl;exact h v List.mem_cons_self
   simp [this]
theorem lr{kindOf:Str→Option NameKind}{x:Str}{v:Value}:∀ {P:List Str} {vs:List Value} {i:Nat} {m:Str→Option Value},P.Nodup→P[i]? = some x→vs[i]? = some v→kindOf x=some .local →
  bindL kindOf (P.zip vs) m x=some v
 | [],_,_,_,_,h,_,_=>by simp at h
 | _ :: _,[],_,_,_,_,h,_=>by simp at h
 | p :: P,w :: vs,0,m,nd,h1,h2,hk=>by
  simp at h1 h2;subst h1;subst h2
  show bindL kindOf ((p,w) :: P.zip vs) m p=_
  unfold bindL
  rw [kN fun v hv=>(List.nodup_cons.mp nd).1 (List.of_mem_zip hv).1,if_pos hk]
  simp
 | p :: P,w :: vs,i + 1,m,nd,h1,h2,hk=>by
  show bindL kindOf ((p,w) :: P.zip vs) m x=_
  unfold bindL
  exact lr (i:=i) (List.nodup_cons.mp nd).2 (by simpa using h1) (by simpa using h2) hk
theorem kL{kindOf:Str→Option NameKind}{x:Str}{v:Value}:∀ {P:List Str} {vs:List Value} {i:Nat} {m:Str→Option Value},P.Nodup→P[i]? = some x→vs[i]? = some v→kindOf x≠some .local →
  bindC kindOf (P.zip vs) m x=some v
 | [],_,_,_,_,h,_,_=>by simp at h
 | _ :: _,[],_,_,_,_,h,_=>by simp at h
 | p :: P,w :: vs,0,m,nd,h1,h2,hk=>by
  simp at h1 h2;subst h1;subst h2
  show bindC kindOf ((p,w) :: P.zip vs) m p=_
  unfold bindC
  rw [kO fun v hv=>(List.nodup_cons.mp nd).1 (List.of_mem_zip hv).1,if_neg hk]
  simp
 | p :: P,w :: vs,i + 1,m,nd,h1,h2,hk=>by
  show bindC kindOf ((p,w) :: P.zip vs) m x=_
  unfold bindC
  exact kL (i:=i) (List.nodup_cons.mp nd).2 (by simpa using h1) (by simpa using h2) hk
def fm(N:List Str)(vs:List V):St:=vs.map some ++ List.replicate (N.length - vs.length) none
def lX(CX:CXT)(P:Program)(w:World)(K:PySem.W.Frag)(mg:Str→Option Value)(base:Heap)(N:List Str)(qual:Str)(scope:Scope)(f:Addr)(cd:Value)(A:Around)(outer:List Env)(s:Shared)(H:Hp)(E:XK):Cx where
 prog:=P
 w:=w
 K:=K
 mg:=mg
 base:=base
 A:=A.deeper (envOfC qual scope s.heap.objs.size f cd)
 N:=N
 s_0:=s
 H_0:=H
 env:=envOfC qual scope s.heap.objs.size f cd
 outer:=outer
 stack:=envOfC qual scope s.heap.objs.size f cd :: outer
 ex:=[]
 calm:=true
 fn:=fun _=>true
 pn:=[]
 xe:=fun e s'=>wpAny (model P w) (A.deeper (envOfC qual scope s.heap.objs.size f cd)) (leaving (envOfC qual scope s.heap.objs.size f cd) e) (fun _ s''=>CX outer H s E e s'') (fun e' s''=>CX outer H s E e' s'') s'
theorem mP{sc:Scope}{n:Nat}{x:Str}(h:sc.names.lookup x=some .cell):∃ c,(cellsFrom n sc.names []).lookup x=some c:=by
 have q:=PySem.W.cellsFrom_some sc.names n [] (.inl h)
 exact Option.isSome_iff_exists.mp q
theorem inv_start{CX:CXT}{P:Program}{w:World}{K:PySem.W.Frag}{mg:Str→Option Value}{base:Heap}{N ps:List Str}{qual:Str}{scope:Scope}{f:Addr}{cd:Value}{A:Around}{outer:List Env}{s s1:Shared}{H:Hp}{E:XK}{us:List Value}{vs:List V}
  (S:au N ps scope) (hd:A.handled=none) (e0:pq P w K mg base A outer s H) (hl:vs.length=ps.length) (r:aR vs us)
  (x:InCallC s s.heap.objs.size (bindL (envOfC qual scope s.heap.objs.size f cd).kindOf (ps.zip us) fun _=>none) (cellsFrom (s.heap.objs.size + 1) scope.names []) (bindC (envOfC qual scope s.heap.objs.size f cd).kindOf (ps.zip us) fun _=>none) s1) :
  Inv (lX CX P w K mg base N qual scope f cd A outer s H E) [] (fm N vs) H s1:=by
 have hpl:ps.length≤N.length:=by have:=congrArg List.length S.pre;rw [List.length_take] at this;omega
 obtain ⟨h1,tk,rfl,hk⟩:=x.done
 have noA:∀ b:Addr,b∉(lX CX P w K mg base N qual scope f cd A outer s H E).ex:=fun b z=>absurd (show b∈([]:List Addr) from z) (by simp)
 refine ⟨⟨e0.mod,S.kind,rfl,rfl,Nat.le_refl _,fun y z c h1 h2=> ?_,fun y hy=> ?_,fun y c _ h=> ?_,fun _=>hd,Around.frames_deeper e0.frames,.inr ⟨rfl,rfl⟩,fun b z=>absurd z (noA b),e0.bs,e0.bsz,fun b _ _=>noA b,fun b z=>absurd z (noA b),e0.funs,e0.frf⟩,
  rfl,e0.bare,Un.kept hk,⟨_,x.toInCall.ns,fun i y v h1 h2 h3=> ?_⟩,fun y c h=>⟨_,x.cell y c h⟩,e0.hok.fresh (Nat.le_refl _),fun y c h=> ?_,fun p hp=>absurd (show p∈([]:List (Addr×Obj)) from hp) (by simp),e0.hok.kept hk,?_⟩
 ·exact name_of_addr x.apart (PySem.mem_of_lookup h1) (PySem.mem_of_lookup h2)
 ·have hy:scope.names.lookup y=some .cell∨scope.names.lookup y=some .free:=hy
  rcases hy with hy | hy
  ·exact mP hy
  ·exact absurd rfl (S.nofree _ (PySem.mem_of_lookup hy))
 ·exact Nat.le_of_lt (x.above y c (PySem.mem_of_lookup h))
 ·have hi:i < vs.length:=by
   unfold fm at h2
   by_cases hi:i < vs.length
   ·exact hi
   ·rw [List.getElem?_append_right (by simpa using hi)] at h2
    rw [List.getElem?_replicate] at h2
    split at h2 <;> cases h2
  have ha:vs[i]? = some v:=by
   unfold fm at h2
   rw [List.getElem?_append_left (by simpa using hi),List.getElem?_map] at h2
   cases e:vs[i]? with
   | none=>rw [e] at h2;cases h2
   | some a=>rw [e] at h2;cases h2;rfl
  obtain ⟨u,hu,rv⟩:=r.get ha
  have hp:ps[i]? = some y:=by
   rw [← S.pre,List.getElem?_take_of_lt (by omega)];exact h1
  have ndP:ps.Nodup:=by rw [← S.pre];exact S.nd.sublist (List.take_sublist _ _)
  refine ⟨u,rv,?_⟩
  rcases S.par y (List.mem_of_getElem? hp) with k | k
  ·exact .inl ⟨k,lr ndP hp hu k⟩
  ·obtain ⟨c,e⟩:=mP (n:=s.heap.objs.size + 1) k
   refine .inr ⟨.inl k,c,e,?_⟩
   have q:=x.cell y c e
   rw [kL ndP hp hu (by show scope.names.lookup y≠_;rw [k];decide)] at q
   exact q
 ·exact e0.hok.fresh (Nat.le_of_lt (x.above y c (PySem.mem_of_lookup h)))
 ·unfold fm
  show _=N.length
  rw [List.length_append,List.length_map,List.length_replicate]
  omega
theorem fn_of{CX:CXT}{P:Program}{w:World}{K:PySem.W.Frag}{mg:Str→Option Value}{base:Heap}{k:Nat}{f:Addr}{name qual:Str}{params:Arguments}{body:List Stmt}{scope:Scope}{dV kV doc pm cdv ct oc:Value}{an od:Option Addr}
  {osl:Array (Option Value)} {N ps:List Str} {sp:Sp} (lk:K.lookup f=some ⟨oc,od,.func (PySem.W.fnOf name qual params body scope dV kV doc pm an cdv ct),osl⟩) (hcd:PySem.W.codeIn K cdv qual=true) (S:au N ps scope)
  (len:∀ vs H Q E,sp vs H Q E→vs.length=ps.length)
  (hbody:∀ (A:Around) (outer:List Env) (s:Shared) (H:Hp) (vs:List V) (Q:VK) (E:XK),bW k (A.deeper (envOfC qual scope s.heap.objs.size f cdv))→sp vs H Q E →
   ∃ t,PSs (lX CX P w K mg base N qual scope f cdv A outer s H E) body t∧t { nx:=fun _ H'=>Q .non H',rt:=Q } (fm N vs) H) :
  eI P w K mg base CX (k + 1) f (PySem.W.fnOf name qual params body scope dV kV doc pm an cdv ct) ps sp:=by
 refine ⟨len,fun A outer s H args us vs Q E hr e0 hb r hsp=> ?_⟩
 have hl:=len _ _ _ _ hsp
 have KX:K.In s.heap:=e0.mod.kin.keeps fun b o e=>(e0.bs b o e).1
 have lim:s.heap.NoLimit:=e0.mod.nolimit.keeps fun b o e=>(e0.bs b o e).1
 have hkind:∀ y∈ps.zip us,scope.names.lookup y.1=some .local∨(scope.names.lookup y.1=some .cell∧((cellsFrom (s.heap.objs.size + 1) scope.names []).lookup y.1).isSome=true):=fun ⟨n,v⟩ hy=>by
  rcases S.par n (List.of_mem_zip hy).1 with q | q
  ·exact .inl q
  ·exact .inr ⟨q,PySem.W.cellsFrom_some _ _ _ (.inl q)⟩
 refine codeAny_call_function hr.depth (KX _ _ lk) rfl S.co S.gen rfl (PySem.W.codeRec_of KX hcd) (hb _ _ _ _ ?_)
 refine wpAny_newFunctionEnv_cells S.kind hkind fun env he s1 x=> ?_
 subst he
 refine ⟨lim.keeps x.toInCall.keep,codeAny_func ?_⟩
 obtain ⟨t,ht,hq⟩:=hbody A outer s H vs Q E (hr.deeper _) hsp
 have I:Inv (lX CX P w K mg base N qual scope f cdv A outer s H E) [] (fm N vs) H s1:=inv_start S hr.hd e0 hl r x
 refine wpAny_mono (ht [] s1 (fm N vs) H _ I hq) (fun fl s' hs=> ?_) fun e s' hs=>hs
 have fin:∀ {σ':St} {H':Hp} {v:V} {u:Value},Inv (lX CX P w K mg base N qual scope f cdv A outer s H E) [] σ' H' s'→b6 v u→Q v H'→CE outer P w H s Q u s':=
  fun {σ' H' v u} J rv q=>⟨v,H',J.os,J.bare,J.base,J.hok,rv,q⟩
 cases fl with
 | ret u=>
  obtain ⟨v,σ',H',J,rv,q⟩:=hs
  exact fin J rv q
 | next=>
  obtain ⟨σ',H',J,q⟩:=hs
  exact fin (v:=V.non) (u:=Value.none) J rfl q
 | brk=>
  obtain ⟨_,_,_,q⟩:=hs
  exact False.elim q
 | cont=>
  obtain ⟨_,_,_,q⟩:=hs
  exact False.elim q
section
variable{X:Cx}{x:Str}{p pos:Pos}{e:Expr}{es:List Expr}{t:TA}{id T:String}{r:List V→Hp→VK→Prop}
def tCB(r:List V→Hp→VK→Prop)(t:TA):TE:=fun σ H Q=>t σ H fun vs H1=>r vs H1 Q
theorem aA(hc:bX X (.builtin id) r)(hg:Gl X x)(hm:X.mg x=none)(hv:bootBuiltins x=some (.builtin id))(ha:PA X (e :: es) t)(hn:x ≠ "__name__" := by decide)(hdb:(x == ("__debug__" : Str))=false:=by decide)
  (he:starEach (e :: es) X.env=(false,eval e X.env) :: starEach es X.env:=by rfl) (hpl:(backTo pos (starEach es X.env)).any (·.1)=false:=by rfl):PE X (.Call (.Name x p) (e :: es) [] pos) (tCB r t):=by
 intro pins s σ H Q I h
 refine wpAny_Call_Name_kw (kh I hg hm hv ?_ hn hdb)
 exact PyProof.Rows.callWith_builtin1 (thn (ha pos pins s σ H _ I h) fun us s1 ⟨vs,H1,I1,r1,q1⟩=>hc pins s1 σ H1 vs us Q I1 r1 q1) he hpl
theorem d9(hc:bX X (.type T) r)(hg:Gl X x)(hm:X.mg x=none)(hv:bootBuiltins x=some (.type T))(ha:PA X (e :: es) t)(hn:x ≠ "__name__" := by decide)(hdb:(x == ("__debug__" : Str))=false:=by decide)
  (he:starEach (e :: es) X.env=(false,eval e X.env) :: starEach es X.env:=by rfl) (hpl:(backTo pos (starEach es X.env)).any (·.1)=false:=by rfl):PE X (.Call (.Name x p) (e :: es) [] pos) (tCB r t):=by
 intro pins s σ H Q I h
 refine wpAny_Call_Name_kw (kh I hg hm hv ?_ hn hdb)
 exact PyProof.Rows.callWith_type1 (thn (ha pos pins s σ H _ I h) fun us s1 ⟨vs,H1,I1,r1,q1⟩=>hc pins s1 σ H1 vs us Q I1 r1 q1) he hpl
end
end L2
namespace HT
open PySem PyProof.Rows
section
variable{prog:Program}{w:World}{A:Around}{E:Value→Shared→Prop}{s:Shared}
def sIx(n d:Nat):Option Int→Nat
 | none=>d
 | some v=>if v < 0 then (v + (n:Int)).toNat else min v.toNat n
theorem sIx_nat(n d k:Nat):sIx n d (some (k:Int))=min k n:=by
 show (if (k:Int) < 0 then ((k:Int) + (n:Int)).toNat else min (k:Int).toNat n)=min k n
 rw [if_neg (by omega),Int.toNat_natCast]
end
end HT
namespace L2
open PySem PySem.Spec PyProof.Rows
abbrev TO:=St→Hp→(Option Int→Hp→Prop)→Prop
def PO(X:Cx)(e:Option Expr)(t:TO):Prop:=
 ∀ (pins:List (Addr×Obj)) (s:Shared) (σ : St) (H:Hp) (Q:Option Int→Hp→Prop),Inv X pins σ H s→t σ H Q →
  wpAny (model X.prog X.w) X.A (evalPart e X.env) (fun u s'=>∃ o H',Inv X pins σ H' s'∧IsPart u o∧Q o H') X.xe s
def tPart(t:TE):TO:=fun σ H Q=>t σ H fun x H1=>∃ i,x = .int i∧Q (some i) H1
section
variable{X:Cx}{e:Expr}{te:TE}{lo hi:Option Expr}{tl th:TO}{pos p2:Pos}
theorem jm(h:PE X e te):PO X (some e) (tPart te):=by
 intro pins s σ H Q I hw
 rw [evalPart_some]
 refine thn (h pins s σ H _ I hw) fun u s1 ⟨x,H1,I1,r1,q1⟩=> ?_
 obtain ⟨i,rfl,q⟩:=q1
 obtain ⟨t,rfl⟩:=r1
 exact ⟨some i,H1,I1,.int i t,q⟩
def SlR(X:Cx)(r:V→Option Int→Option Int→Hp→VK→Prop):Prop:=
 ∀ (pins:List (Addr×Obj)) (s:Shared) (σ : St) (H:Hp) (x:V) (v vl vu:Value) (lo hi:Option Int) (sl:Addr) (Q:VK),Inv X pins σ H s→b6 x v→s.heap.IsSliceOf sl vl vu .none→IsPart vl lo→IsPart vu hi→r x lo hi H Q →
  ∃ T id,typeLookup (.type T) "__getitem__" = pure (some (.builtin id))∧s.TypeIs v T∧wpAny (model X.prog X.w) X.A (getItem v (.ref sl)) (EP X pins σ Q) X.xe s
def tSl(r:V→Option Int→Option Int→Hp→VK→Prop)(te:TE)(tl th:TO):TE:=fun σ H Q=>te σ H fun x H1=>tl σ H1 fun l H2=>th σ H2 fun u H3=>r x l u H3 Q
theorem mX{r:V→Option Int→Option Int→Hp→VK→Prop}(hr:SlR X r)(he:PE X e te)(hl:PO X lo tl)(hu:PO X hi th):PE X (.Subscript e (.Slice lo hi none p2) pos) (tSl r te tl th):=by
 intro pins s σ H Q I h
 refine Subscript_ (thn (he pins s σ H _ I h) fun v s1 ⟨x,H1,I1,r1,q1⟩=> ?_)
 refine wpAny_Slice (thn (hl pins s1 σ H1 _ I1 q1) fun vl s2 ⟨l,H2,I2,pl,q2⟩=>thn (hu pins s2 σ H2 _ I2 q2) fun vu s3 ⟨u,H3,I3,pu,q3⟩=> ?_)
 rw [evalPart_none]
 refine wpAny_pure ?_
 have I4:Inv X pins σ H3 { s3 with heap:=s3.heap.push { cls:=.type "slice",data:=.fields #[vl,vu,.none] } }:=I3.kept (t':=s3.toks) fun b ob q=>Heap.get?_push_of_some _ q
 obtain ⟨T,id,hT,ht,hg⟩:=hr pins { s3 with heap:=s3.heap.push { cls:=.type "slice",data:=.fields #[vl,vu,.none] } } σ H3 x v vl vu l u s3.heap.objs.size Q I4 r1 (Heap.IsSliceOf.new ..) pl pu q3
 show wpAny (model X.prog X.w) X.A (subscriptTail e (.Slice lo hi none p2) v (.ref s3.heap.objs.size)) (EP X pins σ Q) X.xe { s3 with heap:=s3.heap.push { cls:=.type "slice",data:=.fields #[vl,vu,.none] } }
 exact tail_any (ops:=[.ref s3.heap.objs.size,v]) ht hT hg (by with_unfolding_all rfl)
def oE(xs:List V)(lo hi:Option Int):List V:=(xs.drop (HT.sIx xs.length 0 lo)).take (HT.sIx xs.length xs.length hi - HT.sIx xs.length 0 lo)
theorem mZ(xs:List V)(lo hi:Option Int):(oE xs lo hi).length≤xs.length:=by
 unfold oE
 rw [List.length_take,List.length_drop]
 omega
end
def ixN(n:Nat)(i:Int):Option Nat:=if 0≤i then (if i < n then some i.toNat else none) else if -(n:Int)≤i then some (i + n).toNat else none
def atI{α : Type}(xs:List α)(i:Int):Option α:=(ixN xs.length i).bind fun j=>xs[j]?
theorem pV{n:Nat}{i:Int}{j:Nat}(h:ixN n i=some j):seqIndex? i n=some j∧j < n ∧ -(n:Int)≤i∧i < n:=by
 unfold ixN at h
 by_cases h0:0≤i
 ·rw [if_pos h0] at h
  by_cases h1:i < n
  ·rw [if_pos h1] at h
   have e:i.toNat=j:=Option.some.inj h
   exact ⟨by rw [seqIndex_of h0 h1,e],by omega,by omega,h1⟩
  ·rw [if_neg h1] at h;cases h
 ·rw [if_neg h0] at h
  by_cases h1 : -(n:Int)≤i
  ·rw [if_pos h1] at h
   have e:(i + n).toNat=j:=Option.some.inj h
   exact ⟨by rw [seqIndex_neg (by omega) h1,e],by omega,h1,by omega⟩
  ·rw [if_neg h1] at h;cases h
theorem pT{α : Type}{xs:List α}{i:Int}{v : α}(h:atI xs i=some v):∃ j,seqIndex? i xs.length=some j∧xs[j]? = some v∧j < xs.length ∧ -(xs.length:Int)≤i∧i < xs.length:=by
 unfold atI at h
 cases e:ixN xs.length i with
 | none=>rw [e] at h;cases h
 | some j=>
  rw [e] at h
  obtain ⟨h1,h2,h3,h4⟩:=pV e
  exact ⟨j,h1,h,h2,h3,h4⟩
theorem eA{α : Type}{xs:List α}{j:Nat}{v : α}(h:xs[j]? = some v):atI xs (j:Int)=some v:=by
 have hj:j < xs.length:=(List.getElem?_eq_some_iff.mp h).1
 have e:ixN xs.length (j:Int)=some j:=by
  unfold ixN
  rw [if_pos (by omega),if_pos (by omega)];simp
 unfold atI;rw [e];exact h
theorem atI_last{α : Type}(xs:List α)(v : α):atI (xs ++ [v]) (-1)=some v:=by
 have hl:(xs ++ [v]).length=xs.length + 1:=by simp
 have e:ixN (xs ++ [v]).length (-1)=some xs.length:=by
  unfold ixN
  rw [hl,if_neg (by decide),if_pos (by omega)]
  congr 1
  omega
 unfold atI
 rw [e]
 show (xs ++ [v])[xs.length]? = some v
 simp
def PlainIx(b:Expr):Prop:=∀ o i,subscripted b false o i=operate [o,i] (getItem o i)
def IxR(X:Cx)(r:R2):Prop:=
 ∀ (value slice:Expr) (pins:List (Addr×Obj)) (s:Shared) (σ : St) (H:Hp) (x y:V) (v u:Value) (Q:VK),Inv X pins σ H s→b6 x v→b6 y u→r x y H Q →
  subscripted slice false v u=operate [v,u] (getItem v u)→wpAny (model X.prog X.w) X.A (subscriptTail value slice v u) (EP X pins σ Q) X.xe s
def MtR(X:Cx)(id:String)(r:V→List V→Hp→VK→Prop):Prop:=
 ∀ (pins:List (Addr×Obj)) (s:Shared) (σ : St) (H:Hp) (x:V) (xs:List V) (v:Value) (us:List Value) (Q:VK),Inv X pins σ H s→b6 x v→aR xs us→r x xs H Q →
  wpAny (model X.prog X.w) X.A (call (.builtin id) (v :: us)) (EP X pins σ Q) X.xe s
section
variable{X:Cx}{a b:Expr}{ta tb:TE}{pos:Pos}
theorem aD{r:R2}(hr:IxR X r)(ha:PE X a ta)(hb:PE X b tb)(hs:PlainIx b):PE X (.Subscript a b pos) (tOp r ta tb):=by
 intro pins s σ H Q I h
 exact Subscript_ (binT ha hb I h fun v u s2 x y H2 I2 rx ry q=>hr a b pins s2 σ H2 x y v u Q I2 rx ry q (hs _ _))
def rIxL(K:PySem.W.Frag):R2:=fun x y H Q=>∃ p xs i v,x = .ref p∧y = .int i∧SqL K H p xs∧atI xs i=some v∧Q v H
def rIxT(K:PySem.W.Frag):R2:=fun x y H Q=>∃ p xs i v,x = .ref p∧y = .int i∧SqT K H p xs∧atI xs i=some v∧Q v H
theorem q0:IxR X (rIxL X.K):=by
 intro value slice pins s σ H x y v u Q I rx ry h hs
 obtain ⟨p,xs,i,z,rfl,rfl,hq,he,q⟩:=h
 cases rx
 obtain ⟨t,rfl⟩:=ry
 obtain ⟨its,r,pl,hz⟩:=I.list hq
 obtain ⟨j,h1,h2,h3,h4,h5⟩:=pT he
 obtain ⟨w,ew,rw'⟩:=r.get h2
 have hl:=r.length
 have hn:=pj
 have fin:EP X pins σ Q w s:=⟨z,H,I,rw',q⟩
 by_cases h0:0≤i
 ·have hj:i.toNat=j:=by
   rw [seqIndex_of h0 h5] at h1
   exact Option.some.inj h1
  exact item_listR pl.isList h0 (by omega) (by rw [hj];simpa using ew) fin hs
 ·have hj:(i + (its.toArray.size:Int)).toNat=j:=by
   rw [seqIndex_neg (by omega) h4] at h1
   rw [List.size_toArray,← hl]
   exact Option.some.inj h1
  exact subscriptTail_builtinR (x:=w) pl.isList.typeIs slot_list_getitem.lookup
   (wpAny_getItem_list_neg (Q:=fun r s'=>r=w∧EP X pins σ Q r s') pl.isList (by omega) (by rw [List.size_toArray] <;> omega) (by omega) (by rw [hj];simpa using ew) ⟨rfl,fin⟩) hs
theorem ix_tup:IxR X (rIxT X.K):=by
 intro value slice pins s σ H x y v u Q I rx ry h hs
 obtain ⟨p,xs,i,z,rfl,rfl,hq,he,q⟩:=h
 cases rx
 obtain ⟨t,rfl⟩:=ry
 obtain ⟨its,r,pl,hz⟩:=I.tuple hq
 obtain ⟨j,h1,h2,h3,h4,h5⟩:=pT he
 obtain ⟨w,ew,rw'⟩:=r.get h2
 have hl:=r.length
 have hn:=pj
 have fin:EP X pins σ Q w s:=⟨z,H,I,rw',q⟩
 exact subscriptTail_builtinR (x:=w) pl.typeIs slot_tuple_getitem.lookup
  (getItem_tuple (j:=j) (Q:=fun r s'=>r=w∧EP X pins σ Q r s') pl (by omega) (by omega) (by rw [List.size_toArray,← hl];exact h1) (by simpa using ew) ⟨rfl,fin⟩) hs
theorem mr(lo hi:Option Int)(n:Nat):(sliceBounds lo hi none n).1=((HT.sIx n 0 lo:Nat):Int)∧(sliceBounds lo hi none n).2.1=((HT.sIx n n hi:Nat):Int)∧(sliceBounds lo hi none n).2.2=1:=by
 refine ⟨?_,?_,rfl⟩
 ·cases lo with
  | none=>simp [sliceBounds,HT.sIx]
  | some i=>
   simp only [sliceBounds,HT.sIx,Option.getD_none,show (1:Int) > 0 by decide,if_true]
   by_cases h:i < 0
   ·simp only [h,if_true] <;> omega
   ·simp only [h,if_false] <;> omega
 ·cases hi with
  | none=>simp [sliceBounds,HT.sIx]
  | some i=>
   simp only [sliceBounds,HT.sIx,Option.getD_none,show (1:Int) > 0 by decide,if_true]
   by_cases h:i < 0
   ·simp only [h,if_true] <;> omega
   ·simp only [h,if_false] <;> omega
theorem kJ(its:List Value)(lo hi:Option Int):slicePick its.toArray lo hi none=((its.drop (HT.sIx its.length 0 lo)).take (HT.sIx its.length its.length hi - HT.sIx its.length 0 lo)).toArray:=by
 obtain ⟨h1,h2,h3⟩:=mr lo hi its.toArray.size
 unfold slicePick
 rw [h1,h2,h3]
 simp only [sliceRange_one,pick_run,List.size_toArray] <;> rfl
def rSlL(K:PySem.W.Frag):V→Option Int→Option Int→Hp→VK→Prop:=fun x lo hi H Q=>∃ a xs,x = .ref a∧SqL K H a xs∧∀ p,H p=none→Q (.ref p) (upd H p (.lst (oE xs lo hi)))
theorem sl_list:SlR X (rSlL X.K):=by
 intro pins s σ H x v vl vu lo hi sl Q I rx hs pl pu h
 obtain ⟨a,xs,rfl,hx,q⟩:=h
 cases rx
 obtain ⟨its,r,ht,hz⟩:=I.list hx
 have hlen:=r.length
 refine ⟨"list",_,slot_list_getitem.lookup,ht.isList.typeIs,?_⟩
 refine wpAny_getItem_list_slice ht.isList hs pl pu .none (by simp) ?_ (by rw [List.size_toArray] <;> omega)
 rw [kJ,← hlen]
 refine ⟨.ref s.heap.objs.size,_,I.laid (t':=s.toks) (o:=.lst (oE xs lo hi)) (fun b ob q=>Heap.get?_push_of_some _ q) (Nat.le_refl _) ?_,rfl,q _ (I.hok.fresh (Nat.le_refl _))⟩
 exact ⟨Nat.le_trans (mZ xs lo hi) hz,_,0,(r.drop (HT.sIx xs.length 0 lo)).take (HT.sIx xs.length xs.length hi - HT.sIx xs.length 0 lo),Heap.get?_push_size _ rfl⟩
def bV:V→Bool
 | .non=>true
 | .bl _=>true
 | .int _=>true
 | .str _=>true
 | _=>false
def eqV:V→V→Bool
 | .non,.non=>true
 | .bl a,.bl b=>a == b
 | .bl a,.int b=>(if a then 1 else 0) == b
 | .int a,.bl b=>a == (if b then 1 else 0)
 | .int a,.int b=>a == b
 | .str a,.str b=>a == b
 | _,_=>false
theorem eqAt_V{A:Around}{s:Shared}{y x:V}{u v:Value}(ry:b6 y u)(rx:b6 x v)(fy:bV y=true)(fx:bV x=true):SeqAt.EqAt A s u v (eqV y x):=by
 cases y with
 | non=>
  cases ry
  cases x with
  | non=>cases rx;exact SeqAt.EqAt.same _
  | bl b=>cases rx;exact SeqAt.EqAt.none_bool b
  | int b=>obtain ⟨t,rfl⟩:=rx;exact SeqAt.EqAt.none_int b t
  | str b=>obtain ⟨t,rfl⟩:=rx;exact SeqAt.EqAt.none_str b t
  | _=>exact absurd (show false=true from fx) Bool.false_ne_true
 | bl a=>
  cases ry
  cases x with
  | non=>cases rx;exact SeqAt.EqAt.bool_none a
  | bl b=>cases rx;exact SeqAt.EqAt.bool_bool a b
  | int b=>obtain ⟨t,rfl⟩:=rx;exact SeqAt.EqAt.bool_int a b t
  | str b=>obtain ⟨t,rfl⟩:=rx;exact SeqAt.EqAt.bool_str a b t
  | _=>exact absurd (show false=true from fx) Bool.false_ne_true
 | int a=>
  obtain ⟨t',rfl⟩:=ry
  cases x with
  | non=>cases rx;exact SeqAt.EqAt.int_none a t'
  | bl b=>cases rx;exact SeqAt.EqAt.int_bool a t' b
  | int b=>obtain ⟨t,rfl⟩:=rx;exact SeqAt.EqAt.int_int a t' b t
  | str b=>obtain ⟨t,rfl⟩:=rx;exact SeqAt.EqAt.int_str a t' b t
  | _=>exact absurd (show false=true from fx) Bool.false_ne_true
 | str a=>
  obtain ⟨t',rfl⟩:=ry
  cases x with
  | non=>cases rx;exact SeqAt.EqAt.str_none a t'
  | bl b=>cases rx;exact SeqAt.EqAt.str_bool a t' b
  | int b=>obtain ⟨t,rfl⟩:=rx;exact SeqAt.EqAt.str_int a t' b t
  | str b=>obtain ⟨t,rfl⟩:=rx;exact SeqAt.EqAt.str_str a t' b t
  | _=>exact absurd (show false=true from fx) Bool.false_ne_true
 | _=>exact absurd (show false=true from fy) Bool.false_ne_true
def eqU(x:V)(u:Value):Bool:=match u with
 | .none=>eqV .non x
 | .bool b=>eqV (.bl b) x
 | .int i _=>eqV (.int i) x
 | .str z _=>eqV (.str z) x
 | _=>false
theorem m7{x y:V}{u:Value}(r:b6 y u)(f:bV y=true):eqU x u=eqV y x:=by
 cases y with
 | non=>cases r;rfl
 | bl b=>cases r;rfl
 | int i=>obtain ⟨t,rfl⟩:=r;rfl
 | str z=>obtain ⟨t,rfl⟩:=r;rfl
 | _=>exact absurd (show false=true from f) Bool.false_ne_true
theorem lH{x:V}:∀ {xs:List V} {us:List Value},aR xs us→xs.all bV=true→us.any (eqU x)=xs.any fun y=>eqV y x
 | _,_,.nil,_=>rfl
 | y :: xs,u :: us,.cons r t,f=>by
  rw [List.all_cons,Bool.and_eq_true] at f
  rw [List.any_cons,List.any_cons,m7 r f.1,lH t f.2]
theorem gT{A:Around}{s:Shared}{x:V}{v:Value}(rx:b6 x v)(fx:bV x=true):∀ {xs:List V} {us:List Value},aR xs us→xs.all bV=true→∀ u∈us,SeqAt.EqAt A s u v (eqU x u)
 | _,_,.nil,_=>fun u hu=>by cases hu
 | y :: xs,u :: us,.cons r t,f=>fun u' hu=>by
  rw [List.all_cons,Bool.and_eq_true] at f
  rcases List.mem_cons.mp hu with rfl | hu
  ·rw [m7 r f.1];exact eqAt_V r rx f.1 fx
  ·exact gT rx fx t f.2 u' hu
def inV(x:V)(xs:List V):Bool:=xs.any fun y=>eqV y x
def rIn(K:PySem.W.Frag)(neg:Bool):R2:=fun x y H Q=>∃ p xs,y = .ref p∧(SqL K H p xs∨SqT K H p xs)∧bV x=true∧xs.all bV=true∧Q (.bl (if neg then !inV x xs else inV x xs)) H
theorem iw:OpR X (compareOp .In) (rIn X.K false):=by
 intro pins s σ H x y v u Q I rx ry h
 obtain ⟨p,xs,rfl,hq,fx,fs,q⟩:=h
 cases ry
 rcases hq with hq | hq
 ·obtain ⟨its,r,pl,hz⟩:=I.list hq
  refine SeqAt.in_listAt (eqU x) pl.isList (fun w hw=>gT rx fx r fs w (by simpa using hw)) ⟨.bl _,H,I,rfl,?_⟩
  rw [show its.toArray.any (eqU x)=its.any (eqU x) by simp,lH r fs]
  exact q
 ·obtain ⟨its,r,pl,hz⟩:=I.tuple hq
  refine SeqAt.in_tupleAt (eqU x) pl (fun w hw=>gT rx fx r fs w (by simpa using hw)) ⟨.bl _,H,I,rfl,?_⟩
  rw [show its.toArray.any (eqU x)=its.any (eqU x) by simp,lH r fs]
  exact q
theorem gQ:bX X (.builtin "len") (fun xs H Q=>∃ p ys,xs=[.ref p]∧(SqL X.K H p ys∨SqT X.K H p ys)∧Q (.int ys.length) H):=by
 intro pins s σ H xs us Q I r h
 obtain ⟨p,ys,rfl,hq,q⟩:=h
 obtain ⟨u,rfl,rx⟩:=iF r
 cases rx
 have hn:=pj
 rcases hq with hq | hq
 ·obtain ⟨its,r',pl,hz⟩:=I.list hq
  have hlen:=r'.length
  exact Calls.call_len_list pl.isList (by simp only [List.size_toArray] <;> omega) ⟨.int ys.length,H,I.tok _,⟨s.toks + 1,by rw [List.size_toArray,hlen]⟩,q⟩
 ·obtain ⟨its,r',pl,hz⟩:=I.tuple hq
  have hlen:=r'.length
  exact len_tuple pl (by simp only [List.size_toArray] <;> omega) ⟨.int ys.length,H,I.tok _,⟨s.toks + 1,by rw [List.size_toArray,hlen]⟩,q⟩
theorem lB:bX X (.type "list") (fun xs H Q=>∃ p ys,xs=[.ref p]∧(SqL X.K H p ys∨SqT X.K H p ys)∧∀ l,H l=none→Q (.ref l) (upd H l (.lst ys))):=by
 intro pins s σ H xs us Q I r h
 obtain ⟨p,ys,rfl,hq,q⟩:=h
 obtain ⟨u,rfl,rx⟩:=iF r
 cases rx
 have fin:∀ (its:List Value),aR ys its→ys.length≤sizeLine→∀ (h':Heap) (c':Nat),(∀ b o',s.heap.get? b=some o'→h'.get? b=some o') →
   h'.get? s.heap.objs.size=some { cls:=.type "list",dict:=none,data:=.seq its.toArray c',slots:=#[] }→EP X pins σ Q (.ref s.heap.objs.size) { s with heap:=h' }:=fun its r' hz h' c' kp e=>
  ⟨.ref s.heap.objs.size,_,I.laid (t':=s.toks) kp (Nat.le_refl _) (show be X.prog X.w _ h' _ (.lst ys) from ⟨hz,its,c',r',e⟩),rfl,q _ (I.hok.fresh (Nat.le_refl _))⟩
 rcases hq with hq | hq
 ·obtain ⟨its,r',pl,hz⟩:=I.list hq
  have hlen:=r'.length
  obtain ⟨o,ho,hc,n,hd⟩:=pl.isList
  exact call_list_seq p (.inl rfl) ho hc hd (fun h' c' kp e=>fin its r' hz h' c' kp e) (by simp only [List.size_toArray] <;> omega)
 ·obtain ⟨its,r',pl,hz⟩:=I.tuple hq
  have hlen:=r'.length
  obtain ⟨o,ho,hc,n,hd⟩:=pl
  exact call_list_seq p (.inr rfl) ho hc hd (fun h' c' kp e=>fin its r' hz h' c' kp e) (by simp only [List.size_toArray] <;> omega)
def tyV(K:PySem.W.Frag)(T:String)(x:V)(H:Hp):Prop:=match x with
 | .str _=>T = "str"
 | .int _=>T = "int"
 | .ref p=>(T = "list" ∧ ∃ xs,SqL K H p xs)∨(T = "tuple" ∧ ∃ o,K.lookup p=some o∧o.cls = .type "tuple" ∧ o.dict=none) ∨
   (T = "dict" ∧ ((∃ kvs,H p=some (.dK kvs))∨∃ kvs,H p=some (.dT kvs)))∨(T = "set" ∧ ∃ S n,H p=some (.set S n))
 | _=>False
theorem tyV_is{pins:List (Addr×Obj)}{σ : St}{H:Hp}{s:Shared}{T:String}{x:V}{v:Value}(I:Inv X pins σ H s)(r:b6 x v)(ty:tyV X.K T x H) :
  s.TypeIs v T∧∀ a,v = .ref a→∃ ob,s.heap.get? a=some ob∧ob.dict=none:=by
 cases x with
 | str z=>
  obtain ⟨t,rfl⟩:=r
  cases (show T = "str" from ty)
  exact ⟨typeIs_str s z t,fun _ e=>nomatch e⟩
 | int i=>
  obtain ⟨t,rfl⟩:=r
  cases (show T = "int" from ty)
  exact ⟨typeIs_int s i t,fun _ e=>nomatch e⟩
 | ref p=>
  cases r
  rcases ty with ⟨rfl,xs,hq⟩ | ⟨rfl,o,hk,hc,hd⟩ | ⟨rfl,hk⟩ | ⟨rfl,S,n,hk⟩
  ·obtain ⟨its,_,pl,_⟩:=I.list hq
   refine ⟨pl.isList.typeIs,fun a e=> ?_⟩
   cases e
   obtain ⟨o,n,e,c,hd,_⟩:=pl
   exact ⟨o,e,hd⟩
  ·refine ⟨⟨o,I.kIn p o hk,hc⟩,fun a e=> ?_⟩
   cases e
   exact ⟨o,I.kIn _ o hk,hd⟩
  ·have z:∃ o,s.heap.get? p=some o∧o.ExactDict:=by
    rcases hk with ⟨kvs,hk⟩ | ⟨kvs,hk⟩
    ·obtain ⟨_,_,_,_,o,_,_,e,ex,_⟩:=I.hok p _ hk
     exact ⟨o,e,ex⟩
    ·obtain ⟨_,_,_,_,o,_,_,e,ex,_⟩:=I.hok p _ hk
     exact ⟨o,e,ex⟩
   obtain ⟨o,e,ex⟩:=z
   refine ⟨⟨o,e,ex.1⟩,fun a e2=> ?_⟩
   cases e2
   exact ⟨o,e,ex.2.1⟩
  ·obtain ⟨o,_,_,_,e,ex,_⟩:=I.hok p _ hk
   refine ⟨⟨o,e,ex.1⟩,fun a e2=> ?_⟩
   cases e2
   exact ⟨o,e,ex.2.1⟩
 | _=>exact False.elim ty
variable{o e:Expr}{es:List Expr}{to:TE}{t:TA}{name:Str}{apos cpos:Pos}{T id:String}{r:V→List V→Hp→VK→Prop}
end
def MtM(X:Cx)(id:String)(r:V→List V→Hp→VK→Prop):Prop:=
 ∀ (pins:List (Addr×Obj)) (s:Shared) (σ : St) (H:Hp) (x:V) (xs:List V) (v:Value) (us:List Value) (Q:VK),Inv X pins σ H s→b6 x v→aR xs us→r x xs H Q →
  wpAny (model X.prog X.w) X.A (call (.builtin id) (v :: us)) (EP X pins σ Q) X.xe s
theorem aR.one:∀ {x:V} {us:List Value},aR [x] us→∃ u,us=[u]∧b6 x u
 | _,_,.cons r .nil=>⟨_,rfl,r⟩
theorem aR.zero:∀ {us:List Value},aR [] us→us=[]
 | _,.nil=>rfl
theorem aR.dropLast{xs:List V}{us:List Value}(h:aR xs us):aR xs.dropLast us.dropLast:=by
 induction h with
 | nil=>exact .nil
 | cons r t ih=>
  cases t with
  | nil=>exact .nil
  | cons q t'=>exact .cons r ih
theorem aR.eraseIdx:∀ {xs:List V} {us:List Value} (i:Nat),aR xs us→aR (xs.eraseIdx i) (us.eraseIdx i)
 | _,_,_,.nil=>.nil
 | _,_,0,.cons _ t=>t
 | _,_,i + 1,.cons r t=>.cons r (aR.eraseIdx i t)
theorem oa{α : Type}(l:List α):l.eraseIdx (l.length - 1)=l.dropLast:=by
 induction l with
 | nil=>rfl
 | cons a r ih=>
  cases r with
  | nil=>rfl
  | cons b r=>
   have e:(a :: b :: r).length - 1=((b :: r).length - 1) + 1:=by
    have h1:(a :: b :: r).length=r.length + 2:=rfl
    have h2:(b :: r).length=r.length + 1:=rfl
    omega
   rw [e,List.eraseIdx_cons_succ,ih]
   all_goals rfl
theorem kM{α : Type}:∀ (l:List α) (i:Nat),(l.eraseIdx i).length≤l.length
 | [],_=>Nat.le_refl _
 | _ :: _,0=>Nat.le_succ _
 | _ :: r,i + 1=>Nat.succ_le_succ (kM r i)
section
variable{X:Cx}{pins:List (Addr×Obj)}{σ : St}{H:Hp}{s:Shared}{l b:Addr}{xs ys zs:List V}
theorem Inv.lset{its its':List Value}{n:Nat}{f:Array Value→Array Value}{t':Nat}(I:Inv X pins σ H s)(hH:H l=some (.lst xs))
  (e:s.heap.get? l=some { cls:=.type "list",data:=.seq its.toArray n }) (hf:f its.toArray=its'.toArray) (hv:aR ys its') (hz:ys.length≤sizeLine) :
  Inv X pins σ (upd H l (.lst ys)) { s with heap:=s.heap.update l (Obj.mapSeq f),toks:=t' }:=by
 have q:=PySem.IsL.update e f
 rw [hf] at q
 refine I.write (x:=l) (e:=l) (by rw [hH];exact trivial) (.inl rfl) (fun b' u hb hu=>(Heap.get?_update_other s.heap (Obj.mapSeq f) (Ne.symm hb)).trans hu) ⟨_,q⟩ ?_
 exact ⟨hz,its',_,hv,q⟩
theorem Inv.lnew{its:List Value}{t':Nat}(I:Inv X pins σ H s)(hv:aR ys its)(hz:ys.length≤sizeLine) :
  Inv X pins σ (upd H s.heap.objs.size (.lst ys)) { s with heap:=s.heap.push { cls:=.type "list",data:=.seq its.toArray },toks:=t' }:=
 I.laid (fun _ _ q=>Heap.get?_push_of_some _ q) (Nat.le_refl _) ⟨hz,its,0,hv,Heap.get?_push_size _ rfl⟩
theorem Inv.fresh(I:Inv X pins σ H s):H s.heap.objs.size=none:=I.hok.fresh (Nat.le_refl _)
theorem Inv.lstM(I:Inv X pins σ H s)(hH:H l=some (.lst xs)):xs.length≤sizeLine∧∃ (its:List Value) (n:Nat),aR xs its∧xs.length=its.length∧s.heap.get? l=some { cls:=.type "list",data:=.seq its.toArray n }:=by
 obtain ⟨z,its,n,r,e⟩:=I.hok l _ hH
 exact ⟨z,its,n,r,r.length,e⟩
theorem notLongL{n:Nat}(h:n≤sizeLine):Builtin.List.listTooLong n=false:=by
 unfold Builtin.List.listTooLong
 exact decide_eq_false (by omega)
end
section
variable{X:Cx}
def lR:V→List V→Hp→VK→Prop:=fun x vs H Q=>∃ l xs y,x = .ref l∧vs=[y]∧H l=some (.lst xs)∧xs.length < sizeLine∧Q .non (upd H l (.lst (xs ++ [y])))
theorem cD:MtM X "list.append" lR:=by
 intro pins s σ H x vs v us Q I rx rv h
 obtain ⟨l,xs,y,rfl,rfl,hH,hz,q⟩:=h
 cases rx
 obtain ⟨u,rfl,ru⟩:=rv.one
 obtain ⟨z,its,n,r,hl,e⟩:=I.lstM hH
 refine call_meets F.slot_list_append ⟨_,e,rfl⟩ F.entry_list_append (F.args_list_append_2 _ _) (PySem.list_append l its.toArray n u (by rw [List.size_toArray];omega)) ⟨e,?_⟩
 refine ⟨.non,_,I.lset (its':=its ++ [u]) hH e (by simp) (r.append (.cons ru .nil)) ?_,rfl,q⟩
 rw [List.length_append,List.length_singleton]
 omega
def mD:V→List V→Hp→VK→Prop:=fun x vs H Q=>∃ l b xs zs,x = .ref l∧vs=[.ref b]∧H l=some (.lst xs)∧H b=some (.lst zs)∧xs.length + zs.length≤sizeLine∧Q .non (upd H l (.lst (xs ++ zs)))
theorem li:MtM X "list.extend" mD:=by
 intro pins s σ H x vs v us Q I rx rv h
 obtain ⟨l,b,xs,zs,rfl,rfl,hH,hB,hz,q⟩:=h
 cases rx
 obtain ⟨u,rfl,ru⟩:=rv.one
 cases ru
 obtain ⟨z,its,n,r,hl,e⟩:=I.lstM hH
 obtain ⟨z2,its2,n2,r2,hl2,e2⟩:=I.lstM hB
 have hsz:its.toArray.size + its2.toArray.size≤sizeLine:=by rw [List.size_toArray,List.size_toArray];omega
 have hlong:¬ (!its.toArray.isEmpty && Builtin.List.listTooLong (its.toArray.size + its2.toArray.size))=true:=by
  rw [notLongL hsz,Bool.and_false]
  exact Bool.false_ne_true
 refine call_meets F.slot_list_extend ⟨_,e,rfl⟩ F.entry_list_extend (F.args_list_extend_2 _ _)
  (AutoSeq1.list_extend_list_list_0 l its.toArray n b its2.toArray n2 hlong (by rw [List.size_toArray];omega) (by omega)) ⟨e,e2,?_⟩
 refine ⟨.non,_,I.lset (its':=its ++ its2) hH e (by simp) (r.append r2) ?_,rfl,q⟩
 rw [List.length_append]
 omega
def rPop:V→List V→Hp→VK→Prop:=fun x vs H Q=>∃ l xs y,x = .ref l∧vs=[]∧H l=some (.lst xs)∧xs[xs.length - 1]? = some y∧Q y (upd H l (.lst xs.dropLast))
theorem mt_pop:MtM X "list.pop" rPop:=by
 intro pins s σ H x vs v us Q I rx rv h
 obtain ⟨l,xs,y,rfl,rfl,hH,hy,q⟩:=h
 cases rx
 have hus:=rv.zero
 subst hus
 obtain ⟨z,its,n,r,hl,e⟩:=I.lstM hH
 obtain ⟨u,hu,ru⟩:=r.get hy
 have hy':its.toArray[its.toArray.size - 1]? = some u:=by
  show its.toArray[its.length - 1]? = some u
  rw [← Array.getElem?_toList,← hl]
  exact hu
 refine call_meets F.slot_list_pop ⟨_,e,rfl⟩ F.entry_list_pop (F.args_list_pop_1 _) (MeetsSeq.list_pop_last l its.toArray n u hy' (by rw [List.size_toArray];omega)) ⟨e,?_⟩
 refine ⟨y,_,I.lset (its':=its.dropLast) hH e ?_ r.dropLast ?_,ru,q⟩
 ·show its.toArray.eraseIdxIfInBounds (its.toArray.size - 1)=its.dropLast.toArray
  rw [List.size_toArray,List.eraseIdxIfInBounds_toArray,oa]
 ·rw [List.length_dropLast]
  omega
def rPopAt:V→List V→Hp→VK→Prop:=fun x vs H Q=>∃ l xs i k y,x = .ref l∧vs=[.int i]∧H l=some (.lst xs) ∧ -(2 ^ 63)≤i∧i < 2 ^ 63∧seqIndex? i xs.length=some k∧xs[k]? = some y∧Q y (upd H l (.lst (xs.eraseIdx k)))
theorem mt_popAt:MtM X "list.pop" rPopAt:=by
 intro pins s σ H x vs v us Q I rx rv h
 obtain ⟨l,xs,i,k,y,rfl,rfl,hH,h1,h2,hk,hy,q⟩:=h
 cases rx
 obtain ⟨u,rfl,ru⟩:=rv.one
 obtain ⟨t,rfl⟩:=ru
 obtain ⟨z,its,n,r,hl,e⟩:=I.lstM hH
 obtain ⟨w,hw,rw'⟩:=r.get hy
 refine call_meets F.slot_list_pop ⟨_,e,rfl⟩ F.entry_list_pop (F.args_list_pop_2 _ _)
  (MeetsSeq.list_pop_at l its.toArray n i t k w (fitsIndex_both h1 h2) (by rw [List.size_toArray,← hl];exact hk) (by rw [← Array.getElem?_toList];exact hw) (by rw [List.size_toArray];omega)) ⟨e,?_⟩
 refine ⟨y,_,I.lset (its':=its.eraseIdx k) hH e ?_ (r.eraseIdx k) ?_,rw',q⟩
 ·show its.toArray.eraseIdxIfInBounds k=(its.eraseIdx k).toArray
  rw [List.eraseIdxIfInBounds_toArray]
 ·have:=kM xs k
  omega
def rCat:R2:=fun x y H Q=>∃ l b xs zs,x = .ref l∧y = .ref b∧H l=some (.lst xs)∧H b=some (.lst zs)∧xs.length + zs.length≤sizeLine∧∀ p,H p=none→Q (.ref p) (upd H p (.lst (xs ++ zs)))
theorem op_cat:OpR X (binaryOp .Add) rCat:=by
 intro pins s σ H x y v u Q I rx ry h
 obtain ⟨l,b,xs,zs,rfl,rfl,hH,hB,hz,q⟩:=h
 cases rx
 cases ry
 obtain ⟨z,its,n,r,hl,e⟩:=I.lstM hH
 obtain ⟨z2,its2,n2,r2,hl2,e2⟩:=I.lstM hB
 refine PySem.P.add_list e e2 ?_ (by rw [List.size_toArray,List.size_toArray];omega)
 have ea:its.toArray ++ its2.toArray=(its ++ its2).toArray:=by simp
 rw [ea]
 exact ⟨.ref _,_,I.lnew (t':=s.toks) (r.append r2) (by rw [List.length_append];omega),rfl,q _ I.fresh⟩
end
theorem aR.ints:∀ {ns:List Int} {us:List Value},aR (ns.map V.int) us→IntsAre us ns
 | [],us,h=>by
  rw [List.map_nil] at h
  cases h
  exact IntsAre.nil
 | n :: ns,us,h=>by
  rw [List.map_cons] at h
  cases h with
  | cons r t=>
   obtain ⟨k,rfl⟩:=r
   exact IntsAre.cons n k (aR.ints t)
theorem gS:∀ {us:List Value} {ns:List Int},IntsAre us ns→aR (ns.map V.int) us
 | _,_,.nil=>by rw [List.map_nil];exact Paired.nil
 | _,_,.cons n t h=>by rw [List.map_cons];exact Paired.cons (show b6 (V.int n) (Value.int n t) from ⟨t,rfl⟩) (gS h)
theorem aR.bls:∀ {bs:List Bool} {us:List Value},aR (bs.map V.bl) us→us=bs.map Value.bool
 | [],us,h=>by
  rw [List.map_nil] at h
  cases h
  rfl
 | b :: bs,us,h=>by
  rw [List.map_cons] at h
  cases h with
  | cons r t=>
   cases r
   rw [aR.bls t,List.map_cons]
theorem aR.ref1{a:Addr}{us:List Value}(r:aR [V.ref a] us):us=[Value.ref a]:=by
 cases r with
 | cons r t=>
  cases t
  cases r
  rfl
section
variable{X:Cx}
theorem jh{n:Nat}(h:n < 64):n≤sizeLine:=by rw [sizeLine_eq];omega
end
section
variable{X:Cx}
def om(K:PySem.W.Frag):V→List V→Hp→VK→Prop:=fun x xs H Q=>∃ (a:Addr) (ys:List V) (y:V) (j:Nat) (z:V),x=V.ref a∧xs=[y]∧SqL K H a ys∧bV y=true∧ys.all bV=true∧ys[j]? = some z∧eqV z y=true ∧
 (∀ (m:Nat) (z':V),m < j→ys[m]? = some z'→eqV z' y=false)∧Q (.int (j:Nat)) H
theorem pQ{ys:List V}(f:ys.all bV=true){j:Nat}{z:V}(h:ys[j]? = some z):bV z=true:=List.all_eq_true.mp f z (List.mem_of_getElem? h)
theorem mt_index:MtR X "list.index" (om X.K):=by
 intro pins s σ H x xs v us Q I rx rxs h
 obtain ⟨a,ys,y,j,z,rfl,rfl,hs,fy,fys,hz,hzj,hno,q⟩:=h
 cases rx
 cases rxs with
 | cons ry rt=>
  rename_i uy ut
  cases rt
  obtain ⟨its,rv,⟨⟨cls,dd,data,sl⟩,n,ho,hc,hdn,hd⟩,hlen⟩:=I.list hs
  simp only at hc hd
  subst hc hd
  obtain ⟨u,hu,ru⟩:=rv.get hz
  obtain ⟨hjl,hje⟩:=List.getElem?_eq_some_iff.mp hu
  have hvl:=rv.length
  have hj:j < its.toArray.size:=by simpa using hjl
  have hsl:=sizeLine_eq
  refine call_meets PySem.F.slot_list_index ⟨_,ho,rfl⟩ PySem.F.entry_list_index (PySem.F.args_list_index_2 _ _)
   (SeqAt.list_indexAt a its.toArray n dd sl uy (eqU y) j hj (by omega) ?_ ?_) ⟨ho,fun u' hu'=>gT ry fy rv fys u' (by simpa using hu'),?_⟩
  ·have e1:its.toArray[j] = u:=by simpa using hje
   rw [e1,m7 ru (pQ fys hz)]
   exact hzj
  ·intro m hm hmj
   have hml:m < its.length:=by simpa using hm
   have hmy:m < ys.length:=by omega
   have hy':ys[m]? = some ys[m]:=List.getElem?_eq_getElem hmy
   obtain ⟨u2,hu2,ru2⟩:=rv.get hy'
   obtain ⟨_,hme⟩:=List.getElem?_eq_some_iff.mp hu2
   have e1:its.toArray[m] = u2:=by simpa using hme
   rw [e1,m7 ru2 (pQ fys hy')]
   exact hno m _ hmj hy'
  ·exact ⟨.int (j:Nat),H,I.tok _,⟨_,rfl⟩,q⟩
end
theorem nN{prog:Program}{w:World}{A:Around}{E:Value→Shared→Prop}{s:Shared}{l:Addr}{items:Array Value}{Q:Value→Shared→Prop}(hl:s.heap.IsList l items)
  (h:∀ s₂ : Shared,s₂ = { s with heap:=s.heap.push { cls:=.type "list_iterator",data:=.fields #[.ref l,.int 0 0] } } →
   (s₂.heap.IsListIter s.heap.objs.size l 0∧s₂.heap.IsList l items)→l≠s.heap.objs.size→Q (.ref s.heap.objs.size) s₂):wpAny (model prog w) A (pyIter (.ref l)) Q E s:=by
 have hlt:l < s.heap.objs.size:=by obtain ⟨_,e,_⟩:=hl;exact Heap.lt_size e
 exact wpAny_pyIter_list hl (h _ rfl ⟨⟨_,Heap.get?_push_size _ rfl,rfl,rfl⟩,hl.push _⟩ (Nat.ne_of_lt hlt))
theorem iD{prog:Program}{w:World}{A:Around}{bs:List Bool}{its:List Value}(e:its=bs.map Value.bool) :
  TruthOf prog w A (fun i v=>its.toArray[i]? = some v) (fun i=>bs.getD i false):=fun i v s Q E hv hq=>by
 have hv':its[i]? = some v:=by simpa using hv
 rw [e,List.getElem?_map] at hv'
 obtain ⟨b,hb,rfl⟩:=Option.map_eq_some_iff.mp hv'
 have hg:bs.getD i false=b:=by rw [List.getD_eq_getElem?_getD,hb] <;> rfl
 have hq':Q (bs.getD i false) s:=hq
 rw [hg] at hq'
 exact wpAny_truthy_bool hq'
theorem lv:∀ bs:List Bool,(List.range bs.length).any (fun i=>bs.getD i false)=bs.any id
 | [] =>rfl
 | b :: bs=>by
  rw [List.length_cons,List.range_succ_eq_map,List.any_cons,List.any_map,List.any_cons,← lv bs]
  all_goals rfl
theorem lx:∀ bs:List Bool,(List.range bs.length).all (fun i=>bs.getD i false)=bs.all id
 | [] =>rfl
 | b :: bs=>by
  rw [List.length_cons,List.range_succ_eq_map,List.all_cons,List.all_map,List.all_cons,← lx bs]
  all_goals rfl
section
variable{X:Cx}
def rAny(K:PySem.W.Frag):List V→Hp→VK→Prop:=fun vs H Q=>∃ (a:Addr) (bs:List Bool),vs=[V.ref a]∧SqL K H a (bs.map V.bl)∧Q (.bl (bs.any id)) H
def rAll(K:PySem.W.Frag):List V→Hp→VK→Prop:=fun vs H Q=>∃ (a:Addr) (bs:List Bool),vs=[V.ref a]∧SqL K H a (bs.map V.bl)∧Q (.bl (bs.all id)) H
theorem cr_any(hc:X.calm=true):bX X (.builtin "any") (rAny X.K):=by
 intro pins s σ H vs us Q I r h
 obtain ⟨a,bs,rfl,hs,q⟩:=h
 obtain ⟨its,rv,hl,_⟩:=I.list hs
 rw [aR.ref1 r]
 have hb:=rv.bls
 refine call_any_walk (nN hl.isList fun s₂ e2 st hne=> ?_)
 subst e2
 refine ⟨_,_,_,_,_,_,_,rfl,Walks.list (A:=X.A.in1) (I.ok.hd hc) _ a hne its.toArray,st,iD hb,fun h' tk hk=> ?_⟩
 refine ⟨.bl _,H,I.kept fun b o eo=>hk b o (fun hmem=> ?_) (Heap.get?_push_of_some _ eo),?_,q⟩
 ·rcases List.mem_cons.mp hmem with e1 | hmem
  ·exact absurd (e1 ▸ Heap.lt_size eo) (Nat.lt_irrefl _)
  ·cases hmem
 ·show Value.bool _=Value.bool _
  rw [← lv,hb,List.size_toArray,List.length_map]
theorem cr_all(hc:X.calm=true):bX X (.builtin "all") (rAll X.K):=by
 intro pins s σ H vs us Q I r h
 obtain ⟨a,bs,rfl,hs,q⟩:=h
 obtain ⟨its,rv,hl,_⟩:=I.list hs
 rw [aR.ref1 r]
 have hb:=rv.bls
 refine call_all_walk (nN hl.isList fun s₂ e2 st hne=> ?_)
 subst e2
 refine ⟨_,_,_,_,_,_,_,rfl,Walks.list (A:=X.A.in1) (I.ok.hd hc) _ a hne its.toArray,st,iD hb,fun h' tk hk=> ?_⟩
 refine ⟨.bl _,H,I.kept fun b o eo=>hk b o (fun hmem=> ?_) (Heap.get?_push_of_some _ eo),?_,q⟩
 ·rcases List.mem_cons.mp hmem with e1 | hmem
  ·exact absurd (e1 ▸ Heap.lt_size eo) (Nat.lt_irrefl _)
  ·cases hmem
 ·show Value.bool _=Value.bool _
  rw [← lx,hb,List.size_toArray,List.length_map]
end
mutual
inductive Dp(K:PySem.W.Frag)(H:Hp):V→PyData→Prop
 | non:Dp K H .non .none
 | bl (b:Bool):Dp K H (.bl b) (.bool b)
 | int (i:Int):Dp K H (.int i) (.int i)
 | str (x:Str):Dp K H (.str x) (.str x)
 | lst {a:Addr} {xs:List V} {ds:List PyData}:SqL K H a xs→kU K H xs ds→Dp K H (.ref a) (.list ds)
 | tup {a:Addr} {xs:List V} {ds:List PyData}:SqT K H a xs→kU K H xs ds→Dp K H (.ref a) (.tuple ds)
inductive kU(K:PySem.W.Frag)(H:Hp):List V→List PyData→Prop
 | nil:kU K H [] []
 | cons {v:V} {vs:List V} {d:PyData} {ds:List PyData}:Dp K H v d→kU K H vs ds→kU K H (v :: vs) (d :: ds)
end
section
variable{X:Cx}{pins:List (Addr×Obj)}{σ : St}{H:Hp}{s:Shared}
mutual
theorem Dp.reads(I:Inv X pins σ H s):∀ (d:PyData) (v:V) (u:Value),Dp X.K H v d→b6 v u→∃ as,Reads s.heap u d as
 | .none,_,_,h,r=>by
  cases h
  cases r
  exact ⟨_,Reads.none⟩
 | .bool b,_,_,h,r=>by
  cases h
  cases r
  exact ⟨_,Reads.bool b⟩
 | .int i,_,_,h,r=>by
  cases h
  obtain ⟨t,rfl⟩:=r
  exact ⟨_,Reads.int i t⟩
 | .str x,_,_,h,r=>by
  cases h
  obtain ⟨t,rfl⟩:=r
  exact ⟨_,Reads.str x t⟩
 | .list ds,_,_,h,r=>by
  cases h with
  | lst hs ha=>
   cases r
   obtain ⟨its,rv,⟨o,n,ho,hc,_,hd⟩,_⟩:=I.list hs
   obtain ⟨as,hr⟩:=Dp.readsAll I ds _ its ha rv
   exact ⟨_,Reads.list ho hc hd hr⟩
 | .tuple ds,_,_,h,r=>by
  cases h with
  | tup hs ha=>
   cases r
   obtain ⟨its,rv,⟨o,ho,hc,n,hd⟩,_⟩:=I.tuple hs
   obtain ⟨as,hr⟩:=Dp.readsAll I ds _ its ha rv
   exact ⟨_,Reads.tuple ho hc hd hr⟩
 | .dict _,_,_,h,_=>by cases h
theorem Dp.readsAll(I:Inv X pins σ H s):∀ (ds:List PyData) (vs:List V) (us:List Value),kU X.K H vs ds→aR vs us→∃ as,ReadsAll s.heap us ds as
 | [],_,_,h,r=>by
  cases h
  cases r
  exact ⟨_,ReadsAll.nil⟩
 | d :: ds,_,_,h,r=>by
  cases h with
  | cons h1 h2=>
   cases r with
   | cons r1 r2=>
    obtain ⟨as,q1⟩:=Dp.reads I d _ _ h1 r1
    obtain ⟨bs,q2⟩:=Dp.readsAll I ds _ _ h2 r2
    exact ⟨_,ReadsAll.cons q1 q2⟩
end
end
abbrev CellAt(h:Heap)(c:Addr)(v:Option Value):Prop:=h.IsCell c v
def relS(scope sc:Scope):Scope:=
 { scope with names:=scope.names.map fun (n,k)=>if (k == .free && sc.kind == .function && sc.names.lookup n == some .cell) then (n,.cell) else (n,k) }
def bj(cells:List (Str×Addr)):List (Str×NameKind)→List (Str×Addr)→List (Str×Addr)
 | [],acc=>acc
 |(n,k) :: r,acc=>if k == .free then bj cells r ((n,(cells.lookup n).getD 0) :: acc) else bj cells r acc
theorem gz(env:Env)(f:Str×NameKind→List (Str×Addr)→Sem (ForInStep (List (Str×Addr))))
  (hf:∀ n k c,f (n,k) c=if k == .free then (do let a ← cellOf env n;pure (.yield ((n,a) :: c))) else pure (.yield c)) :
  ∀ (names:List (Str×NameKind)) (acc:List (Str×Addr)),(∀ y∈names,y.2 = .free→∃ c,env.cells.lookup y.1=some c)→forIn names acc f=pure (bj env.cells names acc)
 | [],acc,_=>by rw [List.forIn_nil];rfl
 |(n,k) :: r,acc,h=>by
  rw [List.forIn_cons,hf]
  have ih:=fun acc=>gz env f hf r acc fun y hy=>h y (List.mem_cons_of_mem _ hy)
  unfold bj
  by_cases hk:(k == NameKind.free)=true
  ·rw [if_pos hk,if_pos hk]
   obtain ⟨c,hc⟩:=h (n,k) List.mem_cons_self (by simpa using hk)
   have e:cellOf env n=pure c:=by unfold cellOf;rw [hc]
   rw [e]
   have e2:(env.cells.lookup n).getD 0=c:=by rw [hc];rfl
   rw [e2]
   exact ih _
  ·rw [if_neg hk,if_neg hk]
   exact ih _
theorem o6{scope:Scope}{env:Env}(h:∀ y∈scope.names,y.2 = .free→∃ c,env.cells.lookup y.1=some c):closureFor scope env=pure (bj env.cells scope.names []):=by
 simp only [closureFor]
 rw [gz env _ (fun n k c=>rfl) scope.names [] h]
 rfl
theorem gb{α : Type}:∀ {l:List (Str×α)} {n:Str} {c : α},(n,c)∈l→∃ c',l.lookup n=some c'
 |(k,v) :: r,n,c,h=>by
  rw [List.lookup_cons]
  cases hb:n == k with
  | true=>exact ⟨_,rfl⟩
  | false=>
   rcases List.mem_cons.mp h with e | h
   ·cases e;simp at hb
   ·exact gb h
theorem dk{cells:List (Str×Addr)}:∀ {names:List (Str×NameKind)} {acc:List (Str×Addr)} {n:Str} {c:Addr},(n,c)∈bj cells names acc→(n,c)∈acc∨((n,.free)∈names∧c=(cells.lookup n).getD 0)
 | [],_,_,_,h=>.inl h
 |(m,k) :: r,acc,n,c,h=>by
  unfold bj at h
  split at h
  ·rename_i hk
   have hk:k = .free:=by simpa using hk
   rcases dk h with h | ⟨h1,h2⟩
   ·rcases List.mem_cons.mp h with e | h
    ·cases e;exact .inr ⟨hk ▸ List.mem_cons_self,rfl⟩
    ·exact .inl h
   ·exact .inr ⟨List.mem_cons_of_mem _ h1,h2⟩
  ·rcases dk h with h | ⟨h1,h2⟩
   ·exact .inl h
   ·exact .inr ⟨List.mem_cons_of_mem _ h1,h2⟩
theorem fg{cells:List (Str×Addr)}:∀ {names:List (Str×NameKind)} {acc:List (Str×Addr)} {p:Str×Addr},p∈acc→p∈bj cells names acc
 | [],_,_,h=>h
 |(m,k) :: r,acc,p,h=>by
  unfold bj
  split
  ·exact fg (List.mem_cons_of_mem _ h)
  ·exact fg h
theorem fJ{cells:List (Str×Addr)}:∀ {names:List (Str×NameKind)} {acc:List (Str×Addr)} {n:Str},(n,.free)∈names→(n,(cells.lookup n).getD 0)∈bj cells names acc
 |(m,k) :: r,acc,n,h=>by
  unfold bj
  rcases List.mem_cons.mp h with e | h
  ·cases e
   exact fg List.mem_cons_self
  ·split
   ·exact fJ h
   ·exact fJ h
theorem dJ:∀ {names:List (Str×NameKind)} {h:Heap} {acc:List (Str×Addr)} {x:Str} {c:Addr},(x,c)∈cellsFrom h.objs.size names acc →
  (x,c)∈acc∨((x,.cell)∈names∧h.objs.size≤c∧CellAt (pushCells h names) c none)
 | [],_,_,_,_,h=>.inl h
 |(n,k) :: r,h,acc,x,c,hm=>by
  unfold cellsFrom at hm
  unfold pushCells
  split at hm
  ·rename_i hk
   rw [if_pos hk]
   have hk:k = .cell:=by simpa using hk
   rw [← Heap.size_push h { cls:=.type "cell",data:=.cell none }] at hm
   rcases dJ hm with hm | ⟨h1,h2,h3⟩
   ·rcases List.mem_cons.mp hm with e | hm
    ·cases e
     exact .inr ⟨hk ▸ List.mem_cons_self,Nat.le_refl _,_,pushCells_keeps r _ _ _ (Heap.get?_push_size _ rfl),rfl⟩
    ·exact .inl hm
   ·rw [Heap.size_push] at h2
    exact .inr ⟨List.mem_cons_of_mem _ h1,Nat.le_of_succ_le h2,h3⟩
  ·rename_i hk
   rw [if_neg hk]
   rcases dJ hm with hm | ⟨h1,h2,h3⟩
   ·exact .inl hm
   ·exact .inr ⟨List.mem_cons_of_mem _ h1,h2,h3⟩
theorem fO:∀ {names:List (Str×NameKind)} {n:Nat} {acc:List (Str×Addr)} {p:Str×Addr},p∈acc→p∈cellsFrom n names acc
 | [],_,_,_,h=>h
 |(m,k) :: r,n,acc,p,h=>by
  unfold cellsFrom
  split
  ·exact fO (List.mem_cons_of_mem _ h)
  ·exact fO h
theorem iy:∀ {names:List (Str×NameKind)} {n:Nat} {acc:List (Str×Addr)} {x:Str},(x,.cell)∈names→∃ c,(x,c)∈cellsFrom n names acc
 |(m,k) :: r,n,acc,x,h=>by
  unfold cellsFrom
  rcases List.mem_cons.mp h with e | h
  ·cases e
   exact ⟨n,fO List.mem_cons_self⟩
  ·split
   ·exact iy h
   ·exact iy h
theorem ie:∀ {names:List (Str×NameKind)} {h:Heap} {acc:List (Str×Addr)} {x y:Str} {c:Addr},(∀ p∈acc,p.2 < h.objs.size)→(∀ x y c,(x,c)∈acc→(y,c)∈acc→x=y) →
  (x,c)∈cellsFrom h.objs.size names acc→(y,c)∈cellsFrom h.objs.size names acc→x=y
 | [],_,_,_,_,_,_,hi,h1,h2=>hi _ _ _ h1 h2
 |(n,k) :: r,h,acc,x,y,c,hl,hi,h1,h2=>by
  unfold cellsFrom at h1 h2
  split at h1
  ·rename_i hk
   rw [if_pos hk] at h2
   rw [← Heap.size_push h { cls:=.type "cell",data:=.cell none }] at h1 h2
   refine ie (h:=h.push _) (fun p hp=> ?_) (fun x y c a b=> ?_) h1 h2
   ·rw [Heap.size_push]
    rcases List.mem_cons.mp hp with rfl | hp
    ·exact Nat.lt_succ_self _
    ·exact Nat.lt_succ_of_lt (hl p hp)
   ·rcases List.mem_cons.mp a with e | a <;> rcases List.mem_cons.mp b with e' | b
    ·cases e;cases e';rfl
    ·cases e;exact absurd (hl _ b) (Nat.lt_irrefl _)
    ·cases e';exact absurd (hl _ a) (Nat.lt_irrefl _)
    ·exact hi _ _ _ a b
  ·rename_i hk
   rw [if_neg hk] at h2
   exact ie hl hi h1 h2
theorem mY{M:Model}{A:Around}{E:Value→Shared→Prop}{s:Shared}{scope:Scope}{globals:Addr}{closure:List (Str×Addr)}{qual:Str}{func:Option Addr}{code:Value}{around:Env}{builtins:Addr}{Q:Env→Shared→Prop}
  (h:Q (newEnv scope s.heap.objs.size globals (cellsFrom (s.heap.objs.size + 1) scope.names closure) qual func code (some around) builtins)
   { s with heap:=pushCells (s.heap.push { cls:=.type "dict",data:=.dict #[] }) scope.names }) :
  wpAny M A (newFunctionEnv scope globals closure [] qual func code (some around) builtins) Q E s:=by
 simp only [newFunctionEnv,Option.isSome_some,if_true]
 refine wpAny_bind (wpAny_alloc ?_)
 refine wpAny_bind (wpAny_layCells _ (fun n k c=>rfl) scope.names closure _ _ ?_)
 rw [show ({ s with heap:=s.heap.push { cls:=.type "dict",data:=.dict #[] } }:Shared).heap.objs.size=s.heap.objs.size + 1 from Heap.size_push ..]
 rw [List.forIn_nil]
 exact wpAny_bind (wpAny_pure (wpAny_pure h))
theorem fD{sc:Scope}:∀ {names:List (Str×NameKind)} {x:Str} {k:NameKind},
  (names.map fun (n,k)=>if (k == NameKind.free && sc.kind == .function && sc.names.lookup n == some .cell) then (n,NameKind.cell) else (n,k)).lookup x=some k →
  ∃ k',names.lookup x=some k'∧(k=k'∨(k' = .free∧k = .cell))
 | [],_,_,h=>by simp at h
 |(n,k₀) :: r,x,k,h=>by
  have ih:=@fD sc r x k
  have h':List.lookup x ((if (k₀ == NameKind.free && sc.kind == .function && sc.names.lookup n == some .cell)=true then (n,NameKind.cell) else (n,k₀)) :: (r.map _))=some k:=h
  cases hx:x == n with
  | true=>
   simp only [List.lookup_cons,hx]
   by_cases hc:(k₀ == NameKind.free && sc.kind == .function && sc.names.lookup n == some .cell)=true
   ·rw [if_pos hc] at h'
    simp only [List.lookup_cons,hx] at h'
    cases h'
    simp only [Bool.and_eq_true,beq_iff_eq] at hc
    exact ⟨k₀,rfl,.inr ⟨hc.1.1,rfl⟩⟩
   ·rw [if_neg hc] at h'
    simp only [List.lookup_cons,hx] at h'
    cases h'
    exact ⟨_,rfl,.inl rfl⟩
  | false=>
   simp only [List.lookup_cons,hx]
   by_cases hc:(k₀ == NameKind.free && sc.kind == .function && sc.names.lookup n == some .cell)=true
   ·rw [if_pos hc] at h'
    simp only [List.lookup_cons,hx] at h'
    exact ih h'
   ·rw [if_neg hc] at h'
    simp only [List.lookup_cons,hx] at h'
    exact ih h'
structure nA(N:List Str)(sc scope:Scope)(own:List (Str×Nat)):Prop where
 kind:scope.kind = .function
 uniq:∀ y∈scope.names,scope.names.lookup y.1=some y.2
 ix:∀ p∈own,N[p.2]? = some p.1
 free:∀ y∈scope.names,y.2 = .free→sc.names.lookup y.1=some .cell∨sc.names.lookup y.1=some .free
 own:∀ y∈scope.names,y.2 = .local∨y.2 = .cell→y.1∈own.map (·.1)∨y.1∉N
def b7(σ : St):List Nat→St
 | [] => σ
 | v :: vs=>(b7 σ vs).set v none
theorem fh(σ : St):∀ vs:List Nat,(b7 σ vs).length = σ.length
 | [] =>rfl
 | v :: vs=>by unfold b7;rw [List.length_set,fh σ vs]
theorem ir{σ : St}{i:Nat}{x:V}:∀ {vs:List Nat},(b7 σ vs)[i]? = some (some x)→σ[i]? = some (some x)∧i∉vs
 | [],h=>⟨h,by simp⟩
 | v :: vs,h=>by
  unfold b7 at h
  by_cases hi:v=i
  ·subst hi
   by_cases hv:v < (b7 σ vs).length
   ·rw [List.getElem?_set_self hv] at h;cases h
   ·rw [List.getElem?_eq_none (by simpa using hv)] at h;cases h
  ·rw [List.getElem?_set_ne hi] at h
   obtain ⟨h1,h2⟩:=ir h
   exact ⟨h1,by simp only [List.mem_cons,not_or];exact ⟨fun e=>hi e.symm,h2⟩⟩
abbrev Cx.blk(X:Cx)(s:Shared)(H:Hp)(scope:Scope)(cenv:Env)(fp:List Addr):Cx:={ X with s_0:=s,H_0:=H,env:=cenv,outer:=X.stack,ex:=fp,fn:=fun x=>scope.names.lookup x == some .cell,pn:=[],xe:=fun _ _=>False }
section
variable{X:Cx}{pins:List (Addr×Obj)}{σ : St}{H:Hp}{s:Shared}
theorem nG{scope:Scope}{own:List (Str×Nat)}{fp:List Addr}(I:Inv X pins σ H s)(ok:nA X.N X.env.scope scope own)(hN:X.N.Nodup)(hfp:∀ b∈fp,je X pins H b∧b < s.heap.objs.size) :
  Inv (X.blk s H scope (compEnvC scope (cellsFrom (s.heap.objs.size + 1) scope.names (bj X.env.cells scope.names [])) s.heap.objs.size X.env) fp) [] (b7 σ (own.map (·.2))) H { s with heap:=pushCells (s.heap.push { cls:=.type "dict",data:=.dict #[] }) scope.names }:=by
 have hfree:∀ y∈scope.names,y.2 = .free→∃ c,X.env.cells.lookup y.1=some c:=fun y hy e=>by
  rcases ok.free y hy e with k | k
  ·exact I.ok.has _ (.inl k)
  ·exact I.ok.has _ (.inr k)
 generalize hcenv:compEnvC scope (cellsFrom (s.heap.objs.size + 1) scope.names (bj X.env.cells scope.names [])) s.heap.objs.size X.env=cenv
 have kp:∀ b o,s.heap.get? b=some o→(pushCells (s.heap.push { cls:=.type "dict",data:=.dict #[] }) scope.names).get? b=some o:=fun b o e=>pushCells_keeps _ _ _ _ (Heap.get?_push_of_some _ e)
 have hL:cenv.locals=s.heap.objs.size:=by rw [← hcenv];rfl
 have hcl:cenv.cells=cellsFrom (s.heap.objs.size + 1) scope.names (bj X.env.cells scope.names []):=by rw [← hcenv];rfl
 have hsc:cenv.scope=relS scope X.env.scope:=by rw [← hcenv];rfl
 rw [← Heap.size_push s.heap { cls:=.type "dict",data:=.dict #[] }] at hcl
 have cm:∀ {y c},(y,c)∈bj X.env.cells scope.names []→X.env.cells.lookup y=some c∧c < s.heap.objs.size:=fun {y c} hm=>by
  rcases dk hm with hm | ⟨h1,rfl⟩
  ·cases hm
  ·obtain ⟨c,hc⟩:=hfree _ h1 rfl
   rw [hc]
   obtain ⟨w,z⟩:=I.cell _ _ hc
   exact ⟨rfl,z.lt⟩
 have mem:∀ {y c},cenv.cells.lookup y=some c→(X.env.cells.lookup y=some c∧c < s.heap.objs.size)∨(s.heap.objs.size + 1≤c∧CellAt (pushCells (s.heap.push { cls:=.type "dict",data:=.dict #[] }) scope.names) c none):=fun {y c} e=>by
  rw [hcl] at e
  rcases dJ (PySem.mem_of_lookup e) with hm | ⟨_,h2,h3⟩
  ·exact .inl (cm hm)
  ·rw [Heap.size_push] at h2;exact .inr ⟨h2,h3⟩
 have look:∀ {y},scope.names.lookup y=some .free→∃ c,cenv.cells.lookup y=some c∧X.env.cells.lookup y=some c:=fun {y} hl=>by
  have hy:(y,NameKind.free)∈scope.names:=PySem.mem_of_lookup hl
  obtain ⟨c',e'⟩:=gb (fO (names:=scope.names) (n:=(s.heap.push { cls:=.type "dict",data:=.dict #[] }).objs.size) (fJ (cells:=X.env.cells) (acc:=[]) hy))
  rw [← hcl] at e'
  refine ⟨c',e',?_⟩
  rw [hcl] at e'
  rcases dJ (PySem.mem_of_lookup e') with hm | ⟨h1,_,_⟩
  ·exact (cm hm).1
  ·have:=ok.uniq _ h1
   rw [hl] at this;cases this
 have okB:(X.blk s H scope cenv fp).Ok:=by
  refine ⟨I.ok.mod,by show cenv.scope.kind=_;rw [hsc];exact ok.kind,by show cenv.globals=_;rw [← hcenv];exact I.ok.glob,by show cenv.builtins=_;rw [← hcenv];exact I.ok.blt,by show s.heap.objs.size≤cenv.locals;rw [hL];exact Nat.le_refl _,
   fun y z c e1 e2=> ?_,fun y hy=> ?_,fun y c z e=> ?_,I.ok.hd,I.ok.frames,.inl rfl,fun b hb=>⟨?_,fun y c e z=> ?_⟩,I.bs,Nat.le_trans I.ok.bsz I.sz,fun b o e hb=> ?_,fun b hb z=> ?_,I.stack,I.stkFree⟩
  ·have e1:cenv.cells.lookup y=some c:=e1
   have e2:cenv.cells.lookup z=some c:=e2
   rw [hcl] at e1 e2
   refine ie (fun p hp=> ?_) (fun y z c a b=>I.ok.inj y z c (cm a).1 (cm b).1) (PySem.mem_of_lookup e1) (PySem.mem_of_lookup e2)
   rw [Heap.size_push]
   exact Nat.lt_succ_of_lt (cm (y:=p.1) (c:=p.2) hp).2
  ·show ∃ c,cenv.cells.lookup y=some c
   have key:∀ k,cenv.kindOf y=some k→(k = .cell∨k = .free)→∃ c,cenv.cells.lookup y=some c:=fun k hk hk'=>by
    unfold Env.kindOf at hk
    rw [hsc] at hk
    obtain ⟨k',e,r⟩:=fD hk
    have:k' = .cell∨k' = .free:=by
     rcases r with rfl | ⟨rfl,_⟩
     ·exact hk'
     ·exact .inr rfl
    rcases this with rfl | rfl
    ·obtain ⟨c,hm⟩:=iy (n:=(s.heap.push { cls:=.type "dict",data:=.dict #[] }).objs.size) (acc:=bj X.env.cells scope.names []) (PySem.mem_of_lookup e)
     obtain ⟨c',e'⟩:=gb hm
     exact ⟨c',by rw [hcl];exact e'⟩
    ·obtain ⟨c,h1,_⟩:=look e
     exact ⟨c,h1⟩
   rcases hy with hy | hy
   ·exact key _ hy (.inl rfl)
   ·exact key _ hy (.inr rfl)
  ·have z:(scope.names.lookup y == some NameKind.cell)=true:=z
   have z:scope.names.lookup y=some .cell:=by simpa using z
   have e:cenv.cells.lookup y=some c:=e
   rw [hcl] at e
   rcases dJ (PySem.mem_of_lookup e) with hm | ⟨_,h2,_⟩
   ·rcases dk hm with hm | ⟨h1,_⟩
    ·cases hm
    ·have q:=ok.uniq _ h1
     rw [z] at q;cases q
   ·rw [Heap.size_push] at h2
    exact Nat.le_of_succ_le h2
  ·show b≠cenv.locals
   rw [hL];exact Nat.ne_of_lt (hfp b hb).2
  ·have e:cenv.cells.lookup y=some c:=e
   rcases mem e with ⟨h1,_⟩ | ⟨h1,_⟩
   ·exact (hfp b hb).1.2.2.2.2.1 y c h1 z
   ·have h2:s.heap.objs.size + 1≤b:=by rw [← z];exact h1
    exact absurd (Nat.lt_of_lt_of_le (hfp b hb).2 (Nat.le_of_succ_le h2)) (Nat.lt_irrefl _)
  ·rcases (hfp b hb).1.2.2.2.1 with z | z
   ·exact I.ok.noex b o e z
   ·exact absurd (Nat.lt_of_lt_of_le (Heap.lt_size e) (Nat.le_trans I.ok.bsz z)) (Nat.lt_irrefl _)
  ·rcases List.mem_cons.mp (I.stkSub b z) with z | z
   ·exact (hfp b hb).1.2.1 z
   ·exact (hfp b hb).1.2.2.1 z
 refine ⟨okB,rfl,I.bare,Un.kept kp,⟨fun _=>none,?_,fun i y av e1 e2 e3=> ?_⟩,fun y c e=> ?_,?_,fun y c e=> ?_,fun p hp=> ?_,I.hok.kept kp,by rw [fh];exact I.len⟩
 ·show Heap.Ns _ cenv.locals _
  rw [hL]
  exact Heap.Ns.keeps (Heap.Ns.new ..) fun b o e=>pushCells_keeps _ _ _ _ e
 ·obtain ⟨e2,hne⟩:=ir e2
  have hfr:scope.names.lookup y=some .free∧(cenv.kindOf y=some .cell∨cenv.kindOf y=some .free):=by
   have key:∀ k,cenv.scope.names.lookup y=some k→k = .local∨k = .cell∨k = .free→scope.names.lookup y=some .free∧(cenv.kindOf y=some .cell∨cenv.kindOf y=some .free):=fun k hk hk'=>by
    have hk0:=hk
    rw [hsc] at hk
    obtain ⟨k',e,r⟩:=fD hk
    have no:¬ (k' = .local∨k' = .cell):=fun hh=>by
     rcases ok.own _ (PySem.mem_of_lookup e) hh with e' | e'
     ·obtain ⟨p,hp,hpy⟩:=List.mem_map.mp e'
      have e3:=ok.ix p hp
      have:p.1=y:=hpy
      rw [this] at e3
      exact hne (List.mem_map.mpr ⟨p,hp,kc hN e3 e1⟩)
     ·exact e' (List.mem_of_getElem? e1)
    rcases r with rfl | ⟨rfl,rfl⟩
    ·rcases hk' with rfl | rfl | rfl
     ·exact absurd (.inl rfl) no
     ·exact absurd (.inr rfl) no
     ·exact ⟨e,.inr hk0⟩
    ·exact ⟨e,.inl hk0⟩
   have e3:Vis cenv.scope y:=e3
   rcases e3 with e3 | e3 | e3
   ·exact key _ e3 (.inl rfl)
   ·exact key _ e3 (.inr (.inl rfl))
   ·exact key _ e3 (.inr (.inr rfl))
  obtain ⟨m,hn,hl⟩:=I.loc
  have hvis:Vis X.env.scope y:=(ok.free _ (PySem.mem_of_lookup hfr.1) rfl).elim (fun k=>.inr (.inl k)) (fun k=>.inr (.inr k))
  obtain ⟨w,r,q⟩:=hl i y av e1 e2 hvis
  refine ⟨w,r,.inr ⟨hfr.2,?_⟩⟩
  obtain ⟨c,h1,h2⟩:=look hfr.1
  rcases q with ⟨k,_⟩ | ⟨_,c',e',z⟩
  ·have k:X.env.scope.names.lookup y=some .local:=k
   rcases ok.free _ (PySem.mem_of_lookup hfr.1) rfl with k' | k' <;> rw [show X.env.scope.names.lookup y=_ from k'] at k <;> cases k
  ·rw [h2] at e';cases e'
   exact ⟨c,h1,z.keeps kp⟩
 ·have e:cenv.cells.lookup y=some c:=e
  rcases mem e with ⟨h1,_⟩ | ⟨_,z⟩
  ·obtain ⟨w,z⟩:=I.cell y c h1
   exact ⟨w,z.keeps kp⟩
  ·exact ⟨_,z⟩
 ·show H cenv.locals=none
  rw [hL];exact I.hok.fresh (Nat.le_refl _)
 ·have e:cenv.cells.lookup y=some c:=e
  rcases mem e with ⟨h1,_⟩ | ⟨h1,_⟩
  ·exact I.freeC y c h1
  ·exact I.hok.fresh (Nat.le_of_succ_le h1)
 ·exact absurd (show p∈([]:List (Addr×Obj)) ++ [] from hp) (by simp)
theorem app_ok{E:Value→Shared→Prop}{D:Addr}{xs:List V}{y:V}{v:Value}{Q:Value→Shared→Prop}(I:Inv X pins σ H s)(hD:H D=some (.lst xs))(hz:xs.length < sizeLine)(r:b6 y v)
  (h:∀ s',Inv X pins σ (upd H D (.lst (xs ++ [y]))) s'→Q .none s'):wpAny (model X.prog X.w) X.A (call (.builtin "list.append") [.ref D,v]) Q E s:=by
 obtain ⟨hz',its,n,ri,e⟩:=I.hok D _ hD
 have hl:=ri.length
 refine append_at (hsz:=by rw [List.size_toArray];omega) e fun h' sb ho'=> ?_
 refine h { s with heap:=h' } (I.write (t':=s.toks) (by rw [hD];trivial) (.inl rfl) (fun b u hb q=>(sb.2 b hb).trans q) ⟨_,ho'⟩ ⟨by rw [List.length_append];exact hz,its ++ [v],n + 1,ri.append (.cons r .nil),?_⟩)
 rw [ho']
 simp
def PTs(X:Cx)(ifs:List Expr)(t:TT):Prop:=
 ∀ (pins:List (Addr×Obj)) (s:Shared) (σ : St) (H:Hp) (Q:Bool→Hp→Prop),Inv X pins σ H s→t σ H Q →
  wpAny (model X.prog X.w) X.A (forIn ifs true fun c r=>if r=true then do let ok ← isTrue c X.env (eval c X.env);pure (ForInStep.yield ok) else pure (ForInStep.yield r)) (TP X pins σ Q) X.xe s
def fU:TT:=fun _ H Q=>Q true H
theorem bT:PTs X [] fU:=fun _ _ _ H _ I h=>wpAny_tests_nil ⟨H,I,h⟩
theorem c7{c:Expr}{t:TT}(h:PT X c t):PTs X [c] t:=fun pins s σ H Q I hw=>wpAny_tests_one (h pins s σ H Q I hw)
end
theorem thnF{α : Type}{t:Sem α}{Q Q' : α→Shared→Prop}{M:Model}{A:Around}{E:Value→Shared→Prop}{s:Shared}(h:wpAny M A t Q (fun _ _=>False) s)(hQ:∀ a s,Q a s→Q' a s):wpAny M A t Q' E s:=wpAny_mono h hQ fun _ _ z=>False.elim z
theorem mH{prog:Program}{w:World}{A:Around}{R:Result→Shared→Prop}{s:Shared}{elt target iter:Expr}{ifs:List Expr}{scope:Scope}{pos:Pos}{it acc:Value}{env:Env}(I:Nat→Shared→Prop)
  (turn:∀ n s,I n s→wpAny (model prog w) A (pyNext it) (fun r s₁ =>match r with
   | none=>R (.ok .next) s₁
   | some v=>wpAny (model prog w) A (letOwnedTupleGo target it v) (fun _ s₁'=>wpAny (model prog w) A (assign target env v) (fun _ s₂ =>
     wpAny (model prog w) A (forIn ifs true fun c r=>if r=true then do let ok ← isTrue c env (eval c env);pure (ForInStep.yield ok) else pure (ForInStep.yield r)) (fun ok s₃ =>
      if ok=true then wpAny (model prog w) A (eval elt env) (fun x s₄ =>
       wpAny (model prog w) A (call (.builtin "list.append") [acc,x]) (fun _ s₅ =>∃ m,m < n∧I m s₅) (notedBy (model prog w) A env fun e s'=>R (.error e) s') s₄) (notedBy (model prog w) A env fun e s'=>R (.error e) s') s₃
      else ∃ m,m < n∧I m s₃) (notedBy (model prog w) A env fun e s'=>R (.error e) s') s₂) (notedBy (model prog w) A env fun e s'=>R (.error e) s') s₁') (notedBy (model prog w) A env fun e s'=>R (.error e) s') s₁) (notedBy (model prog w) A env fun e s'=>R (.error e) s') s)
  (n:Nat) (h:I n s) :
  codeAny (model prog w) A (.compLoop (.ListComp elt [⟨target,iter,ifs,0⟩] scope pos) 0 it acc env) R s:=by
 refine codeAny_loop rfl I (fun n s hI=> ?_) n h
 show wpAny _ A ((compTurn (.ListComp elt [⟨target,iter,ifs,0⟩] scope pos) 0 it acc env).onRaise (fun x=>do noteFrame x env;theTreesLotGoes x)) _ _ s
 refine wpAny_noted ?_
 rw [compTurn_list]
 refine wpAny_bind (wpAny_standAt (wpAny_bind (wpAny_mono (turn n s hI) (fun r s₁ h₁ => ?_) fun _ _ h'=>h')))
 cases r with
 | none=>exact wpAny_pure h₁
 | some v=>
  refine wpAny_bind (wpAny_mono h₁ (fun _ s₁' h₁'=> ?_) fun _ _ h'=>h')
  refine wpAny_bind (wpAny_mono h₁' (fun _ s₂ h₂ =>wpAny_bind (wpAny_mono h₂ (fun ok s₃ h₃ => ?_) fun _ _ h'=>h')) fun _ _ h'=>h')
  cases ok with
  | false=>exact wpAny_pure ⟨rfl,h₃⟩
  | true=>
   exact wpAny_bind (wpAny_bind (wpAny_mono h₃ (fun x s₄ h₄ =>wpAny_bind (wpAny_mono h₄ (fun _ s₅ h₅ =>wpAny_pure (wpAny_pure ⟨rfl,h₅⟩)) fun _ _ h'=>h')) fun _ _ h'=>h'))
section
variable{X:Cx}
def tLc(wi:TI)(g:TG)(tt:TT)(te:TE)(vs:List Nat):TE:=fun σ H Q=>wi σ H fun J H1=>∀ D,H1 D=none→∃ W:Nat→Nat→Hp→Prop,(∃ m,W 0 m (upd H1 D (.lst [])))∧∀ i m H,W i m H →
 (J.stop i H∧Q (.ref D) H)∨(J.go i H∧∃ Nx:Hp→Prop,(∀ H',Nx H'→∃ m',m' < m∧W (i + 1) m' H')∧∀ x H',J.yld i H x H'→g x (b7 σ vs) H' fun σ2 H2=>b7 σ2 vs=b7 σ vs∧tt σ2 H2 fun b H3=>
  if b=true then te σ2 H3 fun y H4=>∃ acc,H4 D=some (.lst acc)∧acc.length < sizeLine∧Nx (upd H4 D (.lst (acc ++ [y]))) else Nx H3)
theorem pO{pins:List (Addr×Obj)}{s:Shared}{σ : St}{H:Hp}{Q:VK}{elt tg iter:Expr}{ifs:List Expr}{scope:Scope}{own:List (Str×Nat)}{pos pos':Pos}{wi:TI}{g:TG}{tt:TT}{te:TE}{use:Option (Value→Sem Unit)}{Qf:Value→Shared→Prop}
  (hc:X.calm=true) (hN:X.N.Nodup) (I:Inv X pins σ H s) (hi:PI X tg iter wi) (ok:nA X.N X.env.scope scope own)
  (hg:∀ (s:Shared) (H:Hp) (C:Addr) (cl:List (Str×Addr)) (fp:List Addr),PG (X.blk s H scope (compEnvC scope cl C X.env) fp) tg g) (ht:∀ (s:Shared) (H:Hp) (C:Addr) (cl:List (Str×Addr)) (fp:List Addr),PTs (X.blk s H scope (compEnvC scope cl C X.env) fp) ifs tt)
  (he:∀ (s:Shared) (H:Hp) (C:Addr) (cl:List (Str×Addr)) (fp:List Addr),PE (X.blk s H scope (compEnvC scope cl C X.env) fp) elt te) (hs:∀ x,foldedSetIterable iter X.env x=pure x)
  (h:tLc wi g tt te (own.map (·.2)) σ H Q)
  (hRR:∀ D C s' m H',Inv X pins σ H' s'→Q (.ref D) H'→s'.heap.Ns C m→je X pins H' C→compPost (model X.prog X.w) X.A X.xe use Qf (.ref D) C (.ok .next) s') :
  wpAny (model X.prog X.w) X.A (comprehension (.ListComp elt [⟨tg,iter,ifs,0⟩] scope pos) scope X.env pos' (newList []) false (eval iter X.env) use) Qf X.xe s:=by
 have hfree:∀ y∈scope.names,y.2 = .free→∃ c,X.env.cells.lookup y.1=some c:=fun y hy e=>by
  rcases ok.free y hy e with k | k
  ·exact I.ok.has _ (.inl k)
  ·exact I.ok.has _ (.inr k)
 refine wpAny_comprehension_free (use:=use) rfl hs (o6 hfree) ok.kind (fun y hy e=>by rw [ok.uniq y hy,e])
  (thn (hi pins s σ H _ I h) fun xv s1 hx=>thn hx fun itv s2 h2=> ?_)
 obtain ⟨it,fp,tn,J,H2,e,I2,T,st2,f2,q⟩:=h2
 subst e
 refine wpAny_newObj_type (mY ?_) (by show 0≤sizeLine;decide)
 generalize hD:s2.heap.objs.size=D
 have hDn:H2 D=none:=I2.hok.fresh (Nat.le_of_eq hD)
 obtain ⟨W,⟨m0,w0⟩,turn⟩:=q D hDn
 generalize hs3:({ s2 with heap:=s2.heap.push { cls:=.type "list",data:=.seq ([]:List Value).toArray } }:Shared)=s3
 have I3:Inv X pins σ (upd H2 D (.lst [])) s3:=by
  rw [← hs3]
  refine I2.laid (t':=s2.toks) (fun b o e=>Heap.get?_push_of_some _ e) (Nat.le_of_eq hD) ⟨Nat.zero_le _,[],0,.nil,?_⟩
  rw [← hD]
  exact Heap.get?_push_size _ rfl
 have h3:s3.heap=s2.heap.push { cls:=.type "list",data:=.seq ([]:List Value).toArray }:=by rw [← hs3]
 have sz:∀ b∈fp,b < s2.heap.objs.size:=fun b hb=>by
  obtain ⟨o,e,_⟩:=T.obj _ _ st2 b hb
  exact Heap.lt_size e
 have f3:∀ b∈fp,je X pins (upd H2 D (.lst [])) b∧b < s3.heap.objs.size:=fun b hb=>by
  have hlt:=sz b hb
  refine ⟨⟨?_,(f2 b hb).2⟩,by rw [h3,Heap.size_push];exact Nat.lt_succ_of_lt hlt⟩
  rw [af (by rw [← hD];exact Nat.ne_of_lt hlt)]
  exact (f2 b hb).1
 have st3:tn 0 s3.heap:=T.keep _ _ _ st2 fun b _ o e=>by rw [h3];exact Heap.get?_push_of_some _ e
 have I4:=nG I3 ok hN f3
 have pg:=hg s3 (upd H2 D (.lst [])) s3.heap.objs.size (cellsFrom (s3.heap.objs.size + 1) scope.names (bj X.env.cells scope.names [])) fp
 have pt:=ht s3 (upd H2 D (.lst [])) s3.heap.objs.size (cellsFrom (s3.heap.objs.size + 1) scope.names (bj X.env.cells scope.names [])) fp
 have pe:=he s3 (upd H2 D (.lst [])) s3.heap.objs.size (cellsFrom (s3.heap.objs.size + 1) scope.names (bj X.env.cells scope.names [])) fp
 show codeAny _ _ (.compStart (.ListComp elt [⟨tg,iter,ifs,0⟩] scope pos) 0 (.ref it) (.ref D) (compEnvC scope (cellsFrom (s3.heap.objs.size + 1) scope.names (bj X.env.cells scope.names [])) s3.heap.objs.size X.env)) (compPost (model X.prog X.w) X.A X.xe use Qf (.ref D) s3.heap.objs.size) { s3 with heap:=pushCells (s3.heap.push { cls:=.type "dict",data:=.dict #[] }) scope.names }
 have nfp:∀ b∈fp,(upd H2 D (.lst [])) b=none:=fun b hb=>(f3 b hb).1.1
 generalize hce:compEnvC scope (cellsFrom (s3.heap.objs.size + 1) scope.names (bj X.env.cells scope.names [])) s3.heap.objs.size X.env=ce at I4 pg pt pe ⊢
 have cL:ce.locals=s3.heap.objs.size:=by subst hce;rfl
 generalize hH3:upd H2 D (.lst [])=H3 at I3 I4 pg pt pe w0 nfp f3
 generalize hs4:({ s3 with heap:=pushCells (s3.heap.push { cls:=.type "dict",data:=.dict #[] }) scope.names }:Shared)=s4 at I4 ⊢
 have st4:tn 0 s4.heap:=T.keep _ _ _ st3 fun b _ o e=>by rw [← hs4];exact pushCells_keeps _ _ _ _ (Heap.get?_push_of_some _ e)
 have stat:∀ {σ':St} {H':Hp} {s':Shared},Inv (X.blk s3 H3 scope ce fp) [] σ' H' s'→(∀ b∈fp,H' b=none)→∀ b∈fp,je (X.blk s3 H3 scope ce fp) [] H' b:=fun {σ' H' s'} I' hn b hb=>
  ⟨hn b hb,(I'.ok.exf b hb).1,I'.ok.exfs b hb,.inl hb,fun x c e=>(I'.ok.exf b hb).2 x c e,fun p hp=>absurd (show p∈([]:List (Addr×Obj)) ++ [] from hp) (by simp)⟩
 have loop:codeAny (model X.prog X.w) X.A (.compLoop (.ListComp elt [⟨tg,iter,ifs,0⟩] scope pos) 0 (.ref it) (.ref D) ce) (compPost (model X.prog X.w) X.A X.xe use Qf (.ref D) s3.heap.objs.size) s4:=by
  refine mH (fun n s'=>∃ i H',Inv (X.blk s3 H3 scope ce fp) [] (b7 σ (own.map (·.2))) H' s'∧tn i s'.heap∧(∀ b∈fp,H' b=none)∧W i n H') ?_ m0 ⟨0,H3,I4,st4,nfp,w0⟩
  rintro n s5 ⟨i,H5,I5,st5,n5,w5⟩
  rcases turn i n H5 w5 with ⟨stop,qq⟩ | ⟨go,Nx,hNx,step⟩
  ·have td:=T.done (X.blk s3 H3 scope ce fp) rfl rfl rfl hc i [] s5 _ H5 (fun _ _=>False) I5 (stat I5 n5) st5 stop
   refine thnF td fun r s6 ⟨hr,I6⟩=> ?_
   subst hr
   have I7:Inv X pins σ H5 s6:=I3.call' (ch:=fp) I6.os I6.base I6.hok I6.bare fun b hb=>⟨(f3 b hb).1.2.2.2.1,(f3 b hb).1.2.1,(f3 b hb).1.2.2.2.2.1,(f3 b hb).1.2.2.2.2.2⟩
   have nC:H5 s3.heap.objs.size=none:=by
    have z:H5 ce.locals=none:=I6.free
    rw [cL] at z
    exact z
   obtain ⟨m,hn,_⟩:=I6.loc
   have hn:s6.heap.Ns ce.locals m:=hn
   rw [cL] at hn
   exact hRR D s3.heap.objs.size s6 m H5 I7 qq hn (I3.fpOk (Nat.le_refl _) nC)
  ·have ti:=T.item (X.blk s3 H3 scope ce fp) rfl rfl rfl hc i [] s5 _ H5 (fun _ _=>False) I5 (stat I5 n5) st5 go
   refine thnF ti fun r s6 ⟨u,hr,h6⟩=> ?_
   subst hr
   refine thnF h6 fun _ s7 ⟨x,H7,I7,r7,y7,st7,n7⟩=> ?_
   have I7':=I7.pinned (stat I7 n7) (T.obj _ _ st7)
   refine thnF (pg _ s7 _ H7 x u _ I7' r7 (step x H7 y7)) fun _ s8 ⟨σ8,H8,I8,hw8,q8⟩=> ?_
   refine thnF (pt _ s8 σ8 H8 _ I8 q8) fun b s9 ⟨H9,I9,q9⟩=> ?_
   have fin:∀ {s':Shared} {H':Hp},Inv (X.blk s3 H3 scope ce fp) ([] ++ jF fp s7.heap) σ8 H' s'→Nx H'→∃ m,m < n∧∃ i H',Inv (X.blk s3 H3 scope ce fp) [] (b7 σ (own.map (·.2))) H' s'∧tn i s'.heap∧(∀ b∈fp,H' b=none)∧W i m H':=fun {s' H'} I' nx=>by
    obtain ⟨m',hm,w'⟩:=hNx H' nx
    have pin':∀ b∈fp,∀ o,s7.heap.get? b=some o→s'.heap.get? b=some o∧H' b=none:=fun b hb o e=>
     let z:=I'.pin (b,o) (List.mem_append_right _ (List.mem_append_right _ (ge hb e)))
     ⟨z.1,z.2.1⟩
    have hl:(b7 σ (own.map (·.2))).length = σ8.length:=by rw [← hw8,fh]
    refine ⟨m',hm,i + 1,H',(I'.unpinned (pins:=[])).weak hl (fun j v e=> ?_),T.keep _ _ _ st7 fun b hb o e=>(pin' b hb o e).1,fun b hb=> ?_,w'⟩
    ·rw [← hw8] at e
     exact (ir e).1
    ·obtain ⟨o,e,_⟩:=T.obj _ _ st7 b hb
     exact (pin' b hb o e).2
   cases b with
   | false=>
    simp only [Bool.false_eq_true,if_false] at q9 ⊢
    exact fin I9 q9
   | true=>
    simp only [if_true] at q9 ⊢
    refine thnF (pe _ s9 σ8 H9 _ I9 q9) fun z s10 ⟨yv,H10,I10,r10,acc,hD10,hz10,nx⟩=> ?_
    exact app_ok (X:=X.blk s3 H3 scope ce fp) I10 hD10 hz10 r10 fun s11 I11=>fin I11 nx
 exact codeAny_compStart_list loop (T.self X.A 0 _ _ _ st4 loop)
theorem cT{elt tg iter:Expr}{ifs:List Expr}{scope:Scope}{own:List (Str×Nat)}{pos:Pos}{wi:TI}{g:TG}{tt:TT}{te:TE}(hc:X.calm=true)(hN:X.N.Nodup)(hi:PI X tg iter wi)(ok:nA X.N X.env.scope scope own)
  (hg:∀ (s:Shared) (H:Hp) (C:Addr) (cl:List (Str×Addr)) (fp:List Addr),PG (X.blk s H scope (compEnvC scope cl C X.env) fp) tg g) (ht:∀ (s:Shared) (H:Hp) (C:Addr) (cl:List (Str×Addr)) (fp:List Addr),PTs (X.blk s H scope (compEnvC scope cl C X.env) fp) ifs tt)
  (he:∀ (s:Shared) (H:Hp) (C:Addr) (cl:List (Str×Addr)) (fp:List Addr),PE (X.blk s H scope (compEnvC scope cl C X.env) fp) elt te) (hs:∀ x,foldedSetIterable iter X.env x=pure x:=by intro _;rfl) :
  PE X (.ListComp elt [⟨tg,iter,ifs,0⟩] scope pos) (tLc wi g tt te (own.map (·.2))):=by
 intro pins s σ H Q I h
 rw [eval_ListComp]
 refine pO hc hN I hi ok hg ht he hs h fun D C s' m H' I' q hn f=>⟨m,hn,fun h'' sb=> ?_⟩
 obtain ⟨f0,f1,f2,f3,f4,f5⟩:=f
 exact ⟨.ref D,H',I'.turned (t':=s'.toks) (fun b o hb e=>(sb.2 b hb).trans e) f0 f1 f3 f4 f5,rfl,q⟩
theorem cj{i:Nat}{y:Str}{py:Pos}{elt tg iter:Expr}{ifs:List Expr}{scope:Scope}{own:List (Str×Nat)}{pos spos:Pos}{wi:TI}{g:TG}{tt:TT}{te:TE}(hc:X.calm=true)(hN:X.N.Nodup)(hy:X.N[i]? = some y)(hyl:X.env.scope.names.lookup y=some .local)
  (hsw:swapsWith (.ListComp elt [⟨tg,iter,ifs,0⟩] scope pos) (some (.Name y py)) spos.line X.env=pure true) (hi:PI X tg iter wi) (ok:nA X.N X.env.scope scope own)
  (hg:∀ (s:Shared) (H:Hp) (C:Addr) (cl:List (Str×Addr)) (fp:List Addr),PG (X.blk s H scope (compEnvC scope cl C X.env) fp) tg g) (ht:∀ (s:Shared) (H:Hp) (C:Addr) (cl:List (Str×Addr)) (fp:List Addr),PTs (X.blk s H scope (compEnvC scope cl C X.env) fp) ifs tt)
  (he:∀ (s:Shared) (H:Hp) (C:Addr) (cl:List (Str×Addr)) (fp:List Addr),PE (X.blk s H scope (compEnvC scope cl C X.env) fp) elt te) (hs:∀ x,foldedSetIterable iter X.env x=pure x:=by intro _;rfl) :
  PS X (.Assign [.Name y py] (.ListComp elt [⟨tg,iter,ifs,0⟩] scope pos) spos) (ms (tLc wi g tt te (own.map (·.2))) (bZ i)):=by
 intro pins s σ H D I h
 rw [exec_Assign_Name_used _ _ _ _ hsw]
 refine wpAny_bind (wpAny_standAt (wpAny_bind ?_))
 show wpAny _ X.A (do let _ ← comprehension (.ListComp elt [⟨tg,iter,ifs,0⟩] scope pos) scope X.env (firstIterPos [⟨tg,iter,ifs,0⟩] pos) (newList []) false (eval iter X.env) (some (assign (.Name y py) X.env))) _ _ s
 have h:tLc wi g tt te (own.map (·.2)) σ H (fun x H1=>bZ i x σ H1 D.nx):=h
 refine wpAny_bind (thn (pO (Qf:=fun _ s'=>SP X pins D .next s') hc hN I hi ok hg ht he hs h fun L C s' m H' I' q hn f=> ?_) fun _ s' hq=>wpAny_pure (wpAny_pure hq))
 show wpAny _ _ (assign (.Name y py) X.env (.ref L)) _ _ _
 refine wpAny_assign_Name (l8 (v:=V.ref L) I' hN hy (.inl hyl) rfl (fun s2 I2 ⟨a,sb,ha⟩=> ?_) (.inr hyl))
 obtain ⟨f0,f1,f2,f3,f4,f5⟩:=f
 have haC:C≠a:=by
  rcases ha with z | z
  ·rw [z];exact f1
  ·exact fun e=>f4 y a z e.symm
 refine ⟨m,hn.sameBut sb haC,fun h3 sb3=> ?_⟩
 exact ⟨_,H',I2.turned (t':=s2.toks) (fun b o hb e=>(sb3.2 b hb).trans e) f0 f1 f3 f4 f5,q⟩
theorem cZ{elt:Expr}{gs:List Comprehension}{scope:Scope}{pos py:Pos}{y:Str}{l:Nat}{env:Env}(hk:env.scope.kind = .function)(hy:env.scope.names.lookup y=some .local)(hl:(py.line == pos.line)=true)
  (ha:(scope.names.any fun (n,k)=>n == y && (k == .local || k == .cell))=false):swapsWith (.ListComp elt gs scope pos) (some (.Name y py)) l env=pure true:=by
 have ky:env.kindOf y=some .local:=hy
 have hb:env.blockKind = .function:=by unfold Env.blockKind;rw [hk];rfl
 unfold swapsWith
 simp only [hb,ky,ha,Expr.pos,hl]
 rfl
end
def blkC(N:List Str)(sc scope:Scope)(own:List (Str×Nat)):Bool:=
 (match scope.kind with | .function=>true | _=>false) && (scope.names.all fun y=>decide (scope.names.lookup y.1=some y.2)) && (own.all fun p=>decide (N[p.2]? = some p.1)) &&
  (scope.names.all fun y=>match y.2 with
   | .free=>(match sc.names.lookup y.1 with | some .cell=>true | some .free=>true | _=>false)
   | .local=>decide (y.1∈own.map (·.1)) || decide (y.1∉N)
   | .cell=>decide (y.1∈own.map (·.1)) || decide (y.1∉N)
   | _=>true)
theorem aX{N:List Str}{sc scope:Scope}{own:List (Str×Nat)}(h:blkC N sc scope own=true):nA N sc scope own:=by
 unfold blkC at h
 simp only [Bool.and_eq_true,List.all_eq_true,decide_eq_true_eq] at h
 obtain ⟨⟨⟨h1,h2⟩,h3⟩,h4⟩:=h
 refine ⟨?_,h2,h3,fun y hy e=> ?_,fun y hy e=> ?_⟩
 ·split at h1
  ·assumption
  ·cases h1
 ·have q:=h4 y hy
  simp only [e] at q
  split at q <;> first | exact .inl (by assumption) | exact .inr (by assumption) | cases q
 ·have q:=h4 y hy
  rcases e with e | e <;> (simp only [e,Bool.or_eq_true,decide_eq_true_eq] at q;exact q)
section
variable{κ : Type}[DecidableEq κ]
def bo(kvs:List (κ×V))(k : κ):Option V:=(kvs.find? fun kv=>decide (kv.1=k)).map (·.2)
def cH(kvs:List (κ×V))(k : κ)(v:V):List (κ×V):=
 if (kvs.any fun kv=>decide (kv.1=k))=true then kvs.map (fun kv=>if kv.1=k then (kv.1,v) else kv) else kvs ++ [(k,v)]
theorem bP{p : κ×V}{r:List (κ×V)}{k : κ}(e:p.1=k):bo (p :: r) k=some p.2:=by simp [bo,List.find?_cons,e]
theorem bQ{p : κ×V}{r:List (κ×V)}{k : κ}(e:¬ p.1=k):bo (p :: r) k=bo r k:=by simp [bo,List.find?_cons,e]
theorem dR(k : κ):∀ kvs:List (κ×V),(kvs.any fun kv=>decide (kv.1=k))=(bo kvs k).isSome
 | [] =>rfl
 | p :: r=>by
  rw [List.any_cons]
  by_cases e:p.1=k
  ·simp only [bP e,decide_eq_true e,Bool.true_or,Option.isSome_some]
  ·rw [bQ e,decide_eq_false e,Bool.false_or];exact dR k r
theorem nD(k j : κ)(y:V):∀ kvs:List (κ×V),bo (kvs.map fun kv=>if kv.1=k then (kv.1,y) else kv) j=(bo kvs j).map fun x=>if j=k then y else x
 | [] =>rfl
 | p :: r=>by
  have ih:=nD k j y r
  rw [List.map_cons]
  by_cases h:p.1=k
  ·rw [if_pos h]
   by_cases e:p.1=j
   ·rw [bP (p:=(p.1,y)) e,bP e,Option.map_some,if_pos (e.symm.trans h)]
   ·rw [bQ (p:=(p.1,y)) e,bQ e,ih]
  ·rw [if_neg h]
   by_cases e:p.1=j
   ·rw [bP (p:=p) e,bP e,Option.map_some,if_neg (fun z=>h (e.trans z))]
   ·rw [bQ (p:=p) e,bQ e,ih]
theorem ly(k j : κ)(y:V):∀ kvs:List (κ×V),bo kvs k=none→bo (kvs ++ [(k,y)]) j=if j=k then some y else bo kvs j
 | [],_=>by
  by_cases e:k=j
  ·rw [if_pos e.symm];exact bP (p:=(k,y)) e
  ·rw [if_neg (fun z=>e z.symm)];exact bQ (p:=(k,y)) e
 | p :: r,hn=>by
  rw [List.cons_append]
  have hk:¬ p.1=k:=fun z=>by rw [bP z] at hn;cases hn
  rw [bQ hk] at hn
  have ih:=ly k j y r hn
  by_cases e:p.1=j
  ·rw [bP e,bP e,if_neg (fun z=>hk (e.trans z))]
  ·rw [bQ e,bQ e,ih]
theorem valV_put(kvs:List (κ×V))(k j : κ)(y:V):bo (cH kvs k y) j=if j=k then some y else bo kvs j:=by
 unfold cH
 by_cases a:(kvs.any fun kv=>decide (kv.1=k))=true
 ·rw [if_pos a,nD]
  rw [dR] at a
  by_cases e:j=k
  ·obtain ⟨x,hx⟩:=Option.isSome_iff_exists.mp a
   rw [if_pos e,e,hx,Option.map_some,if_pos rfl]
  ·rw [if_neg e]
   cases bo kvs j with
   | none=>rfl
   | some x=>rw [Option.map_some,if_neg e]
 ·rw [if_neg a]
  refine ly k j y kvs ?_
  rw [dR] at a
  cases q:bo kvs k with
  | none=>rfl
  | some x=>rw [q] at a;exact (a rfl).elim
theorem fe(kvs:List (κ×V))(k : κ)(v:V):(cH kvs k v).length≤kvs.length + 1:=by
 unfold cH
 split
 ·rw [List.length_map];omega
 ·rw [List.length_append,List.length_cons,List.length_nil];omega
theorem de{kvs:List (κ×V)}{k : κ}(v:V)(h:bo kvs k=none):cH kvs k v=kvs ++ [(k,v)]:=by
 unfold cH
 rw [dR,h]
 exact if_neg (by decide)
theorem eZ.isSome_eq{o:Option V}{u:Option Value}(r:eZ o u):o.isSome=u.isSome:=by
 cases o with
 | none=>cases u with
  | none=>rfl
  | some _=>exact (show False from r).elim
 | some _=>cases u with
  | none=>exact (show False from r).elim
  | some _=>rfl
theorem eZ.getD{o:Option V}{u:Option Value}{d:V}{d':Value}(r:eZ o u)(rd:b6 d d'):b6 (o.getD d) (u.getD d'):=by
 cases o with
 | none=>cases u with
  | none=>exact rd
  | some _=>exact (show False from r).elim
 | some _=>cases u with
  | none=>exact (show False from r).elim
  | some _=>exact r
theorem KV.val{kvs:List (κ×V)}{vs:List (κ×Value)}(r:KV kvs vs)(k : κ):eZ (bo kvs k) (valueAt vs k):=by
 unfold KV at r
 induction r with
 | nil=>exact True.intro
 | @cons p q ps qs h t ih=>
  obtain ⟨h1,h2⟩:=h
  by_cases e:p.1=k
  ·have e':q.1=k:=h1.symm.trans e
   have b:valueAt (q :: qs) k=some q.2:=by simp [valueAt,List.find?_cons,e']
   rw [bP e,b];exact h2
  ·have e':¬ q.1=k:=fun z=>e (h1.trans z)
   have b:valueAt (q :: qs) k=valueAt qs k:=by simp [valueAt,List.find?_cons,e']
   rw [bQ e,b];exact ih
theorem KV.any{kvs:List (κ×V)}{vs:List (κ×Value)}(r:KV kvs vs)(k : κ):(kvs.any fun kv=>decide (kv.1=k))=vs.any fun kv=>decide (kv.1=k):=by
 unfold KV at r
 induction r with
 | nil=>rfl
 | cons h t ih=>rw [List.any_cons,List.any_cons,ih,h.1]
theorem KV.repl{kvs:List (κ×V)}{vs:List (κ×Value)}(r:KV kvs vs)(k : κ){y:V}{u:Value}(ry:b6 y u) :
  KV (kvs.map fun kv=>if kv.1=k then (kv.1,y) else kv) (vs.map fun kv=>if kv.1=k then (kv.1,u) else kv):=by
 unfold KV at r ⊢
 induction r with
 | nil=>exact .nil
 | @cons p q ps qs h t ih=>
  rw [List.map_cons,List.map_cons]
  refine .cons ?_ ih
  obtain ⟨h1,h2⟩:=h
  by_cases e:p.1=k
  ·rw [if_pos e,if_pos (h1.symm.trans e)];exact ⟨h1,ry⟩
  ·rw [if_neg e,if_neg (fun z=>e (h1.trans z))];exact ⟨h1,h2⟩
theorem KV.put{kvs:List (κ×V)}{vs:List (κ×Value)}(r:KV kvs vs)(k : κ){y:V}{u:Value}(ry:b6 y u):KV (cH kvs k y) (stored vs k u):=by
 unfold cH stored
 rw [r.any k]
 by_cases e:(vs.any fun kv=>decide (kv.1=k))=true
 ·rw [if_pos e,if_pos e];exact r.repl k ry
 ·rw [if_neg e,if_neg e];exact Paired.snoc r ⟨rfl,ry⟩
theorem KV.length{kvs:List (κ×V)}{vs:List (κ×Value)}(r:KV kvs vs):kvs.length=vs.length:=Paired.length r
end
theorem lm{P:Program}{w:World}{k:Key}{u:Value}(r:b6 (kV k) u):(bg P w).is k u=true:=by
 cases k with
 | inl i=>obtain ⟨t,e⟩:=(show ∃ t,u=Value.int i t from r);subst e;exact nJ P w i t
 | inr x=>obtain ⟨t,e⟩:=(show ∃ t,u=Value.str x t from r);subst e;exact n9 P w x t
theorem kX{P:Program}{w:World}:∀ {ks:List Key} {us:List Value},aR (ks.map kV) us→ItemsAre (bg P w) ks us
 | [],_,r=>by rw [List.map_nil] at r;cases r;exact .nil
 | k :: ks,_,r=>by
  rw [List.map_cons] at r
  cases r with
  | cons h t=>exact .cons (lm h) (kX t)
abbrev KT(H:Hp):List (List Key×V)→List (List Key×Addr×Value)→Prop:=Paired fun p q=>p.1=q.1∧H q.2.1=some (.tup (p.1.map kV))∧b6 p.2 q.2.2
theorem KT.val{H:Hp}{kvs:List (List Key×V)}{xs:List (List Key×Addr×Value)}(r:KT H kvs xs)(k:List Key):eZ (bo kvs k) ((atKey xs k).map (·.2)):=by
 induction r with
 | nil=>exact True.intro
 | @cons p q ps qs h t ih=>
  obtain ⟨h1,_,h2⟩:=h
  by_cases e:p.1=k
  ·have e':q.1=k:=h1.symm.trans e
   have b:atKey (q :: qs) k=some q.2:=by simp [atKey,List.find?_cons,e']
   rw [bP e,b];exact h2
  ·have e':¬ q.1=k:=fun z=>e (h1.trans z)
   have b:atKey (q :: qs) k=atKey qs k:=by simp [atKey,List.find?_cons,e']
   rw [bQ e,b];exact ih
theorem KT.repl{H:Hp}{kvs:List (List Key×V)}{xs:List (List Key×Addr×Value)}(r:KT H kvs xs)(k:List Key){y:V}{u:Value}(ry:b6 y u) :
  KT H (kvs.map fun kv=>if kv.1=k then (kv.1,y) else kv) (xs.map (putAt k u)):=by
 induction r with
 | nil=>exact .nil
 | @cons p q ps qs h t ih=>
  rw [List.map_cons,List.map_cons]
  refine .cons ?_ ih
  obtain ⟨h1,h2,h3⟩:=h
  unfold putAt
  by_cases e:p.1=k
  ·rw [if_pos e,if_pos (h1.symm.trans e)];exact ⟨h1,h2,ry⟩
  ·rw [if_neg e,if_neg (fun z=>e (h1.trans z))];exact ⟨h1,h2,h3⟩
theorem KT.put{H:Hp}{kvs:List (List Key×V)}{xs:List (List Key×Addr×Value)}(r:KT H kvs xs)(k:List Key){b:Addr}{y:V}{u:Value}(hb:H b=some (.tup (k.map kV)))(ry:b6 y u) :
  KT H (cH kvs k y) (storedH xs k b u):=by
 have e:(kvs.any fun kv=>decide (kv.1=k))=(atKey xs k).isSome:=by
  rw [dR,(r.val k).isSome_eq,Option.isSome_map]
 unfold cH storedH
 rw [e]
 by_cases q:(atKey xs k).isSome=true
 ·rw [if_pos q,if_pos q];exact r.repl k ry
 ·rw [if_neg q,if_neg q];exact Paired.snoc r ⟨rfl,hb,ry⟩
theorem KT.keeps{H H':Hp}{kvs:List (List Key×V)}{xs:List (List Key×Addr×Value)}(r:KT H kvs xs)(ht:∀ b ys,H b=some (.tup ys)→H' b=some (.tup ys)):KT H' kvs xs:=
 Paired.mapP r fun _ _ z=>⟨z.1,ht _ _ z.2.1,z.2.2⟩
section
variable{P:Program}{w:World}{H:Hp}{h:Heap}{a:Addr}
theorem rd_of{u:HO}(ok:HOk P w H h)(e:Rd H a u):be P w H h a u:=e.ok ok
theorem gv{kvs:List (Key×V)}(ok:HOk P w H h)(e:Rd H a (.dK kvs)):kvs.length≤sizeLine∧(a == sysModules)=false∧∃ vs,KV kvs vs∧h.DictOf (bg P w) a vs:=
 show be P w H h a (.dK kvs) from rd_of ok e
theorem dk_of{kvs:List (Key×V)}(ok:HOk P w H h)(e:H a=some (.dK kvs)):kvs.length≤sizeLine∧(a == sysModules)=false∧∃ vs,KV kvs vs∧h.DictOf (bg P w) a vs:=gv ok (.inl e)
theorem im{ks:List Key}(ok:HOk P w H h)(e:H a=some (.tup (ks.map kV))):(tupleKind (bg P w)).is h ks a:=by
 obtain ⟨_,its,r,o,h1,h2,n,h3⟩:=(show be P w H h a (.tup (ks.map kV)) from ok a _ e)
 exact ⟨o,its.toArray,n,h1,h2,h3,by simpa using kX r⟩
theorem jS{kvs:List (List Key×V)}(ok:HOk P w H h)(e:Rd H a (.dT kvs)):kvs.length≤sizeLine∧(a == sysModules)=false ∧
  ∃ xs,KT H kvs xs∧h.DictOfH (tupleKind (bg P w)) a xs:=by
 obtain ⟨z,y,xs,r,o,es,ep,h1,h2,h3,h4,h5⟩:=(show be P w H h a (.dT kvs) from rd_of ok e)
 refine ⟨z,y,xs,r,o,es,ep,h1,h2,h3,h4,fun x hx=> ?_,h5⟩
 have all:∀ {l:List (List Key×V)} {m:List (List Key×Addr×Value)},KT H l m→∀ x∈m,(tupleKind (bg P w)).is h x.1 x.2.1:=by
  intro l m q
  induction q with
  | nil=>intro x hx;exact nomatch hx
  | @cons p q ps qs hq t ih=>
   intro x hx
   rcases List.mem_cons.mp hx with e | hx
   ·subst e
    exact im ok (by rw [← hq.1];exact hq.2.1)
   ·exact ih x hx
 exact all r x hx
theorem dt_of{kvs:List (List Key×V)}(ok:HOk P w H h)(e:H a=some (.dT kvs)):kvs.length≤sizeLine∧(a == sysModules)=false ∧
  ∃ xs,KT H kvs xs∧h.DictOfH (tupleKind (bg P w)) a xs:=jS ok (.inl e)
end
def iM(H:Hp)(a:Addr)(y:V)(r:Option V):Prop:=
 (∃ kvs k,Rd H a (.dK kvs)∧y=kV k∧r=bo kvs k)∨∃ kvs k b,Rd H a (.dT kvs)∧y = .ref b∧H b=some (.tup (k.map kV))∧r=bo kvs k
def DPut(H:Hp)(a:Addr)(y v:V)(H':Hp):Prop:=
 (∃ kvs k,H a=some (.dK kvs)∧y=kV k∧kvs.length < sizeLine∧H'=upd H a (.dK (cH kvs k v))) ∨
 ∃ kvs k b,H a=some (.dT kvs)∧y = .ref b∧H b=some (.tup (k.map kV))∧kvs.length < sizeLine∧H'=upd H a (.dT (cH kvs k v))
theorem DPut.k{H:Hp}{a:Addr}{kvs:List (Key×V)}{k:Key}{v:V}(e:H a=some (.dK kvs))(hl:kvs.length < sizeLine):DPut H a (kV k) v (upd H a (.dK (cH kvs k v))):=.inl ⟨kvs,k,e,rfl,hl,rfl⟩
section
variable{X:Cx}{pins:List (Addr×Obj)}{σ : St}{H:Hp}{s:Shared}{a:Addr}{y v:V}{u r:Value}{o:Option V}{A:Around}{E:Value→Shared→Prop}
theorem Inv.big(I:Inv X pins σ H s):sysModules < s.heap.objs.size:=by
 have h:mainGlobals < s.heap.objs.size:=(I.mod.glob.keeps I.bk).lt
 exact Nat.lt_trans (by decide) h
theorem d_getItem{Q:Value→Shared→Prop}(hu:A.units + 1 < cLine)(I:Inv X pins σ H s)(g:iM H a y (some v))(ry:b6 y u)(h:∀ w' s',Inv X pins σ H s'→b6 v w'→Q w' s') :
  wpAny (model X.prog X.w) A (getItem (.ref a) u) Q E s:=by
 rcases g with ⟨kvs,k,e,ey,l⟩ | ⟨kvs,k,b,e,ey,eb,l⟩
 ·subst ey
  obtain ⟨z,hd,vs,rel,dd⟩:=gv I.hok e
  obtain ⟨w',hw,rw'⟩:=eZ.some_of (v:=v) (o:=valueAt vs k) (by rw [l];exact rel.val k)
  exact wpAny_getItem_of (lm ry) dd.mapOf hw (h w' _ (I.tok _) rw')
 ·subst ey
  cases (show u=Value.ref b from ry)
  obtain ⟨z,hd,xs,rel,dd⟩:=jS I.hok e
  obtain ⟨w',hw,rw'⟩:=eZ.some_of (v:=v) (o:=(atKey xs k).map (·.2)) (by rw [l];exact rel.val k)
  obtain ⟨p,hp,hp2⟩:=Option.map_eq_some_iff.mp hw
  refine wpAny_getItem_heap (tupleKind_room_in1 hu) (im I.hok eb) dd hp ?_
  rw [hp2]
  exact h w' _ (I.tok _) rw'
theorem d_in{Q:Value→Shared→Prop}(hu:A.units + 1 < cLine)(I:Inv X pins σ H s)(g:iM H a y o)(ry:b6 y u)(h:∀ s',Inv X pins σ H s'→Q (.bool o.isSome) s') :
  wpAny (model X.prog X.w) A (compareOp .In u (.ref a)) Q E s:=by
 rcases g with ⟨kvs,k,e,ey,l⟩ | ⟨kvs,k,b,e,ey,eb,l⟩
 ·subst ey
  obtain ⟨z,hd,vs,rel,dd⟩:=gv I.hok e
  refine wpAny_in_of (lm ry) hd dd.mapOf ?_
  rw [← (rel.val k).isSome_eq,← l]
  exact h _ (I.tok _)
 ·subst ey
  cases (show u=Value.ref b from ry)
  obtain ⟨z,hd,xs,rel,dd⟩:=jS I.hok e
  refine wpAny_in_heap (tupleKind_room_in1 hu) (im I.hok eb) hd dd ?_
  have q:=(rel.val k).isSome_eq
  rw [Option.isSome_map] at q
  rw [← q,← l]
  exact h _ (I.tok _)
theorem d_notIn{Q:Value→Shared→Prop}(hu:A.units + 1 < cLine)(I:Inv X pins σ H s)(g:iM H a y o)(ry:b6 y u)(h:∀ s',Inv X pins σ H s'→Q (.bool (!o.isSome)) s') :
  wpAny (model X.prog X.w) A (compareOp .NotIn u (.ref a)) Q E s:=by
 rcases g with ⟨kvs,k,e,ey,l⟩ | ⟨kvs,k,b,e,ey,eb,l⟩
 ·subst ey
  obtain ⟨z,hd,vs,rel,dd⟩:=gv I.hok e
  refine wpAny_notIn_of (lm ry) hd dd.mapOf ?_
  rw [← (rel.val k).isSome_eq,← l]
  exact h _ (I.tok _)
 ·subst ey
  cases (show u=Value.ref b from ry)
  obtain ⟨z,hd,xs,rel,dd⟩:=jS I.hok e
  refine wpAny_notIn_heap (tupleKind_room_in1 hu) (im I.hok eb) hd dd ?_
  have q:=(rel.val k).isSome_eq
  rw [Option.isSome_map] at q
  rw [← q,← l]
  exact h _ (I.tok _)
theorem qg{h':Heap}{t':Nat}{ob:HO}(I:Inv X pins σ H s)(mu:Mut (H a))(hs:Heap.SameBut a s.heap h')(he:∃ q,h'.get? a=some q)(new:be X.prog X.w (upd H a ob) h' a ob) :
  Inv X pins σ (upd H a ob) { s with heap:=h',toks:=t' }:=
 I.write (x:=a) (e:=a) mu (.inl rfl) (fun b q hb z=>(hs.2 b hb).trans z) he new
theorem dk_new{P:Program}{w:World}{H':Hp}{h':Heap}{kvs:List (Key×V)}{vs:List (Key×Value)}(z:kvs.length≤sizeLine)(hd:(a == sysModules)=false)(rel:KV kvs vs)(dd:h'.DictOf (bg P w) a vs) :
  be P w H' h' a (.dK kvs):=⟨z,hd,vs,rel,dd⟩
theorem d_setItem{H':Hp}{Q:Unit→Shared→Prop}(hu:A.units + 1 < cLine)(I:Inv X pins σ H s)(g:DPut H a y v H')(ry:b6 y u)(rv:b6 v r)(h:∀ s',Inv X pins σ H' s'→Q () s') :
  wpAny (model X.prog X.w) A (setItem (.ref a) u r) Q E s:=by
 rcases g with ⟨kvs,k,e,ey,l,eH⟩ | ⟨kvs,k,b,e,ey,eb,l,eH⟩
 ·subst ey eH
  obtain ⟨z,hd,vs,rel,dd⟩:=dk_of I.hok e
  have hz:vs.length≤sizeLine:=by rw [← rel.length];exact z
  have hl:(cH kvs k v).length≤sizeLine:=by have:=fe kvs k v;omega
  refine wpAny_setItem_pairs (hsz:=hz) (lm ry) dd fun h' dd' hs=>h _ ?_
  have he:∃ q,h'.get? a=some q:=let ⟨q,_,_,hq,_⟩:=dd';⟨q,hq⟩
  exact qg I (by rw [e];exact True.intro) hs he (dk_new hl hd (rel.put k rv) dd')
 ·subst ey eH
  cases (show u=Value.ref b from ry)
  obtain ⟨z,hd,xs,rel,dd⟩:=dt_of I.hok e
  have hz:xs.length≤sizeLine:=by rw [← Paired.length rel];exact z
  have hl:(cH kvs k v).length≤sizeLine:=by have:=fe kvs k v;omega
  refine wpAny_setItem_heap (hsz:=hz) (tupleKind_room_in1 hu) (im I.hok eb) dd fun h' dd' hs=>h _ ?_
  obtain ⟨q,es,ep,hq,h2,h3,h4,_,h5⟩:=dd'
  refine qg I (by rw [e];exact True.intro) hs ⟨q,hq⟩ ⟨hl,hd,_,(rel.put k eb rv).keeps fun c ys ec=> ?_,q,es,ep,hq,h2,h3,h4,h5⟩
  rw [af (cu ec e (fun z=>nomatch z))]
  exact ec
end
section
variable{X:Cx}{pins:List (Addr×Obj)}{σ : St}{H:Hp}{s:Shared}{a:Addr}{kvs:List (Key×V)}{k:Key}{u:Value}{A:Around}{E:Value→Shared→Prop}
theorem d_len{Q:Value→Shared→Prop}(I:Inv X pins σ H s)(e:Rd H a (.dK kvs))(h:∀ t s',Inv X pins σ H s'→Q (.int kvs.length t) s'):wpAny (model X.prog X.w) A (call (.builtin "len") [.ref a]) Q E s:=by
 obtain ⟨z,hd,vs,rel,dd⟩:=gv I.hok e
 refine call_len_dict hd dd (by rw [← rel.length];rw [sizeLine_eq] at z;omega) ?_
 rw [← rel.length]
 exact h _ _ (I.tok _)
end
def NoSl(i:Expr):Prop:=∀ ov iv,subscripted i false ov iv=operate [ov,iv] (getItem ov iv)
theorem subD_of{prog:Program}{w:World}{A:Around}{E:Value→Shared→Prop}{s:Shared}{env:Env}{value slice:Expr}{pos:Pos}{T id:String}{Q:Value→Shared→Prop}
  (hl:typeLookup (.type T) "__getitem__" = pure (some (.builtin id))) (hs:NoSl slice)
  (h:wpAny (model prog w) A (eval value env) (fun o s₁ =>wpAny (model prog w) A (eval slice env) (fun i s₂ =>s₂.TypeIs o T∧wpAny (model prog w) A (getItem o i) Q E s₂) E s₁) E s) :
  wpAny (model prog w) A (eval (.Subscript value slice pos) env) Q E s:=by
 refine Subscript_ (wpAny_mono h (fun o s₁ h₁ =>wpAny_mono h₁ (fun i s₂ h₂ => ?_) fun _ _ x=>x) fun _ _ x=>x)
 obtain ⟨hT,h₂⟩:=h₂
 unfold subscriptTail
 refine wpAny_bind ?_
 rw [getitemInPython_of_ne hT.not_modules]
 refine wpAny_bind (wpAny_specialOf hT hl ?_)
 have fin:wpAny (model prog w) A (subscripted slice false o i) (fun r s₃ =>wpAny (model prog w) A (letTemporaryGo value o r >>= fun _=>pure r) Q E s₃) E s₂ := by
  rw [hs o i]
  exact wpAny_operating (wpAny_mono h₂ (fun r s₃ h₃ =>wpAny_bind (wpAny_letTemporaryGo (wpAny_pure h₃))) fun _ _ x=>x)
 first
  | exact wpAny_pure (wpAny_bind fin)
  | exact wpAny_bind (wpAny_pure (wpAny_bind fin))
  | exact wpAny_bind fin
theorem mS{X:Cx}{pins:List (Addr×Obj)}{σ : St}{H:Hp}{s:Shared}{a:Addr}{y:V}{o:Option V}(I:Inv X pins σ H s)(g:iM H a y o):s.TypeIs (.ref a) "dict" := by
 rcases g with ⟨kvs,k,e,_,_⟩ | ⟨kvs,k,b,e,_,_,_⟩
 ·obtain ⟨_,_,vs,_,dd⟩:=gv I.hok e
  exact dd.typeIs
 ·obtain ⟨_,_,xs,_,dd⟩:=jS I.hok e
  exact dd.typeIs
theorem dk_empty{P:Program}{w:World}{H:Hp}(h:Heap)(hb:sysModules < h.objs.size):be P w H (h.push { cls:=.type "dict",data:=.dict #[] }) h.objs.size (.dK []):=
 ⟨Nat.zero_le _,beq_eq_false_iff_ne.mpr (Ne.symm (Nat.ne_of_lt hb)),[],.nil,Heap.DictOf.new h⟩
def k9:TE:=fun _ H Q=>∀ p,H p=none→Q (.ref p) (upd H p (.dK []))
section
variable{X:Cx}{pos:Pos}
theorem cK:PE X (.Dict [] [] pos) k9:=fun pins s σ H Q I h=>
 wpAny_Dict_empty ⟨.ref s.heap.objs.size,_,I.laid (a:=s.heap.objs.size) (o:=.dK []) (t':=s.toks) (fun _ _ q=>Heap.get?_push_of_some _ q) (Nat.le_refl _) (dk_empty s.heap I.big),rfl,h _ (I.hok.fresh (Nat.le_refl _))⟩
end
structure M2(X:Cx)(o:Expr)(m:Str)(apos:Pos)(e f:Expr)(cpos:Pos):Prop where
 base:attributeBase o m X.env (eval o X.env)=eval o X.env
 few:((backTo cpos (starEach [e,f] X.env)).all (fun x=> !x.1) && (backToKw cpos (keywordEach [] X.env)).all (fun x=>x.1.isSome)
  && decide (([e,f]:List Expr).length + ([]:List Keyword).length + (if ([]:List Keyword).isEmpty then 0 else 1) < 30))=true
 line:(apos.endLine == cpos.line)=true
 trees:backTo cpos (starEach [e,f] X.env)=[(false,eval e X.env),(false,eval f X.env)]
def IsD(H:Hp)(a:Addr):Prop:=(∃ kvs,Rd H a (.dK kvs))∨∃ kvs,Rd H a (.dT kvs)
theorem isD_at{X:Cx}{pins:List (Addr×Obj)}{σ : St}{H:Hp}{s:Shared}{a:Addr}(I:Inv X pins σ H s)(d:IsD H a) :
  s.TypeIs (.ref a) "dict" ∧ (∀ b,Value.ref a = .ref b→∃ ob,s.heap.get? b=some ob∧ob.dict=none)∧(a == sysModules)=false:=by
 rcases d with ⟨kvs,e⟩ | ⟨kvs,e⟩
 ·obtain ⟨_,hd,vs,_,dd⟩:=gv I.hok e
  refine ⟨dd.typeIs,fun b q=> ?_,hd⟩
  cases q
  obtain ⟨ob,_,_,h1,h2,_⟩:=dd
  exact ⟨ob,h1,h2.2.1⟩
 ·obtain ⟨_,hd,xs,_,dd⟩:=jS I.hok e
  refine ⟨dd.typeIs,fun b q=> ?_,hd⟩
  cases q
  obtain ⟨ob,_,_,h1,h2,_⟩:=dd
  exact ⟨ob,h1,h2.2.1⟩
section
variable{X:Cx}{pins:List (Addr×Obj)}{σ : St}{H:Hp}{s:Shared}{a:Addr}{y d:V}{u r:Value}{o:Option V}{A:Around}{E:Value→Shared→Prop}
theorem d_get2{Q:Value→Shared→Prop}(hu:A.units + 1 < cLine)(I:Inv X pins σ H s)(g:iM H a y o)(ry:b6 y u)(rd:b6 d r)(h:∀ w' s',Inv X pins σ H s'→b6 (o.getD d) w'→Q w' s') :
  wpAny (model X.prog X.w) A (call (.builtin "dict.get") [.ref a,u,r]) Q E s:=by
 rcases g with ⟨kvs,k,e,ey,l⟩ | ⟨kvs,k,b,e,ey,eb,l⟩
 ·subst ey
  obtain ⟨z,hd,vs,rel,dd⟩:=gv I.hok e
  refine call_meetsIn PySem.F.slot_dict_get dd.typeIs PySem.F.entry_dict_get (PySem.F.args_dict_get_3 _ _ _) (meets_dict_get_default (bg X.prog X.w) a (lm ry) hd r) ⟨_,dd.mapOf,h _ _ (I.tok _) ?_⟩
  rw [l]
  exact (rel.val k).getD rd
 ·subst ey
  cases (show u=Value.ref b from ry)
  obtain ⟨z,hd,xs,rel,dd⟩:=jS I.hok e
  refine call_meetsIn PySem.F.slot_dict_get dd.typeIs PySem.F.entry_dict_get (PySem.F.args_dict_get_3 _ _ _) (meetsH_dict_get_default (tupleKind (bg X.prog X.w)) a b hd r) ⟨tupleKind_room_in1 hu,k,xs,im I.hok eb,dd,h _ _ (I.tok _) ?_⟩
  rw [l]
  exact (rel.val k).getD rd
end
def tDGet2(td ty tx:TE):TE:=fun σ H Q=>td σ H fun x H1=>∃ a,x = .ref a∧IsD H1 a∧ty σ H1 fun y H2=>tx σ H2 fun z H3=>∃ o,iM H3 a y o∧Q (o.getD z) H3
section
variable{X:Cx}{o e f:Expr}{apos cpos:Pos}{td ty tx:TE}
theorem pe_dget2(hu:X.A.units + 1 < cLine)(ho:PE X o td)(he:PE X e ty)(hf:PE X f tx)(m:M2 X o "get" apos e f cpos):PE X (.Call (.Attribute o "get" apos) [e,f] [] cpos) (tDGet2 td ty tx):=by
 intro pins s σ H Q I h
 refine wpAny_Call_method m.base m.few m.line PySem.F.plainAttrs_dict PySem.F.slot_dict_get PySem.F.type_dict_get (thn (ho pins s σ H _ I h) fun u s1 ⟨x,H1,I1,rx,a,ex,d,q1⟩=> ?_)
 subst ex
 obtain rfl:u=Value.ref a:=rx
 obtain ⟨t1,t2,_⟩:=isD_at I1 d
 refine ⟨t1,t2,?_⟩
 rw [m.trees]
 refine Calls.callWith_builtin rfl (Calls.evalArgs_plain (Calls.spliced_cons (thn (he pins s1 σ H1 _ I1 q1) fun iv s2 ⟨y,H2,I2,ry,q2⟩=>
  Calls.spliced_cons (thn (hf pins s2 σ H2 _ I2 q2) fun fv s3 ⟨z,H3,I3,rz,ov,g,q3⟩=>Calls.spliced_nil ?_))))
 exact d_get2 hu I3 g ry rz fun w' s4 I4 rw'=>⟨_,H3,I4,rw',q3⟩
end
section
variable{X:Cx}{pins:List (Addr×Obj)}{σ : St}{H:Hp}{s:Shared}{a:Addr}{kvs:List (Key×V)}{A:Around}{E:Value→Shared→Prop}
theorem d_copyOf{Q:Value→Shared→Prop}(I:Inv X pins σ H s)(e:Rd H a (.dK kvs))(h:∀ p s',H p=none→Inv X pins σ (upd H p (.dK kvs)) s'→Q (.ref p) s'):wpAny (model X.prog X.w) A (call (.type "dict") [.ref a]) Q E s:=by
 obtain ⟨z,hd,vs,rel,dd⟩:=gv I.hok e
 refine kt_call_dict hd dd (by rw [← rel.length];exact z) fun h' dd' hs=> ?_
 refine h _ _ (I.hok.fresh (Nat.le_refl _)) (I.laid (a:=s.heap.objs.size) (o:=.dK kvs) (t':=s.toks) (fun b q hq=> ?_) (Nat.le_refl _) (dk_new z (beq_eq_false_iff_ne.mpr (Ne.symm (Nat.ne_of_lt I.big))) rel dd'))
 exact (hs.2 b (Nat.ne_of_lt (Heap.lt_size hq))).trans (Heap.get?_push_of_some _ hq)
end
section
variable{X:Cx}{pins:List (Addr×Obj)}{σ : St}{H:Hp}{s:Shared}{h':Heap}
theorem Inv.turnedL{t':Nat}{ch:List Addr}(I:Inv X pins σ H s)(k:∀ b o,b∉ch→s.heap.get? b=some o→h'.get? b=some o)(hf:∀ b∈ch,je X pins H b):Inv X pins σ H { s with heap:=h',toks:=t' }:=by
 have nit:∀ b u,H b=some u→b∉ch:=fun b u e z=>by
  have q:=(hf b z).1
  rw [q] at e;cases e
 refine I.step (g':=s.gens) (d':=s.drawn) (ch:=ch) (fun b hb=>⟨(hf b hb).2.2.2.1,(hf b hb).2.1,(hf b hb).2.2.2.2.1,(hf b hb).2.2.2.2.2⟩) (fun b o _ _ hc e _=>k b o hc e) (fun b o _ _ hc e _=>⟨o.slots,k b o hc e⟩)
  (fun _ _ _ _ n=>n) (fun b o hc e=>⟨o,k b o hc e⟩) (fun _ _ e=>e) (fun _ _ _ e=>e) (fun b ps e=>⟨#[],by rw [e];simp⟩) (fun m hm=> ?_) (fun b u e=> ?_) I.bare
 ·obtain ⟨o,es,ep,ho,r⟩:=hm
  exact ⟨o,es,ep,k _ o (fun z=>(hf _ z).2.1 rfl) ho,r⟩
 ·refine (I.hok b u e).stay (fun c v hc q=>k c v ?_ q) (fun _ q=>q) fun _ _ q=>q
  rcases hc with z | z
  ·rw [z];exact nit b u e
  ·exact nit c _ z
theorem Inv.turnedNew{t':Nat}{ch:List Addr}{T:Addr}{ob:HO}(I:Inv X pins σ H s)(k:∀ b o,b∉ch→s.heap.get? b=some o→h'.get? b=some o)(hf:∀ b∈ch,je X pins H b)(hT:s.heap.objs.size≤T)
  (new:be X.prog X.w (upd H T ob) h' T ob):Inv X pins σ (upd H T ob) { s with heap:=h',toks:=t' }:=by
 have hn:H T=none:=I.hok.fresh hT
 have nit:∀ b u,H b=some u→b∉ch:=fun b u e z=>by
  have q:=(hf b z).1
  rw [q] at e;cases e
 refine I.step (g':=s.gens) (d':=s.drawn) (ch:=ch) (fun b hb=>⟨(hf b hb).2.2.2.1,(hf b hb).2.1,(hf b hb).2.2.2.2.1,(hf b hb).2.2.2.2.2⟩) (fun b o _ _ hc e _=>k b o hc e) (fun b o _ _ hc e _=>⟨o.slots,k b o hc e⟩)
  (fun b o _ e n=> ?_) (fun b o hc e=>⟨o,k b o hc e⟩) (fun b xs e=> ?_) (fun b o u e=> ?_) (fun b ps e=>⟨#[],?_⟩) (fun m hm=> ?_) (fun b u e=> ?_) I.bare
 ·rw [af (Nat.ne_of_lt (Nat.lt_of_lt_of_le (Heap.lt_size e) hT))];exact n
 ·rw [af (al e hn)];exact e
 ·rw [af (al e hn)];exact e
 ·rw [af (al e hn),e];simp
 ·obtain ⟨o,es,ep,ho,r⟩:=hm
  exact ⟨o,es,ep,k _ o (fun z=>(hf _ z).2.1 rfl) ho,r⟩
 ·by_cases hb:b=T
  ·subst hb
   rw [a9] at e
   cases e
   exact new
  ·rw [af hb] at e
   refine (I.hok b u e).stay (fun c v hc q=>k c v ?_ q) (fun c q=>by rw [af (al q hn)];exact q) fun c xs q=>by rw [af (al q hn)];exact q
   rcases hc with z | z
   ·rw [z];exact nit b u e
   ·exact nit c _ z
theorem Inv.lock{d:Addr}{u:HO}(I:Inv X pins σ H s)(h:H d=some u)(mu:Mut (some u)):∃ od,Inv X pins σ (upd H d (.frz od u)) s:=by
 have x:=I.hok d u h
 have ex:∃ od,s.heap.get? d=some od:=by
  cases u with
  | lst xs=>obtain ⟨_,_,_,_,e⟩:=x;exact ⟨_,e⟩
  | dK kvs=>obtain ⟨_,_,_,_,o,_,_,e,_⟩:=x;exact ⟨o,e⟩
  | dT kvs=>obtain ⟨_,_,_,_,o,_,_,e,_⟩:=x;exact ⟨o,e⟩
  | set S n=>obtain ⟨o,_,_,_,e,_⟩:=x;exact ⟨o,e⟩
  | ins C dx fs=>obtain ⟨_,_,_,e,_⟩:=x;exact ⟨_,e⟩
  | ext φ =>obtain ⟨_,⟨_,e⟩,_⟩:=x;exact ⟨_,e⟩
  | _=>exact False.elim mu
 obtain ⟨od,e⟩:=ex
 have new:be X.prog X.w (upd H d (.frz od u)) s.heap d (.frz od u):=by
  refine ⟨e,x.stay (fun b v _ q=>q) (fun b q=> ?_) fun b xs q=> ?_⟩
  ·rw [af (fun z=>by rw [z,h] at q;cases q;exact mu)];exact q
  ·rw [af (fun z=>by rw [z,h] at q;cases q;exact mu)];exact q
 exact ⟨od,I.write (x:=d) (e:=d) (t':=s.toks) (h':=s.heap) (by rw [h];exact mu) (.inl rfl) (fun b v _ q=>q) ⟨od,e⟩ new⟩
theorem Inv.nofrz{d:Addr}{u:HO}(I:Inv X pins σ H s)(h:H d=some u)(mu:Mut (some u)):∀ o' u',X.H_0 d≠some (.frz o' u'):=fun o' u' e=>by
 have q:=I.base.frzs d o' u' e
 rw [h] at q
 cases q
 exact mu
theorem Inv.unlock{d:Addr}{od:Obj}{u:HO}(I:Inv X pins σ H s)(h:H d=some (.frz od u))(hn:∀ o' u',X.H_0 d≠some (.frz o' u')):Inv X pins σ (upd H d u) s:=by
 have neH:∀ b o,H b=some o→(∀ o' u',o ≠ .frz o' u')→b≠d:=fun b o e hne z=>by
  rw [z,h] at e
  cases e
  exact hne _ _ rfl
 have neN:∀ b,H b=none→b≠d:=fun b e z=>by rw [z,h] at e;cases e
 refine ⟨I.ok,I.os,I.bare,⟨I.base.keep,I.base.slot,fun b o e n hx=> ?_,I.base.there,fun b xs e=> ?_,fun b o x e=> ?_,fun b ps e=> ?_⟩,I.loc,I.cell,?_,fun x c e=> ?_,fun p hp=> ?_,fun b o e=> ?_,I.len⟩
 ·rw [af (neN b (I.base.free b o e n hx))];exact I.base.free b o e n hx
 ·have q:=I.base.tups b xs e
  rw [af (neH b _ q (fun _ _ z=>nomatch z))];exact q
 ·have q:=I.base.frzs b o x e
  rw [af (fun z=>by rw [z] at e;exact hn _ _ e)];exact q
 ·obtain ⟨m,q⟩:=I.base.tbls b ps e
  exact ⟨m,by rw [af (neH b _ q (fun _ _ z=>nomatch z))];exact q⟩
 ·rw [af (neN _ I.free)];exact I.free
 ·rw [af (neN c (I.freeC x c e))];exact I.freeC x c e
 ·obtain ⟨e,n,r⟩:=I.pin p hp
  exact ⟨e,by rw [af (neN _ n)];exact n,r⟩
 ·by_cases hb:b=d
  ·rw [hb,a9] at e
   cases e
   rw [hb]
   obtain ⟨_,x⟩:=I.hok d _ h
   exact x.stay (fun c v _ q=>q) (fun c q=>by rw [af (neH c _ q (fun _ _ z=>nomatch z))];exact q) fun c xs q=>by rw [af (neH c _ q (fun _ _ z=>nomatch z))];exact q
  ·rw [af hb] at e
   exact (I.hok b o e).stay (fun c v _ q=>q) (fun c q=>by rw [af (neH c _ q (fun _ _ z=>nomatch z))];exact q) fun c xs q=>by rw [af (neH c _ q (fun _ _ z=>nomatch z))];exact q
end
def tLock(t:TS):TS:=fun D σ H=>∃ d u,H d=some u∧Mut (some u)∧∀ od,t ⟨fun σ' H'=>H' d=some (.frz od u)∧D.nx σ' (upd H' d u),fun v H'=>H' d=some (.frz od u)∧D.rt v (upd H' d u),fun σ' H'=>H' d=some (.frz od u)∧D.bk σ' (upd H' d u),fun σ' H'=>H' d=some (.frz od u)∧D.ct σ' (upd H' d u)⟩ σ (upd H d (.frz od u))
section
variable{X:Cx}
theorem fS{st:Stmt}{t:TS}(h:PS X st t):PS X st (tLock t):=by
 intro pins s σ H D I hw
 obtain ⟨d,u,hd,mu,hw⟩:=hw
 obtain ⟨od,I1⟩:=I.lock hd mu
 refine thn (h pins s σ _ _ I1 (hw od)) fun f s1 q=> ?_
 cases f with
 | next=>obtain ⟨σ',H',I2,e,q⟩:=q;exact ⟨σ',_,I2.unlock e (I.nofrz hd mu),q⟩
 | brk=>obtain ⟨σ',H',I2,e,q⟩:=q;exact ⟨σ',_,I2.unlock e (I.nofrz hd mu),q⟩
 | cont=>obtain ⟨σ',H',I2,e,q⟩:=q;exact ⟨σ',_,I2.unlock e (I.nofrz hd mu),q⟩
 | ret v=>obtain ⟨x,σ',H',I2,r,e,q⟩:=q;exact ⟨x,σ',_,I2.unlock e (I.nofrz hd mu),r,q⟩
theorem pi_one{tg:Expr}{pins:List (Addr×Obj)}{σ : St}{H:Hp}{s:Shared}{R:It→Hp→Prop}{J:It}{tn:Nat→Heap→Prop}{tk:Nat}(I:Inv X pins σ H s)(o:Obj)
  (T:nP X.prog X.w X.K tg J [s.heap.objs.size] s.heap.objs.size tn) (st:tn 0 (s.heap.push o)) (q:R J H):PIE X pins σ tg R (.ref s.heap.objs.size) { s with heap:=s.heap.push o,toks:=tk }:=by
 refine ⟨s.heap.objs.size,[s.heap.objs.size],tn,J,H,rfl,I.kept fun b ob e=>Heap.get?_push_of_some _ e,T,st,fun b hb=> ?_,q⟩
 have e:b=s.heap.objs.size:=by simpa using hb
 subst e
 exact I.fpOk (Nat.le_refl _) (I.hok.fresh (Nat.le_refl _))
end
def RgC(i j c:Int)(n:Nat):Prop:=c≠0∧c.natAbs < 1073741824∧Builtin.Range.small i j c=true∧Builtin.Range.rangeSize i j c=n
theorem kv_get{κ : Type}{kvs:List (κ×V)}{vs:List (κ×Value)}(h:KV kvs vs):∀ {i:Nat} {k : κ} {v:V},kvs[i]? = some (k,v)→∃ u,vs[i]? = some (k,u)∧b6 v u:=by
 unfold KV at h
 induction h with
 | nil=>intro i k v e;simp at e
 | @cons a b l₁ l₂ r t ih=>
  intro i k v e
  cases i with
  | zero=>
   simp only [List.getElem?_cons_zero,Option.some.injEq] at e
   subst e
   refine ⟨b.2,?_,r.2⟩
   simp only [List.getElem?_cons_zero]
   exact congrArg some (Prod.ext r.1.symm rfl)
  | succ j=>
   simp only [List.getElem?_cons_succ] at e ⊢
   exact ih e
theorem relV_key{k:Key}{u:Value}(h:iH k u=true):b6 (kV k) u:=by
 rcases bp h with ⟨i,t,rfl,rfl⟩ | ⟨x,t,rfl,rfl⟩
 ·exact ⟨t,rfl⟩
 ·exact ⟨t,rfl⟩
section
variable{X:Cx}{pins:List (Addr×Obj)}{σ : St}{H:Hp}{s:Shared}{d:Addr}{o:Obj}
theorem Inv.frzK{kvs:List (Key×V)}(I:Inv X pins σ H s)(h:H d=some (.frz o (.dK kvs))) :
  (d == sysModules)=false∧s.heap.get? d=some o∧o.ExactDict∧∃ (es:Array DictEntry) (ep:Nat) (vs:List (Key×Value)),o.data = .dict es ep∧es.size=kvs.length∧KV kvs vs∧s.heap.DictAt (bg X.prog X.w) d vs ep:=by
 obtain ⟨hd,z,hs,vs,kv,o',es,ep,ho,hx,hdt,r⟩:=I.hok d _ h
 rw [hd] at ho
 cases ho
 refine ⟨hs,hd,hx,es,ep,vs,hdt,?_,kv,o,es,hd,hx,hdt,r⟩
 have l1:=r.2.1.length
 have l2:kvs.length=vs.length:=Paired.length kv
 rw [Array.length_toList] at l1
 omega
end
def Itd(d:Addr)(o:Obj)(kvs:List (Key×V)):It:=
 ⟨fun i H=>H d=some (.frz o (.dK kvs))∧i < kvs.length,fun i H x H'=>H'=H∧∃ k,kvs[i]? = some (k,x),fun i H=>H d=some (.frz o (.dK kvs))∧kvs.length≤i⟩
def Iti(d:Addr)(o:Obj)(kvs:List (Key×V)):It:=
 ⟨fun i H=>H d=some (.frz o (.dK kvs))∧i < kvs.length,fun i H x H'=>∃ T k v,kvs[i]? = some (k,v)∧x = .ref T∧H T=none∧H'=upd H T (.tup [kV k,v]),fun i H=>H d=some (.frz o (.dK kvs))∧kvs.length≤i⟩
theorem jl{o:Obj}{es es':Array DictEntry}{ep ep':Nat}(h:o.data = .dict es ep)(h':o.data = .dict es' ep'):es'=es∧ep'=ep:=by
 rw [h] at h'
 cases h'
 exact ⟨rfl,rfl⟩
section
variable{P:Program}{w:World}{K:PySem.W.Frag}{tg:Expr}{d:Addr}{o:Obj}{es:Array DictEntry}{ep:Nat}
theorem turn_vals{kvs:List (Key×V)}(it:Addr)(hod:o.data = .dict es ep):nP P w K tg (Itd d o kvs) [it] it (fun i h=>h.IsValIter it d i kvs.length ep) where
 mem:=by simp
 obj:=fun i h st b hb=>by
  have e:b=it:=by simpa using hb
  subst e
  obtain ⟨oi,e,c,dd⟩:=st
  exact ⟨oi,e,fun v z=>by rw [dd] at z;cases z⟩
 keep:=fun i h h' st k=>st.at fun oi e=>k it (by simp) oi e
 item:=by
  intro X hP hw hK hc i pins s σ H E I hf st hg
  subst hP hw hK
  obtain ⟨hd,hi⟩:=hg
  obtain ⟨f0,f1,f2,f3,f4,f5⟩:=hf it (by simp)
  obtain ⟨hs,hgd,hx,es',ep',vs,hdt,hsz,kv,hm⟩:=I.frzK hd
  obtain ⟨rfl,rfl⟩:=jl hod hdt
  obtain ⟨⟨k,v⟩,hkv⟩:∃ p,kvs[i]? = some p:=⟨kvs[i],List.getElem?_eq_getElem hi⟩
  obtain ⟨u,hu,ru⟩:=kv_get kv hkv
  have hl:kvs.length=vs.length:=Paired.length kv
  rw [hl] at st
  refine wpAny_pyNext_values_item st hm hu fun h' st' sb=> ?_
  have I1:Inv X pins σ H { s with heap:=h' }:=I.turned (t':=s.toks) (fun b ob hb e=>(sb.2 b hb).trans e) f0 f1 f3 f4 f5
  obtain ⟨oi,e,c,dd⟩:=id st'
  refine ⟨u,rfl,go_of (s:={ s with heap:=h' }) e c dd (by decide) ⟨v,H,I1,ru,⟨rfl,k,hkv⟩,?_,fun b hb=>(hf b hb).1⟩⟩
  show h'.IsValIter it d (i + 1) kvs.length _
  rw [hl]
  exact st'
 done:=by
  intro X hP hw hK hc i pins s σ H E I hf st hg
  subst hP hw hK
  obtain ⟨hd,hi⟩:=hg
  obtain ⟨f0,f1,f2,f3,f4,f5⟩:=hf it (by simp)
  obtain ⟨hs,hgd,hx,es',ep',vs,hdt,hsz,kv,hm⟩:=I.frzK hd
  obtain ⟨rfl,rfl⟩:=jl hod hdt
  have hl:kvs.length=vs.length:=Paired.length kv
  rw [hl] at st
  exact wpAny_pyNext_values_end (I.ok.hd hc) st hm (List.getElem?_eq_none (by omega)) fun h' eb=>⟨rfl,I.turned (t':=s.toks) (fun b ob hb e=>eb b ob hb e) f0 f1 f3 f4 f5⟩
 self:=fun A i s Q E st h=>wpAny_pyIter_valiter st h
theorem oG{kvs:List (Key×V)}{elts:List Expr}{kk:Nat}{tpos:Pos}(it:Addr)(hod:o.data = .dict es ep) :
  nP P w K (.Tuple elts kk tpos) (Iti d o kvs) [it] it (fun i h=>∃ ok ov,IsItemIter h it d i kvs.length ep ok ov) where
 mem:=by simp
 obj:=fun i h st b hb=>by
  have e:b=it:=by simpa using hb
  subst e
  obtain ⟨ok,ov,e⟩:=st
  exact ⟨_,e,fun v z=>nomatch z⟩
 keep:=fun i h h' st k=>let ⟨ok,ov,e⟩:=st;⟨ok,ov,k it (by simp) _ e⟩
 item:=by
  intro X hP hw hK hc i pins s σ H E I hf st hg
  subst hP hw hK
  obtain ⟨hd,hi⟩:=hg
  obtain ⟨hs,hgd,hx,es',ep',vs,hdt,hsz,kv,hm⟩:=I.frzK hd
  obtain ⟨rfl,rfl⟩:=jl hod hdt
  obtain ⟨⟨k,v⟩,hkv⟩:∃ p,kvs[i]? = some p:=⟨kvs[i],List.getElem?_eq_getElem hi⟩
  obtain ⟨u,hu,ru⟩:=kv_get kv hkv
  have hl:kvs.length=vs.length:=Paired.length kv
  obtain ⟨ok,ov,he⟩:=st
  rw [hl] at he
  have hlt:it < s.heap.objs.size:=Heap.lt_size he
  refine wpAny_pyNext_items_item he hm hu fun key h' hkey ho hT hz hk=> ?_
  refine ⟨_,rfl,wpAny_letOwnedTupleGo_items (s:={ s with heap:=h' }) ho fun h'' he' sb=> ?_⟩
  have hT2:h''.get? s.heap.objs.size=some { cls:=.type "tuple",data:=.seq #[key,u] }:=(sb.2 _ (Nat.ne_of_gt hlt)).trans hT
  have new:be X.prog X.w (upd H s.heap.objs.size (.tup [kV k,v])) h'' s.heap.objs.size (.tup [kV k,v]):=
   ⟨by show 2≤sizeLine;decide,[key,u],.cons (relV_key (show iH k key=true from hkey)) (.cons ru .nil),⟨_,hT2,rfl,_,rfl⟩⟩
  have I1:Inv X pins σ (upd H s.heap.objs.size (.tup [kV k,v])) { s with heap:=h'' }:=
   I.turnedNew (t':=s.toks) (ch:=[it]) (fun b ob hb e=>(sb.2 b (by simpa using hb)).trans (hk b ob (by simpa using hb) e)) hf (Nat.le_refl _) new
  refine ⟨.ref s.heap.objs.size,_,I1,rfl,⟨_,k,v,hkv,rfl,I.hok.fresh (Nat.le_refl _),rfl⟩,⟨key,u,?_⟩,fun b hb=> ?_⟩
  ·rw [hl];exact he'
  ·have e:b=it:=by simpa using hb
   rw [e,af (Nat.ne_of_lt hlt)]
   exact (hf it (by simp)).1
 done:=by
  intro X hP hw hK hc i pins s σ H E I hf st hg
  subst hP hw hK
  obtain ⟨hd,hi⟩:=hg
  obtain ⟨f0,f1,f2,f3,f4,f5⟩:=hf it (by simp)
  obtain ⟨hs,hgd,hx,es',ep',vs,hdt,hsz,kv,hm⟩:=I.frzK hd
  obtain ⟨rfl,rfl⟩:=jl hod hdt
  have hl:kvs.length=vs.length:=Paired.length kv
  obtain ⟨ok,ov,he⟩:=st
  rw [hl] at he
  exact wpAny_pyNext_items_end (I.ok.hd hc) he hm (List.getElem?_eq_none (by omega)) fun h' eb=>⟨rfl,I.turned (t':=s.toks) (fun b ob hb e=>eb b ob hb e) f0 f1 f3 f4 f5⟩
 self:=fun A i s Q E st h=>let ⟨_,_,e⟩:=st;PySem.W.kcp_self e h
end
def iVals(td:TE):TI:=fun σ H R=>td σ H fun x H1=>∃ d o kvs,x = .ref d∧H1 d=some (.frz o (.dK kvs))∧R (Itd d o kvs) H1
def iItems(td:TE):TI:=fun σ H R=>td σ H fun x H1=>∃ d o kvs,x = .ref d∧H1 d=some (.frz o (.dK kvs))∧R (Iti d o kvs) H1
section
variable{X:Cx}{tg e:Expr}{td:TE}{apos cpos:Pos}
theorem fN(he:PE X e td)(hbase:attributeBase e "values" X.env (eval e X.env)=eval e X.env:=by rfl)(hline:(apos.endLine == cpos.line)=true:=by rfl):PI X tg (.Call (.Attribute e "values" apos) [] [] cpos) (iVals td):=by
 intro pins s σ H R I h
 refine wpAny_Call_method (T := "dict") (id := "dict.values") hbase rfl hline F.plainAttrs_dict F.slot_dict_values F.type_dict_values (thn (he pins s σ H _ I h) fun u s1 ⟨x,H1,I1,rx,d,o,kvs,ex,hd,q⟩=> ?_)
 subst ex
 obtain rfl:u=Value.ref d:=rx
 obtain ⟨hs,hgd,hx,es,ep,vs,hdt,hsz,kv,hm⟩:=I1.frzK hd
 have hl:kvs.length=vs.length:=Paired.length kv
 refine ⟨hm.dictOf.typeIs,hm.dictOf.mapOf.noDict,?_⟩
 have I2:Inv X pins σ H1 { s1 with heap:=s1.heap.push { cls:=.type "dict_values",data:=.fields #[.ref d] } }:=I1.kept (t':=s1.toks) fun b ob q=>Heap.get?_push_of_some _ q
 have fin:wpAny (model X.prog X.w) X.A (pyIter (.ref s1.heap.objs.size)) (PIE X pins σ tg R) X.xe { s1 with heap:=s1.heap.push { cls:=.type "dict_values",data:=.fields #[.ref d] } }:=by
  refine wpAny_pyIter_values (d:=d) (knd:=bg X.prog X.w) ⟨_,Heap.get?_push_size _ rfl,rfl,rfl⟩ (hm.push _) (pi_one (tk:=s1.toks) I2 _ (turn_vals _ hdt) ⟨_,Heap.get?_push_size _ rfl,rfl,?_⟩ q)
  rw [hl] <;> rfl
 show wpAny _ _ (callWith cpos (.builtin "dict.values") [.ref d] [] []) _ X.xe s1
 exact method_meetsIn F.slot_dict_values F.entry_dict_values rfl (PySem.evalArgs_none ⟨rfl,hm.dictOf.typeIs,F.args_dict_values_1 _,_,meets_dict_values (bg X.prog X.w) d hs,⟨vs,hm.dictOf⟩,fin⟩)
theorem pi_items{elts:List Expr}{kk:Nat}{tpos:Pos}(he:PE X e td)(hbase:attributeBase e "items" X.env (eval e X.env)=eval e X.env:=by rfl)(hline:(apos.endLine == cpos.line)=true:=by rfl) :
  PI X (.Tuple elts kk tpos) (.Call (.Attribute e "items" apos) [] [] cpos) (iItems td):=by
 intro pins s σ H R I h
 refine wpAny_Call_method (T := "dict") (id := "dict.items") hbase rfl hline F.plainAttrs_dict F.slot_dict_items F.type_dict_items (thn (he pins s σ H _ I h) fun u s1 ⟨x,H1,I1,rx,d,o,kvs,ex,hd,q⟩=> ?_)
 subst ex
 obtain rfl:u=Value.ref d:=rx
 obtain ⟨hs,hgd,hx,es,ep,vs,hdt,hsz,kv,hm⟩:=I1.frzK hd
 have hl:kvs.length=vs.length:=Paired.length kv
 refine ⟨hm.dictOf.typeIs,hm.dictOf.mapOf.noDict,?_⟩
 have I2:Inv X pins σ H1 { s1 with heap:=s1.heap.push { cls:=.type "dict_items",data:=.fields #[.ref d] } }:=I1.kept (t':=s1.toks) fun b ob q=>Heap.get?_push_of_some _ q
 have fin:wpAny (model X.prog X.w) X.A (pyIter (.ref s1.heap.objs.size)) (PIE X pins σ (.Tuple elts kk tpos) R) X.xe { s1 with heap:=s1.heap.push { cls:=.type "dict_items",data:=.fields #[.ref d] } }:=by
  refine wpAny_pyIter_items (d:=d) (knd:=bg X.prog X.w) ⟨_,Heap.get?_push_size _ rfl,rfl,rfl⟩ (hm.push _) (pi_one (tk:=s1.toks) I2 _ (oG _ hdt) ⟨.none,.none,?_⟩ q)
  rw [hl]
  exact Heap.get?_push_size _ rfl
 show wpAny _ _ (callWith cpos (.builtin "dict.items") [.ref d] [] []) _ X.xe s1
 exact method_meetsIn F.slot_dict_items F.entry_dict_items rfl (PySem.evalArgs_none ⟨rfl,hm.dictOf.typeIs,F.args_dict_items_1 _,_,meets_dict_items (bg X.prog X.w) d hs,⟨vs,hm.dictOf⟩,fin⟩)
end
def Ite(K:PySem.W.Frag)(a:Addr):It:=
 ⟨fun i H=>∃ (xs:List V) (x:V),SqL K H a xs∧xs[i]? = some x,fun i H v H'=>∃ T x,v = .ref T∧H T=none∧H'=upd H T (.tup [.int (i:Nat),x])∧∀ xs,SqL K H a xs→xs[i]? = some x,fun i H=>∃ xs:List V,SqL K H a xs∧xs.length≤i⟩
theorem ql{P:Program}{w:World}{K:PySem.W.Frag}{elts:List Expr}{kk:Nat}{tpos:Pos}(a e it:Addr) :
  nP P w K (.Tuple elts kk tpos) (Ite K a) [e,it] e (fun i h=>(∃ old,IsEnum h e it ((i:Nat):Int) old)∧h.IsListIter it a i∧e≠it) where
 mem:=by simp
 obj:=fun i h st b hb=>by
  obtain ⟨⟨old,he⟩,⟨o,ho,hc,hd⟩,_⟩:=st
  have e':b=e∨b=it:=by simpa using hb
  rcases e' with z | z
  ·rw [z];exact ⟨_,he,fun v q=>nomatch q⟩
  ·rw [z];exact ⟨o,ho,fun v q=>by rw [hd] at q;cases q⟩
 keep:=fun i h h' st k=>let ⟨⟨old,he⟩,hi,hne⟩:=st;⟨⟨old,k e (by simp) _ he⟩,hi.at fun o q=>k it (by simp) o q,hne⟩
 item:=by
  intro X hP hw hK hc i pins s σ H E I hf st hg
  subst hP hw hK
  obtain ⟨⟨old,he⟩,hit,hne⟩:=st
  obtain ⟨xs,x,hq,hx⟩:=hg
  obtain ⟨its,rv,p,hz⟩:=I.list hq
  obtain ⟨u,hu,ru⟩:=rv.get hx
  have hel:e < s.heap.objs.size:=Heap.lt_size he
  have hil:it < s.heap.objs.size:=by obtain ⟨_,q,_⟩:=hit;exact Heap.lt_size q
  refine wpAny_pyNext_enum_item he hit p.isList (x:=u) (by simpa using hu) hne fun h' ho hit' hT hsz hk=> ?_
  refine ⟨_,rfl,wpAny_letOwnedTupleGo_enum (s:={ s with heap:=h',toks:=s.toks + 1 }) ho fun h'' he' sb=> ?_⟩
  have hT2:h''.get? s.heap.objs.size=some { cls:=.type "tuple",data:=.seq #[.int i s.toks,u] }:=(sb.2 _ (Nat.ne_of_gt hel)).trans hT
  have new:be X.prog X.w (upd H s.heap.objs.size (.tup [.int (i:Nat),x])) h'' s.heap.objs.size (.tup [.int (i:Nat),x]):=
   ⟨by show 2≤sizeLine;decide,[.int i s.toks,u],.cons ⟨_,rfl⟩ (.cons ru .nil),⟨_,hT2,rfl,_,rfl⟩⟩
  have I1:Inv X pins σ (upd H s.heap.objs.size (.tup [.int (i:Nat),x])) { s with heap:=h'',toks:=s.toks + 1 }:=
   I.turnedNew (ch:=[e,it]) (fun b ob hb q=>(sb.2 b (fun z=>hb (by simp [z]))).trans (hk b ob (fun z=>hb (by simp [z])) (fun z=>hb (by simp [z])) q)) hf (Nat.le_refl _) new
  refine ⟨.ref s.heap.objs.size,_,I1,rfl,⟨_,x,rfl,I.hok.fresh (Nat.le_refl _),rfl,fun ys hy=>by rw [I.list_inj hy hq];exact hx⟩,⟨⟨u,?_⟩,hit'.at fun o q=>(sb.2 it (Ne.symm hne)).trans q,hne⟩,fun b hb=> ?_⟩
  ·have e1:((i + 1:Nat):Int)=(i:Int) + 1:=by omega
   rw [e1];exact he'
  ·have hb':b < s.heap.objs.size:=by
    have e':b=e∨b=it:=by simpa using hb
    rcases e' with z | z
    ·rw [z];exact hel
    ·rw [z];exact hil
   rw [af (Nat.ne_of_lt hb')]
   exact (hf b hb).1
 done:=by
  intro X hP hw hK hc i pins s σ H E I hf st hg
  subst hP hw hK
  obtain ⟨⟨old,he⟩,hit,hne⟩:=st
  obtain ⟨xs,hq,hx⟩:=hg
  obtain ⟨its,rv,p,hz⟩:=I.list hq
  obtain ⟨f0,f1,f2,f3,f4,f5⟩:=hf it (by simp)
  have hl:=rv.length
  exact wpAny_pyNext_enum_end (I.ok.hd hc) he hit p.isList (by simp;omega) fun h' eb=>⟨rfl,I.turned (t':=s.toks) (fun b o hb q=>eb b o hb q) f0 f1 f3 f4 f5⟩
 self:=fun A i s Q E st h=>let ⟨⟨_,he⟩,_⟩:=st;wpAny_pyIter_enum he h
def iEnum(K:PySem.W.Frag)(ta:TA):TI:=fun σ H R=>ta σ H fun vs H1=>∃ a xs,vs=[.ref a]∧SqL K H1 a xs∧R (Ite K a) H1
theorem pi_enum{X:Cx}{e:Expr}{ta:TA}{p pos tpos:Pos}{elts:List Expr}{kk:Nat}(hg:Gl X "enumerate")(hm:X.mg "enumerate" = none)(ha:PA X [e] ta)(hs:starEach [e] X.env=[(false,eval e X.env)]:=by rfl) :
  PI X (.Tuple elts kk tpos) (.Call (.Name "enumerate" p) [e] [] pos) (iEnum X.K ta):=by
 intro pins s σ H R I h
 refine Call_ (kh I hg hm boot_enumerate (PyProof.Rows.callWith_type1 (thn (ha pos pins s σ H _ I h) fun us s1 ⟨vs,H1,I1,r1,q1⟩=> ?_) hs rfl))
 obtain ⟨a,xs,ex,hq,q⟩:=q1
 subst ex
 cases r1 with
 | cons r rr=>
  cases rr
  cases r
  obtain ⟨its,rv,p',hz⟩:=I1.list hq
  refine call_enumerate_list p'.isList fun h' he hit hsz hk=>wpAny_pyIter_enum he ?_
  have I2:Inv X pins σ H1 { s1 with heap:=h' }:=I1.kept (t':=s1.toks) hk
  refine ⟨s1.heap.objs.size + 1,[s1.heap.objs.size + 1,s1.heap.objs.size],_,_,H1,rfl,I2,ql a (s1.heap.objs.size + 1) s1.heap.objs.size,⟨⟨.none,he⟩,hit,Nat.succ_ne_self _⟩,fun b hb=> ?_,q⟩
  have e':b=s1.heap.objs.size + 1∨b=s1.heap.objs.size:=by simpa using hb
  have hle:s1.heap.objs.size≤b:=by
   rcases e' with z | z
   ·rw [z];exact Nat.le_add_right _ _
   ·rw [z];exact Nat.le_refl _
  exact I1.fpOk hle (I1.hok.fresh hle)
theorem boot_zip5:bootBuiltins "zip" = some (.type "zip"):=by decide +kernel
def Itz(K:PySem.W.Frag)(a b:Addr):It:=
 ⟨fun i H=>∃ (xs ys:List V) (x y:V),SqL K H a xs∧SqL K H b ys∧xs[i]? = some x∧ys[i]? = some y,
  fun i H v H'=>∃ T x y,v = .ref T∧H T=none∧H'=upd H T (.tup [x,y])∧(∀ xs,SqL K H a xs→xs[i]? = some x)∧∀ ys,SqL K H b ys→ys[i]? = some y,
  fun i H=>∃ xs ys:List V,SqL K H a xs∧SqL K H b ys∧(xs.length≤i∨ys.length≤i)⟩
theorem turn_zip{P:Program}{w:World}{K:PySem.W.Frag}{elts:List Expr}{kk:Nat}{tpos:Pos}{a b z TI TO i1 i2:Addr}(D:ZipApart z TI TO i1 i2 a b) :
  nP P w K (.Tuple elts kk tpos) (Itz K a b) [z,TI,TO,i1,i2] z (fun i h=>IsZip h z TI TO .none∧IsPair h TI (.ref i1) (.ref i2)∧(∃ x y,IsPair h TO x y)∧h.IsListIter i1 a i∧h.IsListIter i2 b i) where
 mem:=by simp
 obj:=fun i h st c hc=>by
  obtain ⟨hz,hTI,⟨x,y,hTO⟩,⟨o1,e1,_,d1⟩,⟨o2,e2,_,d2⟩⟩:=st
  have e':c=z∨c=TI∨c=TO∨c=i1∨c=i2:=by simpa using hc
  rcases e' with q | q | q | q | q
  ·rw [q];exact ⟨_,hz,fun v q=>nomatch q⟩
  ·rw [q];exact ⟨_,hTI,fun v q=>nomatch q⟩
  ·rw [q];exact ⟨_,hTO,fun v q=>nomatch q⟩
  ·rw [q];exact ⟨o1,e1,fun v q=>by rw [d1] at q;cases q⟩
  ·rw [q];exact ⟨o2,e2,fun v q=>by rw [d2] at q;cases q⟩
 keep:=fun i h h' st k=>by
  obtain ⟨hz,hTI,⟨x,y,hTO⟩,h1,h2⟩:=st
  exact ⟨k z (by simp) _ hz,k TI (by simp) _ hTI,⟨x,y,k TO (by simp) _ hTO⟩,h1.at fun o q=>k i1 (by simp) o q,h2.at fun o q=>k i2 (by simp) o q⟩
 item:=by
  intro X hP hw hK hc i pins s σ H E I hf st hg
  subst hP hw hK
  obtain ⟨hz,hTI,⟨x0,y0,hTO⟩,h1,h2⟩:=st
  obtain ⟨xs,ys,x,y,hqx,hqy,hx,hy⟩:=hg
  obtain ⟨its,rv,p,_⟩:=I.list hqx
  obtain ⟨its2,rv2,p2,_⟩:=I.list hqy
  obtain ⟨u,hu,ru⟩:=rv.get hx
  obtain ⟨u2,hu2,ru2⟩:=rv2.get hy
  have hzl:z < s.heap.objs.size:=Heap.lt_size hz
  refine wpAny_pyNext_zip_item D hz hTI hTO h1 h2 p.isList p2.isList (x:=u) (y:=u2) (by simpa using hu) (by simpa using hu2) fun h' z' TO' h1' h2' hT hsz hk=> ?_
  refine ⟨_,rfl,wpAny_letOwnedTupleGo_zip (s:={ s with heap:=h' }) z' fun h'' z'' sb=> ?_⟩
  have hT2:h''.get? s.heap.objs.size=some { cls:=.type "tuple",data:=.seq #[u,u2] }:=(sb.2 _ (Nat.ne_of_gt hzl)).trans hT
  have new:be X.prog X.w (upd H s.heap.objs.size (.tup [x,y])) h'' s.heap.objs.size (.tup [x,y]):=
   ⟨by show 2≤sizeLine;decide,[u,u2],.cons ru (.cons ru2 .nil),⟨_,hT2,rfl,_,rfl⟩⟩
  have I1:Inv X pins σ (upd H s.heap.objs.size (.tup [x,y])) { s with heap:=h'' }:=
   I.turnedNew (t':=s.toks) (ch:=[z,TI,TO,i1,i2]) (fun c o hb q=>(sb.2 c (fun q'=>hb (by simp [q']))).trans (hk c o (fun q'=>hb (by simp [q'])) (fun q'=>hb (by simp [q'])) (fun q'=>hb (by simp [q'])) (fun q'=>hb (by simp [q'])) q)) hf (Nat.le_refl _) new
  refine ⟨.ref s.heap.objs.size,_,I1,rfl,⟨_,x,y,rfl,I.hok.fresh (Nat.le_refl _),rfl,fun l hl=>by rw [I.list_inj hl hqx];exact hx,fun l hl=>by rw [I.list_inj hl hqy];exact hy⟩,⟨z'',?_,⟨u,u2,?_⟩,?_,?_⟩,fun c hcm=> ?_⟩
  ·exact (sb.2 _ D.TIz).trans (hk _ _ D.TIz D.TITO D.TIi1 D.TIi2 hTI)
  ·exact (sb.2 _ D.TOz).trans TO'
  ·exact h1'.at fun o q=>(sb.2 _ D.i1z).trans q
  ·exact h2'.at fun o q=>(sb.2 _ D.i2z).trans q
  ·have hlt:c < s.heap.objs.size:=by
    have e':c=z∨c=TI∨c=TO∨c=i1∨c=i2:=by simpa using hcm
    rcases e' with q | q | q | q | q
    ·rw [q];exact hzl
    ·rw [q];exact Heap.lt_size hTI
    ·rw [q];exact Heap.lt_size hTO
    ·rw [q];obtain ⟨_,e1,_⟩:=h1;exact Heap.lt_size e1
    ·rw [q];obtain ⟨_,e2,_⟩:=h2;exact Heap.lt_size e2
   rw [af (Nat.ne_of_lt hlt)]
   exact (hf c hcm).1
 done:=by
  intro X hP hw hK hc i pins s σ H E I hf st hg
  subst hP hw hK
  obtain ⟨hz,hTI,⟨x0,y0,hTO⟩,h1,h2⟩:=st
  obtain ⟨xs,ys,hqx,hqy,hend⟩:=hg
  obtain ⟨its,rv,p,_⟩:=I.list hqx
  obtain ⟨its2,rv2,p2,_⟩:=I.list hqy
  have l1:=rv.length
  have l2:=rv2.length
  have he:its.toArray[i]? = none∨its2.toArray[i]? = none:=by
   rcases hend with q | q
   ·exact .inl (by simp;omega)
   ·exact .inr (by simp;omega)
  exact wpAny_pyNext_zip_end (I.ok.hd hc) D hz hTI hTO h1 h2 p.isList p2.isList he fun h' hk=>⟨rfl,I.turnedL (t':=s.toks) (ch:=[z,TI,TO,i1,i2]) (fun c o hb q=>
   hk c o (fun q'=>hb (by simp [q'])) (fun q'=>hb (by simp [q'])) (fun q'=>hb (by simp [q'])) (fun q'=>hb (by simp [q'])) q) hf⟩
 self:=fun A i s Q E st h=>wpAny_pyIter_zip st.1 h
def iZip(K:PySem.W.Frag)(ta:TA):TI:=fun σ H R=>ta σ H fun vs H1=>∃ a b xs ys,vs=[.ref a,.ref b]∧SqL K H1 a xs∧SqL K H1 b ys∧R (Itz K a b) H1
theorem pi_zip{X:Cx}{e e2:Expr}{ta:TA}{p pos tpos:Pos}{elts:List Expr}{kk:Nat}(hg:Gl X "zip")(hm:X.mg "zip" = none)(ha:PA X [e,e2] ta)
  (hs:starEach [e,e2] X.env=(false,eval e X.env) :: starEach [e2] X.env:=by rfl) (hpl:(backTo pos (starEach [e2] X.env)).any (·.1)=false:=by rfl) :
  PI X (.Tuple elts kk tpos) (.Call (.Name "zip" p) [e,e2] [] pos) (iZip X.K ta):=by
 intro pins s σ H R I h
 refine Call_ (kh I hg hm boot_zip5 (PyProof.Rows.callWith_type1 (thn (ha pos pins s σ H _ I h) fun us s1 ⟨vs,H1,I1,r1,q1⟩=> ?_) hs hpl))
 obtain ⟨a,b,xs,ys,ex,hqx,hqy,q⟩:=q1
 subst ex
 cases r1 with
 | cons r rr=>
  cases rr with
  | cons r' rr=>
   cases rr
   cases r
   cases r'
   obtain ⟨its,rv,p1,_⟩:=I1.list hqx
   obtain ⟨its2,rv2,p2,_⟩:=I1.list hqy
   have la:a < s1.heap.objs.size:=p1.lt
   have lb:b < s1.heap.objs.size:=p2.lt
   refine call_zip_2 p1.isList p2.isList fun h' hz hTI hTO h1 h2 hsz hk=>wpAny_pyIter_zip hz ?_
   have I2:Inv X pins σ H1 { s1 with heap:=h' }:=I1.kept (t':=s1.toks) hk
   refine ⟨s1.heap.objs.size + 4,[s1.heap.objs.size + 4,s1.heap.objs.size + 2,s1.heap.objs.size + 3,s1.heap.objs.size,s1.heap.objs.size + 1],_,_,H1,rfl,I2,turn_zip (PySem.W.ktu_apart s1.heap.objs.size a b la lb),⟨hz,hTI,⟨_,_,hTO⟩,h1,h2⟩,fun c hcm=> ?_,q⟩
   have e':c=s1.heap.objs.size + 4∨c=s1.heap.objs.size + 2∨c=s1.heap.objs.size + 3∨c=s1.heap.objs.size∨c=s1.heap.objs.size + 1:=by simpa using hcm
   have hle:s1.heap.objs.size≤c:=by
    rcases e' with z | z | z | z | z
    ·rw [z];exact Nat.le_add_right _ _
    ·rw [z];exact Nat.le_add_right _ _
    ·rw [z];exact Nat.le_add_right _ _
    ·rw [z];exact Nat.le_refl _
    ·rw [z];exact Nat.le_add_right _ _
   exact I1.fpOk hle (I1.hok.fresh hle)
end L2
namespace TL
open PySem PySem.Builtin PySem.Builtin.Str PySem.StrLaws
abbrev tl(x:Str):List Nat:=x.cps.toList
def pre(S l:List Nat):Bool:=l.take S.length == S
def par(S:List Nat):List Nat→List Nat→Option (List Nat×List Nat)
 | _,[] =>none
 | acc,c :: r=>if pre S (c :: r)=true then some (acc,(c :: r).drop S.length) else par S (acc ++ [c]) r
end TL
namespace L2
open PySem PySem.Spec PyProof.Rows
theorem IsPart.raw{v:Value}{o:Option Int}(p:IsPart v o):∃ l:Option (Int×Tok),v=partValue l∧l.map (·.1)=o:=by
 cases p with
 | none=>exact ⟨none,rfl,rfl⟩
 | int i t=>exact ⟨some (i,t),rfl,rfl⟩
end L2
namespace Att
open PySem PySem.W PySem.Calls PyProof.Rows
section
variable{prog:Program}{w:World}{A:Around}{E:Value→Shared→Prop}{s:Shared}{K:Frag}
def ledger(h:Heap)(L d:Addr):List (Addr×Obj):=(List.range h.objs.size).filterMap fun a=>if a=L∨a=d then none else (h.get? a).map fun o=>(a,o)
end
end Att
namespace L2
open PySem PySem.Spec PyProof.Rows
def eu(s:Stmt)(j:Nat):Stmt:=match s with
 | .ClassDef _ _ _ body _ _ _ _ _ _ _=>body.getD j (.Pass ⟨0,0,0,0⟩)
 | _=>.Pass ⟨0,0,0,0⟩
def bH(s:Stmt):Arguments:=match s with
 | .FunctionDef _ a _ _ _ _ _ _ _ _=>a
 | _=>{ posonlyargs:=[],args:=[],vararg:=none,kwonlyargs:=[],kw_defaults:=[],kwarg:=none,defaults:=[] }
def bt(s:Stmt):List Stmt:=match s with
 | .FunctionDef _ _ b _ _ _ _ _ _ _=>b
 | _=>[]
def ah(s:Stmt):Scope:=match s with
 | .FunctionDef _ _ _ _ _ _ sc _ _ _=>sc
 | _=>{ kind:=.function,names:=[],isGenerator:=false,isCoroutine:=false }
abbrev CX0:CXT:=fun _ _ _ _ _ _=>False
abbrev E0:XK:=fun _ _ _=>False
theorem pJ{X:Cx}:gl CX0 X E0:=fun _ _ _ _ _ _ _ h=>h.elim
structure Fun(K:PySem.W.Frag)(x qual:Str)(st:Stmt)(f:Addr)(fd:FuncData):Prop where
 ex:∃ (oc:Value) (od:Option Addr) (kV doc pm:Value) (an:Option Addr) (cdv ct:Value) (osl:Array (Option Value)),
  fd=PySem.W.fnOf x qual (bH st) (bt st) (ah st) .none kV doc pm an cdv ct∧K.lookup f=some ⟨oc,od,.func fd,osl⟩∧PySem.W.codeIn K cdv qual=true
 kp:PySem.W.keepIn K (.ref f)=true
section
variable{P:Program}{w:World}{K:PySem.W.Frag}{mg:Str→Option Value}{base:Heap}
theorem Fun.ok{x qual:Str}{st:Stmt}{f:Addr}{fd:FuncData}{N ps:List Str}{k:Nat}{sp:Sp}(F:Fun K x qual st f fd)(S:au N ps (ah st))(len:∀ vs H Q E,sp vs H Q E→vs.length=ps.length)
  (hbody:∀ (cdv:Value) (A:Around) (outer:List Env) (s:Shared) (H:Hp) (vs:List V) (Q:VK) (E:XK),bW k (A.deeper (envOfC qual (ah st) s.heap.objs.size f cdv))→sp vs H Q E →
   ∃ t,PSs (lX CX0 P w K mg base N qual (ah st) f cdv A outer s H E).nox (bt st) t∧t { nx:=fun _ H'=>Q .non H',rt:=Q } (fm N vs) H):eI P w K mg base CX0 (k + 1) f fd ps sp:=by
 obtain ⟨oc,od,kV,doc,pm,an,cdv,ct,osl,rfl,lk,hcd⟩:=F.ex
 refine fn_of lk hcd S len fun A outer s H vs Q E hr hsp=> ?_
 obtain ⟨t,h,q⟩:=hbody cdv A outer s H vs Q E hr hsp
 exact ⟨t,h.nox,q⟩
theorem Fun.binds{x qual:Str}{st:Stmt}{f:Addr}{fd:FuncData}{ps:List Str}(F:Fun K x qual st f fd)
  (h:∀ (kV doc pm:Value) (an:Option Addr) (cdv ct:Value) (us:List Value),us.length=ps.length→bindArgs (PySem.W.fnOf x qual (bH st) (bt st) (ah st) .none kV doc pm an cdv ct) ⟨us,[]⟩=pure (ps.zip us)):dc K fd ps []:=by
 obtain ⟨oc,od,kV,doc,pm,an,cdv,ct,osl,rfl,lk,hcd⟩:=F.ex
 exact .all (h kV doc pm an cdv ct)
theorem nW{x qual:Str}{st:Stmt}{f:Addr}{oc:Value}{od an:Option Addr}{osl:Array (Option Value)}{kV doc pm cdv ct:Value}(l:K.lookup f=some ⟨oc,od,.func (PySem.W.fnOf x qual (bH st) (bt st) (ah st) .none kV doc pm an cdv ct),osl⟩)
  (c:PySem.W.codeIn K cdv qual=true) (k:PySem.W.keepIn K (.ref f)=true):Fun K x qual st f (PySem.W.fnOf x qual (bH st) (bt st) (ah st) .none kV doc pm an cdv ct):=⟨⟨oc,od,kV,doc,pm,an,cdv,ct,osl,rfl,l,c⟩,k⟩
end
theorem aM{A:Around}{k:Nat}(hr:bW k A):A.units + 1 < cLine:=Nat.lt_of_le_of_lt (Nat.add_le_add_left (by decide:1≤64) _) hr.units
section
variable{X:Cx}
theorem pv(i:Nat){x:Str}{pos:Pos}(hN:X.N[i]? = some x:=by rfl)(hv:Vis X.env.scope x:=by first | exact Or.inl rfl | exact Or.inr (Or.inl rfl) | exact Or.inr (Or.inr rfl))(hd:(x == ("__debug__" : Str))=false:=by decide)
  (hcd:(x == ("__classdict__" : Str))=false:=by decide):PE X (.Name x pos) (bq i):=pe_var hN hv hd hcd
theorem call_lenD:bX X (.builtin "len") (fun xs H Q=>∃ a kvs,xs=[V.ref a]∧H a=some (.dK kvs)∧Q (.int kvs.length) H):=by
 intro pins s σ H xs us Q I r h
 obtain ⟨a,kvs,rfl,ha,q⟩:=h
 obtain ⟨u,rfl,ru⟩:=iF r
 cases ru
 exact d_len I (.inl ha) fun t s' I'=>⟨.int kvs.length,H,I',⟨t,rfl⟩,q⟩
end
theorem iteF{A B:Prop}(h:B):if false=true then A else B:=by
 rw [if_neg Bool.false_ne_true]
 exact h
theorem iteT{A B:Prop}(h:A):if true=true then A else B:=by
 rw [if_pos rfl]
 exact h
def bD(H H':Hp):Prop:=∀ b o,H b=some o→H' b=some o
theorem bD.refl(H:Hp):bD H H:=fun _ _ h=>h
theorem bD.trans{H H1 H2:Hp}(a:bD H H1)(b:bD H1 H2):bD H H2:=fun c o h=>b c o (a c o h)
theorem bD.free{H H':Hp}(e:bD H H'){l:Addr}(h:H' l=Option.none):H l=Option.none:=by
 cases q:H l with
 | none=>rfl
 | some o=>
  rw [e l o q] at h
  cases h
theorem bD.seq{K:PySem.W.Frag}{H H':Hp}{a:Addr}{xs:List V}(e:bD H H')(h:SqL K H a xs):SqL K H' a xs:=by
 rcases h with (h | ⟨o,h⟩) | h
 ·exact .inl (.inl (e _ _ h))
 ·exact .inl (.inr ⟨o,e _ _ h⟩)
 ·exact .inr h
section
variable{κ : Type}[DecidableEq κ]
theorem fM:∀ {l:List κ} {k : κ},l.Nodup→¬ k∈l→(l ++ [k]).Nodup
 | [],k,_,_=>by simp
 | a :: r,k,h,hk=>by
  obtain ⟨h1,h2⟩:=List.nodup_cons.mp h
  show (a :: (r ++ [k])).Nodup
  refine List.nodup_cons.mpr ⟨fun m=> ?_,fM h2 fun m=>hk (List.mem_cons.mpr (Or.inr m))⟩
  rcases List.mem_append.mp m with q | q
  ·exact h1 q
  ·exact hk (List.mem_cons.mpr (Or.inl (List.mem_singleton.mp q).symm))
end
theorem pW{xs:List V}{z:Int}{j:Nat}{v:V}(e:z=(j:Int))(h:xs[j]? = some v):atI xs z=some v:=by
 rw [e]
 exact eA h
theorem mN{α : Type}{l:List α}(hN:l.Nodup){i j:Nat}{x : α}(a:l[i]? = some x)(b:l[j]? = some x):i=j:=by
 obtain ⟨h1,e1⟩:=List.getElem?_eq_some_iff.mp a
 obtain ⟨h2,e2⟩:=List.getElem?_eq_some_iff.mp b
 exact (List.getElem_inj hN).mp (e1.trans e2.symm)
end L2
namespace L2
open PySem PySem.Spec PyProof.Rows
open PySem.W (WData Codec OpenSpec Well WellAll ReadsW ReadsAllW)
mutual
inductive Dw(K:PySem.W.Frag)(H:Hp):V→WData→Prop
 | non:Dw K H .non .none
 | bl (b:Bool):Dw K H (.bl b) (.bool b)
 | int (i:Int):Dw K H (.int i) (.int i)
 | str (x:Str):Dw K H (.str x) (.str x)
 | byt (b:Array UInt8):Dw K H (.byt b) (.bytes b.toList)
 | lst {a:Addr} {xs:List V} {ds:List WData}:SqL K H a xs→eV K H xs ds→Dw K H (.ref a) (.list ds)
 | tup {a:Addr} {xs:List V} {ds:List WData}:SqT K H a xs→eV K H xs ds→Dw K H (.ref a) (.tuple ds)
inductive eV(K:PySem.W.Frag)(H:Hp):List V→List WData→Prop
 | nil:eV K H [] []
 | cons {v:V} {vs:List V} {d:WData} {ds:List WData}:Dw K H v d→eV K H vs ds→eV K H (v :: vs) (d :: ds)
end
theorem dw_ints{K:PySem.W.Frag}{H:Hp}:∀ ns:List Int,eV K H (ns.map V.int) (ns.map WData.int)
 | [] =>.nil
 | n :: r=>.cons (.int n) (dw_ints r)
theorem ints_dw{K:PySem.W.Frag}{H:Hp}:∀ (ns:List Int) (xs:List V),eV K H xs (ns.map WData.int)→xs=ns.map V.int
 | [],xs,h=>by
  cases h
  rfl
 | n :: r,xs,h=>by
  cases h with
  | cons h1 h2=>
   cases h1
   rw [ints_dw r _ h2] <;> rfl
section
variable{P:Program}{w:World}{K:PySem.W.Frag}{H:Hp}{h:Heap}{R:PySem.W.WRecords}{cl:Str→Option Addr}
theorem sqL_at{a:Addr}{xs:List V}(hok:HOk P w H h)(KX:K.In h)(q:SqL K H a xs):∃ (its:List Value) (o:Obj) (n:Nat),aR xs its∧h.get? a=some o∧o.cls = .type "list" ∧ o.data = .seq its.toArray n:=by
 rcases q with q | ⟨o,its,n,e,hc,_,hd,_,hv⟩
 ·obtain ⟨_,its,n,hv,e⟩:=(show be P w H h a (.lst xs) from q.ok hok)
  exact ⟨its,_,n,hv,e,rfl,rfl⟩
 ·exact ⟨its.toList,o,n,hv,KX _ _ e,hc,by simp [hd]⟩
theorem sqT_at{a:Addr}{xs:List V}(hok:HOk P w H h)(KX:K.In h)(q:SqT K H a xs):∃ (its:List Value) (o:Obj) (n:Nat),aR xs its∧h.get? a=some o∧o.cls = .type "tuple" ∧ o.data = .seq its.toArray n:=by
 rcases q with q | ⟨o,its,n,e,hc,hd,_,hv⟩
 ·obtain ⟨_,its,hv,o,e,hc,n,hd⟩:=(show be P w H h a (.tup xs) from q.ok hok)
  exact ⟨its,o,n,hv,e,hc,hd⟩
 ·exact ⟨its.toList,o,n,hv,KX _ _ e,hc,by simp [hd]⟩
mutual
theorem Dw.reads(hok:HOk P w H h)(KX:K.In h):∀ (d:WData) (v:V) (u:Value),Dw K H v d→b6 v u→∃ as,ReadsW R cl h u d as
 | .none,_,_,x,r=>by
  cases x
  cases r
  exact ⟨_,ReadsW.none⟩
 | .bool b,_,_,x,r=>by
  cases x
  cases r
  exact ⟨_,ReadsW.bool b⟩
 | .int i,_,_,x,r=>by
  cases x
  obtain ⟨t,rfl⟩:=r
  exact ⟨_,ReadsW.int i t⟩
 | .str s,_,_,x,r=>by
  cases x
  obtain ⟨t,rfl⟩:=r
  exact ⟨_,ReadsW.str s t⟩
 | .bytes b,_,_,x,r=>by
  cases x
  obtain ⟨t,rfl⟩:=r
  exact ⟨_,ReadsW.bytes _ t⟩
 | .list ds,_,_,x,r=>by
  cases x with
  | lst hs ha=>
   cases r
   obtain ⟨its,o,n,rv,ho,hc,hd⟩:=sqL_at hok KX hs
   obtain ⟨as,hr⟩:=Dw.readsAll hok KX ds _ its ha rv
   exact ⟨_,ReadsW.list ho hc hd hr⟩
 | .tuple ds,_,_,x,r=>by
  cases x with
  | tup hs ha=>
   cases r
   obtain ⟨its,o,n,rv,ho,hc,hd⟩:=sqT_at hok KX hs
   obtain ⟨as,hr⟩:=Dw.readsAll hok KX ds _ its ha rv
   exact ⟨_,ReadsW.tuple ho hc hd hr⟩
 | .float _,_,_,x,_=>by cases x
 | .dict _,_,_,x,_=>by cases x
 | .bytearray _,_,_,x,_=>by cases x
 | .set _,_,_,x,_=>by cases x
 | .frozenset _,_,_,x,_=>by cases x
 | .obj _ _,_,_,x,_=>by cases x
theorem Dw.readsAll(hok:HOk P w H h)(KX:K.In h):∀ (ds:List WData) (vs:List V) (us:List Value),eV K H vs ds→aR vs us→∃ as,ReadsAllW R cl h us ds as
 | [],_,_,x,r=>by
  cases x
  cases r
  exact ⟨_,ReadsAllW.nil⟩
 | d :: ds,_,_,x,r=>by
  cases x with
  | cons h1 h2=>
   cases r with
   | cons r1 r2=>
    obtain ⟨as,q1⟩:=Dw.reads hok KX d _ _ h1 r1
    obtain ⟨bs,q2⟩:=Dw.readsAll hok KX ds _ _ h2 r2
    exact ⟨_,ReadsAllW.cons q1 q2⟩
end
end
mutual
def plW:WData→Bool
 | .none=>true
 | .bool _=>true
 | .int _=>true
 | .str _=>true
 | .bytes _=>true
 | .list xs=>iP xs
 | .tuple xs=>iP xs
 | _=>false
def iP:List WData→Bool
 | [] =>true
 | x :: r=>plW x && iP r
end
theorem mT{α : Type}{f : α→WData}(h:∀ a,plW (f a)=true):∀ l:List α,iP (l.map f)=true
 | [] =>rfl
 | x :: r=>by
  show (plW (f x) && iP (r.map f))=true
  rw [h x,mT h r] <;> rfl
theorem fG:∀ (c:Codec) (a:c.denote),plW (c.enc a)=true
 | .unit,_=>rfl
 | .bool,_=>rfl
 | .int _ _,_=>rfl
 | .nat _ _,_=>rfl
 | .u8,_=>rfl
 | .bytes _ _,_=>rfl
 | .text _ _ _ _,_=>rfl
 | .list _ _ c,a=>mT (fun x=>fG c x) a
 | .pair c d,a=>by
  show (plW (c.enc a.1) && (plW (d.enc a.2) && true))=true
  rw [fG c a.1,fG d a.2] <;> rfl
 | .triple c d e,a=>by
  show (plW (c.enc a.1) && (plW (d.enc a.2.1) && (plW (e.enc a.2.2) && true)))=true
  rw [fG c a.1,fG d a.2.1,fG e a.2.2] <;> rfl
 | .option c,none=>rfl
 | .option c,some x=>fG c x
theorem l7:∀ (cs:List Codec) (a:Codec.denoteAll cs),iP (Codec.encAll cs a)=true
 | [],_=>rfl
 | c :: cs,a=>by
  show (plW (c.enc a.1) && iP (Codec.encAll cs a.2))=true
  rw [fG c a.1,l7 cs a.2] <;> rfl
theorem g8:∀ {xs:List WData} {d:WData},d∈xs→d.weight≤WData.weightAll xs
 | [],d,h=>absurd h (by simp)
 | x :: r,d,h=>by
  show d.weight≤x.weight + 1 + WData.weightAll r
  rcases List.mem_cons.mp h with e | m
  ·rw [e]
   omega
  ·have z:=g8 m
   omega
def toV:Value→V
 | .none=>.non
 | .bool b=>.bl b
 | .int i _=>.int i
 | .str x _=>.str x
 | .bytes b _=>.byt b
 | .ref a=>.ref a
 | _=>.non
def OkU(A:List Addr):Value→Prop
 | .none=>True
 | .bool _=>True
 | .int _ _=>True
 | .str _ _=>True
 | .bytes _ _=>True
 | .ref a=>a∈A
 | _=>False
theorem OkU.mono{A B:List Addr}(h:∀ a∈A,a∈B):∀ {u:Value},OkU A u→OkU B u:=fun {u} x=>by
 cases u with
 | ref a=>exact h a x
 | none=>trivial
 | bool b=>trivial
 | int i t=>trivial
 | str s t=>trivial
 | bytes b t=>trivial
 | _=>exact False.elim x
theorem relV_toV{A:List Addr}{u:Value}(x:OkU A u):b6 (toV u) u:=by
 cases u with
 | ref a=>rfl
 | none=>rfl
 | bool b=>rfl
 | int i t=>exact ⟨t,rfl⟩
 | str s t=>exact ⟨t,rfl⟩
 | bytes b t=>exact ⟨t,rfl⟩
 | _=>exact False.elim x
theorem dU{A:List Addr}:∀ {vs:List Value},(∀ u∈vs,OkU A u)→aR (vs.map toV) vs
 | [],_=>.nil
 | u :: r,h=>.cons (relV_toV (h u (List.mem_cons_self ..))) (dU fun x hx=>h x (List.mem_cons_of_mem _ hx))
def eM(h:Heap)(A:List Addr)(a:Addr):Prop:=∃ vs:List Value,vs.length≤sizeLine∧(∀ u∈vs,OkU A u) ∧
 (h.get? a=some { cls:=.type "list",data:=.seq vs.toArray }∨h.get? a=some { cls:=.type "tuple",data:=.seq vs.toArray })
theorem eM.mono{h:Heap}{A B:List Addr}{a:Addr}(k:∀ a∈A,a∈B)(x:eM h A a):eM h B a:=by
 obtain ⟨vs,h1,h2,h3⟩:=x
 exact ⟨vs,h1,fun u hu=>(h2 u hu).mono k,h3⟩
theorem dB{P:Params}{h:Heap}:∀ {vs:List Value} {ds:List WData},WellAll P h vs ds→vs.length=ds.length
 | _,_,.nil=>rfl
 | _,_,.cons _ b=>by
  show _ + 1=_ + 1
  rw [dB b]
theorem lf{P:Params}{h:Heap}{v:Value}{ds:List WData}(x:Well P h v (.list ds)):∃ (a:Addr) (vs:List Value),v = .ref a∧h.get? a=some { cls:=.type "list",data:=.seq vs.toArray }∧WellAll P h vs ds:=by
 cases x with
 | list ho hall=>exact ⟨_,_,rfl,ho,hall⟩
theorem k0{P:Params}{h:Heap}{v:Value}{ds:List WData}(x:Well P h v (.tuple ds)):∃ (a:Addr) (vs:List Value),v = .ref a∧h.get? a=some { cls:=.type "tuple",data:=.seq vs.toArray }∧WellAll P h vs ds:=by
 cases x with
 | tuple ho hall=>exact ⟨_,_,rfl,ho,hall⟩
theorem lp{P:Params}{h:Heap}{us:List Value}{d:WData}{ds:List WData}(x:WellAll P h us (d :: ds)):∃ (v:Value) (vs:List Value),us=v :: vs∧Well P h v d∧WellAll P h vs ds:=by
 cases x with
 | cons a b=>exact ⟨_,_,rfl,a,b⟩
theorem pU{n:Nat}(h:n≤1048576):n≤sizeLine:=Nat.le_trans h (by decide)
section
variable{P:Params}{h:Heap}
mutual
theorem area_one:∀ (d:WData) (v:Value),Well P h v d→plW d=true→d.weight≤1048576→∃ A:List Addr,OkU A v∧∀ a∈A,eM h A a
 | .none,_,x,_,_=>by
  cases x
  exact ⟨[],trivial,fun a m=>absurd m (by simp)⟩
 | .bool b,_,x,_,_=>by
  cases x
  exact ⟨[],trivial,fun a m=>absurd m (by simp)⟩
 | .int i,_,x,_,_=>by
  cases x
  exact ⟨[],trivial,fun a m=>absurd m (by simp)⟩
 | .str s,_,x,_,_=>by
  cases x
  exact ⟨[],trivial,fun a m=>absurd m (by simp)⟩
 | .bytes b,_,x,_,_=>by
  cases x
  exact ⟨[],trivial,fun a m=>absurd m (by simp)⟩
 | .list ds,_,x,p,z=>by
  obtain ⟨a,vs,rfl,ho,hall⟩:=lf x
  have z2:WData.weightAll ds≤1048576:=z
  obtain ⟨A,h1,h2⟩:=gy ds _ hall p fun d hd=>Nat.le_trans (g8 hd) z2
  have k:∀ b∈A,b∈a :: A:=fun b hb=>List.mem_cons_of_mem _ hb
  refine ⟨a :: A,List.mem_cons_self ..,fun b hb=> ?_⟩
  rcases List.mem_cons.mp hb with e | m
  ·rw [e]
   exact ⟨vs,pU (by rw [dB hall];exact Nat.le_trans (PySem.W.length_le_weightAllW ds) z2),fun u hu=>(h1 u hu).mono k,.inl ho⟩
  ·exact (h2 b m).mono k
 | .tuple ds,_,x,p,z=>by
  obtain ⟨a,vs,rfl,ho,hall⟩:=k0 x
  have z2:WData.weightAll ds≤1048576:=z
  obtain ⟨A,h1,h2⟩:=gy ds _ hall p fun d hd=>Nat.le_trans (g8 hd) z2
  have k:∀ b∈A,b∈a :: A:=fun b hb=>List.mem_cons_of_mem _ hb
  refine ⟨a :: A,List.mem_cons_self ..,fun b hb=> ?_⟩
  rcases List.mem_cons.mp hb with e | m
  ·rw [e]
   exact ⟨vs,pU (by rw [dB hall];exact Nat.le_trans (PySem.W.length_le_weightAllW ds) z2),fun u hu=>(h1 u hu).mono k,.inr ho⟩
  ·exact (h2 b m).mono k
 | .float _,_,_,p,_=>Bool.noConfusion (show false=true from p)
 | .dict _,_,_,p,_=>Bool.noConfusion (show false=true from p)
 | .bytearray _,_,_,p,_=>Bool.noConfusion (show false=true from p)
 | .set _,_,_,p,_=>Bool.noConfusion (show false=true from p)
 | .frozenset _,_,_,p,_=>Bool.noConfusion (show false=true from p)
 | .obj _ _,_,_,p,_=>Bool.noConfusion (show false=true from p)
theorem gy:∀ (ds:List WData) (vs:List Value),WellAll P h vs ds→iP ds=true→(∀ d∈ds,d.weight≤1048576)→∃ A:List Addr,(∀ u∈vs,OkU A u)∧∀ a∈A,eM h A a
 | [],_,x,_,_=>by
  cases x
  exact ⟨[],fun u m=>absurd m (by simp),fun a m=>absurd m (by simp)⟩
 | d :: ds,_,x,p,z=>by
  obtain ⟨v,vs,rfl,x1,x2⟩:=lp x
  have q:plW d=true∧iP ds=true:=Bool.and_eq_true_iff.mp p
  obtain ⟨A,a1,a2⟩:=area_one d v x1 q.1 (z d (List.mem_cons_self ..))
  obtain ⟨B,b1,b2⟩:=gy ds vs x2 q.2 fun e he=>z e (List.mem_cons_of_mem _ he)
  have kA:∀ b∈A,b∈A ++ B:=fun b hb=>List.mem_append.mpr (.inl hb)
  have kB:∀ b∈B,b∈A ++ B:=fun b hb=>List.mem_append.mpr (.inr hb)
  refine ⟨A ++ B,fun u hu=> ?_,fun b hb=> ?_⟩
  ·rcases List.mem_cons.mp hu with e | m
   ·rw [e]
    exact a1.mono kA
   ·exact (b1 u m).mono kB
  ·rcases List.mem_append.mp hb with m | m
   ·exact (a2 b m).mono kA
   ·exact (b2 b m).mono kB
end
end
def hoOf(o:Obj):Option HO:=match o.data with
 | .seq vs _=>if (o.cls == Value.type "list")=true then some (.frz o (.lst (vs.toList.map toV))) else some (.frz o (.tup (vs.toList.map toV)))
 | _=>none
def dZ(K:PySem.W.Frag)(h:Heap)(A:List Addr):Hp:=fun b=>if b∈A then (if (K.lookup b).isNone=true then (h.get? b).bind hoOf else none) else none
theorem n0(vs:List Value):hoOf { cls:=.type "list",data:=.seq vs.toArray } = some (.frz { cls:=.type "list",data:=.seq vs.toArray } (.lst (vs.map toV))):=by
 show (if (Value.type "list" == Value.type "list")=true then some (HO.frz { cls:=.type "list",data:=.seq vs.toArray } (.lst (vs.toArray.toList.map toV))) else some (HO.frz { cls:=.type "list",data:=.seq vs.toArray } (.tup (vs.toArray.toList.map toV))))=_
 rw [if_pos (beq_self_eq_true _)]
theorem nt(vs:List Value):hoOf { cls:=.type "tuple",data:=.seq vs.toArray } = some (.frz { cls:=.type "tuple",data:=.seq vs.toArray } (.tup (vs.map toV))):=by
 show (if (Value.type "tuple" == Value.type "list")=true then some (HO.frz { cls:=.type "tuple",data:=.seq vs.toArray } (.lst (vs.toArray.toList.map toV))) else some (HO.frz { cls:=.type "tuple",data:=.seq vs.toArray } (.tup (vs.toArray.toList.map toV))))=_
 rw [if_neg (by decide)]
section
variable{P:Program}{w:World}{K:PySem.W.Frag}{h:Heap}{A:List Addr}
theorem jj{b:Addr}{o:Obj}(hb:b∈A)(hk:K.lookup b=none)(e:h.get? b=some o):dZ K h A b=hoOf o:=by
 unfold dZ
 rw [if_pos hb,hk,if_pos (show (none:Option Obj).isNone=true from rfl),e] <;> rfl
theorem of_argH{b:Addr}{u:HO}(q:dZ K h A b=some u):b∈A∧K.lookup b=none:=by
 unfold dZ at q
 by_cases hb:b∈A
 ·rw [if_pos hb] at q
  cases hk:K.lookup b with
  | none=>exact ⟨hb,rfl⟩
  | some o=>
   rw [hk,if_neg (by simp)] at q
   cases q
 ·rw [if_neg hb] at q
  cases q
theorem jn(ar:∀ a∈A,eM h A a){b:Addr}{u:HO}(q:dZ K h A b=some u):K.lookup b=none∧∃ vs:List Value,vs.length≤sizeLine∧(∀ u∈vs,OkU A u) ∧
  ((h.get? b=some { cls:=.type "list",data:=.seq vs.toArray }∧u = .frz { cls:=.type "list",data:=.seq vs.toArray } (.lst (vs.map toV))) ∨
   (h.get? b=some { cls:=.type "tuple",data:=.seq vs.toArray }∧u = .frz { cls:=.type "tuple",data:=.seq vs.toArray } (.tup (vs.map toV)))):=by
 obtain ⟨hb,hk⟩:=of_argH q
 obtain ⟨vs,h1,h2,h3⟩:=ar b hb
 refine ⟨hk,vs,h1,h2,?_⟩
 rcases h3 with e | e
 ·rw [jj hb hk e,n0] at q
  exact .inl ⟨e,(Option.some.inj q).symm⟩
 ·rw [jj hb hk e,nt] at q
  exact .inr ⟨e,(Option.some.inj q).symm⟩
theorem argH_ok(ar:∀ a∈A,eM h A a):HOk P w (dZ K h A) h:=fun b u q=>by
 obtain ⟨_,vs,h1,h2,⟨e,rfl⟩ | ⟨e,rfl⟩⟩:=jn ar q
 ·exact ⟨e,by rw [List.length_map];exact h1,vs,_,dU h2,e⟩
 ·exact ⟨e,by rw [List.length_map];exact h1,vs,dU h2,_,e,rfl,_,rfl⟩
theorem jo{c c':Value}{vs us:List Value}(e:(some { cls:=c,data:=.seq vs.toArray }:Option Obj)=some { cls:=c',data:=.seq us.toArray }):c=c'∧vs=us:=by
 have e1:=Option.some.inj e
 have e2:c=c':=congrArg Obj.cls e1
 have e3:Data.seq vs.toArray=Data.seq us.toArray:=congrArg Obj.data e1
 injection e3 with e4
 refine ⟨e2,?_⟩
 have e5:=congrArg Array.toList e4
 simpa using e5
theorem argL(KX:K.In h)(ar:∀ a∈A,eM h A a){a:Addr}{vs:List Value}(ha:a∈A)(e:h.get? a=some { cls:=.type "list",data:=.seq vs.toArray }):(∀ u∈vs,OkU A u)∧SqL K (dZ K h A) a (vs.map toV):=by
 obtain ⟨us,h1,h2,h3⟩:=ar a ha
 have hu:us=vs:=by
  rcases h3 with q | q
  ·rw [e] at q
   exact (jo q).2.symm
  ·rw [e] at q
   exact absurd (Value.type.inj (jo q).1) (by decide)
 subst hu
 refine ⟨h2,?_⟩
 cases hk:K.lookup a with
 | none=>exact .inl (.inr ⟨_,by rw [jj ha hk e,n0]⟩)
 | some o=>
  have e2:=KX a o hk
  rw [e] at e2
  obtain rfl:=Option.some.inj e2
  exact .inr ⟨_,us.toArray,_,hk,rfl,rfl,rfl,by rw [List.size_toArray];exact h1,by simpa using dU h2⟩
theorem argT(KX:K.In h)(ar:∀ a∈A,eM h A a){a:Addr}{vs:List Value}(ha:a∈A)(e:h.get? a=some { cls:=.type "tuple",data:=.seq vs.toArray }):(∀ u∈vs,OkU A u)∧SqT K (dZ K h A) a (vs.map toV):=by
 obtain ⟨us,h1,h2,h3⟩:=ar a ha
 have hu:us=vs:=by
  rcases h3 with q | q
  ·rw [e] at q
   exact absurd (Value.type.inj (jo q).1) (by decide)
  ·rw [e] at q
   exact (jo q).2.symm
 subst hu
 refine ⟨h2,?_⟩
 cases hk:K.lookup a with
 | none=>exact .inl (.inr ⟨_,by rw [jj ha hk e,nt]⟩)
 | some o=>
  have e2:=KX a o hk
  rw [e] at e2
  obtain rfl:=Option.some.inj e2
  exact .inr ⟨_,us.toArray,_,hk,rfl,rfl,by rw [List.size_toArray];exact h1,by simpa using dU h2⟩
mutual
theorem dw_one{Pm:Params}(KX:K.In h)(ar:∀ a∈A,eM h A a):∀ (d:WData) (v:Value),Well Pm h v d→plW d=true→OkU A v→Dw K (dZ K h A) (toV v) d
 | .none,_,x,_,_=>by
  cases x
  exact .non
 | .bool b,_,x,_,_=>by
  cases x
  exact .bl b
 | .int i,_,x,_,_=>by
  cases x
  exact .int i
 | .str s,_,x,_,_=>by
  cases x
  exact .str s
 | .bytes b,_,x,_,_=>by
  cases x
  have z:=Dw.byt (K:=K) (H:=dZ K h A) b.toArray
  exact z
 | .list ds,_,x,p,hu=>by
  obtain ⟨a,vs,rfl,ho,hall⟩:=lf x
  obtain ⟨h2,hs⟩:=argL KX ar hu ho
  exact .lst hs (my KX ar ds _ hall p h2)
 | .tuple ds,_,x,p,hu=>by
  obtain ⟨a,vs,rfl,ho,hall⟩:=k0 x
  obtain ⟨h2,hs⟩:=argT KX ar hu ho
  exact .tup hs (my KX ar ds _ hall p h2)
 | .float _,_,_,p,_=>Bool.noConfusion (show false=true from p)
 | .dict _,_,_,p,_=>Bool.noConfusion (show false=true from p)
 | .bytearray _,_,_,p,_=>Bool.noConfusion (show false=true from p)
 | .set _,_,_,p,_=>Bool.noConfusion (show false=true from p)
 | .frozenset _,_,_,p,_=>Bool.noConfusion (show false=true from p)
 | .obj _ _,_,_,p,_=>Bool.noConfusion (show false=true from p)
theorem my{Pm:Params}(KX:K.In h)(ar:∀ a∈A,eM h A a):∀ (ds:List WData) (vs:List Value),WellAll Pm h vs ds→iP ds=true→(∀ u∈vs,OkU A u)→eV K (dZ K h A) (vs.map toV) ds
 | [],_,x,_,_=>by
  cases x
  exact .nil
 | d :: ds,_,x,p,hu=>by
  obtain ⟨v,vs,rfl,x1,x2⟩:=lp x
  have q:plW d=true∧iP ds=true:=Bool.and_eq_true_iff.mp p
  exact .cons (dw_one KX ar d v x1 q.1 (hu _ (List.mem_cons_self ..))) (my KX ar ds vs x2 q.2 fun u m=>hu u (List.mem_cons_of_mem _ m))
end
end
theorem k6{ds:List WData}(h:WData.layableAll ds=true):∀ d∈ds,d.weight≤1048576:=fun d hd=>
 (PySem.W.layableW_iff.mp (List.all_eq_true.mp h d hd)).2.2
theorem jZ:∀ (cs:List Codec) (a:Codec.denoteAll cs),(Codec.encAll cs a).length=cs.length
 | [],_=>rfl
 | c :: cs,a=>by
  show (Codec.encAll cs a.2).length + 1=cs.length + 1
  rw [jZ cs a.2]
end L2
namespace L2
open PySem PySem.Spec PyProof.Rows
def gg(ns:List Int):List Int:=ns.foldl step_dedup []
theorem pz(ns:List Int):(List.range ns.length).map (fun i=>ns.getD i 0)=ns:=by
 apply List.ext_getElem
 ·simp
 ·intro i h1 h2
  simp [List.getElem?_eq_getElem h2]
theorem iV(ns:List Int):firstMet (fun i=>ns.getD i 0) ns.length=gg ns:=by
 unfold firstMet gg
 rw [pz]
section
variable{X:Cx}
def rSet(K:PySem.W.Frag):List V→Hp→VK→Prop:=fun xs H Q=>∃ (a:Addr) (ns:List Int),xs=[.ref a]∧SqL K H a (ns.map V.int)∧ns.length < 4000∧∀ p S,H p=none→Q (.ref p) (upd H p (.set S (gg ns).length))
theorem cr_setI(hc:X.calm=true):bX X (.type "set") (rSet X.K):=by
 intro pins s σ H xs us Q I r h
 obtain ⟨a,ns,rfl,hq,hz,q⟩:=h
 obtain ⟨u,rfl,rx⟩:=iF r
 cases rx
 obtain ⟨its,r',pl,hl⟩:=I.list hq
 have hi:=aR.ints r'
 have hlen:its.length=ns.length:=IntsAre.length hi
 refine call_set_list (items:=its.toArray) (ns:=ns) (I.ok.hd hc) pl.isList (by simpa using hi) (by simp only [List.size_toArray];unfold scanBound;omega) fun h' tk hS hk=> ?_
 have e1:its.toArray.size=ns.length:=by simp [hlen]
 rw [e1,iV] at hS
 refine ⟨.ref s.heap.objs.size,_,I.laid (t':=tk) (o:=.set (fun k'=>(gg ns).any fun x=>x == k') (gg ns).length) (fun b o e=>hk b o (Heap.lt_size e) e) (Nat.le_refl _) ?_,rfl,q _ _ (I.hok.fresh (Nat.le_refl _))⟩
 exact hS
def qe:List V→Hp→VK→Prop:=fun xs H Q=>∃ (a:Addr) (S:Int→Bool) (n:Nat),xs=[.ref a]∧H a=some (.set S n)∧(n:Int) < 2 ^ 63∧Q (.int n) H
theorem qr:bX X (.builtin "len") qe:=by
 intro pins s σ H xs us Q I r h
 obtain ⟨a,S,n,rfl,ha,hz,q⟩:=h
 obtain ⟨u,rfl,rx⟩:=iF r
 cases rx
 have hS:s.heap.SetOf (intKind X.prog X.w) a S n:=I.hok a _ ha
 obtain ⟨o,ho,hex,es,ep,t,hd,_,_,hn,hf⟩:=hS.objOf
 refine call_len_set ho hex hd hf (by rw [hn];exact hz) ?_
 refine ⟨.int n,H,I.tok _,⟨_,by rw [hn]⟩,q⟩
def pH:List V→Hp→VK→Prop:=fun xs H Q=>∃ i j:Int,xs=[.int i,.int j]∧∀ p,H p=none→Q (.ref p) (upd H p (.rng i j))
theorem qx:bX X (.type "range") pH:=by
 intro pins s σ H xs us Q I r h
 obtain ⟨i,j,rfl,q⟩:=h
 obtain ⟨u,v,rfl,⟨t,rfl⟩,⟨t',rfl⟩⟩:=vals2 r
 refine call_range_2 ?_
 refine ⟨.ref s.heap.objs.size,_,I.laid (o:=.rng i j) (fun b o e=>Heap.get?_push_of_some _ e) (Nat.le_refl _) ?_,rfl,q _ (I.hok.fresh (Nat.le_refl _))⟩
 exact ⟨_,_,_,Heap.get?_push_size _ rfl⟩
def i4(lo:Int)(n:Nat):List Int:=(List.range n).map fun i=>lo + (i:Nat)
def mQ:List V→Hp→VK→Prop:=fun xs H Q=>∃ (p:Addr) (lo hi:Int),xs=[.ref p]∧H p=some (.rng lo hi)∧(-(2 ^ 62)≤lo∧lo < 2 ^ 62 ∧ -(2 ^ 62)≤hi∧hi < 2 ^ 62)∧(hi - lo).toNat≤1000 ∧
 ∀ l,H l=none→Q (.ref l) (upd H l (.lst ((i4 lo (hi - lo).toNat).map V.int)))
theorem vals_upto{lo:Int}:∀ {n:Nat} {acc:Array Value},ItemsOf (fun i v=>∃ t,v = .int (lo + i * 1) t) acc n→aR ((i4 lo n).map V.int) acc.toList:=by
 intro n acc h
 have hg:∀ (xs:List V) (us:List Value),xs.length=us.length→(∀ (i:Nat) x u,xs[i]? = some x→us[i]? = some u→b6 x u)→aR xs us:=by
  intro xs
  induction xs with
  | nil=>intro us hl _;cases us with
   | nil=>exact .nil
   | cons=>cases hl
  | cons x xs ih=>intro us hl hh;cases us with
   | nil=>cases hl
   | cons u us=>exact .cons (hh 0 x u rfl rfl) (ih us (by simpa using hl) fun i x' u' a b=>hh (i + 1) x' u' (by simpa using a) (by simpa using b))
 refine hg _ _ (by simp [i4,h.1]) fun i x u hx hu=> ?_
 obtain ⟨t,rfl⟩:=h.2 i u (by simpa using hu)
 simp only [i4,List.map_map,List.getElem?_map,Option.map_eq_some_iff] at hx
 obtain ⟨j,hj,rfl⟩:=hx
 have:j=i:=by
  rw [List.getElem?_range] at hj
  ·exact (Option.some.inj hj).symm
  ·have:=(List.getElem?_eq_some_iff.mp hj).1
   simpa using this
 subst this
 exact ⟨t,by simp [Function.comp]⟩
theorem oJ(hc:X.calm=true):bX X (.type "list") mQ:=by
 intro pins s σ H xs us Q I r h
 obtain ⟨p,lo,hi,rfl,hp,⟨h1,h2,h3,h4⟩,hz,q⟩:=h
 obtain ⟨u,rfl,rx⟩:=iF r
 cases rx
 obtain ⟨t,u,v,ho⟩:∃ t u v,s.heap.get? p=some { cls:=.type "range",data:=.fields #[.int lo t,.int hi u,.int 1 v] }:=I.hok p _ hp
 have hn:Builtin.Range.rangeSize lo hi 1=(((hi - lo).toNat:Nat):Int):=by rw [rangeSize_one];split <;> omega
 refine call_list_range (I.ok.hd hc) (show IsRange s.heap p lo hi 1 t u v from ho) (small_one h1 h2 h3 h4) hn (by omega) fun h' tk acc c hk hD hI=> ?_
 refine ⟨.ref s.heap.objs.size,_,I.laid (t':=tk) (o:=.lst ((i4 lo (hi - lo).toNat).map V.int)) hk (Nat.le_refl _) ?_,rfl,q _ (I.hok.fresh (Nat.le_refl _))⟩
 refine ⟨?_,acc.toList,c,vals_upto hI,by simpa using hD⟩
 simp only [i4,List.length_map,List.length_range]
 rw [sizeLine_eq]
 omega
end
def ca:HO→Bool
 | .dT _=>false
 | .frz _ u=>ca u
 | _=>true
def bA(H:Hp):Prop:=∀ a o,H a=some o→ca o=true
theorem bA.upd{H:Hp}(h:bA H){a:Addr}{o:HO}(ho:ca o=true):bA (upd H a o):=fun b u e=>by
 by_cases hb:b=a
 ·subst hb;rw [a9] at e;cases e;exact ho
 ·rw [af hb] at e;exact h b u e
theorem be.back{P:Program}{w:World}{H H':Hp}{h h':Heap}{a:Addr}:∀ {o:HO},ca o=true→be P w H h a o→be P w H' h' a o→be P w H h' a o
 | .lst _,_,_,x=>x
 | .tup _,_,_,x=>x
 | .dK _,_,_,x=>x
 | .dT _,n,_,_=>Bool.noConfusion (show false=true from n)
 | .set _ _,_,_,x=>x
 | .ins _ _ _,_,e,x=>⟨e.1,x.2⟩
 | .own _,_,_,x=>x
 | .xd _,_,_,x=>x
 | .rng _ _,_,_,x=>x
 | .frz _ u,n,e,x=>⟨x.1,be.back (o:=u) n e.2 x.2⟩
 | .tbl _,_,_,x=>x
 | .met _ _,_,_,x=>x
 | .ext _,_,_,x=>x
theorem Un.back{fs ex:List Addr}{H H':Hp}{h h':Heap}(u:Un fs ex H H' h h'):Un fs ex H H h h':=
 ⟨u.keep,u.slot,fun _ _ _ q _=>q,u.there,fun _ _ q=>q,fun _ _ _ q=>q,fun _ ps q=>⟨#[],by simpa using q⟩⟩
theorem eI.ro{P:Program}{w:World}{K:PySem.W.Frag}{mg:Str→Option Value}{base:Heap}{k:Nat}{f:Addr}{fd:FuncData}{ps:List Str}{pre:List V→Hp→V→Prop}
  (F:eI P w K mg base CX0 k f fd ps (fun vs H Q _=>∃ r,pre vs H r∧∀ H',bD H H'→Q r H')) (hp:∀ vs H r,pre vs H r→bA H) :
  eI P w K mg base CX0 k f fd ps (fun vs H Q _=>∃ r,pre vs H r∧Q r H) where
 len:=fun vs H Q E h=>by
  obtain ⟨r,h1,h2⟩:=h
  exact F.len vs H (fun _ _=>True) E ⟨r,h1,fun _ _=>trivial⟩
 run:=fun A outer s H args us vs Q E hr he hb hv h=>by
  obtain ⟨r,h1,h2⟩:=h
  refine codeAny_mono (F.run A outer s H args us vs (fun v H'=>v=r∧bD H H') E hr he hb hv ⟨r,h1,fun H' q=>⟨rfl,q⟩⟩) fun res s' hq=> ?_
  cases res with
  | error e=>exact hq
  | ok fl=>
   cases fl with
   | ret u=>
    obtain ⟨v,H',os,bare,un,hok,rv,rfl,sm⟩:=hq
    exact ⟨v,H,os,bare,un.back,fun a o e=>be.back (hp _ _ _ h1 a o e) (he.hok a o e) (hok a o (sm a o e)),rv,h2⟩
   | next=>exact hq
   | brk=>exact hq
   | cont=>exact hq
def aF(K:PySem.W.Frag)(mg:Str→Option Value)(x:Str)(st:Stmt)(ps:List Str):Prop:=
 ∃ (f:Addr) (fd:FuncData),Fun K x x st f fd∧mg x=some (.ref f)∧dc K fd ps []
def Can(P:Program)(w:World)(K:PySem.W.Frag)(mg:Str→Option Value)(base:Heap)(k:Nat)(x:Str)(ps:List Str)(sp:Sp):Prop:=
 ∃ (f:Addr) (fd:FuncData),eI P w K mg base CX0 k f fd ps sp∧mg x=some (.ref f)∧PySem.W.keepIn K (.ref f)=true∧dc K fd ps []
section
variable{P:Program}{w:World}{K:PySem.W.Frag}{mg:Str→Option Value}{base:Heap}
theorem ay{x:Str}{st:Stmt}{N ps:List Str}{k:Nat}{sp:Sp}(T:aF K mg x st ps)(S:au N ps (ah st))(len:∀ vs H Q E,sp vs H Q E→vs.length=ps.length)
  (hbody:∀ (f:Addr) (cdv:Value) (A:Around) (outer:List Env) (s:Shared) (H:Hp) (vs:List V) (Q:VK) (E:XK),bW k (A.deeper (envOfC x (ah st) s.heap.objs.size f cdv))→sp vs H Q E →
   ∃ t,PSs (lX CX0 P w K mg base N x (ah st) f cdv A outer s H E).nox (bt st) t∧t { nx:=fun _ H'=>Q .non H',rt:=Q } (fm N vs) H):Can P w K mg base (k + 1) x ps sp:=by
 obtain ⟨f,fd,F,hm,hb⟩:=T
 exact ⟨f,fd,F.ok S len (hbody f),hm,F.kp,hb⟩
theorem cb{x:Str}{k:Nat}{ps:List Str}{pre:List V→Hp→V→Prop}(C:Can P w K mg base k x ps (fun vs H Q _=>∃ r,pre vs H r∧∀ H',bD H H'→Q r H'))(hp:∀ vs H r,pre vs H r→bA H) :
  Can P w K mg base k x ps (fun vs H Q _=>∃ r,pre vs H r∧Q r H):=by
 obtain ⟨f,fd,F,h⟩:=C
 exact ⟨f,fd,F.ro hp,h⟩
end
section
variable{X:Cx}{k:Nat}{x:Str}{ps:List Str}{sp:Sp}{e:Expr}{es:List Expr}{t:TA}{p pos:Pos}
theorem am(C:Can X.prog X.w X.K X.mg X.base k x ps sp)(hr:bW k X.A)(hg:Gl X x)(ha:PA X (e :: es) t)(hdb:(x == ("__debug__" : Str))=false:=by decide)
  (he:starEach (e :: es) X.env=(false,eval e X.env) :: starEach es X.env:=by rfl) (hpl:(backTo pos (starEach es X.env)).any (·.1)=false:=by rfl):PE X (.Call (.Name x p) (e :: es) [] pos) (nO sp [] E0 t):=by
 obtain ⟨f,fd,F,hm,hk,hb⟩:=C
 exact pe_call F hr hg hm hk hb .nil pJ ha hdb he hpl
def GlV(mg:Str→Option Value)(x:Str)(v:V):Prop:=∃ u,mg x=some u∧b6 v u
theorem aB{v:V}(G:GlV X.mg x v)(hg:Gl X x)(hd:(x == ("__debug__" : Str))=false:=by decide):PE X (.Name x pos) (tC v):=by
 obtain ⟨u,hm,r⟩:=G
 exact pM hg hm r hd
end
def gx(P:Program)(w:World)(K:PySem.W.Frag)(mg:Str→Option Value)(base:Heap)(k:Nat)(x:Str)(C:Addr)(ps:List Str)(sp:Sp):Prop:=
 ∃ (f:Addr) (fd:FuncData),Mk K C f∧eI P w K mg base CX0 k f fd ps sp∧mg x=some (.ref C)∧dc K fd ps []
section
variable{X:Cx}{k:Nat}{x:Str}{C:Addr}{ps:List Str}{sp:Sp}{e:Expr}{es:List Expr}{t:TA}{p pos:Pos}
theorem k7(M:gx X.prog X.w X.K X.mg X.base k x C ps sp)(hr:bW (k + 1) X.A)(hg:Gl X x)(ha:PA X (e :: es) t)(hdb:(x == ("__debug__" : Str))=false:=by decide)
  (he:starEach (e :: es) X.env=(false,eval e X.env) :: starEach es X.env:=by rfl) (hpl:(backTo pos (starEach es X.env)).any (·.1)=false:=by rfl):PE X (.Call (.Name x p) (e :: es) [] pos) (dO C sp [] E0 t):=by
 obtain ⟨f,fd,M,F,hm,hb⟩:=M
 exact pe_make M F hr hg hm hb .nil pJ ha hdb he hpl
theorem pe_mk0(M:gx X.prog X.w X.K X.mg X.base k x C ps sp)(hr:bW (k + 1) X.A)(hg:Gl X x)(hdb:(x == ("__debug__" : Str))=false:=by decide):PE X (.Call (.Name x p) [] [] pos) (dO C sp [] E0 ip):=by
 obtain ⟨f,fd,M,F,hm,hb⟩:=M
 exact pe_make0 M F hr hg hm hb .nil pJ hdb
end
def iK(K:PySem.W.Frag)(mg:Str→Option Value)(x:Str)(C:Addr)(qual:Str)(st:Stmt)(ps:List Str):Prop:=
 ∃ (f:Addr) (fd:FuncData),Mk K C f∧Fun K "__init__" qual st f fd∧mg x=some (.ref C)∧dc K fd ps []
def MeTxt(K:PySem.W.Frag)(C:Addr)(m qual:Str)(st:Stmt)(ps:List Str):Prop:=
 ∃ (f:Addr) (fd:FuncData),Meth K C m f∧Fun K m qual st f fd∧dc K fd ps []
def GlT(K:PySem.W.Frag)(mg:Str→Option Value)(x:Str)(xs:List V):Prop:=∃ a,mg x=some (.ref a)∧∀ H,SqT K H a xs
def CanMe(P:Program)(w:World)(K:PySem.W.Frag)(mg:Str→Option Value)(base:Heap)(k:Nat)(C:Addr)(m:Str)(ps:List Str)(sp:Sp):Prop:=
 ∃ (f:Addr) (fd:FuncData),Meth K C m f∧eI P w K mg base CX0 k f fd ps sp∧dc K fd ps []
section
variable{P:Program}{w:World}{K:PySem.W.Frag}{mg:Str→Option Value}{base:Heap}
theorem lw{x qual:Str}{C:Addr}{st:Stmt}{N ps:List Str}{k:Nat}{sp:Sp}(T:iK K mg x C qual st ps)(S:au N ps (ah st))(len:∀ vs H Q E,sp vs H Q E→vs.length=ps.length)
  (hbody:∀ (f:Addr) (cdv:Value) (A:Around) (outer:List Env) (s:Shared) (H:Hp) (vs:List V) (Q:VK) (E:XK),bW k (A.deeper (envOfC qual (ah st) s.heap.objs.size f cdv))→sp vs H Q E →
   ∃ t,PSs (lX CX0 P w K mg base N qual (ah st) f cdv A outer s H E).nox (bt st) t∧t { nx:=fun _ H'=>Q .non H',rt:=Q } (fm N vs) H):gx P w K mg base (k + 1) x C ps sp:=by
 obtain ⟨f,fd,M,F,hm,hb⟩:=T
 exact ⟨f,fd,M,F.ok S len (hbody f),hm,hb⟩
theorem me_of{m qual:Str}{C:Addr}{st:Stmt}{N ps:List Str}{k:Nat}{sp:Sp}(T:MeTxt K C m qual st ps)(S:au N ps (ah st))(len:∀ vs H Q E,sp vs H Q E→vs.length=ps.length)
  (hbody:∀ (f:Addr) (cdv:Value) (A:Around) (outer:List Env) (s:Shared) (H:Hp) (vs:List V) (Q:VK) (E:XK),bW k (A.deeper (envOfC qual (ah st) s.heap.objs.size f cdv))→sp vs H Q E →
   ∃ t,PSs (lX CX0 P w K mg base N qual (ah st) f cdv A outer s H E).nox (bt st) t∧t { nx:=fun _ H'=>Q .non H',rt:=Q } (fm N vs) H):CanMe P w K mg base (k + 1) C m ps sp:=by
 obtain ⟨f,fd,M,F,hb⟩:=T
 exact ⟨f,fd,M,F.ok S len (hbody f),hb⟩
end
section
variable{X:Cx}{k:Nat}{x m:Str}{C:Addr}{ps:List Str}{sp:Sp}{o e:Expr}{es:List Expr}{ta:TE}{t:TA}{p pos apos:Pos}{xs:List V}
def tGlT(K:PySem.W.Frag)(xs:List V):TE:=fun _ H Q=>∀ a,(∀ H,SqT K H a xs)→Q (.ref a) H
theorem pe_glT(G:GlT X.K X.mg x xs)(hg:Gl X x)(hd:(x == ("__debug__" : Str))=false:=by decide):PE X (.Name x pos) (tGlT X.K xs):=by
 obtain ⟨a,hm,q⟩:=G
 intro pins s σ H Q I h
 exact pM (v:=.ref a) hg hm rfl hd pins s σ H Q I (h a q)
theorem pe_me0{pl:Sem Bool}(he:PE X o ta)(c:Cls X.K C)(M:CanMe X.prog X.w X.K X.mg X.base k C m ps sp)(hr:bW k X.A)
  (ht:eval (.Call (.Attribute o m apos) [] [] pos) X.env=(do
   let ov ← eval o X.env
   standAt apos.atName
   let (f,first) ← holding [ov] (getMethod ov m pl)
   callWith pos f first (backTo pos (starEach [] X.env)) (backToKw pos (keywordEach [] X.env))):=by rfl) :
  PE X (.Call (.Attribute o m apos) [] [] pos) (tMeth C m sp [] E0 ta ip):=by
 obtain ⟨f,fd,M,F,hb⟩:=M
 exact pe_meth0 he c M F hr hb .nil pJ ht
end
section
variable{X:Cx}{K:PySem.W.Frag}{e:Expr}{ta:TE}{f:Str}{pos:Pos}
theorem ae(hK:X.K=K)(he:PE X e ta)(hb:attributeBase e f X.env (eval e X.env)=eval e X.env):PE X (.Attribute e f pos) (tFld K ta f):=by subst hK;exact pe_fld he hb
theorem op_inK(hK:X.K=K):OpR X (compareOp .In) (rIn K false):=by subst hK;exact iw
theorem lq(hK:X.K=K):bX X (.builtin "len") (fun xs H Q=>∃ p ys,xs=[.ref p]∧(SqL K H p ys∨SqT K H p ys)∧Q (.int ys.length) H):=by subst hK;exact gQ
theorem nE(hK:X.K=K):IxR X (rIxL K):=by subst hK;exact q0
theorem ix_tupK(hK:X.K=K):IxR X (rIxT K):=by subst hK;exact ix_tup
end
end L2
namespace Sl
open PySem PySem.Spec PyProof.Rows L2
def top(i:Nat):Stmt:=PySem.Challenge.pw_sheetslent_s01_answers.main.body.getD i (.Pass ⟨0,0,0,0⟩)
abbrev s_is_key:Stmt:=top 11
abbrev s_is_day:Stmt:=top 12
abbrev s_is_rank:Stmt:=top 13
abbrev s_is_right_list:Stmt:=top 14
abbrev s_Person_init:Stmt:=eu (top 21) 0
abbrev s_Loan_init:Stmt:=eu (top 22) 0
abbrev s_Determination_init:Stmt:=eu (top 23) 0
abbrev s_Sheet_init:Stmt:=eu (top 24) 0
abbrev s_Entry_init:Stmt:=eu (top 25) 0
abbrev s_Ledger_init:Stmt:=eu (top 26) 0
abbrev s_Ledger_last_day:Stmt:=eu (top 26) 1
abbrev s_holder_of:Stmt:=top 27
abbrev s_last_loan_of:Stmt:=top 28
abbrev s_is_gone:Stmt:=top 29
abbrev s_sheets_with:Stmt:=top 30
abbrev s_list_refusal:Stmt:=top 31
abbrev s_unlent_sheet_refusal:Stmt:=top 32
abbrev s_lend_refusal:Stmt:=top 34
abbrev s_loan_refusal:Stmt:=top 35
abbrev s_lent_sheets_refusal:Stmt:=top 36
abbrev s_do_lend:Stmt:=top 37
abbrev s_back_refusal:Stmt:=top 38
abbrev s_do_back:Stmt:=top 39
abbrev s_cede_refusal:Stmt:=top 40
abbrev s_do_cede:Stmt:=top 41
abbrev s_extend_refusal:Stmt:=top 42
abbrev s_is_due_before:Stmt:=top 43
abbrev s_do_extend:Stmt:=top 44
abbrev s_new_keys:Stmt:=top 46
abbrev s_new_sheets_refusal:Stmt:=top 47
abbrev s_gather_refusal:Stmt:=top 48
abbrev s_do_gather:Stmt:=top 49
abbrev s_split_refusal:Stmt:=top 50
abbrev s_part_of:Stmt:=top 51
abbrev s_do_split:Stmt:=top 52
abbrev s_destroy_refusal:Stmt:=top 53
abbrev s_do_destroy:Stmt:=top 54
abbrev s_determine_refusal:Stmt:=top 56
abbrev s_do_determine:Stmt:=top 57
abbrev s_typify_refusal:Stmt:=top 58
abbrev s_do_typify:Stmt:=top 59
abbrev s_counting_weights:Stmt:=top 60
abbrev s_name_and_weight:Stmt:=top 61
abbrev s_add_house:Stmt:=top 63
abbrev s_add_person:Stmt:=top 64
abbrev s_move_refusal:Stmt:=top 65
abbrev s_do_move:Stmt:=top 66
abbrev s_rank_refusal:Stmt:=top 67
abbrev s_do_rank:Stmt:=top 68
abbrev s_status_refusal:Stmt:=top 99
abbrev s_put_status:Stmt:=top 100
abbrev s_arrive_refusal:Stmt:=top 101
abbrev s_do_arrive:Stmt:=top 102
abbrev s_lose_refusal:Stmt:=top 103
abbrev s_do_lose:Stmt:=top 104
abbrev s_find_refusal:Stmt:=top 105
abbrev s_do_find:Stmt:=top 106
abbrev s_give_refusal:Stmt:=top 107
abbrev s_do_give:Stmt:=top 108
abbrev s_enter:Stmt:=top 110
abbrev s_own_refusal:Stmt:=top 111
abbrev s_carry_out:Stmt:=top 112
abbrev s_loan_told:Stmt:=top 113
abbrev s_persons_at_first:Stmt:=top 115
abbrev s_ledger_at:Stmt:=top 116
abbrev s_names_sheet:Stmt:=top 117
abbrev s_ask:Stmt:=top 119
abbrev s_ask_of_sheet:Stmt:=top 120
abbrev s_ask_of_house:Stmt:=top 121
abbrev s_told_list:Stmt:=top 122
abbrev s_told_rows:Stmt:=top 123
abbrev s_where:Stmt:=top 124
abbrev s_custody:Stmt:=top 125
abbrev s_dets:Stmt:=top 126
abbrev s_is_held_here:Stmt:=top 127
abbrev s_keys_inside:Stmt:=top 128
abbrev s_books:Stmt:=top 129
abbrev s_overdue:Stmt:=top 130
abbrev s_gathering:Stmt:=top 131
abbrev s_typified_keys:Stmt:=top 132
abbrev s_history:Stmt:=top 133
abbrev s_answers:Stmt:=top 135
abbrev s_answer_of:Stmt:=top 136
theorem sc_is_key:au ["number"] ["number"] (ah s_is_key):=⟨rfl,rfl,rfl,by decide +kernel,rfl,by decide +kernel,by decide +kernel⟩
theorem sc_is_day:au ["number"] ["number"] (ah s_is_day):=⟨rfl,rfl,rfl,by decide +kernel,rfl,by decide +kernel,by decide +kernel⟩
theorem sc_is_rank:au ["number"] ["number"] (ah s_is_rank):=⟨rfl,rfl,rfl,by decide +kernel,rfl,by decide +kernel,by decide +kernel⟩
theorem sc_is_right_list:au ["numbers"] ["numbers"] (ah s_is_right_list):=⟨rfl,rfl,rfl,by decide +kernel,rfl,by decide +kernel,by decide +kernel⟩
theorem sc_Person_init:au ["self", "house", "rank"] ["self", "house", "rank"] (ah s_Person_init):=⟨rfl,rfl,rfl,by decide +kernel,rfl,by decide +kernel,by decide +kernel⟩
theorem sc_Loan_init:au ["self", "lender", "borrower", "due", "onward"] ["self", "lender", "borrower", "due", "onward"] (ah s_Loan_init):=⟨rfl,rfl,rfl,by decide +kernel,rfl,by decide +kernel,by decide +kernel⟩
theorem sc_Determination_init:au ["self", "day", "person", "rank", "name", "conf"] ["self", "day", "person", "rank", "name", "conf"] (ah s_Determination_init):=⟨rfl,rfl,rfl,by decide +kernel,rfl,by decide +kernel,by decide +kernel⟩
theorem sc_Sheet_init:au ["self", "gathering", "owner"] ["self", "gathering", "owner"] (ah s_Sheet_init):=⟨rfl,rfl,rfl,by decide +kernel,rfl,by decide +kernel,by decide +kernel⟩
theorem sc_Entry_init:au ["self", "day", "place", "numbers", "sheets"] ["self", "day", "place", "numbers", "sheets"] (ah s_Entry_init):=⟨rfl,rfl,rfl,by decide +kernel,rfl,by decide +kernel,by decide +kernel⟩
theorem sc_Ledger_init:au ["self"] ["self"] (ah s_Ledger_init):=⟨rfl,rfl,rfl,by decide +kernel,rfl,by decide +kernel,by decide +kernel⟩
theorem sc_Ledger_last_day:au ["self"] ["self"] (ah s_Ledger_last_day):=⟨rfl,rfl,rfl,by decide +kernel,rfl,by decide +kernel,by decide +kernel⟩
theorem sc_holder_of:au ["ledger", "sheet"] ["ledger", "sheet"] (ah s_holder_of):=⟨rfl,rfl,rfl,by decide +kernel,rfl,by decide +kernel,by decide +kernel⟩
theorem sc_last_loan_of:au ["ledger", "sheet"] ["ledger", "sheet"] (ah s_last_loan_of):=⟨rfl,rfl,rfl,by decide +kernel,rfl,by decide +kernel,by decide +kernel⟩
theorem sc_is_gone:au ["sheet"] ["sheet"] (ah s_is_gone):=⟨rfl,rfl,rfl,by decide +kernel,rfl,by decide +kernel,by decide +kernel⟩
theorem sc_sheets_with:au ["ledger", "keys", "key"] ["ledger", "keys"] (ah s_sheets_with):=⟨rfl,rfl,rfl,by decide +kernel,rfl,by decide +kernel,by decide +kernel⟩
theorem sc_list_refusal:au ["ledger", "keys", "wrong_list", "key"] ["ledger", "keys", "wrong_list"] (ah s_list_refusal):=⟨rfl,rfl,rfl,by decide +kernel,rfl,by decide +kernel,by decide +kernel⟩
theorem sc_unlent_sheet_refusal:au ["ledger", "key", "sheet"] ["ledger", "key"] (ah s_unlent_sheet_refusal):=⟨rfl,rfl,rfl,by decide +kernel,rfl,by decide +kernel,by decide +kernel⟩
theorem sc_lend_refusal:au ["ledger", "day", "key", "loan", "keys", "refusal"] ["ledger", "day", "key", "loan", "keys"] (ah s_lend_refusal):=⟨rfl,rfl,rfl,by decide +kernel,rfl,by decide +kernel,by decide +kernel⟩
theorem sc_loan_refusal:au ["ledger", "day", "key", "loan"] ["ledger", "day", "key", "loan"] (ah s_loan_refusal):=⟨rfl,rfl,rfl,by decide +kernel,rfl,by decide +kernel,by decide +kernel⟩
theorem sc_lent_sheets_refusal:au ["ledger", "loan", "sheets", "loans_before", "sheet", "before"] ["ledger", "loan", "sheets"] (ah s_lent_sheets_refusal):=⟨rfl,rfl,rfl,by decide +kernel,rfl,by decide +kernel,by decide +kernel⟩
theorem sc_do_lend:au ["ledger", "key", "loan", "keys", "sheet"] ["ledger", "key", "loan", "keys"] (ah s_do_lend):=⟨rfl,rfl,rfl,by decide +kernel,rfl,by decide +kernel,by decide +kernel⟩
theorem sc_back_refusal:au ["ledger", "loan", "keys", "refusal", "sheet"] ["ledger", "loan", "keys"] (ah s_back_refusal):=⟨rfl,rfl,rfl,by decide +kernel,rfl,by decide +kernel,by decide +kernel⟩
theorem sc_do_back:au ["ledger", "keys", "sheet"] ["ledger", "keys"] (ah s_do_back):=⟨rfl,rfl,rfl,by decide +kernel,rfl,by decide +kernel,by decide +kernel⟩
theorem sc_cede_refusal:au ["ledger", "key", "sheet"] ["ledger", "key"] (ah s_cede_refusal):=⟨rfl,rfl,rfl,by decide +kernel,rfl,by decide +kernel,by decide +kernel⟩
theorem sc_do_cede:au ["ledger", "key", "sheet", "first_loan"] ["ledger", "key"] (ah s_do_cede):=⟨rfl,rfl,rfl,by decide +kernel,rfl,by decide +kernel,by decide +kernel⟩
theorem sc_extend_refusal:au ["ledger", "loan", "due", "rows", "sheet", "row"] ["ledger", "loan", "due"] (ah s_extend_refusal):=⟨rfl,rfl,rfl,by decide +kernel,rfl,by decide +kernel,by decide +kernel⟩
theorem sc_is_due_before:au ["ledger", "row", "loan", "due", "position"] ["ledger", "row", "loan", "due"] (ah s_is_due_before):=⟨rfl,rfl,rfl,by decide +kernel,rfl,by decide +kernel,by decide +kernel⟩
theorem sc_do_extend:au ["ledger", "loan", "due"] ["ledger", "loan", "due"] (ah s_do_extend):=⟨rfl,rfl,rfl,by decide +kernel,rfl,by decide +kernel,by decide +kernel⟩
theorem sc_new_keys:au ["first", "n"] ["first", "n"] (ah s_new_keys):=⟨rfl,rfl,rfl,by decide +kernel,rfl,by decide +kernel,by decide +kernel⟩
theorem sc_new_sheets_refusal:au ["ledger", "first", "n", "keys", "key"] ["ledger", "first", "n"] (ah s_new_sheets_refusal):=⟨rfl,rfl,rfl,by decide +kernel,rfl,by decide +kernel,by decide +kernel⟩
theorem sc_gather_refusal:au ["ledger", "key", "person", "n", "first"] ["ledger", "key", "person", "n", "first"] (ah s_gather_refusal):=⟨rfl,rfl,rfl,by decide +kernel,rfl,by decide +kernel,by decide +kernel⟩
theorem sc_do_gather:au ["ledger", "gathering", "person", "n", "first", "owner", "key"] ["ledger", "gathering", "person", "n", "first"] (ah s_do_gather):=⟨rfl,rfl,rfl,by decide +kernel,rfl,by decide +kernel,by decide +kernel⟩
theorem sc_split_refusal:au ["ledger", "key", "first", "n", "sheet"] ["ledger", "key", "first", "n"] (ah s_split_refusal):=⟨rfl,rfl,rfl,by decide +kernel,rfl,by decide +kernel,by decide +kernel⟩
theorem sc_part_of:au ["sheet", "part"] ["sheet"] (ah s_part_of):=⟨rfl,rfl,rfl,by decide +kernel,rfl,by decide +kernel,by decide +kernel⟩
theorem sc_do_split:au ["ledger", "key", "first", "n", "sheet", "part_key"] ["ledger", "key", "first", "n"] (ah s_do_split):=⟨rfl,rfl,rfl,by decide +kernel,rfl,by decide +kernel,by decide +kernel⟩
theorem sc_destroy_refusal:au ["ledger", "key"] ["ledger", "key"] (ah s_destroy_refusal):=⟨rfl,rfl,rfl,by decide +kernel,rfl,by decide +kernel,by decide +kernel⟩
theorem sc_do_destroy:au ["ledger", "key"] ["ledger", "key"] (ah s_do_destroy):=⟨rfl,rfl,rfl,by decide +kernel,rfl,by decide +kernel,by decide +kernel⟩
theorem sc_determine_refusal:au ["ledger", "key", "person", "name", "conf", "sheet"] ["ledger", "key", "person", "name", "conf"] (ah s_determine_refusal):=⟨rfl,rfl,rfl,by decide +kernel,rfl,by decide +kernel,by decide +kernel⟩
theorem sc_do_determine:au ["ledger", "day", "key", "person", "name", "conf", "rank"] ["ledger", "day", "key", "person", "name", "conf"] (ah s_do_determine):=⟨rfl,rfl,rfl,by decide +kernel,rfl,by decide +kernel,by decide +kernel⟩
theorem sc_typify_refusal:au ["ledger", "key", "name", "refusal"] ["ledger", "key", "name"] (ah s_typify_refusal):=⟨rfl,rfl,rfl,by decide +kernel,rfl,by decide +kernel,by decide +kernel⟩
theorem sc_do_typify:au ["ledger", "key", "name"] ["ledger", "key", "name"] (ah s_do_typify):=⟨rfl,rfl,rfl,by decide +kernel,rfl,by decide +kernel,by decide +kernel⟩
theorem sc_counting_weights:au ["determinations", "last_places", "weights", "place", "said", "counts"] ["determinations"] (ah s_counting_weights):=⟨rfl,rfl,rfl,by decide +kernel,rfl,by decide +kernel,by decide +kernel⟩
theorem sc_name_and_weight:au ["determinations", "weights", "sums", "greatest", "weight", "name", "said"] ["determinations"] (ah s_name_and_weight):=⟨rfl,rfl,rfl,by decide +kernel,rfl,by decide +kernel,by decide +kernel⟩
theorem sc_add_house:au ["ledger", "key"] ["ledger", "key"] (ah s_add_house):=⟨rfl,rfl,rfl,by decide +kernel,rfl,by decide +kernel,by decide +kernel⟩
theorem sc_add_person:au ["ledger", "key", "house", "rank"] ["ledger", "key", "house", "rank"] (ah s_add_person):=⟨rfl,rfl,rfl,by decide +kernel,rfl,by decide +kernel,by decide +kernel⟩
theorem sc_move_refusal:au ["ledger", "person", "house"] ["ledger", "person", "house"] (ah s_move_refusal):=⟨rfl,rfl,rfl,by decide +kernel,rfl,by decide +kernel,by decide +kernel⟩
theorem sc_do_move:au ["ledger", "person", "house"] ["ledger", "person", "house"] (ah s_do_move):=⟨rfl,rfl,rfl,by decide +kernel,rfl,by decide +kernel,by decide +kernel⟩
theorem sc_rank_refusal:au ["ledger", "person", "rank"] ["ledger", "person", "rank"] (ah s_rank_refusal):=⟨rfl,rfl,rfl,by decide +kernel,rfl,by decide +kernel,by decide +kernel⟩
theorem sc_do_rank:au ["ledger", "person", "rank"] ["ledger", "person", "rank"] (ah s_do_rank):=⟨rfl,rfl,rfl,by decide +kernel,rfl,by decide +kernel,by decide +kernel⟩
theorem sc_status_refusal:au ["ledger", "keys", "statuses", "refusal", "sheet"] ["ledger", "keys", "statuses"] (ah s_status_refusal):=⟨rfl,rfl,rfl,by decide +kernel,rfl,by decide +kernel,by decide +kernel⟩
theorem sc_put_status:au ["ledger", "keys", "status", "sheet"] ["ledger", "keys", "status"] (ah s_put_status):=⟨rfl,rfl,rfl,by decide +kernel,rfl,by decide +kernel,by decide +kernel⟩
theorem sc_arrive_refusal:au ["ledger", "keys"] ["ledger", "keys"] (ah s_arrive_refusal):=⟨rfl,rfl,rfl,by decide +kernel,rfl,by decide +kernel,by decide +kernel⟩
theorem sc_do_arrive:au ["ledger", "keys"] ["ledger", "keys"] (ah s_do_arrive):=⟨rfl,rfl,rfl,by decide +kernel,rfl,by decide +kernel,by decide +kernel⟩
theorem sc_lose_refusal:au ["ledger", "keys"] ["ledger", "keys"] (ah s_lose_refusal):=⟨rfl,rfl,rfl,by decide +kernel,rfl,by decide +kernel,by decide +kernel⟩
theorem sc_do_lose:au ["ledger", "keys"] ["ledger", "keys"] (ah s_do_lose):=⟨rfl,rfl,rfl,by decide +kernel,rfl,by decide +kernel,by decide +kernel⟩
theorem sc_find_refusal:au ["ledger", "keys"] ["ledger", "keys"] (ah s_find_refusal):=⟨rfl,rfl,rfl,by decide +kernel,rfl,by decide +kernel,by decide +kernel⟩
theorem sc_do_find:au ["ledger", "keys"] ["ledger", "keys"] (ah s_do_find):=⟨rfl,rfl,rfl,by decide +kernel,rfl,by decide +kernel,by decide +kernel⟩
theorem sc_give_refusal:au ["ledger", "old", "new", "keys", "refusal", "sheets", "sheet"] ["ledger", "old", "new", "keys"] (ah s_give_refusal):=⟨rfl,rfl,rfl,by decide +kernel,rfl,by decide +kernel,by decide +kernel⟩
theorem sc_do_give:au ["ledger", "new", "keys", "sheet"] ["ledger", "new", "keys"] (ah s_do_give):=⟨rfl,rfl,rfl,by decide +kernel,rfl,by decide +kernel,by decide +kernel⟩
theorem sc_enter:au ["ledger", "place", "numbers", "sheets", "day", "refusal"] ["ledger", "place", "numbers", "sheets"] (ah s_enter):=⟨rfl,rfl,rfl,by decide +kernel,rfl,by decide +kernel,by decide +kernel⟩
theorem sc_own_refusal:au ["ledger", "place", "numbers", "sheets"] ["ledger", "place", "numbers", "sheets"] (ah s_own_refusal):=⟨rfl,rfl,rfl,by decide +kernel,rfl,by decide +kernel,by decide +kernel⟩
theorem sc_carry_out:au ["ledger", "place", "numbers", "sheets"] ["ledger", "place", "numbers", "sheets"] (ah s_carry_out):=⟨rfl,rfl,rfl,by decide +kernel,rfl,by decide +kernel,by decide +kernel⟩
theorem sc_loan_told:au ["numbers"] ["numbers"] (ah s_loan_told):=⟨rfl,rfl,rfl,by decide +kernel,rfl,by decide +kernel,by decide +kernel⟩
theorem sc_persons_at_first:au ["persons", "first", "key", "person"] ["persons"] (ah s_persons_at_first):=⟨rfl,rfl,rfl,by decide +kernel,rfl,by decide +kernel,by decide +kernel⟩
theorem sc_ledger_at:au ["ledger", "day", "past", "entry"] ["ledger", "day"] (ah s_ledger_at):=⟨rfl,rfl,rfl,by decide +kernel,rfl,by decide +kernel,by decide +kernel⟩
theorem sc_names_sheet:au ["entry", "key"] ["entry", "key"] (ah s_names_sheet):=⟨rfl,rfl,rfl,by decide +kernel,rfl,by decide +kernel,by decide +kernel⟩
theorem sc_ask:au ["ledger", "place", "numbers", "day", "past"] ["ledger", "place", "numbers"] (ah s_ask):=⟨rfl,rfl,rfl,by decide +kernel,rfl,by decide +kernel,by decide +kernel⟩
theorem sc_ask_of_sheet:au ["past", "place", "key", "sheet"] ["past", "place", "key"] (ah s_ask_of_sheet):=⟨rfl,rfl,rfl,by decide +kernel,rfl,by decide +kernel,by decide +kernel⟩
theorem sc_ask_of_house:au ["past", "place", "house"] ["past", "place", "house"] (ah s_ask_of_house):=⟨rfl,rfl,rfl,by decide +kernel,rfl,by decide +kernel,by decide +kernel⟩
theorem sc_told_list:au ["numbers"] ["numbers"] (ah s_told_list):=⟨rfl,rfl,rfl,by decide +kernel,rfl,by decide +kernel,by decide +kernel⟩
theorem sc_told_rows:au ["rows", "told", "row"] ["rows"] (ah s_told_rows):=⟨rfl,rfl,rfl,by decide +kernel,rfl,by decide +kernel,by decide +kernel⟩
theorem sc_where:au ["past", "sheet"] ["past", "sheet"] (ah s_where):=⟨rfl,rfl,rfl,by decide +kernel,rfl,by decide +kernel,by decide +kernel⟩
theorem sc_custody:au ["past", "sheet", "key"] ["past", "sheet"] (ah s_custody):=⟨rfl,rfl,rfl,by decide +kernel,rfl,by decide +kernel,by decide +kernel⟩
theorem sc_dets:au ["sheet", "weights", "said", "weight"] ["sheet"] (ah s_dets):=⟨rfl,rfl,rfl,by decide +kernel,rfl,by decide +kernel,by decide +kernel⟩
theorem sc_is_held_here:au ["past", "sheet", "house"] ["past", "sheet", "house"] (ah s_is_held_here):=⟨rfl,rfl,rfl,by decide +kernel,rfl,by decide +kernel,by decide +kernel⟩
theorem sc_keys_inside:au ["past", "house", "key"] ["past", "house"] (ah s_keys_inside):=⟨rfl,rfl,rfl,by decide +kernel,rfl,by decide +kernel,by decide +kernel⟩
theorem sc_books:au ["past", "house", "there", "owned", "unlent", "lent", "lost", "borrowed", "sheet"] ["past", "house"] (ah s_books):=⟨rfl,rfl,rfl,by decide +kernel,rfl,by decide +kernel,by decide +kernel⟩
theorem sc_overdue:au ["past", "day", "rows", "key", "having", "sheet"] ["past", "day"] (ah s_overdue):=⟨rfl,rfl,rfl,by decide +kernel,rfl,by decide +kernel,by decide +kernel⟩
theorem sc_gathering:au ["past", "key", "rows", "sheet_key", "sheet"] ["past", "key"] (ah s_gathering):=⟨rfl,rfl,rfl,by decide +kernel,rfl,by decide +kernel,by decide +kernel⟩
theorem sc_typified_keys:au ["past", "name", "key"] ["past", "name"] (ah s_typified_keys):=⟨rfl,rfl,rfl,by decide +kernel,rfl,by decide +kernel,by decide +kernel⟩
theorem sc_history:au ["ledger", "key", "number", "entry"] ["ledger", "key"] (ah s_history):=⟨rfl,rfl,rfl,by decide +kernel,rfl,by decide +kernel,by decide +kernel⟩
theorem sc_answers:au ["calls", "ledger", "told", "start", "place", "end", "numbers", "sheets", "answer", "first"] ["calls"] (ah s_answers):=⟨rfl,rfl,rfl,by decide +kernel,rfl,by decide +kernel,by decide +kernel⟩
theorem sc_answer_of:au ["ledger", "place", "numbers", "sheets"] ["ledger", "place", "numbers", "sheets"] (ah s_answer_of):=⟨rfl,rfl,rfl,by decide +kernel,rfl,by decide +kernel,by decide +kernel⟩
structure Cs where
 Person:Addr
 Loan:Addr
 Determination:Addr
 Sheet:Addr
 Entry:Addr
 Ledger:Addr
structure Txt(K:PySem.W.Frag)(mg:Str→Option Value)(C:Cs):Prop where
 f_is_key:aF K mg "is_key" s_is_key ["number"]
 f_is_day:aF K mg "is_day" s_is_day ["number"]
 f_is_rank:aF K mg "is_rank" s_is_rank ["number"]
 f_is_right_list:aF K mg "is_right_list" s_is_right_list ["numbers"]
 f_holder_of:aF K mg "holder_of" s_holder_of ["ledger", "sheet"]
 f_last_loan_of:aF K mg "last_loan_of" s_last_loan_of ["ledger", "sheet"]
 f_is_gone:aF K mg "is_gone" s_is_gone ["sheet"]
 f_sheets_with:aF K mg "sheets_with" s_sheets_with ["ledger", "keys"]
 f_list_refusal:aF K mg "list_refusal" s_list_refusal ["ledger", "keys", "wrong_list"]
 f_unlent_sheet_refusal:aF K mg "unlent_sheet_refusal" s_unlent_sheet_refusal ["ledger", "key"]
 f_lend_refusal:aF K mg "lend_refusal" s_lend_refusal ["ledger", "day", "key", "loan", "keys"]
 f_loan_refusal:aF K mg "loan_refusal" s_loan_refusal ["ledger", "day", "key", "loan"]
 f_lent_sheets_refusal:aF K mg "lent_sheets_refusal" s_lent_sheets_refusal ["ledger", "loan", "sheets"]
 f_do_lend:aF K mg "do_lend" s_do_lend ["ledger", "key", "loan", "keys"]
 f_back_refusal:aF K mg "back_refusal" s_back_refusal ["ledger", "loan", "keys"]
 f_do_back:aF K mg "do_back" s_do_back ["ledger", "keys"]
 f_cede_refusal:aF K mg "cede_refusal" s_cede_refusal ["ledger", "key"]
 f_do_cede:aF K mg "do_cede" s_do_cede ["ledger", "key"]
 f_extend_refusal:aF K mg "extend_refusal" s_extend_refusal ["ledger", "loan", "due"]
 f_is_due_before:aF K mg "is_due_before" s_is_due_before ["ledger", "row", "loan", "due"]
 f_do_extend:aF K mg "do_extend" s_do_extend ["ledger", "loan", "due"]
 f_new_keys:aF K mg "new_keys" s_new_keys ["first", "n"]
 f_new_sheets_refusal:aF K mg "new_sheets_refusal" s_new_sheets_refusal ["ledger", "first", "n"]
 f_gather_refusal:aF K mg "gather_refusal" s_gather_refusal ["ledger", "key", "person", "n", "first"]
 f_do_gather:aF K mg "do_gather" s_do_gather ["ledger", "gathering", "person", "n", "first"]
 f_split_refusal:aF K mg "split_refusal" s_split_refusal ["ledger", "key", "first", "n"]
 f_part_of:aF K mg "part_of" s_part_of ["sheet"]
 f_do_split:aF K mg "do_split" s_do_split ["ledger", "key", "first", "n"]
 f_destroy_refusal:aF K mg "destroy_refusal" s_destroy_refusal ["ledger", "key"]
 f_do_destroy:aF K mg "do_destroy" s_do_destroy ["ledger", "key"]
 f_determine_refusal:aF K mg "determine_refusal" s_determine_refusal ["ledger", "key", "person", "name", "conf"]
 f_do_determine:aF K mg "do_determine" s_do_determine ["ledger", "day", "key", "person", "name", "conf"]
 f_typify_refusal:aF K mg "typify_refusal" s_typify_refusal ["ledger", "key", "name"]
 f_do_typify:aF K mg "do_typify" s_do_typify ["ledger", "key", "name"]
 f_counting_weights:aF K mg "counting_weights" s_counting_weights ["determinations"]
 f_name_and_weight:aF K mg "name_and_weight" s_name_and_weight ["determinations"]
 f_add_house:aF K mg "add_house" s_add_house ["ledger", "key"]
 f_add_person:aF K mg "add_person" s_add_person ["ledger", "key", "house", "rank"]
 f_move_refusal:aF K mg "move_refusal" s_move_refusal ["ledger", "person", "house"]
 f_do_move:aF K mg "do_move" s_do_move ["ledger", "person", "house"]
 f_rank_refusal:aF K mg "rank_refusal" s_rank_refusal ["ledger", "person", "rank"]
 f_do_rank:aF K mg "do_rank" s_do_rank ["ledger", "person", "rank"]
 f_status_refusal:aF K mg "status_refusal" s_status_refusal ["ledger", "keys", "statuses"]
 f_put_status:aF K mg "put_status" s_put_status ["ledger", "keys", "status"]
 f_arrive_refusal:aF K mg "arrive_refusal" s_arrive_refusal ["ledger", "keys"]
 f_do_arrive:aF K mg "do_arrive" s_do_arrive ["ledger", "keys"]
 f_lose_refusal:aF K mg "lose_refusal" s_lose_refusal ["ledger", "keys"]
 f_do_lose:aF K mg "do_lose" s_do_lose ["ledger", "keys"]
 f_find_refusal:aF K mg "find_refusal" s_find_refusal ["ledger", "keys"]
 f_do_find:aF K mg "do_find" s_do_find ["ledger", "keys"]
 f_give_refusal:aF K mg "give_refusal" s_give_refusal ["ledger", "old", "new", "keys"]
 f_do_give:aF K mg "do_give" s_do_give ["ledger", "new", "keys"]
 f_enter:aF K mg "enter" s_enter ["ledger", "place", "numbers", "sheets"]
 f_own_refusal:aF K mg "own_refusal" s_own_refusal ["ledger", "place", "numbers", "sheets"]
 f_carry_out:aF K mg "carry_out" s_carry_out ["ledger", "place", "numbers", "sheets"]
 f_loan_told:aF K mg "loan_told" s_loan_told ["numbers"]
 f_persons_at_first:aF K mg "persons_at_first" s_persons_at_first ["persons"]
 f_ledger_at:aF K mg "ledger_at" s_ledger_at ["ledger", "day"]
 f_names_sheet:aF K mg "names_sheet" s_names_sheet ["entry", "key"]
 f_ask:aF K mg "ask" s_ask ["ledger", "place", "numbers"]
 f_ask_of_sheet:aF K mg "ask_of_sheet" s_ask_of_sheet ["past", "place", "key"]
 f_ask_of_house:aF K mg "ask_of_house" s_ask_of_house ["past", "place", "house"]
 f_told_list:aF K mg "told_list" s_told_list ["numbers"]
 f_told_rows:aF K mg "told_rows" s_told_rows ["rows"]
 f_where:aF K mg "where" s_where ["past", "sheet"]
 f_custody:aF K mg "custody" s_custody ["past", "sheet"]
 f_dets:aF K mg "dets" s_dets ["sheet"]
 f_is_held_here:aF K mg "is_held_here" s_is_held_here ["past", "sheet", "house"]
 f_keys_inside:aF K mg "keys_inside" s_keys_inside ["past", "house"]
 f_books:aF K mg "books" s_books ["past", "house"]
 f_overdue:aF K mg "overdue" s_overdue ["past", "day"]
 f_gathering:aF K mg "gathering" s_gathering ["past", "key"]
 f_typified_keys:aF K mg "typified_keys" s_typified_keys ["past", "name"]
 f_history:aF K mg "history" s_history ["ledger", "key"]
 f_answers:aF K mg "answers" s_answers ["calls"]
 f_answer_of:aF K mg "answer_of" s_answer_of ["ledger", "place", "numbers", "sheets"]
 m_Person:iK K mg "Person" C.Person "Person.__init__" s_Person_init ["self", "house", "rank"]
 cl_Person:Cls K C.Person
 na_Person_house:aZ K C.Person "house"
 na_Person_rank:aZ K C.Person "rank"
 na_Person_first_house:aZ K C.Person "first_house"
 na_Person_first_rank:aZ K C.Person "first_rank"
 m_Loan:iK K mg "Loan" C.Loan "Loan.__init__" s_Loan_init ["self", "lender", "borrower", "due", "onward"]
 cl_Loan:Cls K C.Loan
 na_Loan_lender:aZ K C.Loan "lender"
 na_Loan_borrower:aZ K C.Loan "borrower"
 na_Loan_due:aZ K C.Loan "due"
 na_Loan_onward:aZ K C.Loan "onward"
 m_Determination:iK K mg "Determination" C.Determination "Determination.__init__" s_Determination_init ["self", "day", "person", "rank", "name", "conf"]
 cl_Determination:Cls K C.Determination
 na_Determination_day:aZ K C.Determination "day"
 na_Determination_person:aZ K C.Determination "person"
 na_Determination_rank:aZ K C.Determination "rank"
 na_Determination_name:aZ K C.Determination "name"
 na_Determination_conf:aZ K C.Determination "conf"
 m_Sheet:iK K mg "Sheet" C.Sheet "Sheet.__init__" s_Sheet_init ["self", "gathering", "owner"]
 cl_Sheet:Cls K C.Sheet
 na_Sheet_gathering:aZ K C.Sheet "gathering"
 na_Sheet_owner:aZ K C.Sheet "owner"
 na_Sheet_loans:aZ K C.Sheet "loans"
 na_Sheet_status:aZ K C.Sheet "status"
 na_Sheet_determinations:aZ K C.Sheet "determinations"
 na_Sheet_typified:aZ K C.Sheet "typified"
 m_Entry:iK K mg "Entry" C.Entry "Entry.__init__" s_Entry_init ["self", "day", "place", "numbers", "sheets"]
 cl_Entry:Cls K C.Entry
 na_Entry_day:aZ K C.Entry "day"
 na_Entry_place:aZ K C.Entry "place"
 na_Entry_numbers:aZ K C.Entry "numbers"
 na_Entry_sheets:aZ K C.Entry "sheets"
 m_Ledger:iK K mg "Ledger" C.Ledger "Ledger.__init__" s_Ledger_init ["self"]
 cl_Ledger:Cls K C.Ledger
 na_Ledger_houses:aZ K C.Ledger "houses"
 na_Ledger_persons:aZ K C.Ledger "persons"
 na_Ledger_gatherings:aZ K C.Ledger "gatherings"
 na_Ledger_sheets:aZ K C.Ledger "sheets"
 na_Ledger_loans:aZ K C.Ledger "loans"
 na_Ledger_log:aZ K C.Ledger "log"
 me_Ledger_last_day:MeTxt K C.Ledger "last_day" "Ledger.last_day" s_Ledger_last_day ["self"]
 b_all:mg "all" = none
 b_any:mg "any" = none
 b_dict:mg "dict" = none
 b_enumerate:mg "enumerate" = none
 b_len:mg "len" = none
 b_list:mg "list" = none
 b_max:mg "max" = none
 b_range:mg "range" = none
 b_set:mg "set" = none
 b_sorted:mg "sorted" = none
 b_zip:mg "zip" = none
 g_GREATEST_KEY:GlV mg "GREATEST_KEY" (.int 1000000000)
 g_GREATEST_DAY:GlV mg "GREATEST_DAY" (.int 1000000)
 g_GREATEST_RANK:GlV mg "GREATEST_RANK" (.int 9)
 g_GREATEST_CONF:GlV mg "GREATEST_CONF" (.int 3)
 g_LONGEST_LIST:GlV mg "LONGEST_LIST" (.int 8)
 g_MOST_HOUSES:GlV mg "MOST_HOUSES" (.int 12)
 g_MOST_PERSONS:GlV mg "MOST_PERSONS" (.int 20)
 g_MOST_SHEETS:GlV mg "MOST_SHEETS" (.int 60)
 g_MOST_LOANS:GlV mg "MOST_LOANS" (.int 40)
 g_MOST_ENTRIES:GlV mg "MOST_ENTRIES" (.int 300)
 g_HERE:GlV mg "HERE" (.int 0)
 g_ON_THE_WAY:GlV mg "ON_THE_WAY" (.int 1)
 g_LOST:GlV mg "LOST" (.int 2)
 g_DESTROYED:GlV mg "DESTROYED" (.int 3)
 g_DIVIDED:GlV mg "DIVIDED" (.int 4)
 g_HOUSE:GlV mg "HOUSE" (.int 0)
 g_PERSON:GlV mg "PERSON" (.int 1)
 g_MOVE:GlV mg "MOVE" (.int 2)
 g_RANK:GlV mg "RANK" (.int 3)
 g_GATHER:GlV mg "GATHER" (.int 4)
 g_SPLIT:GlV mg "SPLIT" (.int 5)
 g_LEND:GlV mg "LEND" (.int 6)
 g_ARRIVE:GlV mg "ARRIVE" (.int 7)
 g_BACK:GlV mg "BACK" (.int 8)
 g_GIVE:GlV mg "GIVE" (.int 9)
 g_CEDE:GlV mg "CEDE" (.int 10)
 g_EXTEND:GlV mg "EXTEND" (.int 11)
 g_LOSE:GlV mg "LOSE" (.int 12)
 g_FIND:GlV mg "FIND" (.int 13)
 g_DESTROY:GlV mg "DESTROY" (.int 14)
 g_DETERMINE:GlV mg "DETERMINE" (.int 15)
 g_TYPIFY:GlV mg "TYPIFY" (.int 16)
 g_WHERE:GlV mg "WHERE" (.int 17)
 g_CUSTODY:GlV mg "CUSTODY" (.int 18)
 g_NAME:GlV mg "NAME" (.int 19)
 g_INSIDE:GlV mg "INSIDE" (.int 21)
 g_BOOKS:GlV mg "BOOKS" (.int 22)
 g_OVERDUE:GlV mg "OVERDUE" (.int 23)
 g_GATHERING:GlV mg "GATHERING" (.int 24)
 g_TYPIFIED:GlV mg "TYPIFIED" (.int 25)
 g_HISTORY:GlV mg "HISTORY" (.int 26)
 g_LOG:GlV mg "LOG" (.int 27)
 g_NUMBER_COUNTS:GlT K mg "NUMBER_COUNTS" [.int 1,.int 3,.int 3,.int 3,.int 5,.int 4,.int 6,.int 1,.int 2,.int 3,.int 2,.int 3,.int 1,.int 1,.int 2,.int 5,.int 3,.int 2,.int 2,.int 2,.int 2,.int 2,.int 2,.int 1,.int 2,.int 2,.int 1,.int 0]
 g_PLACES_WITH_SHEETS:GlT K mg "PLACES_WITH_SHEETS" [.int 6,.int 7,.int 8,.int 9,.int 12,.int 13]
end Sl
namespace L2
open PySem PySem.Spec PyProof.Rows
section
variable{X:Cx}{pins:List (Addr×Obj)}{σ : St}{H H':Hp}{s s':Shared}{e:Expr}{t:TE}{tt:TT}
theorem Inv.fgt(I:Inv X pins σ H s)(I':Inv X pins σ H' s')(p:bA H)(sm:bD H H'):Inv X pins σ H s':=
 ⟨I.ok,I'.os,I'.bare,⟨I'.base.keep,I'.base.slot,I.base.free,I'.base.there,I.base.tups,I.base.frzs,I.base.tbls⟩,I'.loc,I'.cell,I.free,I.freeC,
  fun q hq=>⟨(I'.pin q hq).1,(I.pin q hq).2.1,(I'.pin q hq).2.2⟩,fun a o ho=>be.back (p a o ho) (I.hok a o ho) (I'.hok a o (sm a o ho)),I'.len⟩
def tFgt(t:TE):TE:=fun σ H Q=>bA H∧t σ H fun v H'=>bD H H'∧Q v H
theorem dE(h:PE X e t):PE X e (tFgt t):=fun pins s σ H Q I hw=>
 thn (h pins s σ H _ I hw.2) fun u s' ⟨v,H',I',r,sm,q⟩=>⟨v,H,I.fgt I' hw.1 sm,r,q⟩
end
theorem obj_at{P:Program}{w:World}{H:Hp}{h:Heap}{a:Addr}:∀ {o:HO},be P w H h a o→∃ x,h.get? a=some x
 | .lst _,⟨_,_,_,_,e⟩=>⟨_,e⟩
 | .tup _,⟨_,_,_,o,e,_⟩=>⟨_,e⟩
 | .dK _,⟨_,_,_,_,⟨_,_,_,e,_⟩⟩=>⟨_,e⟩
 | .dT _,⟨_,_,_,_,o,_,_,e,_⟩=>⟨_,e⟩
 | .set _ _,d=>let ⟨o,e,_⟩:=Heap.SetOf.objOf d;⟨_,e⟩
 | .ins _ _ _,⟨_,_,_,e,_⟩=>⟨_,e⟩
 | .own _,⟨_,e⟩=>⟨_,e⟩
 | .xd _,⟨_,n,_⟩=>let ⟨o,e,_⟩:=lh n;⟨_,e⟩
 | .rng _ _,⟨_,_,_,e⟩=>⟨_,e⟩
 | .frz _ _,⟨e,_⟩=>⟨_,e⟩
 | .tbl _,e=>⟨_,e⟩
 | .met _ _,e=>⟨_,e⟩
 | .ext _,⟨_,⟨o,e⟩,_⟩=>⟨_,e⟩
def Ext(H H':Hp):Prop:=bD H H'∧∀ a o,H' a=some o→H a=some o∨ca o=true
section
variable{H H1 H2:Hp}{a:Addr}{o:HO}
theorem Ext.refl(H:Hp):Ext H H:=⟨bD.refl H,fun _ _ e=>.inl e⟩
theorem Ext.trans(x:Ext H H1)(y:Ext H1 H2):Ext H H2:=⟨x.1.trans y.1,fun a o e=>(y.2 a o e).elim (fun z=>x.2 a o z) .inr⟩
theorem Ext.plain(x:Ext H H1)(p:bA H):bA H1:=fun a o e=>(x.2 a o e).elim (fun z=>p a o z) id
theorem Ext.upd(h:H a=none)(n:ca o=true):Ext H (upd H a o):=by
 refine ⟨fun b u e=>by rw [af (al e h)];exact e,fun b u e=> ?_⟩
 by_cases hb:b=a
 ·subst hb;rw [a9] at e;cases e;exact .inr n
 ·rw [af hb] at e;exact .inl e
theorem Ext.into(h:H a=none)(x:Ext H H1)(n:ca o=true):Ext H (L2.upd H1 a o):=by
 refine ⟨fun b u e=>by rw [af (al e h)];exact x.1 b u e,fun b u e=> ?_⟩
 by_cases hb:b=a
 ·subst hb;rw [a9] at e;cases e;exact .inr n
 ·rw [af hb] at e;exact x.2 b u e
theorem Ext.at_(x:Ext (L2.upd H a o) H1):H1 a=some o:=x.1 a o a9
theorem Ext.off(h:H a=none)(n:ca o=true)(x:Ext (L2.upd H a o) H1):Ext H H1:=(Ext.upd h n).trans x
end
def ij(J:It)(H1:Hp)(n:Nat)(P:Nat→V→Hp→Prop):Prop:=
 ∀ H,Ext H1 H→(∀ i,i < n→J.go i H∧∀ x H',J.yld i H x H'→Ext H H'∧P i x H')∧∀ i,n≤i→J.stop i H
theorem cn{K:PySem.W.Frag}{a:Addr}{xs:List V}{H1:Hp}(hl:SqL K H1 a xs):ij (Itl K a) H1 xs.length (fun i x _=>xs[i]? = some x):=by
 intro H sm
 have hl':=sm.1.seq hl
 refine ⟨fun i hi=>⟨⟨xs,xs[i],hl',List.getElem?_eq_getElem hi⟩,?_⟩,fun i hi=>⟨xs,hl',hi⟩⟩
 rintro x H' ⟨rfl,h⟩
 exact ⟨Ext.refl _,h xs hl'⟩
theorem kQ{d:Addr}{o:Obj}{kvs:List (Key×V)}{H1:Hp}(h:H1 d=some (.frz o (.dK kvs))):ij (Itd d o kvs) H1 kvs.length (fun i x _=>∃ k,kvs[i]? = some (k,x)):=by
 intro H sm
 refine ⟨fun i hi=>⟨⟨sm.1 _ _ h,hi⟩,?_⟩,fun i hi=>⟨sm.1 _ _ h,hi⟩⟩
 rintro x H' ⟨rfl,q⟩
 exact ⟨Ext.refl _,q⟩
theorem nr{K:PySem.W.Frag}{a b:Addr}{xs ys:List V}{H1:Hp}(ha:H1 a=some (.lst xs))(hb:H1 b=some (.lst ys))(hl:xs.length=ys.length) :
  ij (Itz K a b) H1 xs.length (fun i x H'=>∃ T u v,xs[i]? = some u∧ys[i]? = some v∧x = .ref T∧H' T=some (.tup [u,v])):=by
 intro H sm
 have ha':SqL K H a xs:=SqL.of (sm.1 _ _ ha)
 have hb':SqL K H b ys:=SqL.of (sm.1 _ _ hb)
 refine ⟨fun i hi=>⟨⟨xs,ys,xs[i],ys[i],ha',hb',List.getElem?_eq_getElem hi,List.getElem?_eq_getElem (hl ▸ hi)⟩,?_⟩,fun i hi=>⟨xs,ys,ha',hb',.inl hi⟩⟩
 rintro x H' ⟨T,u,v,rfl,hT,rfl,hu,hv⟩
 exact ⟨Ext.upd hT rfl,T,u,v,hu xs ha',hv ys hb',rfl,a9⟩
theorem fk(f:Nat→Option V)(i:Nat):(List.range (i + 1)).filterMap f=(List.range i).filterMap f ++ (f i).toList:=by
 rw [List.range_succ,List.filterMap_append]
 cases e:f i <;> simp [e]
theorem lc_walk{J:It}{H1:Hp}{n:Nat}{P:Nat→V→Hp→Prop}{g:TG}{tt:TT}{te:TE}{vs:List Nat}{σ : St}{D:Addr}{Qd:Hp→Prop}(f:Nat→Option V)(W:ij J H1 n P)(hD:H1 D=none)(hn:n≤sizeLine)
  (turn:∀ i x H (N:Option V→Hp→Prop),i < n→Ext H1 H→P i x H→(∀ H',Ext H H'→N (f i) H') →
   g x (b7 σ vs) H fun σ2 H2=>b7 σ2 vs=b7 σ vs∧tt σ2 H2 fun b H3=>if b=true then te σ2 H3 fun y H4=>N (some y) H4 else N none H3)
  (hQ:∀ H',Ext (upd H1 D (.lst ((List.range n).filterMap f))) H'→Qd H') :
  ∃ W:Nat→Nat→Hp→Prop,(∃ m,W 0 m (upd H1 D (.lst [])))∧∀ i m H,W i m H →
   (J.stop i H∧Qd H)∨(J.go i H∧∃ Nx:Hp→Prop,(∀ H',Nx H'→∃ m',m' < m∧W (i + 1) m' H')∧∀ x H',J.yld i H x H'→g x (b7 σ vs) H' fun σ2 H2=>b7 σ2 vs=b7 σ vs∧tt σ2 H2 fun b H3=>
    if b=true then te σ2 H3 fun y H4=>∃ acc,H4 D=some (.lst acc)∧acc.length < sizeLine∧Nx (upd H4 D (.lst (acc ++ [y]))) else Nx H3):=by
 refine ⟨fun i m H=>i≤n∧m=n - i∧Ext H1 H∧H D=some (.lst ((List.range i).filterMap f)),⟨n,Nat.zero_le _,rfl,Ext.upd hD rfl,a9⟩,?_⟩
 rintro i m H ⟨hi,rfl,sm,hd⟩
 obtain ⟨w1,w2⟩:=W H sm
 by_cases h:i < n
 ·refine .inr ⟨(w1 i h).1,fun H'=>Ext H1 H'∧H' D=some (.lst ((List.range (i + 1)).filterMap f)),fun H' q=>⟨n - (i + 1),by omega,h,rfl,q.1,q.2⟩,fun x H' hy=> ?_⟩
  obtain ⟨s1,hp⟩:=(w1 i h).2 x H' hy
  refine turn i x H' (fun o H4=>match o with
   | some y=>∃ acc,H4 D=some (.lst acc)∧acc.length < sizeLine∧(Ext H1 (upd H4 D (.lst (acc ++ [y])))∧upd H4 D (.lst (acc ++ [y])) D=some (.lst ((List.range (i + 1)).filterMap f)))
   | none=>Ext H1 H4∧H4 D=some (.lst ((List.range (i + 1)).filterMap f))) h (sm.trans s1) hp fun H4 s2=> ?_
  have hd4:=s2.1 _ _ (s1.1 _ _ hd)
  have hlen:((List.range i).filterMap f).length < sizeLine:=Nat.lt_of_le_of_lt (List.length_filterMap_le _ _) (by rw [List.length_range];omega)
  rw [fk]
  cases f i with
  | none=>exact ⟨(sm.trans s1).trans s2,by simpa using hd4⟩
  | some y=>exact ⟨_,hd4,hlen,Ext.into hD ((sm.trans s1).trans s2) rfl,a9⟩
 ·have e:i=n:=by omega
  subst e
  refine .inl ⟨w2 i (Nat.le_refl _),hQ H ⟨fun b o q=> ?_,fun b o q=> ?_⟩⟩
  ·by_cases hb:b=D
   ·subst hb;rw [a9] at q;cases q;exact hd
   ·rw [af hb] at q;exact sm.1 b o q
  ·by_cases hb:b=D
   ·subst hb;rw [hd] at q;cases q;exact .inr rfl
   ·rw [af hb];exact sm.2 b o q
theorem cM{J:It}{n:Nat}{P:Nat→V→Hp→Hp→Prop}{g:TG}{tb:TS}{D:i6}{σ : St}{H:Hp}(Pv:Nat→St→Hp→Prop)
  (hJ:∀ i σ H,i≤n→Pv i σ H→(i < n→J.go i H∧∀ x H',J.yld i H x H'→P i x H H')∧(i=n→J.stop i H)) (h0:Pv 0 σ H)
  (hs:∀ i x σ H H',i < n→Pv i σ H→P i x H H'→g x σ H' fun σ2 H2=>tb { D with nx:=Pv (i + 1),ct:=Pv (i + 1),bk:=D.nx } σ2 H2) (hd:∀ σ H,Pv n σ H→D.nx σ H) :
  ∃ W:Nat→Nat→St→Hp→Prop,(∃ m,W 0 m σ H)∧∀ i m σ H,W i m σ H →
   (J.stop i H∧D.nx σ H)∨(J.go i H∧∃ N:St→Hp→Prop,(∀ σ' H',N σ' H'→∃ m',m' < m∧W (i + 1) m' σ' H')∧∀ x H',J.yld i H x H'→g x σ H' fun σ2 H2=>tb { D with nx:=N,ct:=N,bk:=D.nx } σ2 H2):=by
 refine ⟨fun i m σ H=>i≤n∧m=n - i∧Pv i σ H,⟨n,Nat.zero_le _,rfl,h0⟩,?_⟩
 rintro i m σ H ⟨hi,rfl,hp⟩
 obtain ⟨w1,w2⟩:=hJ i σ H hi hp
 by_cases h:i < n
 ·exact .inr ⟨(w1 h).1,Pv (i + 1),fun σ' H' q=>⟨n - (i + 1),by omega,h,rfl,q⟩,fun x H' hy=>hs i x σ H H' h hp ((w1 h).2 x H' hy)⟩
 ·have e:i=n:=by omega
  subst e
  exact .inl ⟨w2 rfl,hd σ H hp⟩
theorem jz{J:It}{H1:Hp}{n:Nat}{P:Nat→V→Hp→Prop}{g:TG}{tb:TS}{D:i6}{σ : St}{H:Hp}(W:ij J H1 n P)(Pv:Nat→St→Hp→Prop)(hS:∀ i σ H,Pv i σ H→Ext H1 H)(h0:Pv 0 σ H)
  (hs:∀ i x σ H H',i < n→Pv i σ H→Ext H H'→P i x H'→g x σ H' fun σ2 H2=>tb { D with nx:=Pv (i + 1),ct:=Pv (i + 1),bk:=D.nx } σ2 H2) (hd:∀ σ H,Pv n σ H→D.nx σ H) :
  ∃ W:Nat→Nat→St→Hp→Prop,(∃ m,W 0 m σ H)∧∀ i m σ H,W i m σ H →
   (J.stop i H∧D.nx σ H)∨(J.go i H∧∃ N:St→Hp→Prop,(∀ σ' H',N σ' H'→∃ m',m' < m∧W (i + 1) m' σ' H')∧∀ x H',J.yld i H x H'→g x σ H' fun σ2 H2=>tb { D with nx:=N,ct:=N,bk:=D.nx } σ2 H2):=
 cM (P:=fun i x H H'=>Ext H H'∧P i x H') Pv (fun i σ H hi hp=>⟨fun h=>((W H (hS i σ H hp)).1 i h),fun h=>(W H (hS i σ H hp)).2 i (Nat.le_of_eq h.symm)⟩) h0 (fun i x σ H H' hi hp hq=>hs i x σ H H' hi hp hq.1 hq.2) hd
section
variable{X:Cx}
theorem Inv.laidN{pins:List (Addr×Obj)}{σ : St}{H:Hp}{s:Shared}{h':Heap}{a:Addr}{o:HO}{t':Nat}(I:Inv X pins σ H s)(k:∀ b u,s.heap.get? b=some u→h'.get? b=some u)(hf:s.heap.get? a=none)
  (new:be X.prog X.w (upd H a o) h' a o):Inv X pins σ (upd H a o) { s with heap:=h',toks:=t' }:=by
 have hn:H a=none:=by
  cases e:H a with
  | none=>rfl
  | some u=>
   have:∃ x,s.heap.get? a=some x:=by
    have h1:=I.hok a u e
    have h2:=(I.base.there)
    exact obj_at h1
   obtain ⟨x,hx⟩:=this
   rw [hf] at hx;cases hx
 have ne:∀ b u,H b=some u→b≠a:=fun b u e z=>by rw [z,hn] at e;cases e
 refine I.un ⟨fun b ob q _ _ _=>k b ob q,fun b ob q _ _ _=>⟨_,k b ob q⟩,fun b ob q n _=> ?_,fun b ob q _=>⟨_,k b ob q⟩,fun b xs q=>by rw [af (ne b _ q)];exact q,fun b ob u q=>by rw [af (ne b _ q)];exact q,fun b ps q=>⟨#[],by rw [af (ne b _ q)];simpa using q⟩⟩ fun b u e=> ?_
 ·rw [af fun z=>by rw [z,hf] at q;cases q]
  exact n
 ·by_cases hb:b=a
  ·subst hb
   rw [a9] at e
   cases e
   exact new
  ·rw [af hb] at e
   exact (I.hok b u e).stay (fun c v _ q=>k c v q) (fun c q=>by rw [af (ne c _ q)];exact q) (fun c xs q=>by rw [af (ne c _ q)];exact q)
theorem cr_dictOf:bX X (.type "dict") (fun xs H Q=>∃ a kvs,xs=[.ref a]∧Rd H a (.dK kvs)∧∀ p,H p=none→Q (.ref p) (upd H p (.dK kvs))):=by
 intro pins s σ H xs us Q I r h
 obtain ⟨a,kvs,rfl,hd,q⟩:=h
 obtain ⟨u,rfl,rx⟩:=iF r
 cases rx
 exact d_copyOf I hd fun p s' hp I'=>⟨.ref p,_,I',rfl,q p hp⟩
def oM(K:PySem.W.Frag):V→List V→Hp→VK→Prop:=fun x xs H Q=>∃ (a:Addr) (ns:List Int) (k:Int),x = .ref a∧xs=[.int k]∧SqL K H a (ns.map V.int)∧Q (.int (ns.count k:Nat)) H
theorem qm:MtR X "list.count" (oM X.K):=by
 intro pins s σ H x xs v us Q I rx rxs h
 obtain ⟨a,ns,k,rfl,rfl,hq,q⟩:=h
 cases rx
 obtain ⟨u,rfl,t,rfl⟩:=iF rxs
 obtain ⟨its,rv,hl,_⟩:=I.list hq
 exact PyProof.Rows.count_list_ints hl.isList rv.ints ⟨.int (ns.count k:Nat),H,I.tok _,⟨_,rfl⟩,q⟩
def fw:List V→Hp→VK→Prop:=fun vs H Q=>∃ (a:Addr) (ks:List (Int×V)),vs=[V.ref a]∧H a=some (.dK (ks.map fun p=>(Sum.inl p.1,p.2)))∧ks.length < 64 ∧
 ∀ (ns:List Int) (p:Addr),ns.Perm (ks.map (·.1))→ns.Pairwise (· ≤ ·)→H p=none→Q (.ref p) (upd H p (.lst (ns.map V.int)))
theorem lj{prog:Program}{w:World}:∀ {ks:List (Int×V)} {vs:List (Key×Value)} {acc:List Value},KV (ks.map fun p=>((Sum.inl p.1:Key),p.2)) vs→acc.length=vs.length→(∀ (j:Nat) v,acc[j]? = some v→∃ k x,vs[j]? = some (k,x)∧(bg prog w).is k v=true)→IntsAre acc (ks.map (·.1))
 | [],_,[],_,_,_=>IntsAre.nil
 | [],vs,v :: acc,h,hl,_=>by
  have:=h.length
  simp at this hl
  omega
 | k :: ks,[],acc,h,hl,_=>nomatch h
 | k :: ks,v :: vs,[],h,hl,_=>by simp at hl
 | k :: ks,v :: vs,u :: acc,h,hl,hh=>by
  cases h with
  | cons h1 h2=>
   obtain ⟨k',x,e,hk⟩:=hh 0 u rfl
   have e':v=(k',x):=by simpa using e
   subst e'
   have ek:(Sum.inl k.1:Key)=k':=h1.1
   subst ek
   obtain ⟨t,rfl⟩:=Value.isInt_shape (k:=k.1) (v:=u) hk
   exact IntsAre.cons _ _ (lj h2 (by simpa using hl) fun j z hz=>by simpa using hh (j + 1) z (by simpa using hz))
theorem eK(hc:X.calm=true):bX X (.builtin "sorted") fw:=by
 intro pins s σ H vs us Q I r h
 obtain ⟨a,ks,rfl,hd,h64,q⟩:=h
 rw [aR.ref1 r]
 obtain ⟨hz,hm,kv,rel,dd⟩:=dk_of I.hok hd
 obtain ⟨ep,hat⟩:=dd.dictAt
 have hlen:kv.length=ks.length:=by rw [← rel.length,List.length_map]
 refine Calls.call_function_entry kind_sorted plain_sorted entry_sorted (args_sorted1 _) ?_
 unfold Builtin.«sorted»
 refine wpAny_bind (m:=checkCount "sorted" 1 1 _) (wpAny_pure (wpAny_bind (PySem.W.kdu_collect (A:=X.A.in1) (PySem.W.kdl_dict (knd:=bg X.prog X.w) (kvs:=kv) (ep:=ep) hm) (I.ok.hd hc) hat (by rw [hlen];exact jh h64) fun h' tk acc hk hacc=> ?_)))
 have hl:acc.toList.length=kv.length:=by rw [Array.length_toList];exact hacc.1
 refine wpAny_bind (wpAny_newList ?_ (by rw [hl,hlen];exact jh h64))
 have hI:IntsAre acc.toList (ks.map (·.1)):=lj (prog:=X.prog) (w:=X.w) rel hl fun j v e=>hacc.2 j v (by rw [← Array.getElem?_toList];exact e)
 have hob:(h'.push (seqObj "list" acc.toList.toArray 0)).get? h'.objs.size=some (seqObj "list" acc.toList.toArray 0):=Heap.get?_push_size _ rfl
 refine wpAny_bind (wpAny_holding (wpAny_call_entry slot_list_sort ⟨_,hob,rfl⟩ entry_list_sort (list_sort_tree hob hI (by rw [hl,hlen];exact h64) fun out ns' h1 h2 h3=>⟨_,rfl,?_⟩) (args_list_sort _)))
 obtain ⟨ep',he'⟩:=sortedHeap_at (vs:=acc.toList) (out:=out) hob
 have hlen':(ns'.map V.int).length≤sizeLine:=by rw [List.length_map,h2.length_eq,List.length_map];exact jh h64
 have hf:s.heap.get? h'.objs.size=none:=by
  cases e:s.heap.get? h'.objs.size with
  | none=>rfl
  | some u=>exact absurd (Heap.lt_size (hk _ _ e)) (Nat.lt_irrefl _)
 have hn:H h'.objs.size=none:=by
  cases e:H h'.objs.size with
  | none=>rfl
  | some u=>
   obtain ⟨x,hx⟩:=obj_at (I.hok _ _ e)
   rw [hf] at hx;cases hx
 refine wpAny_pure ⟨_,rfl,.ref h'.objs.size,upd H h'.objs.size (.lst (ns'.map V.int)),I.laidN (t':=tk) (fun b o e=> ?_) hf ⟨hlen',out.toList,ep',gS h1,he'⟩,rfl,q ns' _ h2 h3 hn⟩
 have e1:=hk b o e
 rw [sortedHeap_old (Nat.ne_of_lt (Heap.lt_size e1)) (Heap.lt_size (Heap.get?_push_of_some _ e1))]
 exact Heap.get?_push_of_some _ e1
end
section
variable{X:Cx}{o i e a b value:Expr}{ta tb td ty tv:TE}{pos pos':Pos}
def rLenT:List V→Hp→VK→Prop:=fun xs H Q=>∃ p ys,xs=[.ref p]∧H p=some (.lst ys)∧Q (.int ys.length) H
theorem aV:bX X (.builtin "len") rLenT:=fun pins s σ H xs us Q I r ⟨p,ys,e1,e2,q⟩=>gQ pins s σ H xs us Q I r ⟨p,ys,e1,.inl (SqL.of e2),q⟩
def rLenD:List V→Hp→VK→Prop:=fun xs H Q=>∃ p kvs,xs=[.ref p]∧H p=some (.dK kvs)∧Q (.int kvs.length) H
theorem e7:bX X (.builtin "len") rLenD:=fun pins s σ H xs us Q I r ⟨p,ys,e1,e2,q⟩=>call_lenD pins s σ H xs us Q I r ⟨p,ys,e1,e2,q⟩
def rListT:List V→Hp→VK→Prop:=fun xs H Q=>∃ p ys,xs=[.ref p]∧H p=some (.lst ys)∧∀ l,H l=none→Q (.ref l) (upd H l (.lst ys))
theorem jw:bX X (.type "list") rListT:=fun pins s σ H xs us Q I r ⟨p,ys,e1,e2,q⟩=>lB pins s σ H xs us Q I r ⟨p,ys,e1,.inl (SqL.of e2),q⟩
def jy:R2:=fun x y H Q=>∃ p xs i v,x = .ref p∧y = .int i∧H p=some (.lst xs)∧atI xs i=some v∧Q v H
theorem aq:IxR X jy:=fun value slice pins s σ H x y v u Q I r1 r2 ⟨p,xs,i,z,e1,e2,e3,e4,q⟩=>q0 value slice pins s σ H x y v u Q I r1 r2 ⟨p,xs,i,z,e1,e2,SqL.of e3,e4,q⟩
def rInT(neg:Bool):R2:=fun x y H Q=>∃ p xs,y = .ref p∧H p=some (.lst xs)∧bV x=true∧xs.all bV=true∧Q (.bl (if neg then !inV x xs else inV x xs)) H
theorem k8:OpR X (compareOp .In) (rInT false):=fun pins s σ H x y v u Q I r1 r2 ⟨p,xs,e1,e2,e3,e4,q⟩=>iw pins s σ H x y v u Q I r1 r2 ⟨p,xs,e1,.inl (SqL.of e2),e3,e4,q⟩
def rInTT(neg:Bool):R2:=fun x y H Q=>∃ p xs,y = .ref p∧H p=some (.tup xs)∧bV x=true∧xs.all bV=true∧Q (.bl (if neg then !inV x xs else inV x xs)) H
theorem jg:OpR X (compareOp .In) (rInTT false):=fun pins s σ H x y v u Q I r1 r2 ⟨p,xs,e1,e2,e3,e4,q⟩=>iw pins s σ H x y v u Q I r1 r2 ⟨p,xs,e1,.inr (SqT.of e2),e3,e4,q⟩
def nV(td ty:TE):TE:=fun σ H Q=>td σ H fun x H1=>ty σ H1 fun y H2=>∃ a kvs k v,x = .ref a∧y = .int k∧H2 a=some (.dK kvs)∧bo kvs (Sum.inl k)=some v∧Q v H2
def tDInT(ty td:TE):TE:=fun σ H Q=>ty σ H fun y H1=>td σ H1 fun x H2=>∃ a kvs k,x = .ref a∧y = .int k∧H2 a=some (.dK kvs)∧Q (.bl (bo kvs (Sum.inl k)).isSome) H2
def jX(ty td:TE):TE:=fun σ H Q=>ty σ H fun y H1=>td σ H1 fun x H2=>∃ a kvs k,x = .ref a∧y = .int k∧H2 a=some (.dK kvs)∧Q (.bl (!(bo kvs (Sum.inl k)).isSome)) H2
def oT(td ty tv:TE):TS:=fun D σ H=>tv σ H fun v H1=>td σ H1 fun x H2=>ty σ H2 fun y H3=>∃ a kvs k,x = .ref a∧y = .int k∧H3 a=some (.dK kvs)∧kvs.length < sizeLine∧D.nx σ (upd H3 a (.dK (cH kvs (Sum.inl k) v)))
theorem iM.int{H:Hp}{a:Addr}{kvs:List (Key×V)}{k:Int}{r:Option V}(h:H a=some (.dK kvs))(e:bo kvs (Sum.inl k)=r):iM H a (.int k) r:=.inl ⟨kvs,Sum.inl k,.inl h,rfl,e.symm⟩
theorem aP(hu:X.A.units + 1 < cLine)(ho:PE X o td)(hi:PE X i ty)(hs:NoSl i):PE X (.Subscript o i pos) (nV td ty):=by
 intro pins s σ H Q I h
 refine subD_of PySem.F.slot_dict_getitem.lookup hs (thn (ho pins s σ H _ I h) fun u s1 ⟨x,H1,I1,rx,q1⟩=>thn (hi pins s1 σ H1 _ I1 q1) fun iv s2 ⟨y,H2,I2,ry,a,kvs,k,v,ex,ey,hd,hv,q2⟩=> ?_)
 subst ex ey
 obtain rfl:u=Value.ref a:=rx
 have g:=iM.int hd hv
 exact ⟨mS I2 g,d_getItem hu I2 g ry fun w' s3 I3 rw'=>⟨v,H2,I3,rw',q2⟩⟩
theorem fR(hu:X.A.units + 1 < cLine)(hi:PE X i ty)(ho:PE X o td):PC X .In i o (tDInT ty td):=by
 intro pins s σ H Q I h
 refine thn (hi pins s σ H _ I h) fun iv s1 ⟨y,H1,I1,ry,q1⟩=>thn (ho pins s1 σ H1 _ I1 q1) fun u s2 ⟨x,H2,I2,rx,a,kvs,k,ex,ey,hd,q2⟩=> ?_
 subst ex ey
 obtain rfl:u=Value.ref a:=rx
 exact d_in hu I2 (iM.int hd rfl) ry fun s3 I3=>⟨.bl _,H2,I3,rfl,q2⟩
theorem aW(hu:X.A.units + 1 < cLine)(hi:PE X i ty)(ho:PE X o td):PC X .NotIn i o (jX ty td):=by
 intro pins s σ H Q I h
 refine thn (hi pins s σ H _ I h) fun iv s1 ⟨y,H1,I1,ry,q1⟩=>thn (ho pins s1 σ H1 _ I1 q1) fun u s2 ⟨x,H2,I2,rx,a,kvs,k,ex,ey,hd,q2⟩=> ?_
 subst ex ey
 obtain rfl:u=Value.ref a:=rx
 exact d_notIn hu I2 (iM.int hd rfl) ry fun s3 I3=>⟨.bl _,H2,I3,rfl,q2⟩
theorem ck(hu:X.A.units + 1 < cLine)(ho:PE X o td)(hi:PE X i ty)(hv:PE X value tv)(hs:swapsWith value (some (.Subscript o i pos')) pos.line X.env=pure false):PS X (.Assign [.Subscript o i pos'] value pos) (oT td ty tv):=by
 intro pins s σ H D I h
 refine wpAny_Assign_Subscript (thn (hv pins s σ H _ I h) fun r s1 ⟨v,H1,I1,rv,q1⟩=>thn (ho pins s1 σ H1 _ I1 q1) fun u s2 ⟨x,H2,I2,rx,q2⟩=>thn (hi pins s2 σ H2 _ I2 q2) fun iv s3 ⟨y,H3,I3,ry,a,kvs,k,ex,ey,hd,hl,q3⟩=> ?_) hs
 subst ex ey
 obtain rfl:u=Value.ref a:=rx
 exact d_setItem hu I3 (DPut.k (k:=Sum.inl k) hd hl) ry rv fun s4 I4=>⟨σ,_,I4,q3⟩
theorem at0{a:V}{r:List V}:atI (a :: r) 0=some a:=eA (j:=0) rfl
theorem at1{a b:V}{r:List V}:atI (a :: b :: r) 1=some b:=eA (j:=1) rfl
theorem at2{a b c:V}{r:List V}:atI (a :: b :: c :: r) 2=some c:=eA (j:=2) rfl
theorem at3{a b c d:V}{r:List V}:atI (a :: b :: c :: d :: r) 3=some d:=eA (j:=3) rfl
theorem at4{a b c d e:V}{r:List V}:atI (a :: b :: c :: d :: e :: r) 4=some e:=eA (j:=4) rfl
theorem at5{a b c d e f:V}{r:List V}:atI (a :: b :: c :: d :: e :: f :: r) 5=some f:=eA (j:=5) rfl
theorem jf(k:Int):∀ ns:List Int,inV (.int k) (ns.map V.int)=ns.contains k
 | [] =>rfl
 | n :: r=>by
  have ih:=jf k r
  unfold inV at ih ⊢
  rw [List.map_cons,List.any_cons,ih,List.contains_cons]
  congr 1
  show (n == k)=(k == n)
  rw [Bool.eq_iff_iff,beq_iff_eq,beq_iff_eq]
  exact ⟨Eq.symm,Eq.symm⟩
theorem flat_ints:∀ ns:List Int,(ns.map V.int).all bV=true
 | [] =>rfl
 | n :: r=>by rw [List.map_cons,List.all_cons,flat_ints r];rfl
end
section
variable{X:Cx}{K:PySem.W.Frag}{o e e2 value l:Expr}{es:List Expr}{ta tv tl to:TE}{t:TA}{f name:Str}{pos pos' apos cpos p tpos:Pos}{id:String}{r:V→List V→Hp→VK→Prop}{tg:Expr}
theorem aH(hK:X.K=K)(ha:PE X o ta)(hv:PE X value tv)(hs:swapsWith value (some (.Attribute o f pos')) pos.line X.env=pure false):PS X (.Assign [.Attribute o f pos'] value pos) (sFld K ta tv f):=by subst hK;exact ps_fld ha hv hs
def tBM0T(r:V→List V→Hp→VK→Prop)(to:TE):TE:=fun σ H Q=>to σ H fun x H1=>∃ a ys,x = .ref a∧H1 a=some (.lst ys)∧r x [] H1 Q
def tBMT(r:V→List V→Hp→VK→Prop)(to:TE)(t:TA):TE:=fun σ H Q=>to σ H fun x H1=>∃ a ys,x = .ref a∧H1 a=some (.lst ys)∧t σ H1 fun xs H2=>r x xs H2 Q
theorem pe_bm0T(pa:PlainAttrs "list")(slot:Slot "list" name id)(hty:typeOf (.builtin id)=pure (.type "method_descriptor"))(hm:MtR X id r)(ho:PE X o to)
  (hbase:attributeBase o name X.env (eval o X.env)=eval o X.env:=by rfl) (hline:(apos.endLine == cpos.line)=true:=by rfl):PE X (.Call (.Attribute o name apos) [] [] cpos) (tBM0T r to):=by
 intro pins s σ H Q I h
 refine wpAny_Call_method0_late hbase hline (thn (ho pins s σ H _ I h) fun v s1 ⟨x,H1,I1,r1,a,ys,ex,hy,q1⟩=> ?_)
 obtain ⟨h1,h2⟩:=tyV_is (T := "list") I1 r1 (by subst ex;exact .inl ⟨rfl,ys,SqL.of hy⟩)
 exact ⟨"list",id,pa,slot,hty,h1,h2,Calls.callWith_builtin rfl (PySem.evalArgs_none (hm pins s1 σ H1 x [] v [] Q I1 r1 .nil q1))⟩
theorem cq(pa:PlainAttrs "list")(slot:Slot "list" name id)(hty:typeOf (.builtin id)=pure (.type "method_descriptor"))(hm:MtR X id r)(ho:PE X o to)(ha:PA X (e :: es) t)
  (hbase:attributeBase o name X.env (eval o X.env)=eval o X.env:=by rfl)
  (hfew:((backTo cpos (starEach (e :: es) X.env)).all (fun x=> !x.1) && (backToKw cpos (keywordEach [] X.env)).all (fun x=>x.1.isSome)
   && decide ((e :: es).length + ([]:List Keyword).length + (if ([]:List Keyword).isEmpty then 0 else 1) < 30))=true:=by rfl)
  (hline:(apos.endLine == cpos.line)=true:=by rfl) (hs:starEach (e :: es) X.env=(false,eval e X.env) :: starEach es X.env:=by rfl) (hplain:(backTo cpos (starEach es X.env)).any (·.1)=false:=by rfl) :
  PE X (.Call (.Attribute o name apos) (e :: es) [] cpos) (tBMT r to t):=by
 intro pins s σ H Q I h
 refine wpAny_Call_method_late hbase hfew hline rfl (thn (ho pins s σ H _ I h) fun v s1 ⟨x,H1,I1,r1,a,ys,ex,hy,q1⟩=> ?_)
 obtain ⟨h1,h2⟩:=tyV_is (T := "list") I1 r1 (by subst ex;exact .inl ⟨rfl,ys,SqL.of hy⟩)
 refine ⟨"list",id,pa,slot,hty,h1,h2,?_⟩
 have hA:=ha cpos pins s1 σ H1 _ I1 q1
 rw [hs] at hA ⊢
 refine Calls.callWith_builtin (by show (false || (backTo cpos (starEach es X.env)).any (·.1))=false;rw [hplain] <;> rfl) (Calls.evalArgs_plain ?_)
 exact thn hA fun us s2 ⟨vs,H2,I2,r2,q2⟩=>hm pins s2 σ H2 x vs v us Q I2 r1 r2 q2
def gh(K:PySem.W.Frag)(tl:TE):TI:=fun σ H R=>tl σ H fun x H1=>∃ a xs,x = .ref a∧H1 a=some (.lst xs)∧R (Itl K a) H1
theorem aN(hK:X.K=K)(hl:PE X l tl):PI X tg l (gh K tl):=by
 subst hK
 intro pins s σ H R I h
 exact pi_list (X:=X) (tl:=fun σ' H' Q=>∃ Q',(∀ v H1,Q' v H1→Q v H1)∧tl σ' H' Q') (fun pins s σ H Q I ⟨Q',m,q⟩=>thn (hl pins s σ H Q' I q) fun u s' ⟨v,H',I',r,q'⟩=>⟨v,H',I',r,m v H' q'⟩) pins s σ H R I
  ⟨_,fun v H1 ⟨a,xs,e1,e2,q⟩=>⟨a,e1,⟨xs,SqL.of e2⟩,q⟩,h⟩
def gTupT(n:Nat)(t:TGs):TG:=fun v σ H Q=>∃ a xs,v = .ref a∧H a=some (.tup xs)∧xs.length=n∧t xs σ H Q
theorem eE{tgs:List Expr}{k:Nat}{t:TGs}{n:Nat}(hc:X.calm=true)(h:PGs X tgs t)(hn:(assignEach tgs X.env).length=n:=by rfl)(hst:(assignEach tgs X.env).findIdx? (·.1)=none:=by rfl):PG X (.Tuple tgs k pos) (gTupT n t):=
 fun pins s σ H v u Q I r ⟨a,xs,e1,e2,e3,q⟩=>pg_tup hc h hn hst pins s σ H v u Q I r ⟨a,xs,e1,SqT.of e2,e3,q⟩
theorem ni{elts:List Expr}{kk:Nat}(hK:X.K=K)(hg:Gl X "enumerate")(hm:X.mg "enumerate" = none)(ha:PA X [e] t)(hs:starEach [e] X.env=[(false,eval e X.env)]:=by rfl):PI X (.Tuple elts kk tpos) (.Call (.Name "enumerate" p) [e] [] pos) (iEnum K t):=by subst hK;exact pi_enum hg hm ha hs
theorem mB{elts:List Expr}{kk:Nat}(hK:X.K=K)(hg:Gl X "zip")(hm:X.mg "zip" = none)(ha:PA X [e,e2] t)(hs:starEach [e,e2] X.env=(false,eval e X.env) :: starEach [e2] X.env:=by rfl)(hs2:(backTo pos (starEach [e2] X.env)).any (·.1)=false:=by rfl):PI X (.Tuple elts kk tpos) (.Call (.Name "zip" p) [e,e2] [] pos) (iZip K t):=by subst hK;exact pi_zip hg hm ha hs hs2
theorem eq(hK:X.K=K)(hc:X.calm=true):bX X (.builtin "any") (rAny K):=by subst hK;exact cr_any hc
theorem md(hK:X.K=K)(hc:X.calm=true):bX X (.builtin "all") (rAll K):=by subst hK;exact cr_all hc
theorem cr_setK(hK:X.K=K)(hc:X.calm=true):bX X (.type "set") (rSet K):=by subst hK;exact cr_setI hc
theorem hU(hK:X.K=K):MtR X "list.count" (oM K):=by subst hK;exact qm
theorem mt_indexK(hK:X.K=K):MtR X "list.index" (om K):=by subst hK;exact mt_index
theorem nw(hK:X.K=K):SlR X (rSlL K):=by subst hK;exact sl_list
end
theorem Ext.both{H H1:Hp}{a:Addr}{o:HO}(x:Ext H H1):Ext (L2.upd H a o) (L2.upd H1 a o):=by
 refine ⟨fun b u e=> ?_,fun b u e=> ?_⟩
 ·by_cases hb:b=a
  ·subst hb;rw [a9] at e ⊢;exact e
  ·rw [af hb] at e ⊢;exact x.1 b u e
 ·by_cases hb:b=a
  ·subst hb;rw [a9] at e ⊢;exact .inl e
  ·rw [af hb] at e ⊢;exact x.2 b u e
theorem eJ{wi:TI}{g:TG}{tt:TT}{te:TE}{vs:List Nat}{σ : St}{H:Hp}{Q:VK}(n:Nat)(P:Nat→V→Hp→Prop)(f:Nat→Option V)(hn:n≤sizeLine)
  (hw:∀ R:It→Hp→Prop,(∀ J H1,Ext H H1→ij J H1 n P→R J H1)→wi σ H R)
  (turn:∀ i x H' (N:Option V→Hp→Prop),i < n→Ext H H'→P i x H'→(∀ H'',Ext H' H''→N (f i) H'') →
   g x (b7 σ vs) H' fun σ2 H2=>b7 σ2 vs=b7 σ vs∧tt σ2 H2 fun b H3=>if b=true then te σ2 H3 fun y H4=>N (some y) H4 else N none H3)
  (q:∀ D H',H D=none→Ext (upd H D (.lst ((List.range n).filterMap f))) H'→Q (.ref D) H'):tLc wi g tt te vs σ H Q:=by
 refine hw _ fun J H1 x W D hD=> ?_
 refine lc_walk f W hD hn (fun i y H' N hi s=>turn i y H' N hi (x.trans s)) fun H' s=>q D H' (x.1.free hD) (Ext.trans (Ext.both x) s)
theorem fq{α : Type}(g:Nat→α)(n:Nat):(List.range n).filterMap (fun i=>some (g i))=(List.range n).map g:=by
 induction n with
 | zero=>rfl
 | succ n ih=>rw [List.range_succ,List.filterMap_append,List.map_append,ih];rfl
theorem lC{K:PySem.W.Frag}{wi:TI}{g:TG}{te:TE}{vs:List Nat}{σ : St}{H:Hp}{Q:VK}(n:Nat)(P:Nat→V→Hp→Prop)(bs:Nat→Bool)(pl:bA H)(hn:n≤sizeLine)
  (hw:∀ R:It→Hp→Prop,(∀ J H1,Ext H H1→ij J H1 n P→R J H1)→wi σ H R)
  (turn:∀ i x H' (N:V→Hp→Prop),i < n→Ext H H'→P i x H'→(∀ H'',Ext H' H''→N (.bl (bs i)) H'')→g x (b7 σ vs) H' fun σ2 H2=>b7 σ2 vs=b7 σ vs∧te σ2 H2 N)
  (q:Q (.bl ((List.range n).any bs)) H):tFgt (tCB (rAny K) (bI (tLc wi g fU te vs) ip)) σ H Q:=by
 refine ⟨pl,?_⟩
 show tLc wi g fU te vs σ H (fun x H1=>rAny K [x] H1 fun v H'=>bD H H'∧Q v H)
 refine eJ n P (fun i=>some (.bl (bs i))) hn hw (fun i x H' N hi s hp hN=> ?_) fun D H' hD s=>⟨D,(List.range n).map bs,rfl,SqL.of ?_,(Ext.off hD rfl s).1,?_⟩
 ·exact turn i x H' (fun v H''=>N (some v) H'') hi s hp hN
 ·rw [s.at_,fq,List.map_map];rfl
 ·rw [List.any_map];exact q
theorem all_lc{K:PySem.W.Frag}{wi:TI}{g:TG}{te:TE}{vs:List Nat}{σ : St}{H:Hp}{Q:VK}(n:Nat)(P:Nat→V→Hp→Prop)(bs:Nat→Bool)(pl:bA H)(hn:n≤sizeLine)
  (hw:∀ R:It→Hp→Prop,(∀ J H1,Ext H H1→ij J H1 n P→R J H1)→wi σ H R)
  (turn:∀ i x H' (N:V→Hp→Prop),i < n→Ext H H'→P i x H'→(∀ H'',Ext H' H''→N (.bl (bs i)) H'')→g x (b7 σ vs) H' fun σ2 H2=>b7 σ2 vs=b7 σ vs∧te σ2 H2 N)
  (q:Q (.bl ((List.range n).all bs)) H):tFgt (tCB (rAll K) (bI (tLc wi g fU te vs) ip)) σ H Q:=by
 refine ⟨pl,?_⟩
 show tLc wi g fU te vs σ H (fun x H1=>rAll K [x] H1 fun v H'=>bD H H'∧Q v H)
 refine eJ n P (fun i=>some (.bl (bs i))) hn hw (fun i x H' N hi s hp hN=> ?_) fun D H' hD s=>⟨D,(List.range n).map bs,rfl,SqL.of ?_,(Ext.off hD rfl s).1,?_⟩
 ·exact turn i x H' (fun v H''=>N (some v) H'') hi s hp hN
 ·rw [s.at_,fq,List.map_map];rfl
 ·rw [List.all_map];exact q
theorem range_all{α : Type}(p : α→Bool)(d : α)(l:List α):((List.range l.length).all fun i=>p (l.getD i d))=l.all p:=by
 rw [Bool.eq_iff_iff,List.all_eq_true,List.all_eq_true]
 constructor
 ·intro h x hx
  obtain ⟨i,hi,rfl⟩:=List.getElem_of_mem hx
  have:=h i (List.mem_range.mpr hi)
  rwa [List.getD_eq_getElem?_getD,List.getElem?_eq_getElem hi] at this
 ·intro h i hi
  rw [List.mem_range] at hi
  rw [List.getD_eq_getElem?_getD,List.getElem?_eq_getElem hi]
  exact h _ (List.getElem_mem hi)
theorem range_fm{α β : Type}(f : α→Option β)(d : α)(l:List α):((List.range l.length).filterMap fun i=>f (l.getD i d))=l.filterMap f:=by
 have e:l=(List.range l.length).map fun i=>l.getD i d:=by
  refine List.ext_getElem (by simp) fun i h1 h2=> ?_
  simp [List.getElem?_eq_getElem h1]
 conv=>rhs;rw [e]
 rw [List.filterMap_map];rfl
theorem getD_of{α : Type}{l:List α}{i:Nat}{x d : α}(h:l[i]? = some x):l.getD i d=x:=by rw [List.getD_eq_getElem?_getD,h];rfl
theorem cN{K:PySem.W.Frag}{H:Hp}{σ : St}{j:Nat}{a:Addr}{xs:List V}(hv : σ[j]? = some (some (.ref a)))(ha:H a=some (.lst xs)) :
  ∀ R:It→Hp→Prop,(∀ J H1,Ext H H1→ij J H1 xs.length (fun i x _=>xs[i]? = some x)→R J H1)→gh K (bq j) σ H R:=
 fun R h=>⟨_,hv,a,_,rfl,ha,h _ _ (Ext.refl H) (cn (SqL.of ha))⟩
theorem Ext.unlock{H H1:Hp}{d:Addr}{u:HO}{od:Obj}(hd:H d=some u)(nu:ca u=true)(x:Ext (L2.upd H d (.frz od u)) H1):Ext H (L2.upd H1 d u):=by
 refine ⟨fun b o e=> ?_,fun b o e=> ?_⟩
 ·by_cases hb:b=d
  ·subst hb;rw [hd] at e;cases e;exact a9
  ·rw [af hb];exact x.1 b o (by rw [af hb];exact e)
 ·by_cases hb:b=d
  ·subst hb;rw [a9] at e;cases e;exact .inl hd
  ·rw [af hb] at e
   rcases x.2 b o e with h | h
   ·rw [af hb] at h;exact .inl h
   ·exact .inr h
theorem ig{td:TE}{g:TG}{tt:TT}{te:TE}{vs:List Nat}{σ : St}{H:Hp}{D:i6}{j:Nat}(d:Addr)(kvs:List (Key×V))(f:Nat→Option V)(hd:H d=some (.dK kvs))(hn:kvs.length≤sizeLine)
  (htd:∀ od (Q:VK),Q (.ref d) (upd H d (.frz od (.dK kvs)))→td σ (upd H d (.frz od (.dK kvs))) Q)
  (turn:∀ od i x H' (N:Option V→Hp→Prop),i < kvs.length→Ext (upd H d (.frz od (.dK kvs))) H'→(∃ k,kvs[i]? = some (k,x))→(∀ H'',Ext H' H''→N (f i) H'') →
   g x (b7 σ vs) H' fun σ2 H2=>b7 σ2 vs=b7 σ vs∧tt σ2 H2 fun b H3=>if b=true then te σ2 H3 fun y H4=>N (some y) H4 else N none H3)
  (q:∀ l H',H l=none→Ext (upd H l (.lst ((List.range kvs.length).filterMap f))) H'→D.nx (σ.set j (some (.ref l))) H'):tLock (ms (tLc (iVals td) g tt te vs) (bZ j)) D σ H:=by
 refine ⟨d,_,hd,trivial,fun od=> ?_⟩
 have hf:upd H d (.frz od (.dK kvs)) d=some (.frz od (.dK kvs)):=a9
 show tLc (iVals td) g tt te vs σ (upd H d (.frz od (.dK kvs))) (fun x H1=>H1 d=some (.frz od (.dK kvs))∧D.nx (σ.set j (some x)) (upd H1 d (.dK kvs)))
 refine eJ kvs.length (fun i x _=>∃ k,kvs[i]? = some (k,x)) f hn (fun R h=>htd od _ ⟨d,od,kvs,rfl,hf,h _ _ (Ext.refl _) (kQ hf)⟩) (fun i x H' N hi s hx hN=>turn od i x H' N hi s hx hN) fun l H' hl s=> ?_
 have hld:l≠d:=fun z=>by subst z;rw [a9] at hl;cases hl
 rw [af hld] at hl
 have s1:Ext (upd H d (.frz od (.dK kvs))) H':=Ext.off (by rw [af hld];exact hl) rfl s
 refine ⟨s1.1 _ _ hf,q l _ hl ?_⟩
 have e:upd (upd H d (.frz od (.dK kvs))) l (.lst ((List.range kvs.length).filterMap f))=upd (upd H l (.lst ((List.range kvs.length).filterMap f))) d (.frz od (.dK kvs)):=by
  funext b
  by_cases h1:b=l
  ·subst h1;rw [a9,af hld,a9]
  ·rw [af h1]
   by_cases h2:b=d
   ·subst h2;rw [a9,a9]
   ·rw [af h2,af h2,af h1]
 rw [e] at s
 exact Ext.unlock (by rw [af (Ne.symm hld)];exact hd) rfl s
theorem kf{H H':Hp}{d b:Addr}{u o:HO}{od:Obj}(hd:H d=some u)(x:Ext (upd H d (.frz od u)) H')(hb:H b=some o)(ne:o≠u):H' b=some o:=by
 have h:b≠d:=fun z=>by subst z;rw [hd] at hb;exact ne (Option.some.inj hb).symm
 exact x.1 b o (by rw [af h];exact hb)
theorem oS{H:Hp}{d:Addr}{u:HO}{od:Obj}(pl:bA H)(hd:H d=some u):bA (upd H d (.frz od u)):=pl.upd (show ca (.frz od u)=true from pl d u hd)
class Kt (α : Type) where
 go : α→Prop
class Kt3 where
 go:Addr→Addr→List (Str×V)→Prop
def dS(x:V)[F:Kt Addr]:Prop:=∃ a,x = .ref a∧F.go a
def kx(x:V)[F:Kt Int]:Prop:=∃ i,x = .int i∧F.go i
def gBl(x:V)[F:Kt Bool]:Prop:=∃ k,x = .bl k∧F.go k
def gU{α : Type}(o:Option α)[F:Kt α]:Prop:=∃ v,o=some v∧F.go v
def gIns(o:Option HO)[F:Kt3]:Prop:=∃ C dx fs,o=some (.ins C dx fs)∧F.go C dx fs
def cx(o:Option HO)[F:Kt (List V)]:Prop:=∃ xs,o=some (.lst xs)∧F.go xs
def gTp(o:Option HO)[F:Kt (List V)]:Prop:=∃ xs,o=some (.tup xs)∧F.go xs
def gDk(o:Option HO)[F:Kt (List (Key×V))]:Prop:=∃ kvs,o=some (.dK kvs)∧F.go kvs
section
variable{a l b p:Addr}{i j:Int}{k:Bool}{C dx:Addr}{fs:List (Str×V)}{xs:List V}{kvs:List (Key×V)}{K:PySem.W.Frag}{ta tb tc to td ty tv:TE}{tt:TT}{t:TA}{σ : St}{H:Hp}{Q:VK}{f:Str}{D:i6}
theorem gRef_a{F:Kt Addr} : @dS (.ref a) F=F.go a:=by simp [dS]
theorem gInt_i{F:Kt Int} : @kx (.int i) F=F.go i:=by simp [kx]
theorem gBl_b{F:Kt Bool} : @gBl (.bl k) F=F.go k:=by simp [gBl]
theorem gOpt_s{α : Type}{v : α}{F:Kt α} : @gU α (some v) F=F.go v:=by simp [gU]
theorem gIns_s{F:Kt3} : @gIns (some (.ins C dx fs)) F=F.go C dx fs:=by
 apply propext;exact ⟨fun ⟨_,_,_,e,h⟩=>by cases e;exact h,fun h=>⟨_,_,_,rfl,h⟩⟩
theorem gLst_s{F:Kt (List V)} : @cx (some (.lst xs)) F=F.go xs:=by simp [cx]
theorem gTp_s{F:Kt (List V)} : @gTp (some (.tup xs)) F=F.go xs:=by simp [gTp]
theorem gDk_s{F:Kt (List (Key×V))} : @gDk (some (.dK kvs)) F=F.go kvs:=by simp [gDk]
theorem zTest:fE ta σ H=fun Q=>ta σ H fun x H'=> @gBl x ⟨fun k=>Q k H'⟩:=rfl
theorem zB:tB ta σ H=fun Q=>ta σ H fun x H'=> @gBl x ⟨fun k=>Q k H'⟩:=rfl
theorem zAndV:tAndV ta tb σ H Q=ta σ H fun x H1=> @gBl x ⟨fun c=>if c=true then tb σ H1 Q else Q (.bl false) H1⟩:=rfl
theorem zOrV:tOrV ta tb σ H Q=ta σ H fun x H1=> @gBl x ⟨fun c=>if c=true then Q (.bl true) H1 else tb σ H1 Q⟩:=rfl
theorem zNotV:tNotV ta σ H Q=ta σ H fun x H1=> @gBl x ⟨fun c=>Q (.bl (!c)) H1⟩:=rfl
theorem zChain{r r':R2}:tChain r r' ta tb tc σ H Q=ta σ H fun x H1=>tb σ H1 fun y H2=>r x y H2 fun z H3=> @gBl z ⟨fun k=>if k=true then tc σ H3 fun w' H4=>r' y w' H4 Q else Q (.bl false) H3⟩:=rfl
theorem zI0{g:Int→Int→V}:rI0 g (.int i) (.int j) H Q=Q (g i j) H:=by simp [rI0]
theorem zI{c:Int→Int→Prop}{g:Int→Int→V}:rI c g (.int i) (.int j) H Q=(c i j∧Q (g i j) H):=by simp [rI]
theorem zU{g:Int→V}:rU g (.int i) H Q=Q (g i) H:=by simp [rU]
theorem zEq:rEq (.int i) (.int j) H Q=Q (.bl (decide (i=j))) H:=by simp [rEq,lz]
theorem zNe:rNe (.int i) (.int j) H Q=Q (.bl (!decide (i=j))) H:=by simp [rNe,lz]
theorem zEqB{k':Bool}:rEq (.bl k) (.bl k') H Q=Q (.bl (decide (k=k'))) H:=by simp [rEq,lz]
theorem zNeB{k':Bool}:rNe (.bl k) (.bl k') H Q=Q (.bl (!decide (k=k'))) H:=by simp [rNe,lz]
theorem zCall{sp:Sp}{E:XK}:nO sp [] E t σ H Q=t σ H fun vs H1=>sp vs H1 Q E:=by simp [nO]
theorem zFld:tFld K ta f σ H Q=ta σ H fun x H1=> @dS x ⟨fun a=> @gIns (H1 a) ⟨fun C _ fs=>Cls K C∧aZ K C f ∧ @gU _ (fs.lookup f) ⟨fun v=>Q v H1⟩⟩⟩:=by
 unfold tFld dS gIns gU
 congr 1;funext x H1
 apply propext
 exact ⟨fun ⟨a,C,dx,fs,v,h1,h2,h3,h4,h5,h6⟩=>⟨a,h1,C,dx,fs,h2,h3,h4,v,h5,h6⟩,fun ⟨a,h1,C,dx,fs,h2,h3,h4,v,h5,h6⟩=>⟨a,C,dx,fs,v,h1,h2,h3,h4,h5,h6⟩⟩
theorem zsFld:sFld K ta tv f D σ H=tv σ H fun y H1=>ta σ H1 fun x H2=> @dS x ⟨fun a=> @gIns (H2 a) ⟨fun C dx fs=>Cls K C∧aZ K C f∧fs.length < 1000∧D.nx σ (upd H2 a (.ins C dx (b0 f y fs)))⟩⟩:=by
 unfold sFld dS gIns
 congr 1;funext y H1;congr 1;funext x H2
 apply propext
 exact ⟨fun ⟨a,C,dx,fs,h1,h2,h3,h4,h5,h6⟩=>⟨a,h1,C,dx,fs,h2,h3,h4,h5,h6⟩,fun ⟨a,h1,C,dx,fs,h2,h3,h4,h5,h6⟩=>⟨a,C,dx,fs,h1,h2,h3,h4,h5,h6⟩⟩
theorem zBMT{r:V→List V→Hp→VK→Prop}:tBMT r to t σ H Q=to σ H fun x H1=> @dS x ⟨fun a=> @cx (H1 a) ⟨fun _=>t σ H1 fun xs H2=>r (.ref a) xs H2 Q⟩⟩:=by
 unfold tBMT dS cx
 congr 1;funext x H1
 apply propext
 exact ⟨fun ⟨a,ys,h1,h2,h3⟩=>⟨a,h1,ys,h2,h1 ▸ h3⟩,fun ⟨a,h1,ys,h2,h3⟩=>⟨a,ys,h1,h2,h1 ▸ h3⟩⟩
theorem zBM0T{r:V→List V→Hp→VK→Prop}:tBM0T r to σ H Q=to σ H fun x H1=> @dS x ⟨fun a=> @cx (H1 a) ⟨fun _=>r (.ref a) [] H1 Q⟩⟩:=by
 unfold tBM0T dS cx
 congr 1;funext x H1
 apply propext
 exact ⟨fun ⟨a,ys,h1,h2,h3⟩=>⟨a,h1,ys,h2,h1 ▸ h3⟩,fun ⟨a,h1,ys,h2,h3⟩=>⟨a,ys,h1,h2,h1 ▸ h3⟩⟩
theorem zList{R:It→Hp→Prop}:gh K ta σ H R=ta σ H fun x H1=> @dS x ⟨fun a=> @cx (H1 a) ⟨fun _=>R (Itl K a) H1⟩⟩:=by
 unfold gh dS cx
 congr 1;funext x H1
 apply propext
 exact ⟨fun ⟨a,ys,h1,h2,h3⟩=>⟨a,h1,ys,h2,h3⟩,fun ⟨a,h1,ys,h2,h3⟩=>⟨a,ys,h1,h2,h3⟩⟩
theorem zgTup{n:Nat}{tg:TGs}{R:St→Hp→Prop}:gTupT n tg (.ref a) σ H R = @gTp (H a) ⟨fun xs=>xs.length=n∧tg xs σ H R⟩:=by
 unfold gTupT gTp
 apply propext
 exact ⟨fun ⟨_,ys,h1,h2,h3⟩=>by cases h1;exact ⟨ys,h2,h3⟩,fun ⟨ys,h2,h3⟩=>⟨a,ys,rfl,h2,h3⟩⟩
theorem zgCons{tg:TG}{u:TGs}{v:V}{r:List V}{R:St→Hp→Prop}:gCons tg u (v :: r) σ H R=tg v σ H fun σ' H'=>u r σ' H' R:=by
 unfold gCons
 apply propext
 exact ⟨fun ⟨_,_,h1,h2⟩=>by cases h1;exact h2,fun h=>⟨v,r,rfl,h⟩⟩
theorem zgNil{R:St→Hp→Prop}:gNil [] σ H R=R σ H:=by simp [gNil]
theorem zAppend{y:V}:lR (.ref l) [y] H Q = @cx (H l) ⟨fun xs=>xs.length < sizeLine∧Q .non (upd H l (.lst (xs ++ [y])))⟩:=by
 unfold lR cx
 apply propext
 exact ⟨fun ⟨_,xs,_,h1,h2,h3,h4⟩=>by cases h1;cases h2;exact ⟨xs,h3,h4⟩,fun ⟨xs,h3,h4⟩=>⟨l,xs,y,rfl,rfl,h3,h4⟩⟩
theorem zPop:rPop (.ref l) [] H Q = @cx (H l) ⟨fun xs=> @gU _ xs[xs.length - 1]? ⟨fun y=>Q y (upd H l (.lst xs.dropLast))⟩⟩:=by
 unfold rPop cx gU
 apply propext
 exact ⟨fun ⟨_,xs,y,h1,_,h3,h4,h5⟩=>by cases h1;exact ⟨xs,h3,y,h4,h5⟩,fun ⟨xs,h3,y,h4,h5⟩=>⟨l,xs,y,rfl,rfl,h3,h4,h5⟩⟩
theorem zExtend:mD (.ref l) [.ref b] H Q = @cx (H l) ⟨fun xs=> @cx (H b) ⟨fun zs=>xs.length + zs.length≤sizeLine∧Q .non (upd H l (.lst (xs ++ zs)))⟩⟩:=by
 unfold mD cx
 apply propext
 exact ⟨fun ⟨_,_,xs,zs,h1,h2,h3,h4,h5⟩=>by cases h1;cases h2;exact ⟨xs,h3,zs,h4,h5⟩,fun ⟨xs,h3,zs,h4,h5⟩=>⟨l,b,xs,zs,rfl,rfl,h3,h4,h5⟩⟩
theorem zCat:rCat (.ref l) (.ref b) H Q = @cx (H l) ⟨fun xs=> @cx (H b) ⟨fun zs=>xs.length + zs.length≤sizeLine∧∀ p,H p=none→Q (.ref p) (upd H p (.lst (xs ++ zs)))⟩⟩:=by
 unfold rCat cx
 apply propext
 exact ⟨fun ⟨_,_,xs,zs,h1,h2,h3,h4,h5⟩=>by cases h1;cases h2;exact ⟨xs,h3,zs,h4,h5⟩,fun ⟨xs,h3,zs,h4,h5⟩=>⟨l,b,xs,zs,rfl,rfl,h3,h4,h5⟩⟩
theorem zLen:rLenT [.ref p] H Q = @cx (H p) ⟨fun ys=>Q (.int ys.length) H⟩:=by
 unfold rLenT cx
 apply propext
 exact ⟨fun ⟨_,ys,h1,h2,h3⟩=>by cases h1;exact ⟨ys,h2,h3⟩,fun ⟨ys,h2,h3⟩=>⟨p,ys,rfl,h2,h3⟩⟩
theorem zLenD:rLenD [.ref p] H Q = @gDk (H p) ⟨fun ys=>Q (.int ys.length) H⟩:=by
 unfold rLenD gDk
 apply propext
 exact ⟨fun ⟨_,ys,h1,h2,h3⟩=>by cases h1;exact ⟨ys,h2,h3⟩,fun ⟨ys,h2,h3⟩=>⟨p,ys,rfl,h2,h3⟩⟩
theorem zIx:jy (.ref p) (.int i) H Q = @cx (H p) ⟨fun xs=> @gU _ (atI xs i) ⟨fun v=>Q v H⟩⟩:=by
 unfold jy cx gU
 apply propext
 exact ⟨fun ⟨_,xs,_,v,h1,h2,h3,h4,h5⟩=>by cases h1;cases h2;exact ⟨xs,h3,v,h4,h5⟩,fun ⟨xs,h3,v,h4,h5⟩=>⟨p,xs,i,v,rfl,rfl,h3,h4,h5⟩⟩
theorem zIn{neg:Bool}{x:V}:rInT neg x (.ref p) H Q = @cx (H p) ⟨fun xs=>bV x=true∧xs.all bV=true∧Q (.bl (if neg then !inV x xs else inV x xs)) H⟩:=by
 unfold rInT cx
 apply propext
 exact ⟨fun ⟨_,xs,h1,h2,h3⟩=>by cases h1;exact ⟨xs,h2,h3⟩,fun ⟨xs,h2,h3⟩=>⟨p,xs,rfl,h2,h3⟩⟩
theorem zInT{neg:Bool}{x:V}:rInTT neg x (.ref p) H Q = @gTp (H p) ⟨fun xs=>bV x=true∧xs.all bV=true∧Q (.bl (if neg then !inV x xs else inV x xs)) H⟩:=by
 unfold rInTT gTp
 apply propext
 exact ⟨fun ⟨_,xs,h1,h2,h3⟩=>by cases h1;exact ⟨xs,h2,h3⟩,fun ⟨xs,h2,h3⟩=>⟨p,xs,rfl,h2,h3⟩⟩
theorem zDGet:nV td ty σ H Q=td σ H fun x H1=>ty σ H1 fun y H2=> @dS x ⟨fun a=> @kx y ⟨fun k=> @gDk (H2 a) ⟨fun kvs=> @gU _ (bo kvs (Sum.inl k)) ⟨fun v=>Q v H2⟩⟩⟩⟩:=by
 unfold nV dS kx gDk gU
 congr 1;funext x H1;congr 1;funext y H2
 apply propext
 exact ⟨fun ⟨a,kvs,k,v,h1,h2,h3,h4,h5⟩=>⟨a,h1,k,h2,kvs,h3,v,h4,h5⟩,fun ⟨a,h1,k,h2,kvs,h3,v,h4,h5⟩=>⟨a,kvs,k,v,h1,h2,h3,h4,h5⟩⟩
theorem zDIn:tDInT ty td σ H Q=ty σ H fun y H1=>td σ H1 fun x H2=> @dS x ⟨fun a=> @kx y ⟨fun k=> @gDk (H2 a) ⟨fun kvs=>Q (.bl (bo kvs (Sum.inl k)).isSome) H2⟩⟩⟩:=by
 unfold tDInT dS kx gDk
 congr 1;funext y H1;congr 1;funext x H2
 apply propext
 exact ⟨fun ⟨a,kvs,k,h1,h2,h3,h4⟩=>⟨a,h1,k,h2,kvs,h3,h4⟩,fun ⟨a,h1,k,h2,kvs,h3,h4⟩=>⟨a,kvs,k,h1,h2,h3,h4⟩⟩
theorem zDNotIn:jX ty td σ H Q=ty σ H fun y H1=>td σ H1 fun x H2=> @dS x ⟨fun a=> @kx y ⟨fun k=> @gDk (H2 a) ⟨fun kvs=>Q (.bl (!(bo kvs (Sum.inl k)).isSome)) H2⟩⟩⟩:=by
 unfold jX dS kx gDk
 congr 1;funext y H1;congr 1;funext x H2
 apply propext
 exact ⟨fun ⟨a,kvs,k,h1,h2,h3,h4⟩=>⟨a,h1,k,h2,kvs,h3,h4⟩,fun ⟨a,h1,k,h2,kvs,h3,h4⟩=>⟨a,kvs,k,h1,h2,h3,h4⟩⟩
theorem zDPut:oT td ty tv D σ H=tv σ H fun v H1=>td σ H1 fun x H2=>ty σ H2 fun y H3=> @dS x ⟨fun a=> @kx y ⟨fun k=> @gDk (H3 a) ⟨fun kvs=>kvs.length < sizeLine∧D.nx σ (upd H3 a (.dK (cH kvs (Sum.inl k) v)))⟩⟩⟩:=by
 unfold oT dS kx gDk
 congr 1;funext v H1;congr 1;funext x H2;congr 1;funext y H3
 apply propext
 exact ⟨fun ⟨a,kvs,k,h1,h2,h3,h4⟩=>⟨a,h1,k,h2,kvs,h3,h4⟩,fun ⟨a,h1,k,h2,kvs,h3,h4⟩=>⟨a,kvs,k,h1,h2,h3,h4⟩⟩
end
theorem zv0{v:V}{r:St}{H:Hp}{Q:VK}:bq 0 (some v :: r) H Q=Q v H:=by simp [bq]
theorem zn0{y:Option V}{v:V}{r:St}{H:Hp}{Q:St→Hp→Prop}:bZ 0 v (y :: r) H Q=Q (some v :: r) H:=rfl
theorem zv1{x0:Option V}{v:V}{r:St}{H:Hp}{Q:VK}:bq 1 (x0 :: some v :: r) H Q=Q v H:=by simp [bq]
theorem zn1{x0:Option V}{y:Option V}{v:V}{r:St}{H:Hp}{Q:St→Hp→Prop}:bZ 1 v (x0 :: y :: r) H Q=Q (x0 :: some v :: r) H:=rfl
theorem zv2{x0 x1:Option V}{v:V}{r:St}{H:Hp}{Q:VK}:bq 2 (x0 :: x1 :: some v :: r) H Q=Q v H:=by simp [bq]
theorem zn2{x0 x1:Option V}{y:Option V}{v:V}{r:St}{H:Hp}{Q:St→Hp→Prop}:bZ 2 v (x0 :: x1 :: y :: r) H Q=Q (x0 :: x1 :: some v :: r) H:=rfl
theorem zv3{x0 x1 x2:Option V}{v:V}{r:St}{H:Hp}{Q:VK}:bq 3 (x0 :: x1 :: x2 :: some v :: r) H Q=Q v H:=by simp [bq]
theorem zn3{x0 x1 x2:Option V}{y:Option V}{v:V}{r:St}{H:Hp}{Q:St→Hp→Prop}:bZ 3 v (x0 :: x1 :: x2 :: y :: r) H Q=Q (x0 :: x1 :: x2 :: some v :: r) H:=rfl
theorem zv4{x0 x1 x2 x3:Option V}{v:V}{r:St}{H:Hp}{Q:VK}:bq 4 (x0 :: x1 :: x2 :: x3 :: some v :: r) H Q=Q v H:=by simp [bq]
theorem zn4{x0 x1 x2 x3:Option V}{y:Option V}{v:V}{r:St}{H:Hp}{Q:St→Hp→Prop}:bZ 4 v (x0 :: x1 :: x2 :: x3 :: y :: r) H Q=Q (x0 :: x1 :: x2 :: x3 :: some v :: r) H:=rfl
theorem zv5{x0 x1 x2 x3 x4:Option V}{v:V}{r:St}{H:Hp}{Q:VK}:bq 5 (x0 :: x1 :: x2 :: x3 :: x4 :: some v :: r) H Q=Q v H:=by simp [bq]
theorem zn5{x0 x1 x2 x3 x4:Option V}{y:Option V}{v:V}{r:St}{H:Hp}{Q:St→Hp→Prop}:bZ 5 v (x0 :: x1 :: x2 :: x3 :: x4 :: y :: r) H Q=Q (x0 :: x1 :: x2 :: x3 :: x4 :: some v :: r) H:=rfl
theorem zv6{x0 x1 x2 x3 x4 x5:Option V}{v:V}{r:St}{H:Hp}{Q:VK}:bq 6 (x0 :: x1 :: x2 :: x3 :: x4 :: x5 :: some v :: r) H Q=Q v H:=by simp [bq]
theorem zn6{x0 x1 x2 x3 x4 x5:Option V}{y:Option V}{v:V}{r:St}{H:Hp}{Q:St→Hp→Prop}:bZ 6 v (x0 :: x1 :: x2 :: x3 :: x4 :: x5 :: y :: r) H Q=Q (x0 :: x1 :: x2 :: x3 :: x4 :: x5 :: some v :: r) H:=rfl
theorem zv7{x0 x1 x2 x3 x4 x5 x6:Option V}{v:V}{r:St}{H:Hp}{Q:VK}:bq 7 (x0 :: x1 :: x2 :: x3 :: x4 :: x5 :: x6 :: some v :: r) H Q=Q v H:=by simp [bq]
theorem zn7{x0 x1 x2 x3 x4 x5 x6:Option V}{y:Option V}{v:V}{r:St}{H:Hp}{Q:St→Hp→Prop}:bZ 7 v (x0 :: x1 :: x2 :: x3 :: x4 :: x5 :: x6 :: y :: r) H Q=Q (x0 :: x1 :: x2 :: x3 :: x4 :: x5 :: x6 :: some v :: r) H:=rfl
theorem zv8{x0 x1 x2 x3 x4 x5 x6 x7:Option V}{v:V}{r:St}{H:Hp}{Q:VK}:bq 8 (x0 :: x1 :: x2 :: x3 :: x4 :: x5 :: x6 :: x7 :: some v :: r) H Q=Q v H:=by simp [bq]
theorem zn8{x0 x1 x2 x3 x4 x5 x6 x7:Option V}{y:Option V}{v:V}{r:St}{H:Hp}{Q:St→Hp→Prop}:bZ 8 v (x0 :: x1 :: x2 :: x3 :: x4 :: x5 :: x6 :: x7 :: y :: r) H Q=Q (x0 :: x1 :: x2 :: x3 :: x4 :: x5 :: x6 :: x7 :: some v :: r) H:=rfl
theorem zv9{x0 x1 x2 x3 x4 x5 x6 x7 x8:Option V}{v:V}{r:St}{H:Hp}{Q:VK}:bq 9 (x0 :: x1 :: x2 :: x3 :: x4 :: x5 :: x6 :: x7 :: x8 :: some v :: r) H Q=Q v H:=by simp [bq]
theorem zn9{x0 x1 x2 x3 x4 x5 x6 x7 x8:Option V}{y:Option V}{v:V}{r:St}{H:Hp}{Q:St→Hp→Prop}:bZ 9 v (x0 :: x1 :: x2 :: x3 :: x4 :: x5 :: x6 :: x7 :: x8 :: y :: r) H Q=Q (x0 :: x1 :: x2 :: x3 :: x4 :: x5 :: x6 :: x7 :: x8 :: some v :: r) H:=rfl
theorem zfE0{p k:Int}{t u:TS}{D:i6}{r:St}{H:Hp}:kC (fE (tOp rEq (bq 0) (tC (.int k)))) t u D (some (.int p) :: r) H=if p=k then t D (some (.int p) :: r) H else u D (some (.int p) :: r) H:=by simp [kC,fE,tOp,rEq,lz,bq,tC]
theorem zx0{a:Addr}{i:Int}{r:St}{H:Hp}{Q:VK}:tOp jy (bq 0) (tC (.int i)) (some (.ref a) :: r) H Q = @cx (H a) ⟨fun xs=> @gU _ (atI xs i) ⟨fun v=>Q v H⟩⟩:=by simp only [tOp,bq,tC,List.getElem?_cons_zero,List.getElem?_cons_succ,Option.some.injEq,exists_eq_left',zIx]
theorem zc0{v:V}{t:TA}{r:St}{H:Hp}{Q:List V→Hp→Prop}:bI (bq 0) t (some v :: r) H Q=t (some v :: r) H fun xs H2=>Q (v :: xs) H2:=by simp only [bI,zv0]
theorem zfE1{x0:Option V}{p k:Int}{t u:TS}{D:i6}{r:St}{H:Hp}:kC (fE (tOp rEq (bq 1) (tC (.int k)))) t u D (x0 :: some (.int p) :: r) H=if p=k then t D (x0 :: some (.int p) :: r) H else u D (x0 :: some (.int p) :: r) H:=by simp [kC,fE,tOp,rEq,lz,bq,tC]
theorem zx1{x0:Option V}{a:Addr}{i:Int}{r:St}{H:Hp}{Q:VK}:tOp jy (bq 1) (tC (.int i)) (x0 :: some (.ref a) :: r) H Q = @cx (H a) ⟨fun xs=> @gU _ (atI xs i) ⟨fun v=>Q v H⟩⟩:=by simp only [tOp,bq,tC,List.getElem?_cons_zero,List.getElem?_cons_succ,Option.some.injEq,exists_eq_left',zIx]
theorem zc1{x0:Option V}{v:V}{t:TA}{r:St}{H:Hp}{Q:List V→Hp→Prop}:bI (bq 1) t (x0 :: some v :: r) H Q=t (x0 :: some v :: r) H fun xs H2=>Q (v :: xs) H2:=by simp only [bI,zv1]
theorem zx2{x0 x1:Option V}{a:Addr}{i:Int}{r:St}{H:Hp}{Q:VK}:tOp jy (bq 2) (tC (.int i)) (x0 :: x1 :: some (.ref a) :: r) H Q = @cx (H a) ⟨fun xs=> @gU _ (atI xs i) ⟨fun v=>Q v H⟩⟩:=by simp only [tOp,bq,tC,List.getElem?_cons_zero,List.getElem?_cons_succ,Option.some.injEq,exists_eq_left',zIx]
theorem zc2{x0 x1:Option V}{v:V}{t:TA}{r:St}{H:Hp}{Q:List V→Hp→Prop}:bI (bq 2) t (x0 :: x1 :: some v :: r) H Q=t (x0 :: x1 :: some v :: r) H fun xs H2=>Q (v :: xs) H2:=by simp only [bI,zv2]
theorem zx3{x0 x1 x2:Option V}{a:Addr}{i:Int}{r:St}{H:Hp}{Q:VK}:tOp jy (bq 3) (tC (.int i)) (x0 :: x1 :: x2 :: some (.ref a) :: r) H Q = @cx (H a) ⟨fun xs=> @gU _ (atI xs i) ⟨fun v=>Q v H⟩⟩:=by simp only [tOp,bq,tC,List.getElem?_cons_zero,List.getElem?_cons_succ,Option.some.injEq,exists_eq_left',zIx]
theorem zc3{x0 x1 x2:Option V}{v:V}{t:TA}{r:St}{H:Hp}{Q:List V→Hp→Prop}:bI (bq 3) t (x0 :: x1 :: x2 :: some v :: r) H Q=t (x0 :: x1 :: x2 :: some v :: r) H fun xs H2=>Q (v :: xs) H2:=by simp only [bI,zv3]
theorem zc4{x0 x1 x2 x3:Option V}{v:V}{t:TA}{r:St}{H:Hp}{Q:List V→Hp→Prop}:bI (bq 4) t (x0 :: x1 :: x2 :: x3 :: some v :: r) H Q=t (x0 :: x1 :: x2 :: x3 :: some v :: r) H fun xs H2=>Q (v :: xs) H2:=by simp only [bI,zv4]
theorem zc5{x0 x1 x2 x3 x4:Option V}{v:V}{t:TA}{r:St}{H:Hp}{Q:List V→Hp→Prop}:bI (bq 5) t (x0 :: x1 :: x2 :: x3 :: x4 :: some v :: r) H Q=t (x0 :: x1 :: x2 :: x3 :: x4 :: some v :: r) H fun xs H2=>Q (v :: xs) H2:=by simp only [bI,zv5]
theorem scal_ii{i j:Int}:lz (.int i) (.int j)=true:=rfl
end L2
namespace Sl
open PySem PySem.Spec PyProof.Rows L2
structure ax(H:Hp)(cs:List (Addr×HO)):Prop where
 nd:(cs.map (·.1)).Nodup
 at_:∀ c∈cs,H c.1=some c.2
section
variable{H H':Hp}{cs ds:List (Addr×HO)}{a:Addr}{o o':HO}
theorem ax.perm(h:ax H cs)(p:cs.Perm ds):ax H ds:=⟨(p.map _).nodup_iff.mp h.nd,fun c hc=>h.at_ c (p.mem_iff.mpr hc)⟩
theorem ax.mono(h:ax H cs)(s:bD H H'):ax H' cs:=⟨h.nd,fun c hc=>s _ _ (h.at_ c hc)⟩
theorem ax.upd(h:ax H ((a,o) :: cs)):ax (upd H a o') ((a,o') :: cs):=by
 have n:=List.nodup_cons.mp h.nd
 refine ⟨h.nd,fun c hc=> ?_⟩
 rcases List.mem_cons.mp hc with rfl | hc
 ·exact a9
 ·have ne:c.1≠a:=fun e=>n.1 (by show a∈cs.map (·.1);rw [← e];exact List.mem_map_of_mem hc)
  rw [af ne]
  exact h.at_ c (List.mem_cons_of_mem _ hc)
theorem ax.set{p q:List (Addr×HO)}(h:ax H (p ++ (a,o) :: q)):ax (L2.upd H a o') (p ++ (a,o') :: q):=
 ((h.perm List.perm_middle).upd (o':=o')).perm List.perm_middle.symm
theorem ax.other(h:ax H cs)(hn:a∉cs.map (·.1)):ax (L2.upd H a o) cs:=⟨h.nd,fun c hc=>by
 have ne:c.1≠a:=fun e=>hn (by rw [← e];exact List.mem_map_of_mem hc)
 rw [af ne]
 exact h.at_ c hc⟩
theorem ax.free(h:ax H cs)(hn:H a=none):a∉cs.map (·.1):=fun hm=>by
 obtain ⟨c,hc,rfl⟩:=List.mem_map.mp hm
 rw [h.at_ c hc] at hn
 cases hn
theorem ax.add(h:ax H cs)(n:ax H ds)(hd:∀ c∈ds,c.1∉cs.map (·.1)):ax H (ds ++ cs):=by
 refine ⟨?_,fun c hc=> ?_⟩
 ·rw [List.map_append,List.nodup_append]
  refine ⟨n.nd,h.nd,fun x hx y hy e=> ?_⟩
  obtain ⟨c,hc,rfl⟩:=List.mem_map.mp hx
  exact hd c hc (e ▸ hy)
 ·rcases List.mem_append.mp hc with hc | hc
  ·exact n.at_ c hc
  ·exact h.at_ c hc
theorem ax.tail(h:ax H (ds ++ cs)):ax H cs:=by
 refine ⟨?_,fun c hc=>h.at_ c (List.mem_append_right _ hc)⟩
 have:=h.nd
 rw [List.map_append,List.nodup_append] at this
 exact this.2.1
end
structure SA where
 a:Addr
 dx:Addr
 la:Addr
 da:Addr
 ds:List Addr
structure QA where
 a:Addr
 dx:Addr
structure Lay where
 self:Addr
 dx:Addr
 hD:Addr
 pD:Addr
 gD:Addr
 sD:Addr
 lD:Addr
 lg:Addr
 hs:List Nat
 ps:List ((Vbnlai.Person×Vbnlai.Person)×QA)
 gs:List Nat
 ss:List (Vbnlai.Sheet×SA)
 ls:List (Vbnlai.Loan×QA)
 log:List Addr
def bb(L:Lay):List (Str×V):=[("houses",.ref L.hD),("persons",.ref L.pD),("gatherings",.ref L.gD),("sheets",.ref L.sD),("loans",.ref L.lD),("log",.ref L.lg)]
def bz(p q:Vbnlai.Person):List (Str×V):=[("house",.int p.house),("rank",.int p.rank),("first_house",.int q.house),("first_rank",.int q.rank)]
def on01(b:Bool):Int:=if b=true then 1 else 0
def bF(l:Vbnlai.Loan):List (Str×V):=[("lender",.int l.lender),("borrower",.int l.borrower),("due",.int l.due),("onward",.int (on01 l.onward))]
def stI(s:Vbnlai.Status):Int:=(Vbnlai.statusNumber s:Nat)
def aG(x:Vbnlai.Sheet)(A:SA):List (Str×V):=[("gathering",.int x.gathering),("owner",.int x.owner),("loans",.ref A.la),("status",.int (stI x.status)),("determinations",.ref A.da),("typified",.int x.type)]
def cI(d:Vbnlai.Det):List (Str×V):=[("day",.int d.day),("person",.int d.person),("rank",.int d.rank),("name",.int d.name),("conf",.int d.conf)]
def aT(l:List Nat):List V:=l.map fun n:Nat=>V.int (n:Int)
def kvH(hs:List Nat):List (Key×V):=hs.map fun h:Nat=>(Sum.inl (h:Int),V.bl true)
def kvP(ps:List ((Vbnlai.Person×Vbnlai.Person)×QA)):List (Key×V):=ps.map fun p=>(Sum.inl (p.1.1.key:Int),V.ref p.2.a)
def kvS(ss:List (Vbnlai.Sheet×SA)):List (Key×V):=ss.map fun p=>(Sum.inl (p.1.key:Int),V.ref p.2.a)
def kvL(ls:List (Vbnlai.Loan×QA)):List (Key×V):=ls.map fun p=>(Sum.inl (p.1.key:Int),V.ref p.2.a)
section
variable(C:Cs)
def aU(p:(Vbnlai.Person×Vbnlai.Person)×QA):List (Addr×HO):=[(p.2.a,.ins C.Person p.2.dx (bz p.1.1 p.1.2)),(p.2.dx,.own p.2.a)]
def aO(p:Vbnlai.Sheet×SA):List (Addr×HO):=[(p.2.a,.ins C.Sheet p.2.dx (aG p.1 p.2)),(p.2.dx,.own p.2.a),(p.2.la,.lst (aT p.1.loans)),(p.2.da,.lst (p.2.ds.map V.ref))]
def bh(p:Vbnlai.Loan×QA):List (Addr×HO):=[(p.2.a,.ins C.Loan p.2.dx (bF p.1)),(p.2.dx,.own p.2.a)]
def b8(L:Lay):List (Addr×HO):=[(L.self,.ins C.Ledger L.dx (bb L)),(L.dx,.own L.self),(L.hD,.dK (kvH L.hs)),(L.pD,.dK (kvP L.ps)),(L.gD,.dK (kvH L.gs)),(L.sD,.dK (kvS L.ss)),(L.lD,.dK (kvL L.ls)),(L.lg,.lst (L.log.map V.ref))]
def cells(L:Lay):List (Addr×HO):=b8 C L ++ (L.ps.flatMap (aU C) ++ (L.ss.flatMap (aO C) ++ L.ls.flatMap (bh C)))
def aS(L:Lay):List Addr:=(cells C L).map (·.1)
def cS(H:Hp)(L:Lay)(d:Vbnlai.Det)(a:Addr):Prop:=a∉aS C L∧∃ dx,H a=some (.ins C.Determination dx (cI d))
structure Rep(H:Hp)(L:Lay)(hs:List Nat)(P0:List Vbnlai.Person)(w:Vbnlai.World):Prop where
 cs:ax H (cells C L)
 ds:∀ p∈L.ss,Paired (cS C H L) p.1.dets p.2.ds
 hP:L.hs.Perm hs
 p1:(L.ps.map (·.1.1)).Perm w.persons
 p2:(L.ps.map (·.1.2)).Perm P0
 pk:∀ p∈L.ps,p.1.1.key=p.1.2.key
 gP:L.gs.Perm w.gatherings
 sP:(L.ss.map (·.1)).Perm w.sheets
 lP:(L.ls.map (·.1)).Perm w.loans
 hN:L.hs.Nodup
 pN:(L.ps.map fun p=>(p.1.1.key:Int)).Nodup
 gN:L.gs.Nodup
 sN:(L.ss.map fun p=>(p.1.key:Int)).Nodup
 lN:(L.ls.map fun p=>(p.1.key:Int)).Nodup
 pl:bA H
structure Fr(H:Hp)(L:Lay)(H':Hp)(L':Lay):Prop where
 keep:∀ a o,H a=some o→a∉aS C L→H' a=some o
 new:∀ a,a∈aS C L'→a∈aS C L∨H a=none
end
section
variable{C:Cs}{H H' H2:Hp}{L L' L2':Lay}{hs:List Nat}{P0:List Vbnlai.Person}{w w':Vbnlai.World}
theorem Fr.refl:Fr C H L H L:=⟨fun _ _ e _=>e,fun _ h=>.inl h⟩
theorem Fr.ext(x:Ext H H'):Fr C H L H' L:=⟨fun a o e _=>x.1 a o e,fun _ h=>.inl h⟩
theorem Fr.off(f:Fr C H L H' L'){a:Addr}{o:HO}(e:H a=some o)(h:a∉aS C L):a∉aS C L':=fun z=>(f.new a z).elim h fun n=>by rw [e] at n;cases n
theorem Fr.trans(x:Fr C H L H' L')(y:Fr C H' L' H2 L2'):Fr C H L H2 L2':=by
 refine ⟨fun a o e h=>y.keep a o (x.keep a o e h) (x.off e h),fun a h=> ?_⟩
 rcases y.new a h with h | h
 ·exact x.new a h
 ·by_cases hm:a∈aS C L
  ·exact .inl hm
  ·cases e:H a with
   | none=>exact .inr rfl
   | some o=>rw [x.keep a o e hm] at h;cases h
theorem Fr.upd{a:Addr}{o:HO}(ha:a∈aS C L)(hf:∀ b,b∈aS C L'→b∈aS C L∨H b=none):Fr C H L (upd H a o) L':=
 ⟨fun b u e h=>by
  have ne:b≠a:=fun z=>h (by rw [z];exact ha)
  rw [af ne];exact e,hf⟩
theorem cS.fr{d:Vbnlai.Det}{a:Addr}(h:cS C H L d a)(f:Fr C H L H' L'):cS C H' L' d a:=by
 obtain ⟨h1,dx,e⟩:=h
 exact ⟨f.off e h1,dx,f.keep _ _ e h1⟩
theorem bK{ds:List Vbnlai.Det}{as:List Addr}(h:Paired (cS C H L) ds as)(f:Fr C H L H' L'):Paired (cS C H' L') ds as:=Paired.mapP h fun _ _ q=>q.fr f
theorem fP{α : Type}(key : α→Int)(v : α→V)(l:List α)(k:Int):bo (l.map fun x=>((Sum.inl (key x):Key),v x)) (Sum.inl k)=(l.find? fun x=>key x == k).map v:=by
 unfold bo
 rw [List.find?_map,Option.map_map]
 congr 1
 congr 1
 funext x
 simp only [Function.comp]
 exact key_ll _ _
def Lay.sh(L:Lay)(k:Int):Option (Vbnlai.Sheet×SA):=L.ss.find? fun p=>(p.1.key:Int) == k
def Lay.ln(L:Lay)(k:Int):Option (Vbnlai.Loan×QA):=L.ls.find? fun p=>(p.1.key:Int) == k
def Lay.pn(L:Lay)(k:Int):Option ((Vbnlai.Person×Vbnlai.Person)×QA):=L.ps.find? fun p=>(p.1.1.key:Int) == k
def dL(l:List Nat)(k:Int):Bool:=l.any fun h=>(h:Int) == k
theorem bL(L:Lay)(k:Int):bo (kvS L.ss) (Sum.inl k)=(L.sh k).map fun p=>V.ref p.2.a:=fP (fun p:Vbnlai.Sheet×SA=>(p.1.key:Int)) _ _ _
theorem g5(L:Lay)(k:Int):bo (kvL L.ls) (Sum.inl k)=(L.ln k).map fun p=>V.ref p.2.a:=fP (fun p:Vbnlai.Loan×QA=>(p.1.key:Int)) _ _ _
theorem fz(L:Lay)(k:Int):bo (kvP L.ps) (Sum.inl k)=(L.pn k).map fun p=>V.ref p.2.a:=fP (fun p:(Vbnlai.Person×Vbnlai.Person)×QA=>(p.1.1.key:Int)) _ _ _
theorem val_H(l:List Nat)(k:Int):bo (kvH l) (Sum.inl k)=if dL l k=true then some (V.bl true) else none:=by
 unfold kvH
 rw [fP (fun h:Nat=>(h:Int)) (fun _=>V.bl true)]
 unfold dL
 cases e:l.find? (fun x:Nat=>(x:Int) == k) with
 | none=>
  rw [if_neg]
  ·rfl
  ·intro z
   obtain ⟨x,hx,q⟩:=List.any_eq_true.mp z
   exact List.find?_eq_none.mp e x hx q
 | some x=>rw [if_pos (List.any_eq_true.mpr ⟨x,List.mem_of_find?_eq_some e,List.find?_some e⟩)];rfl
theorem b5{L:Lay}{k:Int}{p:Vbnlai.Sheet×SA}(h:L.sh k=some p):p∈L.ss∧(p.1.key:Int)=k:=⟨List.mem_of_find?_eq_some h,by simpa using List.find?_some h⟩
theorem fB{L:Lay}{k:Int}{p:Vbnlai.Loan×QA}(h:L.ln k=some p):p∈L.ls∧(p.1.key:Int)=k:=⟨List.mem_of_find?_eq_some h,by simpa using List.find?_some h⟩
theorem km{L:Lay}{k:Int}{p:(Vbnlai.Person×Vbnlai.Person)×QA}(h:L.pn k=some p):p∈L.ps∧(p.1.1.key:Int)=k:=⟨List.mem_of_find?_eq_some h,by simpa using List.find?_some h⟩
theorem bE{c:Addr×HO}(h:c∈b8 C L):c∈cells C L:=List.mem_append_left _ h
theorem mem_cP{c:Addr×HO}{p:(Vbnlai.Person×Vbnlai.Person)×QA}(hp:p∈L.ps)(h:c∈aU C p):c∈cells C L:=List.mem_append_right _ (List.mem_append_left _ (List.mem_flatMap.mpr ⟨p,hp,h⟩))
theorem ga{c:Addr×HO}{p:Vbnlai.Sheet×SA}(hp:p∈L.ss)(h:c∈aO C p):c∈cells C L:=List.mem_append_right _ (List.mem_append_right _ (List.mem_append_left _ (List.mem_flatMap.mpr ⟨p,hp,h⟩)))
theorem mem_cL{c:Addr×HO}{p:Vbnlai.Loan×QA}(hp:p∈L.ls)(h:c∈bh C p):c∈cells C L:=List.mem_append_right _ (List.mem_append_right _ (List.mem_append_right _ (List.mem_flatMap.mpr ⟨p,hp,h⟩)))
variable(R:Rep C H L hs P0 w)
include R
theorem Rep.mono(x:Ext H H'):Rep C H' L hs P0 w:={ R with cs:=R.cs.mono x.1,ds:=fun p hp=>bK (R.ds p hp) (Fr.ext x),pl:=x.plain R.pl }
theorem Rep.self:H L.self=some (.ins C.Ledger L.dx (bb L)):=R.cs.at_ (_,_) (bE (by simp [b8]))
theorem Rep.hD:H L.hD=some (.dK (kvH L.hs)):=R.cs.at_ (_,_) (bE (by simp [b8]))
theorem Rep.pD:H L.pD=some (.dK (kvP L.ps)):=R.cs.at_ (_,_) (bE (by simp [b8]))
theorem Rep.gD:H L.gD=some (.dK (kvH L.gs)):=R.cs.at_ (_,_) (bE (by simp [b8]))
theorem Rep.sD:H L.sD=some (.dK (kvS L.ss)):=R.cs.at_ (_,_) (bE (by simp [b8]))
theorem Rep.lD:H L.lD=some (.dK (kvL L.ls)):=R.cs.at_ (_,_) (bE (by simp [b8]))
theorem Rep.lg:H L.lg=some (.lst (L.log.map V.ref)):=R.cs.at_ (_,_) (bE (by simp [b8]))
theorem Rep.sheet{p:Vbnlai.Sheet×SA}(hp:p∈L.ss):H p.2.a=some (.ins C.Sheet p.2.dx (aG p.1 p.2)):=R.cs.at_ (_,_) (ga hp (by simp [aO]))
theorem Rep.row{p:Vbnlai.Sheet×SA}(hp:p∈L.ss):H p.2.la=some (.lst (aT p.1.loans)):=R.cs.at_ (_,_) (ga hp (by simp [aO]))
theorem Rep.dts{p:Vbnlai.Sheet×SA}(hp:p∈L.ss):H p.2.da=some (.lst (p.2.ds.map V.ref)):=R.cs.at_ (_,_) (ga hp (by simp [aO]))
theorem Rep.loan{p:Vbnlai.Loan×QA}(hp:p∈L.ls):H p.2.a=some (.ins C.Loan p.2.dx (bF p.1)):=R.cs.at_ (_,_) (mem_cL hp (by simp [bh]))
theorem Rep.person{p:(Vbnlai.Person×Vbnlai.Person)×QA}(hp:p∈L.ps):H p.2.a=some (.ins C.Person p.2.dx (bz p.1.1 p.1.2)):=R.cs.at_ (_,_) (mem_cP hp (by simp [aU]))
theorem Rep.sheetOf(k:Int):Vbnlai.sheetOf w k=(L.sh k).map (·.1):=by
 have:=SV.find_perm (key:=fun x:Vbnlai.Sheet=>(x.key:Int)) R.sP (by rw [List.map_map];exact R.sN) k
 rw [SV.find_map_fst] at this
 exact this.symm
theorem Rep.loanZ(k:Int):(w.loans.find? fun l=>(l.key:Int) == k)=(L.ln k).map (·.1):=by
 have:=SV.find_perm (key:=fun x:Vbnlai.Loan=>(x.key:Int)) R.lP (by rw [List.map_map];exact R.lN) k
 rw [SV.find_map_fst] at this
 exact this.symm
theorem Rep.loanOf(k:Nat):Vbnlai.loanOf w k=(L.ln k).map (·.1):=by
 rw [← R.loanZ]
 unfold Vbnlai.loanOf
 congr 1
 funext l
 rw [Bool.eq_iff_iff,beq_iff_eq,beq_iff_eq]
 omega
theorem Rep.personOf(k:Int):Vbnlai.personOf w k=(L.pn k).map (·.1.1):=by
 have:=SV.find_perm (key:=fun x:Vbnlai.Person=>(x.key:Int)) R.p1 (by rw [List.map_map];exact R.pN) k
 rw [List.find?_map] at this
 exact this.symm
theorem Rep.house(k:Int):dL L.hs k=hs.any fun h=>(h:Int) == k:=SV.any_perm R.hP _
theorem Rep.gather(k:Int):dL L.gs k=w.gatherings.any fun h=>(h:Int) == k:=SV.any_perm R.gP _
theorem Rep.nS:L.ss.length=w.sheets.length:=by rw [← R.sP.length_eq,List.length_map]
theorem Rep.nL:L.ls.length=w.loans.length:=by rw [← R.lP.length_eq,List.length_map]
theorem Rep.nH:L.hs.length=hs.length:=R.hP.length_eq
omit R
def Lay.put(L:Lay)(k:Int)(f:Vbnlai.Sheet→Vbnlai.Sheet)(g:SA→SA):Lay:={ L with ss:=L.ss.map fun p=>if ([k]:List Int).contains (p.1.key:Int)=true then (f p.1,g p.2) else p }
theorem fi{α : Type}{key : α→Int}:∀ {l:List α} {k:Int} {p : α},(l.map key).Nodup→l.find? (fun p=>key p == k)=some p →
  ∃ l1 l2,l=l1 ++ p :: l2∧∀ u : α→α,(l.map fun q=>if ([k]:List Int).contains (key q)=true then u q else q)=l1 ++ u p :: l2
 | [],_,_,_,h=>by simp at h
 | q :: r,k,p,nd,h=>by
  rw [List.map_cons,List.nodup_cons] at nd
  rw [List.find?_cons] at h
  cases e:(key q == k) with
  | true=>
   rw [e] at h
   cases h
   have ek:key q=k:=by simpa using e
   refine ⟨[],r,rfl,fun u=> ?_⟩
   rw [List.map_cons,if_pos (by simp [ek])]
   congr 1
   refine (List.map_congr_left fun x hx=> ?_).trans (List.map_id r)
   rw [if_neg]
   ·rfl
   ·intro z
    have:key x=k:=by simpa using z
    exact nd.1 (by rw [ek,← this];exact List.mem_map_of_mem hx)
  | false=>
   rw [e] at h
   have ek:¬ key q=k:=by simpa using e
   obtain ⟨l1,l2,e1,e2⟩:=fi nd.2 h
   refine ⟨q :: l1,l2,by rw [e1];rfl,fun u=> ?_⟩
   rw [List.map_cons,if_neg (by simpa using ek),e2]
   rfl
theorem Lay.put_sh{L:Lay}{k:Int}{f:Vbnlai.Sheet→Vbnlai.Sheet}{g:SA→SA}(hf:∀ x,(f x).key=x.key)(j:Int):(L.put k f g).sh j=(L.sh j).map fun p=>if j=k then (f p.1,g p.2) else p:=by
 unfold Lay.sh Lay.put
 simp only
 induction L.ss with
 | nil=>rfl
 | cons p r ih=>
  rw [List.map_cons,List.find?_cons,List.find?_cons]
  by_cases hk:(p.1.key:Int)=k
  ·rw [if_pos (by simpa using hk),hf]
   cases e:((p.1.key:Int) == j) with
   | true=>
    have:j=k:=by rw [← hk];exact (by simpa using e:(p.1.key:Int)=j).symm
    simp [this]
   | false=>exact ih
  ·rw [if_neg (by simpa using hk)]
   cases e:((p.1.key:Int) == j) with
   | true=>
    have:¬ j=k:=fun z=>hk (by rw [← z];simpa using e)
    simp [this]
   | false=>exact ih
theorem cg{l1 l2:List (Vbnlai.Sheet×SA)}{p:Vbnlai.Sheet×SA}(h:L.ss=l1 ++ p :: l2):(cells C L).Perm (aO C p ++ (b8 C L ++ (L.ps.flatMap (aU C) ++ ((l1 ++ l2).flatMap (aO C) ++ L.ls.flatMap (bh C))))):=by
 unfold cells
 rw [h,List.flatMap_append,List.flatMap_cons,List.flatMap_append]
 refine List.Perm.trans ?_ (List.perm_append_comm_assoc _ _ _)
 refine List.Perm.append_left _ ?_
 refine List.Perm.trans ?_ (List.perm_append_comm_assoc _ _ _)
 refine List.Perm.append_left _ ?_
 simp only [List.append_assoc]
 exact (List.perm_append_comm_assoc _ _ _)
theorem Rep.put(R:Rep C H L hs P0 w){k:Int}{x:Vbnlai.Sheet}{A:SA}(hk:L.sh k=some (x,A))(f:Vbnlai.Sheet→Vbnlai.Sheet)(g:SA→SA)(hf:∀ y,(f y).key=y.key)(hg:∀ B,(g B).a=B.a)
  (hc:∀ rest,ax H (aO C (x,A) ++ rest)→ax H' (aO C (f x,g A) ++ rest)) (fr:Fr C H L H' (L.put k f g)) (hd:Paired (cS C H' (L.put k f g)) (f x).dets (g A).ds) (pl:bA H') :
  Rep C H' (L.put k f g) hs P0 (Vbnlai.change w [k] f):=by
 obtain ⟨l1,l2,e1,e2⟩:=fi (key:=fun p:Vbnlai.Sheet×SA=>(p.1.key:Int)) R.sN hk
 have e3:(L.put k f g).ss=l1 ++ (f x,g A) :: l2:=e2 fun p=>(f p.1,g p.2)
 have eB:b8 C (L.put k f g)=b8 C L:=by
  have:kvS (L.put k f g).ss=kvS L.ss:=by
   unfold kvS Lay.put
   simp only [List.map_map]
   refine List.map_congr_left fun p _=> ?_
   simp only [Function.comp]
   split
   ·rw [hf,hg]
   ·rfl
  unfold b8
  rw [this]
  rfl
 have hkey:∀ p:Vbnlai.Sheet×SA,((if ([k]:List Int).contains (p.1.key:Int)=true then (f p.1,g p.2) else p).1.key:Int)=(p.1.key:Int):=fun p=>by
  split
  ·rw [hf]
  ·rfl
 exact {
  cs:=by
   have h1:=hc _ (R.cs.perm (cg e1))
   rw [← eB] at h1
   exact h1.perm (cg (L:=L.put k f g) e3).symm
  ds:=fun p hp=>by
   rw [e3] at hp
   rcases List.mem_append.mp hp with hp | hp
   ·exact bK (R.ds p (by rw [e1];exact List.mem_append_left _ hp)) fr
   ·rcases List.mem_cons.mp hp with rfl | hp
    ·exact hd
    ·exact bK (R.ds p (by rw [e1];exact List.mem_append_right _ (List.mem_cons_of_mem _ hp))) fr
  hP:=R.hP,p1:=R.p1,p2:=R.p2,pk:=R.pk,gP:=R.gP
  sP:=by
   have:=R.sP.map fun y=>if ([k]:List Int).contains (y.key:Int)=true then f y else y
   refine List.Perm.trans (List.Perm.of_eq ?_) this
   show ((L.ss.map _).map _)=((L.ss.map _).map _)
   rw [List.map_map,List.map_map]
   refine List.map_congr_left fun p _=> ?_
   simp only [Function.comp]
   split <;> rfl
  lP:=R.lP,hN:=R.hN,pN:=R.pN,gN:=R.gN
  sN:=by
   have:((L.put k f g).ss.map fun p=>(p.1.key:Int))=L.ss.map fun p=>(p.1.key:Int):=by
    show (L.ss.map _).map _=_
    rw [List.map_map]
    exact List.map_congr_left fun p _=>hkey p
   rw [this]
   exact R.sN
  lN:=R.lN,pl:=pl }
end
section
variable{C:Cs}{H H':Hp}{L L':Lay}{hs:List Nat}{P0:List Vbnlai.Person}{w w':Vbnlai.World}
theorem Rep.world(R:Rep C H L hs P0 w)(h1:w.persons.Perm w'.persons)(h2:w.gatherings.Perm w'.gatherings)(h3:w.sheets.Perm w'.sheets)(h4:w.loans.Perm w'.loans):Rep C H L hs P0 w':=
 { R with p1:=R.p1.trans h1,gP:=R.gP.trans h2,sP:=R.sP.trans h3,lP:=R.lP.trans h4 }
def Lay.putP(L:Lay)(k:Int)(f:Vbnlai.Person→Vbnlai.Person):Lay:={ L with ps:=L.ps.map fun p=>if ([k]:List Int).contains (p.1.1.key:Int)=true then ((f p.1.1,p.1.2),p.2) else p }
def Lay.putL(L:Lay)(k:Int)(f:Vbnlai.Loan→Vbnlai.Loan):Lay:={ L with ls:=L.ls.map fun p=>if ([k]:List Int).contains (p.1.key:Int)=true then (f p.1,p.2) else p }
theorem bB{l1 l2:List ((Vbnlai.Person×Vbnlai.Person)×QA)}{p:(Vbnlai.Person×Vbnlai.Person)×QA}(h:L.ps=l1 ++ p :: l2) :
  (cells C L).Perm (aU C p ++ (b8 C L ++ ((l1 ++ l2).flatMap (aU C) ++ (L.ss.flatMap (aO C) ++ L.ls.flatMap (bh C))))):=by
 unfold cells
 rw [h,List.flatMap_append,List.flatMap_cons,List.flatMap_append]
 refine List.Perm.trans ?_ (List.perm_append_comm_assoc _ _ _)
 refine List.Perm.append_left _ ?_
 simp only [List.append_assoc]
 exact (List.perm_append_comm_assoc _ _ _)
theorem bC{l1 l2:List (Vbnlai.Loan×QA)}{p:Vbnlai.Loan×QA}(h:L.ls=l1 ++ p :: l2) :
  (cells C L).Perm (bh C p ++ (b8 C L ++ (L.ps.flatMap (aU C) ++ (L.ss.flatMap (aO C) ++ (l1 ++ l2).flatMap (bh C))))):=by
 unfold cells
 rw [h,List.flatMap_append,List.flatMap_cons,List.flatMap_append]
 refine List.Perm.trans ?_ (List.perm_append_comm_assoc _ _ _)
 refine List.Perm.append_left _ ?_
 refine List.Perm.trans ?_ (List.perm_append_comm_assoc _ _ _)
 refine List.Perm.append_left _ ?_
 refine List.Perm.trans ?_ (List.perm_append_comm_assoc _ _ _)
 refine List.Perm.append_left _ ?_
 exact (List.perm_append_comm_assoc _ _ _)
theorem bi{cs ds:List (Addr×HO)}(h:cs.Perm ds){a:Addr}:a∈cs.map (·.1) ↔ a∈ds.map (·.1):=(h.map _).mem_iff
theorem Rep.putP(R:Rep C H L hs P0 w){k:Int}{p:(Vbnlai.Person×Vbnlai.Person)×QA}(hk:L.pn k=some p)(f:Vbnlai.Person→Vbnlai.Person)(hf:∀ y,(f y).key=y.key) :
  Rep C (upd H p.2.a (.ins C.Person p.2.dx (bz (f p.1.1) p.1.2))) (L.putP k f) hs P0 { w with persons:=w.persons.map fun y=>if ([k]:List Int).contains (y.key:Int)=true then f y else y } ∧
  Fr C H L (upd H p.2.a (.ins C.Person p.2.dx (bz (f p.1.1) p.1.2))) (L.putP k f):=by
 obtain ⟨l1,l2,e1,e2⟩:=fi (key:=fun p:(Vbnlai.Person×Vbnlai.Person)×QA=>(p.1.1.key:Int)) R.pN hk
 have e3:(L.putP k f).ps=l1 ++ ((f p.1.1,p.1.2),p.2) :: l2:=e2 fun p=>((f p.1.1,p.1.2),p.2)
 have eB:b8 C (L.putP k f)=b8 C L:=by
  have:kvP (L.putP k f).ps=kvP L.ps:=by
   unfold kvP Lay.putP
   simp only [List.map_map]
   refine List.map_congr_left fun q _=> ?_
   simp only [Function.comp]
   split
   ·rw [hf]
   ·rfl
  unfold b8
  rw [this]
  rfl
 have c1:=R.cs.perm (bB e1)
 have c2:ax (upd H p.2.a (.ins C.Person p.2.dx (bz (f p.1.1) p.1.2))) (cells C (L.putP k f)):=by
  have:=c1.upd (o':=.ins C.Person p.2.dx (bz (f p.1.1) p.1.2))
  rw [← eB] at this
  exact this.perm (bB (L:=L.putP k f) e3).symm
 have fr:Fr C H L (upd H p.2.a (.ins C.Person p.2.dx (bz (f p.1.1) p.1.2))) (L.putP k f):=by
  refine Fr.upd ((bi (bB e1)).mpr (by simp [aU])) fun b hb=>.inl ?_
  have h1:=(bi (bB (L:=L.putP k f) e3)).mp hb
  refine (bi (bB e1)).mpr ?_
  rw [eB] at h1
  exact h1
 refine ⟨?_,fr⟩
 exact {
  cs:=c2
  ds:=fun q hq=>bK (R.ds q hq) fr
  hP:=R.hP
  p1:=by
   have:=R.p1.map fun y=>if ([k]:List Int).contains (y.key:Int)=true then f y else y
   refine List.Perm.trans (List.Perm.of_eq ?_) this
   show ((L.ps.map _).map _)=((L.ps.map _).map _)
   rw [List.map_map,List.map_map]
   refine List.map_congr_left fun p _=> ?_
   simp only [Function.comp]
   split <;> rfl
  p2:=by
   refine List.Perm.trans (List.Perm.of_eq ?_) R.p2
   show ((L.ps.map _).map _)=_
   rw [List.map_map]
   refine List.map_congr_left fun p _=> ?_
   simp only [Function.comp]
   split <;> rfl
  pk:=fun q hq=>by
   obtain ⟨r,hr,rfl⟩:=List.mem_map.mp hq
   split
   ·show (f r.1.1).key=_
    rw [hf];exact R.pk r hr
   ·exact R.pk r hr
  gP:=R.gP,sP:=R.sP,lP:=R.lP,hN:=R.hN
  pN:=by
   have:((L.putP k f).ps.map fun p=>(p.1.1.key:Int))=L.ps.map fun p=>(p.1.1.key:Int):=by
    show (L.ps.map _).map _=_
    rw [List.map_map]
    refine List.map_congr_left fun p _=> ?_
    simp only [Function.comp]
    split
    ·rw [hf]
    ·rfl
   rw [this]
   exact R.pN
  gN:=R.gN,sN:=R.sN,lN:=R.lN
  pl:=R.pl.upd rfl }
theorem Rep.putL(R:Rep C H L hs P0 w){k:Int}{p:Vbnlai.Loan×QA}(hk:L.ln k=some p)(f:Vbnlai.Loan→Vbnlai.Loan)(hf:∀ y,(f y).key=y.key) :
  Rep C (upd H p.2.a (.ins C.Loan p.2.dx (bF (f p.1)))) (L.putL k f) hs P0 { w with loans:=w.loans.map fun y=>if ([k]:List Int).contains (y.key:Int)=true then f y else y } ∧
  Fr C H L (upd H p.2.a (.ins C.Loan p.2.dx (bF (f p.1)))) (L.putL k f):=by
 obtain ⟨l1,l2,e1,e2⟩:=fi (key:=fun p:Vbnlai.Loan×QA=>(p.1.key:Int)) R.lN hk
 have e3:(L.putL k f).ls=l1 ++ (f p.1,p.2) :: l2:=e2 fun p=>(f p.1,p.2)
 have eB:b8 C (L.putL k f)=b8 C L:=by
  have:kvL (L.putL k f).ls=kvL L.ls:=by
   unfold kvL Lay.putL
   simp only [List.map_map]
   refine List.map_congr_left fun q _=> ?_
   simp only [Function.comp]
   split
   ·rw [hf]
   ·rfl
  unfold b8
  rw [this]
  rfl
 have c1:=R.cs.perm (bC e1)
 have c2:ax (upd H p.2.a (.ins C.Loan p.2.dx (bF (f p.1)))) (cells C (L.putL k f)):=by
  have:=c1.upd (o':=.ins C.Loan p.2.dx (bF (f p.1)))
  rw [← eB] at this
  exact this.perm (bC (L:=L.putL k f) e3).symm
 have fr:Fr C H L (upd H p.2.a (.ins C.Loan p.2.dx (bF (f p.1)))) (L.putL k f):=by
  refine Fr.upd ((bi (bC e1)).mpr (by simp [bh])) fun b hb=>.inl ?_
  have h1:=(bi (bC (L:=L.putL k f) e3)).mp hb
  refine (bi (bC e1)).mpr ?_
  rw [eB] at h1
  exact h1
 refine ⟨?_,fr⟩
 exact {
  cs:=c2
  ds:=fun q hq=>bK (R.ds q hq) fr
  hP:=R.hP,p1:=R.p1,p2:=R.p2,pk:=R.pk,gP:=R.gP,sP:=R.sP
  lP:=by
   have:=R.lP.map fun y=>if ([k]:List Int).contains (y.key:Int)=true then f y else y
   refine List.Perm.trans (List.Perm.of_eq ?_) this
   show ((L.ls.map _).map _)=((L.ls.map _).map _)
   rw [List.map_map,List.map_map]
   refine List.map_congr_left fun p _=> ?_
   simp only [Function.comp]
   split <;> rfl
  hN:=R.hN,pN:=R.pN,gN:=R.gN,sN:=R.sN
  lN:=by
   have:((L.putL k f).ls.map fun p=>(p.1.key:Int))=L.ls.map fun p=>(p.1.key:Int):=by
    show (L.ls.map _).map _=_
    rw [List.map_map]
    refine List.map_congr_left fun p _=> ?_
    simp only [Function.comp]
    split
    ·rw [hf]
    ·rfl
   rw [this]
   exact R.lN
  pl:=R.pl.upd rfl }
theorem Rep.addH(R:Rep C H L hs P0 w){k:Nat}(hk:dL L.hs k=false) :
  Rep C (upd H L.hD (.dK (kvH (L.hs ++ [k])))) { L with hs:=L.hs ++ [k] } (Vbnlai.place id k hs) P0 w∧Fr C H L (upd H L.hD (.dK (kvH (L.hs ++ [k])))) { L with hs:=L.hs ++ [k] }:=by
 have fr:Fr C H L (upd H L.hD (.dK (kvH (L.hs ++ [k])))) { L with hs:=L.hs ++ [k] }:=Fr.upd (List.mem_map_of_mem (bE (c:=(L.hD,.dK (kvH L.hs))) (by simp [b8]))) fun b hb=>.inl hb
 have hn:k∉L.hs:=fun z=>by
  have:dL L.hs k=true:=List.any_eq_true.mpr ⟨k,z,by simp⟩
  rw [hk] at this;cases this
 refine ⟨{ R with cs:=?_,ds:=fun q hq=>bK (R.ds q hq) fr,hP:=?_,hN:=fM R.hN hn,pl:=R.pl.upd rfl },fr⟩
 ·exact ax.set (p:=[(L.self,.ins C.Ledger L.dx (bb L)),(L.dx,.own L.self)]) R.cs
 ·refine List.Perm.trans ?_ (SV.jr hs).symm
  exact List.perm_append_comm.trans (R.hP.cons k)
theorem Rep.addG(R:Rep C H L hs P0 w){k:Nat}(hk:dL L.gs k=false) :
  Rep C (upd H L.gD (.dK (kvH (L.gs ++ [k])))) { L with gs:=L.gs ++ [k] } hs P0 { w with gatherings:=Vbnlai.place id k w.gatherings }∧Fr C H L (upd H L.gD (.dK (kvH (L.gs ++ [k])))) { L with gs:=L.gs ++ [k] }:=by
 have fr:Fr C H L (upd H L.gD (.dK (kvH (L.gs ++ [k])))) { L with gs:=L.gs ++ [k] }:=Fr.upd (List.mem_map_of_mem (bE (c:=(L.gD,.dK (kvH L.gs))) (by simp [b8]))) fun b hb=>.inl hb
 have hn:k∉L.gs:=fun z=>by
  have:dL L.gs k=true:=List.any_eq_true.mpr ⟨k,z,by simp⟩
  rw [hk] at this;cases this
 refine ⟨{ R with cs:=?_,ds:=fun q hq=>bK (R.ds q hq) fr,gP:=?_,gN:=fM R.gN hn,pl:=R.pl.upd rfl },fr⟩
 ·exact ax.set (p:=[(L.self,.ins C.Ledger L.dx (bb L)),(L.dx,.own L.self),(L.hD,.dK (kvH L.hs)),(L.pD,.dK (kvP L.ps))]) R.cs
 ·refine List.Perm.trans ?_ (SV.jr w.gatherings).symm
  exact List.perm_append_comm.trans (R.gP.cons k)
theorem Rep.addLog(R:Rep C H L hs P0 w){a:Addr} :
  Rep C (upd H L.lg (.lst ((L.log ++ [a]).map V.ref))) { L with log:=L.log ++ [a] } hs P0 w∧Fr C H L (upd H L.lg (.lst ((L.log ++ [a]).map V.ref))) { L with log:=L.log ++ [a] }:=by
 have fr:Fr C H L (upd H L.lg (.lst ((L.log ++ [a]).map V.ref))) { L with log:=L.log ++ [a] }:=Fr.upd (List.mem_map_of_mem (bE (c:=(L.lg,.lst (L.log.map V.ref))) (by simp [b8]))) fun b hb=>.inl hb
 refine ⟨{ R with cs:=?_,ds:=fun q hq=>bK (R.ds q hq) fr,pl:=R.pl.upd rfl },fr⟩
 exact ax.set (p:=[(L.self,.ins C.Ledger L.dx (bb L)),(L.dx,.own L.self),(L.hD,.dK (kvH L.hs)),(L.pD,.dK (kvP L.ps)),(L.gD,.dK (kvH L.gs)),(L.sD,.dK (kvS L.ss)),(L.lD,.dK (kvL L.ls))]) R.cs
theorem Rep.addS(R:Rep C H L hs P0 w){x:Vbnlai.Sheet}{A:SA}(hk:L.sh x.key=none)(hn:ax H (aO C (x,A)))(hf:∀ c∈aO C (x,A),c.1∉aS C L)(hd:Paired (cS C H L) x.dets A.ds)(hd2:∀ a∈A.ds,a∉(aO C (x,A)).map (·.1)) :
  Rep C (upd H L.sD (.dK (kvS (L.ss ++ [(x,A)])))) { L with ss:=L.ss ++ [(x,A)] } hs P0 { w with sheets:=w.sheets ++ [x] }:=by
 have perm:(cells C { L with ss:=L.ss ++ [(x,A)] }).Perm (aO C (x,A) ++ (b8 C { L with ss:=L.ss ++ [(x,A)] } ++ (L.ps.flatMap (aU C) ++ (L.ss.flatMap (aO C) ++ L.ls.flatMap (bh C))))):=by
  have:=cg (C:=C) (L:={ L with ss:=L.ss ++ [(x,A)] }) (l1:=L.ss) (l2:=[]) (p:=(x,A)) rfl
  rw [List.append_nil] at this
  exact this
 have c1:ax H (aO C (x,A) ++ cells C L):=R.cs.add hn hf
 have c2:ax (upd H L.sD (.dK (kvS (L.ss ++ [(x,A)])))) (aO C (x,A) ++ (b8 C { L with ss:=L.ss ++ [(x,A)] } ++ (L.ps.flatMap (aU C) ++ (L.ss.flatMap (aO C) ++ L.ls.flatMap (bh C))))):=
  ax.set (p:=[(A.a,.ins C.Sheet A.dx (aG x A)),(A.dx,.own A.a),(A.la,.lst (aT x.loans)),(A.da,.lst (A.ds.map V.ref)),(L.self,.ins C.Ledger L.dx (bb L)),(L.dx,.own L.self),(L.hD,.dK (kvH L.hs)),(L.pD,.dK (kvP L.ps)),(L.gD,.dK (kvH L.gs))]) c1
 have feet:∀ b,b∈aS C { L with ss:=L.ss ++ [(x,A)] }→b∈(aO C (x,A)).map (·.1)∨b∈aS C L:=fun b hb=>by
  have h1:=(bi perm).mp hb
  rw [List.map_append,List.mem_append] at h1
  exact h1
 have inF:L.sD∈aS C L:=List.mem_map_of_mem (bE (c:=(L.sD,.dK (kvS L.ss))) (by simp [b8]))
 have dmove:∀ d a,cS C H L d a→a∉(aO C (x,A)).map (·.1)→cS C (upd H L.sD (.dK (kvS (L.ss ++ [(x,A)])))) { L with ss:=L.ss ++ [(x,A)] } d a:=fun d a h hx=>by
  obtain ⟨h1,dx,e⟩:=h
  refine ⟨fun z=>(feet a z).elim hx h1,dx,?_⟩
  rw [af (show a≠_ from fun z=>h1 (by rw [z];exact inF))]
  exact e
 exact { R with
  cs:=c2.perm perm.symm
  ds:=fun q hq=>by
   rcases List.mem_append.mp hq with hq | hq
   ·refine Paired.mapP (R.ds q hq) fun d a h=>dmove d a h fun z=> ?_
    obtain ⟨h1,dx,e⟩:=h
    obtain ⟨c,hc,rfl⟩:=List.mem_map.mp z
    have:=hn.at_ c hc
    rw [e] at this
    have e2:=Option.some.inj this
    simp only [aO,List.mem_cons,List.not_mem_nil,or_false] at hc
    rcases hc with rfl | rfl | rfl | rfl
    ·injection e2 with _ _ e3
     have:=congrArg List.length e3
     simp [cI,aG] at this
    ·cases e2
    ·cases e2
    ·cases e2
   ·rw [List.mem_singleton] at hq
    subst hq
    have gen:∀ {ds:List Vbnlai.Det} {as:List Addr},Paired (cS C H L) ds as→(∀ a∈as,a∉(aO C (x,A)).map (·.1))→Paired (cS C (upd H L.sD (.dK (kvS (L.ss ++ [(x,A)])))) { L with ss:=L.ss ++ [(x,A)] }) ds as:=by
     intro ds as h
     induction h with
     | nil=>intro _;exact .nil
     | cons h1 _ ih=>intro hh;exact .cons (dmove _ _ h1 (hh _ List.mem_cons_self)) (ih fun a ha=>hh a (List.mem_cons_of_mem _ ha))
    exact gen hd hd2
  sP:=by
   show ((L.ss ++ [(x,A)]).map _).Perm _
   rw [List.map_append]
   exact R.sP.append_right _
  sN:=by
   show ((L.ss ++ [(x,A)]).map _).Nodup
   rw [List.map_append]
   refine fM R.sN fun z=> ?_
   obtain ⟨p,hp,e⟩:=List.mem_map.mp z
   have:=List.find?_eq_none.mp hk p hp
   simp at this
   exact this e
  pl:=R.pl.upd rfl }
theorem Rep.addS_fr{x:Vbnlai.Sheet}{A:SA}{H0:Hp}(x0:Ext H0 H)(hf:∀ c∈aO C (x,A),H0 c.1=none):Fr C H0 L (upd H L.sD (.dK (kvS (L.ss ++ [(x,A)])))) { L with ss:=L.ss ++ [(x,A)] }:=by
 have perm:(cells C { L with ss:=L.ss ++ [(x,A)] }).Perm (aO C (x,A) ++ (b8 C { L with ss:=L.ss ++ [(x,A)] } ++ (L.ps.flatMap (aU C) ++ (L.ss.flatMap (aO C) ++ L.ls.flatMap (bh C))))):=by
  have:=cg (C:=C) (L:={ L with ss:=L.ss ++ [(x,A)] }) (l1:=L.ss) (l2:=[]) (p:=(x,A)) rfl
  rw [List.append_nil] at this
  exact this
 have inF:L.sD∈aS C L:=List.mem_map_of_mem (bE (c:=(L.sD,.dK (kvS L.ss))) (by simp [b8]))
 refine ⟨fun a o e h=> ?_,fun b hb=> ?_⟩
 ·rw [af (show a≠_ from fun z=>h (by rw [z];exact inF))]
  exact x0.1 a o e
 ·have h1:=(bi perm).mp hb
  rw [List.map_append,List.mem_append] at h1
  rcases h1 with h1 | h1
  ·obtain ⟨c,hc,rfl⟩:=List.mem_map.mp h1
   exact .inr (hf c hc)
  ·exact .inl h1
theorem Rep.addP(R:Rep C H L hs P0 w){p:Vbnlai.Person}{A:QA}(hk:L.pn p.key=none)(hn:ax H (aU C ((p,p),A)))(hf:∀ c∈aU C ((p,p),A),c.1∉aS C L) :
  Rep C (upd H L.pD (.dK (kvP (L.ps ++ [((p,p),A)])))) { L with ps:=L.ps ++ [((p,p),A)] } hs (P0 ++ [p]) { w with persons:=w.persons ++ [p] }:=by
 have perm:(cells C { L with ps:=L.ps ++ [((p,p),A)] }).Perm (aU C ((p,p),A) ++ (b8 C { L with ps:=L.ps ++ [((p,p),A)] } ++ (L.ps.flatMap (aU C) ++ (L.ss.flatMap (aO C) ++ L.ls.flatMap (bh C))))):=by
  have:=bB (C:=C) (L:={ L with ps:=L.ps ++ [((p,p),A)] }) (l1:=L.ps) (l2:=[]) (p:=((p,p),A)) rfl
  rw [List.append_nil] at this
  exact this
 have c1:ax H (aU C ((p,p),A) ++ cells C L):=R.cs.add hn hf
 have c2:ax (upd H L.pD (.dK (kvP (L.ps ++ [((p,p),A)])))) (aU C ((p,p),A) ++ (b8 C { L with ps:=L.ps ++ [((p,p),A)] } ++ (L.ps.flatMap (aU C) ++ (L.ss.flatMap (aO C) ++ L.ls.flatMap (bh C))))):=
  ax.set (p:=[(A.a,.ins C.Person A.dx (bz p p)),(A.dx,.own A.a),(L.self,.ins C.Ledger L.dx (bb L)),(L.dx,.own L.self),(L.hD,.dK (kvH L.hs))]) c1
 have feet:∀ b,b∈aS C { L with ps:=L.ps ++ [((p,p),A)] }→b∈(aU C ((p,p),A)).map (·.1)∨b∈aS C L:=fun b hb=>by
  have h1:=(bi perm).mp hb
  rw [List.map_append,List.mem_append] at h1
  exact h1
 have inF:L.pD∈aS C L:=List.mem_map_of_mem (bE (c:=(L.pD,.dK (kvP L.ps))) (by simp [b8]))
 exact { R with
  cs:=c2.perm perm.symm
  ds:=fun q hq=>by
   refine Paired.mapP (R.ds q hq) fun d a h=> ?_
   obtain ⟨h1,dx,e⟩:=h
   refine ⟨fun z=>(feet a z).elim (fun z=> ?_) h1,dx,by rw [af (show a≠_ from fun z=>h1 (by rw [z];exact inF))];exact e⟩
   obtain ⟨c,hc,rfl⟩:=List.mem_map.mp z
   have:=hn.at_ c hc
   rw [e] at this
   have e2:=Option.some.inj this
   simp only [aU,List.mem_cons,List.not_mem_nil,or_false] at hc
   rcases hc with rfl | rfl
   ·injection e2 with _ _ e3
    have:=congrArg List.length e3
    simp [cI,bz] at this
   ·cases e2
  p1:=by
   show ((L.ps ++ [((p,p),A)]).map _).Perm _
   rw [List.map_append]
   exact R.p1.append_right _
  p2:=by
   show ((L.ps ++ [((p,p),A)]).map _).Perm _
   rw [List.map_append]
   exact R.p2.append_right _
  pk:=fun q hq=>by
   rcases List.mem_append.mp hq with hq | hq
   ·exact R.pk q hq
   ·rw [List.mem_singleton] at hq
    subst hq
    rfl
  pN:=by
   show ((L.ps ++ [((p,p),A)]).map _).Nodup
   rw [List.map_append]
   refine fM R.pN fun z=> ?_
   obtain ⟨q,hq,e⟩:=List.mem_map.mp z
   have:=List.find?_eq_none.mp hk q hq
   simp at this
   exact this e
  pl:=R.pl.upd rfl }
theorem Rep.addP_fr{p:(Vbnlai.Person×Vbnlai.Person)×QA}{H0:Hp}(x0:Ext H0 H)(hf:∀ c∈aU C p,H0 c.1=none):Fr C H0 L (upd H L.pD (.dK (kvP (L.ps ++ [p])))) { L with ps:=L.ps ++ [p] }:=by
 have perm:(cells C { L with ps:=L.ps ++ [p] }).Perm (aU C p ++ (b8 C { L with ps:=L.ps ++ [p] } ++ (L.ps.flatMap (aU C) ++ (L.ss.flatMap (aO C) ++ L.ls.flatMap (bh C))))):=by
  have:=bB (C:=C) (L:={ L with ps:=L.ps ++ [p] }) (l1:=L.ps) (l2:=[]) (p:=p) rfl
  rw [List.append_nil] at this
  exact this
 have inF:L.pD∈aS C L:=List.mem_map_of_mem (bE (c:=(L.pD,.dK (kvP L.ps))) (by simp [b8]))
 refine ⟨fun a o e h=> ?_,fun b hb=> ?_⟩
 ·rw [af (show a≠_ from fun z=>h (by rw [z];exact inF))]
  exact x0.1 a o e
 ·have h1:=(bi perm).mp hb
  rw [List.map_append,List.mem_append] at h1
  rcases h1 with h1 | h1
  ·obtain ⟨c,hc,rfl⟩:=List.mem_map.mp h1
   exact .inr (hf c hc)
  ·exact .inl h1
theorem Rep.addL(R:Rep C H L hs P0 w){x:Vbnlai.Loan}{A:QA}(hk:L.ln x.key=none)(hn:ax H (bh C (x,A)))(hf:∀ c∈bh C (x,A),c.1∉aS C L) :
  Rep C (upd H L.lD (.dK (kvL (L.ls ++ [(x,A)])))) { L with ls:=L.ls ++ [(x,A)] } hs P0 { w with loans:=Vbnlai.place Vbnlai.Loan.key x w.loans }:=by
 have perm:(cells C { L with ls:=L.ls ++ [(x,A)] }).Perm (bh C (x,A) ++ (b8 C { L with ls:=L.ls ++ [(x,A)] } ++ (L.ps.flatMap (aU C) ++ (L.ss.flatMap (aO C) ++ L.ls.flatMap (bh C))))):=by
  have:=bC (C:=C) (L:={ L with ls:=L.ls ++ [(x,A)] }) (l1:=L.ls) (l2:=[]) (p:=(x,A)) rfl
  rw [List.append_nil] at this
  exact this
 have c1:ax H (bh C (x,A) ++ cells C L):=R.cs.add hn hf
 have c2:ax (upd H L.lD (.dK (kvL (L.ls ++ [(x,A)])))) (bh C (x,A) ++ (b8 C { L with ls:=L.ls ++ [(x,A)] } ++ (L.ps.flatMap (aU C) ++ (L.ss.flatMap (aO C) ++ L.ls.flatMap (bh C))))):=
  ax.set (p:=[(A.a,.ins C.Loan A.dx (bF x)),(A.dx,.own A.a),(L.self,.ins C.Ledger L.dx (bb L)),(L.dx,.own L.self),(L.hD,.dK (kvH L.hs)),(L.pD,.dK (kvP L.ps)),(L.gD,.dK (kvH L.gs)),(L.sD,.dK (kvS L.ss))]) c1
 have feet:∀ b,b∈aS C { L with ls:=L.ls ++ [(x,A)] }→b∈(bh C (x,A)).map (·.1)∨b∈aS C L:=fun b hb=>by
  have h1:=(bi perm).mp hb
  rw [List.map_append,List.mem_append] at h1
  exact h1
 have inF:L.lD∈aS C L:=List.mem_map_of_mem (bE (c:=(L.lD,.dK (kvL L.ls))) (by simp [b8]))
 exact { R with
  cs:=c2.perm perm.symm
  ds:=fun q hq=>by
   refine Paired.mapP (R.ds q hq) fun d a h=> ?_
   obtain ⟨h1,dx,e⟩:=h
   refine ⟨fun z=>(feet a z).elim (fun z=> ?_) h1,dx,by rw [af (show a≠_ from fun z=>h1 (by rw [z];exact inF))];exact e⟩
   obtain ⟨c,hc,rfl⟩:=List.mem_map.mp z
   have:=hn.at_ c hc
   rw [e] at this
   have e2:=Option.some.inj this
   simp only [bh,List.mem_cons,List.not_mem_nil,or_false] at hc
   rcases hc with rfl | rfl
   ·injection e2 with _ _ e3
    have:=congrArg List.length e3
    simp [cI,bF] at this
   ·cases e2
  lP:=by
   show ((L.ls ++ [(x,A)]).map _).Perm _
   rw [List.map_append]
   refine List.Perm.trans ?_ (SV.jr w.loans).symm
   exact List.perm_append_comm.trans (R.lP.cons x)
  lN:=by
   show ((L.ls ++ [(x,A)]).map _).Nodup
   rw [List.map_append]
   refine fM R.lN fun z=> ?_
   obtain ⟨q,hq,e⟩:=List.mem_map.mp z
   have:=List.find?_eq_none.mp hk q hq
   simp at this
   exact this e
  pl:=R.pl.upd rfl }
end
section
variable{C:Cs}{H H':Hp}{L L':Lay}{hs:List Nat}{P0:List Vbnlai.Person}{w w':Vbnlai.World}
def Did(C:Cs)(H:Hp)(L:Lay)(hs:List Nat)(P0:List Vbnlai.Person)(w':Vbnlai.World)(Q:Hp→Prop):Prop:=
 ∀ H' L',Rep C H' L' hs P0 w'→Fr C H L H' L'→L'.self=L.self→L'.log=L.log→Q H'
theorem jC(R:Rep C H L hs P0 w){k:Int}{x:Vbnlai.Sheet}{A:SA}(hk:L.sh k=some (x,A))(f:Vbnlai.Sheet→Vbnlai.Sheet)(g:SA→SA)(hf:∀ y,(f y).key=y.key)(hg:∀ B,(g B).a=B.a)(b:Addr) :
  b∈aS C (L.put k f g)→b∈aS C L∨b∈[(g A).a,(g A).dx,(g A).la,(g A).da]:=by
 obtain ⟨l1,l2,e1,e2⟩:=fi (key:=fun p:Vbnlai.Sheet×SA=>(p.1.key:Int)) R.sN hk
 have e3:(L.put k f g).ss=l1 ++ (f x,g A) :: l2:=e2 fun p=>(f p.1,g p.2)
 have eB:b8 C (L.put k f g)=b8 C L:=by
  have:kvS (L.put k f g).ss=kvS L.ss:=by
   unfold kvS Lay.put
   simp only [List.map_map]
   refine List.map_congr_left fun p _=> ?_
   simp only [Function.comp]
   split
   ·rw [hf,hg]
   ·rfl
  unfold b8
  rw [this]
  rfl
 intro hb
 have h1:=(bi (cg (C:=C) (L:=L.put k f g) e3)).mp hb
 rw [eB,List.map_append,List.mem_append] at h1
 rcases h1 with h1 | h1
 ·exact .inr h1
 ·refine .inl ((bi (cg (C:=C) e1)).mpr ?_)
  rw [List.map_append,List.mem_append]
  exact .inr h1
theorem ic(R:Rep C H L hs P0 w){k:Int}{x:Vbnlai.Sheet}{A:SA}(hk:L.sh k=some (x,A)):A.a∈aS C L∧A.dx∈aS C L∧A.la∈aS C L∧A.da∈aS C L:=by
 have hm:=(b5 hk).1
 exact ⟨List.mem_map_of_mem (ga (c:=(A.a,.ins C.Sheet A.dx (aG x A))) hm (by simp [aO])),List.mem_map_of_mem (ga (c:=(A.dx,.own A.a)) hm (by simp [aO])),List.mem_map_of_mem (ga (c:=(A.la,.lst (aT x.loans))) hm (by simp [aO])),List.mem_map_of_mem (ga (c:=(A.da,.lst (A.ds.map V.ref))) hm (by simp [aO]))⟩
theorem qc(R:Rep C H L hs P0 w){k:Int}{x:Vbnlai.Sheet}{A:SA}(hk:L.sh k=some (x,A))(f:Vbnlai.Sheet→Vbnlai.Sheet)(hf:∀ y,(f y).key=y.key)(b:Addr):b∈aS C (L.put k f id)→b∈aS C L:=fun hb=>by
 obtain ⟨h1,h2,h3,h4⟩:=ic R hk
 rcases jC R hk f id hf (fun _=>rfl) b hb with h | h
 ·exact h
 ·simp only [List.mem_cons,List.not_mem_nil,or_false,id] at h
  rcases h with rfl | rfl | rfl | rfl
  ·exact h1
  ·exact h2
  ·exact h3
  ·exact h4
theorem Rep.setS(R:Rep C H L hs P0 w){k:Int}{x:Vbnlai.Sheet}{A:SA}(hk:L.sh k=some (x,A))(f:Vbnlai.Sheet→Vbnlai.Sheet)(hf:∀ y,(f y).key=y.key)(hl:(f x).loans=x.loans)(hd:(f x).dets=x.dets) :
  Rep C (upd H A.a (.ins C.Sheet A.dx (aG (f x) A))) (L.put k f id) hs P0 (Vbnlai.change w [k] f)∧Fr C H L (upd H A.a (.ins C.Sheet A.dx (aG (f x) A))) (L.put k f id):=by
 have fr:Fr C H L (upd H A.a (.ins C.Sheet A.dx (aG (f x) A))) (L.put k f id):=Fr.upd (ic R hk).1 fun b hb=>.inl (qc R hk f hf b hb)
 refine ⟨R.put hk f id hf (fun _=>rfl) (fun rest c=> ?_) fr ?_ (R.pl.upd rfl),fr⟩
 ·have:=ax.set (p:=[]) (o':=.ins C.Sheet A.dx (aG (f x) A)) (show ax H ([] ++ (A.a,.ins C.Sheet A.dx (aG x A)) :: ([(A.dx,.own A.a),(A.la,.lst (aT x.loans)),(A.da,.lst (A.ds.map V.ref))] ++ rest)) from c)
  rw [← hl] at this
  exact this
 ·rw [hd]
  exact bK (R.ds _ (b5 hk).1) fr
theorem Rep.setSL(R:Rep C H L hs P0 w){k:Int}{x:Vbnlai.Sheet}{A:SA}(hk:L.sh k=some (x,A))(f:Vbnlai.Sheet→Vbnlai.Sheet)(hf:∀ y,(f y).key=y.key)(hd:(f x).dets=x.dets) :
  Rep C (upd (upd H A.la (.lst (aT (f x).loans))) A.a (.ins C.Sheet A.dx (aG (f x) A))) (L.put k f id) hs P0 (Vbnlai.change w [k] f) ∧
  Fr C H L (upd (upd H A.la (.lst (aT (f x).loans))) A.a (.ins C.Sheet A.dx (aG (f x) A))) (L.put k f id):=by
 have fr:Fr C H L (upd (upd H A.la (.lst (aT (f x).loans))) A.a (.ins C.Sheet A.dx (aG (f x) A))) (L.put k f id):=
  (Fr.upd (L':=L) (ic R hk).2.2.1 fun b hb=>.inl hb).trans (Fr.upd (ic R hk).1 fun b hb=>.inl (qc R hk f hf b hb))
 refine ⟨R.put hk f id hf (fun _=>rfl) (fun rest c=> ?_) fr ?_ ((R.pl.upd rfl).upd rfl),fr⟩
 ·have c1:=ax.set (p:=[(A.a,.ins C.Sheet A.dx (aG x A)),(A.dx,.own A.a)]) (o':=.lst (aT (f x).loans)) (show ax H ([(A.a,.ins C.Sheet A.dx (aG x A)),(A.dx,.own A.a)] ++ (A.la,.lst (aT x.loans)) :: ([(A.da,.lst (A.ds.map V.ref))] ++ rest)) from c)
  have c2:=ax.set (p:=[]) (o':=.ins C.Sheet A.dx (aG (f x) A)) (show ax _ ([] ++ (A.a,.ins C.Sheet A.dx (aG x A)) :: ([(A.dx,.own A.a),(A.la,.lst (aT (f x).loans)),(A.da,.lst (A.ds.map V.ref))] ++ rest)) from c1)
  exact c2
 ·rw [hd]
  exact bK (R.ds _ (b5 hk).1) fr
theorem Rep.addD(R:Rep C H L hs P0 w){k:Int}{x:Vbnlai.Sheet}{A:SA}(hk:L.sh k=some (x,A))(d:Vbnlai.Det)(a:Addr)(hd:cS C H L d a) :
  ∃ L',Rep C (upd H A.da (.lst ((A.ds ++ [a]).map V.ref))) L' hs P0 (Vbnlai.change w [k] fun y=>{ y with dets:=y.dets ++ [d] })∧Fr C H L (upd H A.da (.lst ((A.ds ++ [a]).map V.ref))) L'∧L'.self=L.self∧L'.log=L.log:=by
 refine ⟨L.put k (fun y=>{ y with dets:=y.dets ++ [d] }) (fun B=>{ B with ds:=B.ds ++ [a] }),?_⟩
 have fr:Fr C H L (upd H A.da (.lst ((A.ds ++ [a]).map V.ref))) (L.put k (fun y=>{ y with dets:=y.dets ++ [d] }) (fun B=>{ B with ds:=B.ds ++ [a] })):=by
  obtain ⟨h1,h2,h3,h4⟩:=ic R hk
  refine Fr.upd h4 fun b hb=>.inl ?_
  rcases jC R hk (fun y=>{ y with dets:=y.dets ++ [d] }) (fun B=>{ B with ds:=B.ds ++ [a] }) (fun _=>rfl) (fun _=>rfl) b hb with h | h
  ·exact h
  ·simp only [List.mem_cons,List.not_mem_nil,or_false] at h
   rcases h with rfl | rfl | rfl | rfl
   ·exact h1
   ·exact h2
   ·exact h3
   ·exact h4
 refine ⟨R.put hk _ _ (fun _=>rfl) (fun _=>rfl) (fun rest c=> ?_) fr ?_ (R.pl.upd rfl),fr,rfl,rfl⟩
 ·exact ax.set (p:=[(A.a,.ins C.Sheet A.dx (aG x A)),(A.dx,.own A.a),(A.la,.lst (aT x.loans))]) (o':=.lst ((A.ds ++ [a]).map V.ref)) (show ax H ([(A.a,.ins C.Sheet A.dx (aG x A)),(A.dx,.own A.a),(A.la,.lst (aT x.loans))] ++ (A.da,.lst (A.ds.map V.ref)) :: rest) from c)
 ·have gen:∀ {F:Vbnlai.Det→Addr→Prop} {l:List Vbnlai.Det} {m:List Addr},Paired F l m→F d a→Paired F (l ++ [d]) (m ++ [a]):=by
   intro F l m h hda
   induction h with
   | nil=>exact .cons hda .nil
   | cons h1 _ ih=>exact .cons h1 ih
  exact gen (bK (R.ds _ (b5 hk).1) fr) (hd.fr fr)
end
section
variable{C:Cs}{H H' G:Hp}{L L':Lay}{hs:List Nat}{P0:List Vbnlai.Person}{w w':Vbnlai.World}
theorem ke{x dx Cl:Addr}(hx:H x=none)(hdx:H dx=none)(hne:dx≠x)(keep:∀ b u,upd (upd H dx (.own x)) x (.ins Cl dx []) b=some u→b≠x→G b=some u)
  (nodt:∀ b u,G b=some u→upd (upd H dx (.own x)) x (.ins Cl dx []) b=some u∨ca u=true):Ext H G∧G dx=some (.own x):=by
 refine ⟨⟨fun b u e=> ?_,fun b u e=> ?_⟩,?_⟩
 ·have n1:=al e hx
  exact keep b u (by rw [af n1,af (al e hdx)];exact e) n1
 ·rcases nodt b u e with h | h
  ·by_cases h1:b=x
   ·subst h1;rw [a9] at h;cases h;exact .inr rfl
   rw [af h1] at h
   by_cases h2:b=dx
   ·subst h2;rw [a9] at h;cases h;exact .inr rfl
   rw [af h2] at h
   exact .inl h
  ·exact .inr h
 ·exact keep dx _ (by rw [af hne,a9]) hne
theorem ci{x dx Cl b:Addr}(hne:dx≠x)(h:upd (upd H dx (.own x)) x (.ins Cl dx []) b=none):H b=none∧b≠x∧b≠dx:=by
 have h1:b≠x:=fun z=>by subst z;rw [a9] at h;cases h
 rw [af h1] at h
 have h2:b≠dx:=fun z=>by subst z;rw [a9] at h;cases h
 rw [af h2] at h
 exact ⟨h,h1,h2⟩
theorem cells4{x:Vbnlai.Sheet}{A:SA}(h1:G A.a=some (.ins C.Sheet A.dx (aG x A)))(h2:G A.dx=some (.own A.a))(h3:G A.la=some (.lst (aT x.loans)))(h4:G A.da=some (.lst (A.ds.map V.ref)))(hne:A.la≠A.da):ax G (aO C (x,A)):=by
 refine ⟨?_,fun c hc=> ?_⟩
 ·have n1:A.a≠A.dx:=cu h1 h2 (by intro z;cases z)
  have n2:A.a≠A.la:=cu h1 h3 (by intro z;cases z)
  have n3:A.a≠A.da:=cu h1 h4 (by intro z;cases z)
  have n4:A.dx≠A.la:=cu h2 h3 (by intro z;cases z)
  have n5:A.dx≠A.da:=cu h2 h4 (by intro z;cases z)
  simp only [aO,List.map_cons,List.map_nil,List.nodup_cons,List.mem_cons,List.not_mem_nil,or_false,not_or,not_false_eq_true,List.nodup_nil,and_true]
  exact ⟨⟨n1,n2,n3⟩,⟨n4,n5⟩,hne⟩
 ·simp only [aO,List.mem_cons,List.not_mem_nil,or_false] at hc
  rcases hc with rfl | rfl | rfl | rfl
  ·exact h1
  ·exact h2
  ·exact h3
  ·exact h4
theorem lu{L:Lay}{q:Vbnlai.Sheet×SA}{k:Int}:({ L with ss:=L.ss ++ [q] }:Lay).sh k=(L.sh k).or (if (q.1.key:Int)=k then some q else none):=by
 unfold Lay.sh
 show List.find? _ (L.ss ++ [q])=_
 rw [List.find?_append]
 congr 1
 rw [List.find?_cons]
 by_cases h:(q.1.key:Int)=k
 ·simp [h]
 ·have:((q.1.key:Int) == k)=false:=by simpa using h
  simp [h,this]
theorem Rep.divide(R:Rep C H L hs P0 w){k:Int}{x:Vbnlai.Sheet}{A:SA}(hk:L.sh k=some (x,A)){lb:Addr}{I1:HO}(hl:upd H A.a I1 lb=none) :
  ∃ L',Rep C (upd (upd (upd H A.a I1) lb (.lst [])) A.a (.ins C.Sheet A.dx (aG { x with status:=.divided,loans:=[] } { A with la:=lb }))) L' hs P0 (Vbnlai.change w [k] fun y=>{ y with status:=.divided,loans:=[] }) ∧
   Fr C H L (upd (upd (upd H A.a I1) lb (.lst [])) A.a (.ins C.Sheet A.dx (aG { x with status:=.divided,loans:=[] } { A with la:=lb }))) L'∧L'.self=L.self∧L'.log=L.log:=by
 have na:lb≠A.a:=fun z=>by subst z;rw [a9] at hl;cases hl
 rw [af na] at hl
 have e:upd (upd (upd H A.a I1) lb (.lst [])) A.a (.ins C.Sheet A.dx (aG { x with status:=.divided,loans:=[] } { A with la:=lb }))=upd (upd H lb (.lst [])) A.a (.ins C.Sheet A.dx (aG { x with status:=.divided,loans:=[] } { A with la:=lb })):=by
  funext b
  by_cases h1:b=A.a
  ·subst h1;rw [a9,a9]
  ·rw [af h1,af h1]
   by_cases h2:b=lb
   ·subst h2;rw [a9,a9]
   ·rw [af h2,af h2,af h1]
 rw [e]
 refine ⟨L.put k (fun y=>{ y with status:=.divided,loans:=[] }) (fun B=>{ B with la:=lb }),?_⟩
 obtain ⟨f1,f2,f3,f4⟩:=ic R hk
 have fr:Fr C H L (upd (upd H lb (.lst [])) A.a (.ins C.Sheet A.dx (aG { x with status:=.divided,loans:=[] } { A with la:=lb }))) (L.put k (fun y=>{ y with status:=.divided,loans:=[] }) (fun B=>{ B with la:=lb })):=by
  refine ⟨fun b u hb hn=> ?_,fun b hb=> ?_⟩
  ·have n1:b≠A.a:=fun z=>hn (by rw [z];exact f1)
   rw [af n1,af (al hb hl)]
   exact hb
  ·rcases jC R hk (fun y=>{ y with status:=.divided,loans:=[] }) (fun B=>{ B with la:=lb }) (fun _=>rfl) (fun _=>rfl) b hb with h | h
   ·exact .inl h
   ·simp only [List.mem_cons,List.not_mem_nil,or_false] at h
    rcases h with rfl | rfl | rfl | rfl
    ·exact .inl f1
    ·exact .inl f2
    ·exact .inr hl
    ·exact .inl f4
 refine ⟨R.put hk _ _ (fun _=>rfl) (fun _=>rfl) (fun rest c=> ?_) fr (bK (R.ds _ (b5 hk).1) fr) ((R.pl.upd rfl).upd rfl),fr,rfl,rfl⟩
 have c0:=c.mono (Ext.upd (o:=.lst []) hl rfl).1
 have hnew:lb∉(aO C (x,A) ++ rest).map (·.1):=c.free hl
 have c1:ax (upd H lb (.lst [])) ([(lb,.lst [])] ++ (aO C (x,A) ++ rest)):=c0.add ⟨by simp,fun d hd=>by rw [List.mem_singleton] at hd;subst hd;exact a9⟩ (fun d hd=>by rw [List.mem_singleton] at hd;subst hd;exact hnew)
 have p1:([(lb,HO.lst [])] ++ (aO C (x,A) ++ rest)).Perm ([(A.la,HO.lst (aT x.loans))] ++ ((A.a,HO.ins C.Sheet A.dx (aG x A)) :: (A.dx,HO.own A.a) :: (lb,HO.lst []) :: (A.da,HO.lst (A.ds.map V.ref)) :: rest)):=by
  show List.Perm ((lb,HO.lst []) :: (A.a,HO.ins C.Sheet A.dx (aG x A)) :: (A.dx,HO.own A.a) :: (A.la,HO.lst (aT x.loans)) :: (A.da,HO.lst (A.ds.map V.ref)) :: rest) ((A.la,HO.lst (aT x.loans)) :: (A.a,HO.ins C.Sheet A.dx (aG x A)) :: (A.dx,HO.own A.a) :: (lb,HO.lst []) :: (A.da,HO.lst (A.ds.map V.ref)) :: rest)
  refine List.Perm.trans (List.Perm.cons _ (List.Perm.cons _ (List.Perm.swap _ _ _))) ?_
  refine List.Perm.trans (List.Perm.cons _ (List.Perm.swap _ _ _)) ?_
  refine List.Perm.trans (List.Perm.swap _ _ _) ?_
  refine List.Perm.cons _ ?_
  refine List.Perm.trans (List.Perm.swap _ _ _) ?_
  exact List.Perm.cons _ (List.Perm.swap _ _ _)
 have c2:=(c1.perm p1).tail
 exact ax.set (p:=[]) (o':=.ins C.Sheet A.dx (aG { x with status:=.divided,loans:=[] } { A with la:=lb })) c2
end
section
variable{C:Cs}{H H' G:Hp}{L L':Lay}{hs hs':List Nat}{P0 P1:List Vbnlai.Person}{w w':Vbnlai.World}
theorem Rep.newHouses(R:Rep C H L hs P0 w){d:Addr}{l:List Nat}(hd:H d=none)(hp:l.Perm hs')(nd:l.Nodup) :
  Rep C (upd (upd H d (.dK (kvH l))) L.self (.ins C.Ledger L.dx (bb { L with hD:=d,hs:=l }))) { L with hD:=d,hs:=l } hs' P0 w ∧
  Fr C H L (upd (upd H d (.dK (kvH l))) L.self (.ins C.Ledger L.dx (bb { L with hD:=d,hs:=l }))) { L with hD:=d,hs:=l }:=by
 have hnew:d∉aS C L:=R.cs.free hd
 have inS:L.self∈aS C L:=List.mem_map_of_mem (bE (c:=(L.self,.ins C.Ledger L.dx (bb L))) (by simp [b8]))
 have nds:L.self≠d:=fun z=>hnew (z ▸ inS)
 have fr:Fr C H L (upd (upd H d (.dK (kvH l))) L.self (.ins C.Ledger L.dx (bb { L with hD:=d,hs:=l }))) { L with hD:=d,hs:=l }:=by
  refine ⟨fun b u hb hn=> ?_,fun b hb=> ?_⟩
  ·have n1:b≠L.self:=fun z=>hn (by rw [z];exact inS)
   rw [af n1,af (al hb hd)]
   exact hb
  ·have hb':b∈L.self :: L.dx :: d :: L.pD :: L.gD :: L.sD :: L.lD :: L.lg :: (L.ps.flatMap (aU C) ++ (L.ss.flatMap (aO C) ++ L.ls.flatMap (bh C))).map (·.1):=hb
   simp only [List.mem_cons] at hb'
   have to:∀ {x:Addr},x∈L.self :: L.dx :: L.hD :: L.pD :: L.gD :: L.sD :: L.lD :: L.lg :: (L.ps.flatMap (aU C) ++ (L.ss.flatMap (aO C) ++ L.ls.flatMap (bh C))).map (·.1)→x∈aS C L:=fun h=>h
   rcases hb' with h | h | h | h | h | h | h | h | h
   ·exact .inl (to (by simp [h]))
   ·exact .inl (to (by simp [h]))
   ·exact .inr (h ▸ hd)
   ·exact .inl (to (by simp [h]))
   ·exact .inl (to (by simp [h]))
   ·exact .inl (to (by simp [h]))
   ·exact .inl (to (by simp [h]))
   ·exact .inl (to (by simp [h]))
   ·exact .inl (to (List.mem_cons_of_mem _ (List.mem_cons_of_mem _ (List.mem_cons_of_mem _ (List.mem_cons_of_mem _ (List.mem_cons_of_mem _ (List.mem_cons_of_mem _ (List.mem_cons_of_mem _ (List.mem_cons_of_mem _ h)))))))))
 refine ⟨{ R with cs:=?_,ds:=fun p hp=>bK (R.ds p hp) fr,hP:=hp,hN:=nd,pl:=(R.pl.upd rfl).upd rfl },fr⟩
 have c0:=R.cs.mono (Ext.upd (o:=.dK (kvH l)) hd rfl).1
 have c1:ax (upd H d (.dK (kvH l))) ([(d,.dK (kvH l))] ++ cells C L):=c0.add ⟨by simp,fun c hc=>by rw [List.mem_singleton] at hc;subst hc;exact a9⟩ (fun c hc=>by rw [List.mem_singleton] at hc;subst hc;exact hnew)
 have p1:([(d,HO.dK (kvH l))] ++ cells C L).Perm ([(L.hD,HO.dK (kvH L.hs))] ++ ((L.self,HO.ins C.Ledger L.dx (bb L)) :: (L.dx,HO.own L.self) :: (d,HO.dK (kvH l)) :: (L.pD,HO.dK (kvP L.ps)) :: (L.gD,HO.dK (kvH L.gs)) :: (L.sD,HO.dK (kvS L.ss)) :: (L.lD,HO.dK (kvL L.ls)) :: (L.lg,HO.lst (L.log.map V.ref)) :: (L.ps.flatMap (aU C) ++ (L.ss.flatMap (aO C) ++ L.ls.flatMap (bh C))))):=by
  show List.Perm ((d,HO.dK (kvH l)) :: (L.self,HO.ins C.Ledger L.dx (bb L)) :: (L.dx,HO.own L.self) :: (L.hD,HO.dK (kvH L.hs)) :: (L.pD,HO.dK (kvP L.ps)) :: _) ((L.hD,HO.dK (kvH L.hs)) :: (L.self,HO.ins C.Ledger L.dx (bb L)) :: (L.dx,HO.own L.self) :: (d,HO.dK (kvH l)) :: (L.pD,HO.dK (kvP L.ps)) :: _)
  refine List.Perm.trans (List.Perm.cons _ (List.Perm.cons _ (List.Perm.swap _ _ _))) ?_
  refine List.Perm.trans (List.Perm.cons _ (List.Perm.swap _ _ _)) ?_
  refine List.Perm.trans (List.Perm.swap _ _ _) ?_
  refine List.Perm.cons _ ?_
  refine List.Perm.trans (List.Perm.swap _ _ _) ?_
  exact List.Perm.cons _ (List.Perm.swap _ _ _)
 have c2:=(c1.perm p1).tail
 exact ax.set (p:=[]) (o':=.ins C.Ledger L.dx (bb { L with hD:=d,hs:=l })) c2
theorem Rep.newPersons(R:Rep C H L hs [] w)(h0:L.ps=[]){d:Addr}{qs:List ((Vbnlai.Person×Vbnlai.Person)×QA)}(hc:ax H ((d,.dK (kvP qs)) :: qs.flatMap (aU C)))(hf:∀ c∈(d,HO.dK (kvP qs)) :: qs.flatMap (aU C),c.1∉aS C L)
  (p1:(qs.map (·.1.1)).Perm P1) (p2:(qs.map (·.1.2)).Perm P1) (pk:∀ p∈qs,p.1.1.key=p.1.2.key) (pN:(qs.map fun p=>(p.1.1.key:Int)).Nodup) (hdd:∀ p∈L.ss,∀ a∈p.2.ds,∀ c∈(d,HO.dK (kvP qs)) :: qs.flatMap (aU C),a≠c.1) :
  Rep C (upd H L.self (.ins C.Ledger L.dx (bb { L with pD:=d,ps:=qs }))) { L with pD:=d,ps:=qs } hs P1 { w with persons:=P1 }:=by
 have inS:L.self∈aS C L:=List.mem_map_of_mem (bE (c:=(L.self,.ins C.Ledger L.dx (bb L))) (by simp [b8]))
 have c1:=R.cs.add hc hf
 have p3:(((d,HO.dK (kvP qs)) :: qs.flatMap (aU C)) ++ cells C L).Perm ([(L.pD,HO.dK (kvP L.ps))] ++ ((L.self,HO.ins C.Ledger L.dx (bb L)) :: (L.dx,HO.own L.self) :: (L.hD,HO.dK (kvH L.hs)) :: (d,HO.dK (kvP qs)) :: (L.gD,HO.dK (kvH L.gs)) :: (L.sD,HO.dK (kvS L.ss)) :: (L.lD,HO.dK (kvL L.ls)) :: (L.lg,HO.lst (L.log.map V.ref)) :: (qs.flatMap (aU C) ++ (L.ss.flatMap (aO C) ++ L.ls.flatMap (bh C))))):=by
  have e:cells C L=(L.self,HO.ins C.Ledger L.dx (bb L)) :: (L.dx,HO.own L.self) :: (L.hD,HO.dK (kvH L.hs)) :: (L.pD,HO.dK (kvP L.ps)) :: (L.gD,HO.dK (kvH L.gs)) :: (L.sD,HO.dK (kvS L.ss)) :: (L.lD,HO.dK (kvL L.ls)) :: (L.lg,HO.lst (L.log.map V.ref)) :: (L.ss.flatMap (aO C) ++ L.ls.flatMap (bh C)):=by
   have h1:L.ps.flatMap (aU C)=[]:=by rw [h0];rfl
   unfold cells
   rw [h1];rfl
  rw [e]
  generalize qs.flatMap (aU C)=X
  generalize L.ss.flatMap (aO C) ++ L.ls.flatMap (bh C)=Y
  haveI:DecidableEq (Addr×HO):=fun a b=>Classical.propDecidable (a=b)
  rw [List.perm_iff_count]
  intro a
  simp only [List.cons_append,List.nil_append,List.count_cons,List.count_append]
  omega
 have c2:=(c1.perm p3).tail
 have c3:ax (upd H L.self (.ins C.Ledger L.dx (bb { L with pD:=d,ps:=qs }))) (cells C { L with pD:=d,ps:=qs }):=ax.set (p:=[]) (o':=.ins C.Ledger L.dx (bb { L with pD:=d,ps:=qs })) c2
 have feet:∀ b,b∈aS C { L with pD:=d,ps:=qs }→b∈aS C L∨∃ c∈(d,HO.dK (kvP qs)) :: qs.flatMap (aU C),b=c.1:=fun b hb=>by
  have hb':b∈(cells C { L with pD:=d,ps:=qs }).map (·.1):=hb
  obtain ⟨c,hc',rfl⟩:=List.mem_map.mp hb'
  have hm:c.1∈([(L.pD,HO.dK (kvP L.ps))] ++ ((L.self,HO.ins C.Ledger L.dx (bb L)) :: (L.dx,HO.own L.self) :: (L.hD,HO.dK (kvH L.hs)) :: (d,HO.dK (kvP qs)) :: (L.gD,HO.dK (kvH L.gs)) :: (L.sD,HO.dK (kvS L.ss)) :: (L.lD,HO.dK (kvL L.ls)) :: (L.lg,HO.lst (L.log.map V.ref)) :: (qs.flatMap (aU C) ++ (L.ss.flatMap (aO C) ++ L.ls.flatMap (bh C))))).map (·.1):=by
   rw [List.map_append,List.mem_append]
   exact .inr hb
  have hm2:=(bi p3).mpr hm
  rw [List.map_append,List.mem_append] at hm2
  rcases hm2 with h | h
  ·obtain ⟨c',hc2,e⟩:=List.mem_map.mp h
   exact .inr ⟨c',hc2,e.symm⟩
  ·exact .inl h
 exact { R with
  cs:=c3
  ds:=fun p hp=>by
   have gen:∀ {ds:List Vbnlai.Det} {as:List Addr},Paired (cS C H L) ds as→(∀ a∈as,∀ c∈(d,HO.dK (kvP qs)) :: qs.flatMap (aU C),a≠c.1)→Paired (cS C (upd H L.self (.ins C.Ledger L.dx (bb { L with pD:=d,ps:=qs }))) { L with pD:=d,ps:=qs }) ds as:=by
    intro ds as h
    induction h with
    | nil=>intro _;exact .nil
    | cons h1 _ ih=>
     intro hh
     refine .cons ?_ (ih fun a ha=>hh a (List.mem_cons_of_mem _ ha))
     obtain ⟨f1,dx,e⟩:=h1
     refine ⟨fun z=> ?_,dx,?_⟩
     ·rcases feet _ z with z | ⟨c,hc',e'⟩
      ·exact f1 z
      ·exact hh _ List.mem_cons_self c hc' e'
     ·rw [af fun z=>f1 (by rw [z];exact inS)]
      exact e
   exact gen (R.ds p hp) (hdd p hp)
  p1:=p1,p2:=p2,pk:=pk,pN:=pN
  pl:=R.pl.upd rfl }
theorem j9(h0:L.ps=[]){d:Addr}{qs:List ((Vbnlai.Person×Vbnlai.Person)×QA)}{b:Addr}(hb:b∈aS C { L with pD:=d,ps:=qs }):b∈aS C L∨∃ c∈(d,HO.dK (kvP qs)) :: qs.flatMap (aU C),b=c.1:=by
 have hb':b∈L.self :: L.dx :: L.hD :: d :: L.gD :: L.sD :: L.lD :: L.lg :: (qs.flatMap (aU C) ++ (L.ss.flatMap (aO C) ++ L.ls.flatMap (bh C))).map (·.1):=hb
 have e:aS C L=L.self :: L.dx :: L.hD :: L.pD :: L.gD :: L.sD :: L.lD :: L.lg :: (L.ss.flatMap (aO C) ++ L.ls.flatMap (bh C)).map (·.1):=by
  have h1:L.ps.flatMap (aU C)=[]:=by rw [h0];rfl
  unfold aS cells
  rw [h1];rfl
 rw [e]
 rw [List.map_append] at hb'
 simp only [List.mem_cons,List.mem_append] at hb' ⊢
 rcases hb' with h | h | h | h | h | h | h | h | h | h
 ·exact .inl (.inl h)
 ·exact .inl (.inr (.inl h))
 ·exact .inl (.inr (.inr (.inl h)))
 ·exact .inr ⟨(d,_),.inl rfl,h⟩
 ·exact .inl (.inr (.inr (.inr (.inr (.inl h)))))
 ·exact .inl (.inr (.inr (.inr (.inr (.inr (.inl h))))))
 ·exact .inl (.inr (.inr (.inr (.inr (.inr (.inr (.inl h)))))))
 ·exact .inl (.inr (.inr (.inr (.inr (.inr (.inr (.inr (.inl h))))))))
 ·obtain ⟨c,hc,e⟩:=List.mem_map.mp h
  exact .inr ⟨c,.inr hc,e.symm⟩
 ·exact .inl (.inr (.inr (.inr (.inr (.inr (.inr (.inr (.inr h))))))))
end
end Sl
section
namespace Sl
open PySem PySem.Spec PyProof.Rows L2
section
variable(L:Lay)(p q:Vbnlai.Person)(l:Vbnlai.Loan)(x:Vbnlai.Sheet)(A:SA)(d:Vbnlai.Det)
theorem lk_houses:(bb L).lookup ("houses" : Str)=some (V.ref L.hD):=rfl
theorem kn:(bb L).lookup ("persons" : Str)=some (V.ref L.pD):=rfl
theorem kr:(bb L).lookup ("gatherings" : Str)=some (V.ref L.gD):=rfl
theorem lk_sheets:(bb L).lookup ("sheets" : Str)=some (V.ref L.sD):=rfl
theorem lk_loans:(bb L).lookup ("loans" : Str)=some (V.ref L.lD):=rfl
theorem lk_log:(bb L).lookup ("log" : Str)=some (V.ref L.lg):=rfl
theorem lk_house:(bz p q).lookup ("house" : Str)=some (V.int p.house):=rfl
theorem lk_rank:(bz p q).lookup ("rank" : Str)=some (V.int p.rank):=rfl
theorem lk_fhouse:(bz p q).lookup ("first_house" : Str)=some (V.int q.house):=rfl
theorem lk_frank:(bz p q).lookup ("first_rank" : Str)=some (V.int q.rank):=rfl
theorem lk_lender:(bF l).lookup ("lender" : Str)=some (V.int l.lender):=rfl
theorem mW:(bF l).lookup ("borrower" : Str)=some (V.int l.borrower):=rfl
theorem lk_due:(bF l).lookup ("due" : Str)=some (V.int l.due):=rfl
theorem lk_onward:(bF l).lookup ("onward" : Str)=some (V.int (on01 l.onward)):=rfl
theorem mz:(aG x A).lookup ("gathering" : Str)=some (V.int x.gathering):=rfl
theorem lk_owner:(aG x A).lookup ("owner" : Str)=some (V.int x.owner):=rfl
theorem lk_row:(aG x A).lookup ("loans" : Str)=some (V.ref A.la):=rfl
theorem qv:(aG x A).lookup ("status" : Str)=some (V.int (stI x.status)):=rfl
theorem lk_det:(aG x A).lookup ("determinations" : Str)=some (V.ref A.da):=rfl
theorem lk_type:(aG x A).lookup ("typified" : Str)=some (V.int x.type):=rfl
theorem lk_dday:(cI d).lookup ("day" : Str)=some (V.int d.day):=rfl
theorem oQ:(cI d).lookup ("person" : Str)=some (V.int d.person):=rfl
theorem lk_drank:(cI d).lookup ("rank" : Str)=some (V.int d.rank):=rfl
theorem lk_dname:(cI d).lookup ("name" : Str)=some (V.int d.name):=rfl
theorem lk_dconf:(cI d).lookup ("conf" : Str)=some (V.int d.conf):=rfl
end
structure bM(C:Cs)(H:Hp)(L:Lay)(hs:List Nat)(P0:List Vbnlai.Person)(w:Vbnlai.World):Prop where
 r:Rep C H L hs P0 w
 inv:∃ n,n≤300∧SV.cy n w
 rin:SV.il w
section
variable(C:Cs)
def hR:Sp:=fun vs H Q _=>∃ n,vs=[.int n]∧Q (.bl (Vbnlai.keyOk n)) H
def hC:Sp:=fun vs H Q _=>∃ n,vs=[.int n]∧Q (.bl (Vbnlai.dayOk n)) H
def gc:Sp:=fun vs H Q _=>∃ n,vs=[.int n]∧Q (.bl (Vbnlai.within n 1 9)) H
def dP(vs:List V)(H:Hp)(r:V):Prop:=∃ a ns,vs=[.ref a]∧H a=some (.lst (ns.map V.int))∧ns.length≤16∧bA H∧r=V.bl (Vbnlai.listOk ns)
def ib:Sp:=fun vs H Q _=>∃ r,dP vs H r∧Q r H
def jD:Sp:=fun vs H Q _=>∃ a dx h r,vs=[.ref a,.int h,.int r]∧H a=some (.ins C.Person dx [])∧Q .non (upd H a (.ins C.Person dx [("house",.int h),("rank",.int r),("first_house",.int h),("first_rank",.int r)]))
def mw:Sp:=fun vs H Q _=>∃ a dx h r d o,vs=[.ref a,.int h,.int r,.int d,.int o]∧H a=some (.ins C.Loan dx [])∧Q .non (upd H a (.ins C.Loan dx [("lender",.int h),("borrower",.int r),("due",.int d),("onward",.int o)]))
def eY:Sp:=fun vs H Q _=>∃ a dx d p r n c,vs=[.ref a,.int d,.int p,.int r,.int n,.int c]∧H a=some (.ins C.Determination dx [])∧Q .non (upd H a (.ins C.Determination dx [("day",.int d),("person",.int p),("rank",.int r),("name",.int n),("conf",.int c)]))
def kI:Sp:=fun vs H Q _=>∃ a dx d p n s,vs=[.ref a,.int d,.int p,.ref n,.ref s]∧H a=some (.ins C.Entry dx [])∧Q .non (upd H a (.ins C.Entry dx [("day",.int d),("place",.int p),("numbers",.ref n),("sheets",.ref s)]))
end
theorem zsp_key{n:Int}{H:Hp}{Q:VK}{E:XK}:hR [.int n] H Q E=Q (.bl (Vbnlai.keyOk n)) H:=by simp [hR]
theorem zsp_day{n:Int}{H:Hp}{Q:VK}{E:XK}:hC [.int n] H Q E=Q (.bl (Vbnlai.dayOk n)) H:=by simp [hC]
theorem zsp_rank{n:Int}{H:Hp}{Q:VK}{E:XK}:gc [.int n] H Q E=Q (.bl (Vbnlai.within n 1 9)) H:=by simp [gc]
end Sl
open PySem PySem.Spec PyProof.Rows L2 Sl
local macro_rules
 | `(tactic| simp! only [$xs,*])=>do
  let f (d:Bool) (s:String):Lean.MacroM (Array (Lean.TSyntax [`Lean.Parser.Tactic.simpStar,`Lean.Parser.Tactic.simpErase,`Lean.Parser.Tactic.simpLemma])):=((s.splitOn " ").drop 1).toArray.mapM fun n=>do
   let i:=Lean.mkIdent n.toName
   if d then return ⟨(← `(Lean.Parser.Tactic.simpLemma| ↓ $i:ident)).raw⟩ else return ⟨(← `(Lean.Parser.Tactic.simpLemma| $i:ident)).raw⟩
  let x:Array (Lean.TSyntax [`Lean.Parser.Tactic.simpStar,`Lean.Parser.Tactic.simpErase,`Lean.Parser.Tactic.simpLemma]):=xs.getElems.map fun x=>⟨x.raw⟩
  let s:=(← f false "_ L2.fm List.map List.length List.replicate List.cons_append List.nil_append Nat.reduceSub Nat.reduceAdd").map fun x=>(⟨x.raw⟩:Lean.TSyntax [`Lean.Parser.Tactic.simpErase,`Lean.Parser.Tactic.simpLemma])
  let r ← f false "_ at0 at1 at2 at3 at4 at5 jf flat_ints bV L2.fm List.map_cons List.map_nil List.length_cons List.length_nil List.append_nil List.cons_append List.nil_append Nat.zero_add Nat.reduceAdd Nat.reduceSub List.replicate_succ List.replicate_zero List.getElem?_cons_zero List.getElem?_cons_succ List.set_cons_zero List.set_cons_succ Option.some.injEq V.int.injEq V.bl.injEq V.ref.injEq HO.ins.injEq HO.lst.injEq HO.dK.injEq HO.tup.injEq List.cons.injEq and_true true_and and_assoc exists_eq_left' exists_eq_left exists_and_left exists_eq' exists_eq decide_eq_true_eq if_true if_false Bool.not_eq_true' decide_eq_false_iff_not Bool.false_eq_true exists_const ite_true ite_false Bool.not_true Bool.not_false reduceCtorEq not_true_eq_false not_false_eq_true"
  let a:=(← f true "_ tRet tRetN kC tSeq kY kT ms tC tOp tUn tNot tAnd tOr bI ip tCB tIf tFgt tTup tLst zTest zB zAndV zOrV zNotV zChain zI0 zI zU zEq zNe zEqB zNeB zCall zFld zsFld zfE0 zfE1 zx0 zx1 zx2 zx3 zc0 zc1 zc2 zc3 zc4 zc5 zBMT zBM0T zList zgTup zgCons zgNil zAppend zPop zExtend zCat zLen zLenD zIx zIn zInT zDGet zDIn zDNotIn zDPut gRef_a gInt_i gBl_b gOpt_s gIns_s gLst_s gTp_s gDk_s zsp_key zsp_day zsp_rank reduceIte zv0 zv1 zv2 zv3 zv4 zv5 zv6 zv7 zv8 zv9 zn0 zn1 zn2 zn3 zn4 zn5 zn6 zn7 zn8 zn9") ++ (← f false "_ gOpt_s gIns_s gLst_s gTp_s gDk_s") ++ r ++ x
  let b:=(← f false "_ dS kx gBl gU gIns cx gTp gDk tRet tRetN kC tSeq kY kT ms bZ tChain tC bq tOp tUn fE tB tNot tAnd tOr tAndV tOrV tNotV rI0 rI rU rEq rNe nO bI ip tCB tFld sFld tIf tFgt tBMT tBM0T tTup tLst gh gTupT gCons gNil lR rPop rPopAt mD rCat rLenT rLenD jy rInT rInTT nV tDInT jX oT scal_ii") ++ r ++ x
  `(tactic| (try dsimp only [$s,*]) <;> (try simp only [$a,*]) <;> (try simp only [$b,*]))
local macro_rules
 | `(tactic| simp_all! only [$xs,*])=>do
  let f (d:Bool) (s:String):Lean.MacroM (Array (Lean.TSyntax [`Lean.Parser.Tactic.simpStar,`Lean.Parser.Tactic.simpErase,`Lean.Parser.Tactic.simpLemma])):=((s.splitOn " ").drop 1).toArray.mapM fun n=>do
   let i:=Lean.mkIdent n.toName
   if d then return ⟨(← `(Lean.Parser.Tactic.simpLemma| ↓ $i:ident)).raw⟩ else return ⟨(← `(Lean.Parser.Tactic.simpLemma| $i:ident)).raw⟩
  let x:Array (Lean.TSyntax [`Lean.Parser.Tactic.simpStar,`Lean.Parser.Tactic.simpErase,`Lean.Parser.Tactic.simpLemma]):=xs.getElems.map fun x=>⟨x.raw⟩
  let a:=(← f false "_ T.cl_Person T.cl_Loan T.cl_Determination T.cl_Sheet T.cl_Entry T.cl_Ledger T.na_Person_house T.na_Person_rank T.na_Person_first_house T.na_Person_first_rank T.na_Loan_lender T.na_Loan_borrower T.na_Loan_due T.na_Loan_onward T.na_Determination_day T.na_Determination_person T.na_Determination_rank T.na_Determination_name T.na_Determination_conf T.na_Sheet_gathering T.na_Sheet_owner T.na_Sheet_loans T.na_Sheet_status T.na_Sheet_determinations T.na_Sheet_typified T.na_Entry_day T.na_Entry_place T.na_Entry_numbers T.na_Entry_sheets T.na_Ledger_houses T.na_Ledger_persons T.na_Ledger_gatherings T.na_Ledger_sheets T.na_Ledger_loans T.na_Ledger_log") ++ x
  `(tactic| simp! only [$a,*])
local macro_rules
 | `(tactic| dsimp! only [$xs,*])=>do
  let f (d:Bool) (s:String):Lean.MacroM (Array (Lean.TSyntax [`Lean.Parser.Tactic.simpErase,`Lean.Parser.Tactic.simpLemma])):=((s.splitOn " ").drop 1).toArray.mapM fun n=>do
   let i:=Lean.mkIdent n.toName
   if d then return ⟨(← `(Lean.Parser.Tactic.simpLemma| ↓ $i:ident)).raw⟩ else return ⟨(← `(Lean.Parser.Tactic.simpLemma| $i:ident)).raw⟩
  let x:Array (Lean.TSyntax [`Lean.Parser.Tactic.simpErase,`Lean.Parser.Tactic.simpLemma]):=xs.getElems.map fun x=>⟨x.raw⟩
  let a:=(← f false "_ lk_houses kn kr lk_sheets lk_loans lk_log lk_house lk_rank lk_fhouse lk_frank lk_lender mW lk_due lk_onward mz lk_owner lk_row qv lk_det lk_type lk_dday oQ lk_drank lk_dname lk_dconf") ++ x
  `(tactic| simp_all! only [$a,*])
local macro_rules
 | `(tactic| trivial)=> `(tactic| first | exact Or.inl rfl | exact Or.inr rfl)
namespace Sl
open PySem PySem.Spec PyProof.Rows L2
section
variable{P:Program}{w0:World}{K:PySem.W.Frag}{mg:Str→Option Value}{base:Heap}{C:Cs}
theorem cB(T:Txt K mg C):Can P w0 K mg base 1 "is_key" ["number"] hR:=by
 refine ay T.f_is_key sc_is_key (fun vs H Q E h=>by obtain ⟨n,rfl,_⟩:=h;rfl) fun f cdv A outer s H vs Q E hr h=> ?_
 refine ⟨_,(a8 (ai (gn iC iC ag (pv 0) (aB T.g_GREATEST_KEY rfl)))),?_⟩
 obtain ⟨n,rfl,q⟩:=h
 simp! only []
 unfold Vbnlai.keyOk Vbnlai.within at q
 by_cases h1:1≤n
 ·have e:decide (((1:Nat):Int)≤n)=true:=by simpa using h1
  rw [e] at q
  rw [if_pos h1];exact q
 ·have e:decide (((1:Nat):Int)≤n)=false:=by simpa using h1
  rw [e] at q
  rw [if_neg h1];exact q
theorem fT(T:Txt K mg C):Can P w0 K mg base 1 "is_day" ["number"] hC:=by
 refine ay T.f_is_day sc_is_day (fun vs H Q E h=>by obtain ⟨n,rfl,_⟩:=h;rfl) fun f cdv A outer s H vs Q E hr h=> ?_
 refine ⟨_,(a8 (ai (gn iC iC ag (pv 0) (aB T.g_GREATEST_DAY rfl)))),?_⟩
 obtain ⟨n,rfl,q⟩:=h
 simp! only []
 unfold Vbnlai.dayOk Vbnlai.within at q
 by_cases h1:0≤n
 ·have e:decide (((0:Nat):Int)≤n)=true:=by simpa using h1
  rw [e] at q
  rw [if_pos h1];exact q
 ·have e:decide (((0:Nat):Int)≤n)=false:=by simpa using h1
  rw [e] at q
  rw [if_neg h1];exact q
theorem kb(T:Txt K mg C):Can P w0 K mg base 1 "is_rank" ["number"] gc:=by
 refine ay T.f_is_rank sc_is_rank (fun vs H Q E h=>by obtain ⟨n,rfl,_⟩:=h;rfl) fun f cdv A outer s H vs Q E hr h=> ?_
 refine ⟨_,(a8 (ai (gn iC iC ag (pv 0) (aB T.g_GREATEST_RANK rfl)))),?_⟩
 obtain ⟨n,rfl,q⟩:=h
 simp! only []
 unfold Vbnlai.within at q
 by_cases h1:1≤n
 ·have e:decide (((1:Nat):Int)≤n)=true:=by simpa using h1
  rw [e] at q
  rw [if_pos h1];exact q
 ·have e:decide (((1:Nat):Int)≤n)=false:=by simpa using h1
  rw [e] at q
  rw [if_neg h1];exact q
theorem iu(T:Txt K mg C):Can P w0 K mg base 1 "is_right_list" ["numbers"] ib:=by
 refine cb (pre:=dP) (ay T.f_is_right_list sc_is_right_list (fun vs H Q E h=>by obtain ⟨r,⟨a,ns,rfl,_⟩,_⟩:=h;rfl) fun f cdv A outer s H vs Q E hr h=> ?_) fun vs H r h=>by obtain ⟨a,ns,_,_,_,h,_⟩:=h;exact h
 refine ⟨_,(a8 (ai (oF (gn iC iC ag (aA aV rfl T.b_len PySem.boot_len (a6 (pv 0) ab)) (aB T.g_LONGEST_LIST rfl)) (i5 (bm aL (aA qr rfl T.b_len PySem.boot_len (a6 (d9 (cr_setK (K:=K) rfl rfl) rfl T.b_set boot_set (a6 (pv 0) ab)) ab)) (aA aV rfl T.b_len PySem.boot_len (a6 (pv 0) ab)) (ap _)))))),?_⟩
 obtain ⟨r,⟨a,ns,rfl,ha,hz,pl,rfl⟩,q⟩:=h
 simp! only [ha,rSet,qe,List.length_map]
 have e1:Vbnlai.listOk ns=(decide (1≤(ns.length:Int)) && (decide ((ns.length:Int)≤8) && decide (((SV.ded ns []).length:Int)=(ns.length:Int)))):=by
  rw [SV.ded_distinct]
  unfold Vbnlai.listOk Vbnlai.MOST
  congr 1
  ·rw [decide_eq_decide];omega
  ·congr 1
   rw [decide_eq_decide];omega
 rw [e1] at q
 by_cases h1:1≤(ns.length:Int)
 ·rw [if_pos h1]
  by_cases h2:(ns.length:Int)≤8
  ·rw [if_pos h2]
   refine ⟨ns,SqL.of ha,by omega,fun p S hp=> ?_⟩
   have hl:(gg ns).length=(SV.ded ns []).length:=rfl
   refine ⟨S,_,a9,?_,ns.map V.int,?_,?_⟩
   ·have:=SV.ded_le ns []
    rw [hl]
    simp at this
    omega
   ·rw [af (al ha hp)];exact ha
   ·rw [List.length_map,hl]
    have:=q _ (Ext.upd (o:=.set S (gg ns).length) hp rfl).1
    rw [hl] at this
    simpa [h1,h2] using this
  ·rw [if_neg h2]
   simpa [h2] using q H (bD.refl H)
 ·rw [if_neg h1]
  simpa [h1] using q H (bD.refl H)
theorem f8(T:Txt K mg C):gx P w0 K mg base 1 "Person" C.Person ["self", "house", "rank"] (jD C):=by
 refine lw T.m_Person sc_Person_init (fun vs H Q E h=>by obtain ⟨a,dx,h1,r,rfl,_⟩:=h;rfl) fun f cdv A outer s H vs Q E hr h=> ?_
 refine ⟨_,(a7 (aH (K:=K) rfl (pv 0) (pv 1) rfl)
   (a7 (aH (K:=K) rfl (pv 0) (pv 2) rfl)
   (a7 (aH (K:=K) rfl (pv 0) (pv 1) rfl)
   (a8 (aH (K:=K) rfl (pv 0) (pv 2) rfl))))),?_⟩
 obtain ⟨a,dx,h1,r,rfl,ha,q⟩:=h
 simp_all! only [ha,a9,bv]
 exact ⟨by decide,show 1 < 1000 by decide,show 2 < 1000 by decide,show 3 < 1000 by decide,q⟩
theorem lJ(T:Txt K mg C):gx P w0 K mg base 1 "Loan" C.Loan ["self", "lender", "borrower", "due", "onward"] (mw C):=by
 refine lw T.m_Loan sc_Loan_init (fun vs H Q E h=>by obtain ⟨a,dx,h1,r,d,o,rfl,_⟩:=h;rfl) fun f cdv A outer s H vs Q E hr h=> ?_
 refine ⟨_,(a7 (aH (K:=K) rfl (pv 0) (pv 1) rfl)
   (a7 (aH (K:=K) rfl (pv 0) (pv 2) rfl)
   (a7 (aH (K:=K) rfl (pv 0) (pv 3) rfl)
   (a8 (aH (K:=K) rfl (pv 0) (pv 4) rfl))))),?_⟩
 obtain ⟨a,dx,h1,r,d,o,rfl,ha,q⟩:=h
 simp_all! only [ha,a9,bv]
 exact ⟨by decide,show 1 < 1000 by decide,show 2 < 1000 by decide,show 3 < 1000 by decide,q⟩
theorem eX(T:Txt K mg C):gx P w0 K mg base 1 "Determination" C.Determination ["self", "day", "person", "rank", "name", "conf"] (eY C):=by
 refine lw T.m_Determination sc_Determination_init (fun vs H Q E h=>by obtain ⟨a,dx,d,p,r,n,c,rfl,_⟩:=h;rfl) fun f cdv A outer s H vs Q E hr h=> ?_
 refine ⟨_,(a7 (aH (K:=K) rfl (pv 0) (pv 1) rfl)
   (a7 (aH (K:=K) rfl (pv 0) (pv 2) rfl)
   (a7 (aH (K:=K) rfl (pv 0) (pv 3) rfl)
   (a7 (aH (K:=K) rfl (pv 0) (pv 4) rfl)
   (a8 (aH (K:=K) rfl (pv 0) (pv 5) rfl)))))),?_⟩
 obtain ⟨a,dx,d,p,r,n,c,rfl,ha,q⟩:=h
 simp_all! only [ha,a9,bv]
 exact ⟨by decide,show 1 < 1000 by decide,show 2 < 1000 by decide,show 3 < 1000 by decide,show 4 < 1000 by decide,q⟩
theorem kH(T:Txt K mg C):gx P w0 K mg base 1 "Entry" C.Entry ["self", "day", "place", "numbers", "sheets"] (kI C):=by
 refine lw T.m_Entry sc_Entry_init (fun vs H Q E h=>by obtain ⟨a,dx,d,p,n,s,rfl,_⟩:=h;rfl) fun f cdv A outer s H vs Q E hr h=> ?_
 refine ⟨_,(a7 (aH (K:=K) rfl (pv 0) (pv 1) rfl)
   (a7 (aH (K:=K) rfl (pv 0) (pv 2) rfl)
   (a7 (aH (K:=K) rfl (pv 0) (pv 3) rfl)
   (a8 (aH (K:=K) rfl (pv 0) (pv 4) rfl))))),?_⟩
 obtain ⟨a,dx,d,p,n,s',rfl,ha,q⟩:=h
 simp_all! only [ha,a9,bv]
 exact ⟨by decide,show 1 < 1000 by decide,show 2 < 1000 by decide,show 3 < 1000 by decide,q⟩
end
section
variable(C:Cs)
def kK:Sp:=fun vs H Q _=>∃ a dx g o,vs=[.ref a,.int g,.int o]∧H a=some (.ins C.Sheet dx []) ∧
 ∀ la da H',H la=none→H da=none→la≠da→H' a=some (.ins C.Sheet dx [("gathering",.int g),("owner",.int o),("loans",.ref la),("status",.int 0),("determinations",.ref da),("typified",.int 0)]) →
  H' la=some (.lst [])→H' da=some (.lst [])→(∀ b u,H b=some u→b≠a→H' b=some u)→(∀ b u,H' b=some u→H b=some u∨ca u=true)→Q .non H'
def jq:Sp:=fun vs H Q _=>∃ a dx,vs=[.ref a]∧H a=some (.ins C.Ledger dx []) ∧
 ∀ hD pD gD sD lD lg H',H' a=some (.ins C.Ledger dx [("houses",.ref hD),("persons",.ref pD),("gatherings",.ref gD),("sheets",.ref sD),("loans",.ref lD),("log",.ref lg)]) →
  H hD=none→H pD=none→H gD=none→H sD=none→H lD=none→H lg=none→([hD,pD,gD,sD,lD,lg]:List Addr).Nodup →
  H' hD=some (.dK [])→H' pD=some (.dK [])→H' gD=some (.dK [])→H' sD=some (.dK [])→H' lD=some (.dK [])→H' lg=some (.lst []) →
  (∀ b u,H b=some u→b≠a→H' b=some u)→(∀ b u,H' b=some u→H b=some u∨ca u=true)→Q .non H'
end
section
variable{P:Program}{w0:World}{K:PySem.W.Frag}{mg:Str→Option Value}{base:Heap}{C:Cs}
theorem g4(T:Txt K mg C):gx P w0 K mg base 1 "Sheet" C.Sheet ["self", "gathering", "owner"] (kK C):=by
 refine lw T.m_Sheet sc_Sheet_init (fun vs H Q E h=>by obtain ⟨a,dx,g,o,rfl,_⟩:=h;rfl) fun f cdv A outer s H vs Q E hr h=> ?_
 refine ⟨_,(a7 (aH (K:=K) rfl (pv 0) (pv 1) rfl)
   (a7 (aH (K:=K) rfl (pv 0) (pv 2) rfl)
   (a7 (aH (K:=K) rfl (pv 0) (bf ab) rfl)
   (a7 (aH (K:=K) rfl (pv 0) (aB T.g_HERE rfl) rfl)
   (a7 (aH (K:=K) rfl (pv 0) (bf ab) rfl)
   (a8 (aH (K:=K) rfl (pv 0) ag rfl))))))),?_⟩
 obtain ⟨a,dx,g,o,rfl,ha,q⟩:=h
 simp_all! only [ha,a9,bv]
 refine ⟨by decide,show 1 < 1000 by decide,Nat.zero_le _,fun la hla=> ?_⟩
 have na:a≠la:=fun e=>by subst e;rw [a9] at hla;cases hla
 rw [af (Ne.symm na)] at hla
 refine ⟨_,_,_,(af na).trans a9,T.cl_Sheet,T.na_Sheet_loans,show 2 < 1000 by decide,T.cl_Sheet,T.na_Sheet_status,show 3 < 1000 by decide,Nat.zero_le _,fun da hda=> ?_⟩
 have nb:a≠da:=fun e=>by subst e;rw [a9] at hda;cases hda
 rw [af (Ne.symm nb)] at hda
 have nc:la≠da:=fun e=>by subst e;rw [a9] at hda;cases hda
 rw [af (Ne.symm nc),af (Ne.symm nb)] at hda
 refine ⟨_,_,_,(af nb).trans a9,T.cl_Sheet,T.na_Sheet_determinations,show 4 < 1000 by decide,T.cl_Sheet,T.na_Sheet_typified,show 5 < 1000 by decide,?_⟩
 refine q la da _ hla hda nc a9 ?_ ?_ (fun b u hb hne=> ?_) (fun b u hb=> ?_)
 ·rw [af (Ne.symm na),af nc,af (Ne.symm na),a9]
 ·rw [af (Ne.symm nb),a9]
 ·rw [af hne,af (al hb hda),af hne,af (al hb hla),af hne]
  exact hb
 ·by_cases h1:b=a
  ·subst h1;rw [a9] at hb;cases hb;exact .inr rfl
  rw [af h1] at hb
  by_cases h2:b=da
  ·subst h2;rw [a9] at hb;cases hb;exact .inr rfl
  rw [af h2,af h1] at hb
  by_cases h3:b=la
  ·subst h3;rw [a9] at hb;cases hb;exact .inr rfl
  rw [af h3,af h1] at hb
  exact .inl hb
structure Stp(a:Addr)(G G':Hp)(d:Addr)(o I':HO):Prop where
 aa:G' a=some I'
 ad:G' d=some o
 keep:∀ b u,G b=some u→b≠a→G' b=some u
 nodt:∀ b u,G' b=some u→G b=some u∨ca u=true
 nn:∀ e,G' e=none→G e=none∧e≠d
theorem Stp.mk'{a:Addr}{G:Hp}{d:Addr}{o I I':HO}(ha:G a=some I)(hd:G d=none)(no:ca o=true)(nI:ca I'=true):Stp a G (upd (upd G d o) a I') d o I':=by
 have n:=al ha hd
 refine ⟨a9,(af (Ne.symm n)).trans a9,fun b u hb hne=> ?_,fun b u hb=> ?_,fun e he=> ?_⟩
 ·rw [af hne,af (al hb hd)];exact hb
 ·by_cases h1:b=a
  ·subst h1;rw [a9] at hb;cases hb;exact .inr nI
  rw [af h1] at hb
  by_cases h2:b=d
  ·subst h2;rw [a9] at hb;cases hb;exact .inr no
  rw [af h2] at hb
  exact .inl hb
 ·have h1:e≠a:=fun z=>by subst z;rw [a9] at he;cases he
  rw [af h1] at he
  have h2:e≠d:=fun z=>by subst z;rw [a9] at he;cases he
  rw [af h2] at he
  exact ⟨he,h2⟩
theorem fo(T:Txt K mg C):gx P w0 K mg base 1 "Ledger" C.Ledger ["self"] (jq C):=by
 refine lw T.m_Ledger sc_Ledger_init (fun vs H Q E h=>by obtain ⟨a,dx,rfl,_⟩:=h;rfl) fun f cdv A outer s H vs Q E hr h=> ?_
 refine ⟨_,(a7 (aH (K:=K) rfl (pv 0) cK rfl)
   (a7 (aH (K:=K) rfl (pv 0) cK rfl)
   (a7 (aH (K:=K) rfl (pv 0) cK rfl)
   (a7 (aH (K:=K) rfl (pv 0) cK rfl)
   (a7 (aH (K:=K) rfl (pv 0) cK rfl)
   (a8 (aH (K:=K) rfl (pv 0) (bf ab) rfl))))))),?_⟩
 obtain ⟨a,dx,rfl,ha,q⟩:=h
 simp_all! only [k9,ha]
 intro hD h1
 refine ⟨_,_,_,(af (al ha h1)).trans ha,T.cl_Ledger,T.na_Ledger_houses,show 0 < 1000 by decide,fun pD h2=> ?_⟩
 have S1:=Stp.mk' (o:=.dK []) (I':=.ins C.Ledger dx (b0 "houses" (.ref hD) [])) ha h1 rfl rfl
 generalize upd (upd H hD (.dK [])) a (.ins C.Ledger dx (b0 "houses" (.ref hD) []))=G1 at S1 h2 ⊢
 refine ⟨_,_,_,(af (al S1.aa h2)).trans S1.aa,T.cl_Ledger,T.na_Ledger_persons,show 1 < 1000 by decide,fun gD h3=> ?_⟩
 have S2:=Stp.mk' (o:=.dK []) (I':=.ins C.Ledger dx (b0 "persons" (.ref pD) (b0 "houses" (.ref hD) []))) S1.aa h2 rfl rfl
 generalize upd (upd G1 pD (.dK [])) a (.ins C.Ledger dx (b0 "persons" (.ref pD) (b0 "houses" (.ref hD) [])))=G2 at S2 h3 ⊢
 refine ⟨_,_,_,(af (al S2.aa h3)).trans S2.aa,T.cl_Ledger,T.na_Ledger_gatherings,show 2 < 1000 by decide,fun sD h4=> ?_⟩
 have S3:=Stp.mk' (o:=.dK []) (I':=.ins C.Ledger dx (b0 "gatherings" (.ref gD) (b0 "persons" (.ref pD) (b0 "houses" (.ref hD) [])))) S2.aa h3 rfl rfl
 generalize upd (upd G2 gD (.dK [])) a (.ins C.Ledger dx (b0 "gatherings" (.ref gD) (b0 "persons" (.ref pD) (b0 "houses" (.ref hD) []))))=G3 at S3 h4 ⊢
 refine ⟨_,_,_,(af (al S3.aa h4)).trans S3.aa,T.cl_Ledger,T.na_Ledger_sheets,show 3 < 1000 by decide,fun lD h5=> ?_⟩
 have S4:=Stp.mk' (o:=.dK []) (I':=.ins C.Ledger dx (b0 "sheets" (.ref sD) (b0 "gatherings" (.ref gD) (b0 "persons" (.ref pD) (b0 "houses" (.ref hD) []))))) S3.aa h4 rfl rfl
 generalize upd (upd G3 sD (.dK [])) a (.ins C.Ledger dx (b0 "sheets" (.ref sD) (b0 "gatherings" (.ref gD) (b0 "persons" (.ref pD) (b0 "houses" (.ref hD) [])))))=G4 at S4 h5 ⊢
 refine ⟨_,_,_,(af (al S4.aa h5)).trans S4.aa,T.cl_Ledger,T.na_Ledger_loans,show 4 < 1000 by decide,Nat.zero_le _,fun lg h6=> ?_⟩
 have S5:=Stp.mk' (o:=.dK []) (I':=.ins C.Ledger dx (b0 "loans" (.ref lD) (b0 "sheets" (.ref sD) (b0 "gatherings" (.ref gD) (b0 "persons" (.ref pD) (b0 "houses" (.ref hD) [])))))) S4.aa h5 rfl rfl
 generalize upd (upd G4 lD (.dK [])) a (.ins C.Ledger dx (b0 "loans" (.ref lD) (b0 "sheets" (.ref sD) (b0 "gatherings" (.ref gD) (b0 "persons" (.ref pD) (b0 "houses" (.ref hD) []))))))=G5 at S5 h6 ⊢
 refine ⟨_,_,_,(af (al S5.aa h6)).trans S5.aa,T.cl_Ledger,T.na_Ledger_log,show 5 < 1000 by decide,?_⟩
 have S6:=Stp.mk' (o:=.lst []) (I':=.ins C.Ledger dx (b0 "log" (.ref lg) (b0 "loans" (.ref lD) (b0 "sheets" (.ref sD) (b0 "gatherings" (.ref gD) (b0 "persons" (.ref pD) (b0 "houses" (.ref hD) []))))))) S5.aa h6 rfl rfl
 generalize upd (upd G5 lg (.lst [])) a (.ins C.Ledger dx (b0 "log" (.ref lg) (b0 "loans" (.ref lD) (b0 "sheets" (.ref sD) (b0 "gatherings" (.ref gD) (b0 "persons" (.ref pD) (b0 "houses" (.ref hD) [])))))))=G6 at S6 ⊢
 have m2:=S1.nn _ h2
 have m3:=S2.nn _ h3
 have m3':=S1.nn _ m3.1
 have m4:=S3.nn _ h4
 have m4':=S2.nn _ m4.1
 have m4'':=S1.nn _ m4'.1
 have m5:=S4.nn _ h5
 have m5':=S3.nn _ m5.1
 have m5'':=S2.nn _ m5'.1
 have m5s:=S1.nn _ m5''.1
 have m6:=S5.nn _ h6
 have m6':=S4.nn _ m6.1
 have m6'':=S3.nn _ m6'.1
 have m6s:=S2.nn _ m6''.1
 have m6t:=S1.nn _ m6s.1
 have ne1:hD≠a:=fun z=>by subst z;rw [ha] at h1;cases h1
 have ne2:pD≠a:=fun z=>by subst z;rw [S1.aa] at h2;cases h2
 have ne3:gD≠a:=fun z=>by subst z;rw [S2.aa] at h3;cases h3
 have ne4:sD≠a:=fun z=>by subst z;rw [S3.aa] at h4;cases h4
 have ne5:lD≠a:=fun z=>by subst z;rw [S4.aa] at h5;cases h5
 refine q hD pD gD sD lD lg G6 S6.aa h1 m2.1 m3'.1 m4''.1 m5s.1 m6t.1 ?_ ?_ ?_ ?_ ?_ ?_ S6.ad (fun b u hb hn=> ?_) (fun b u hb=> ?_)
 ·simp only [List.nodup_cons,List.mem_cons,List.not_mem_nil,or_false,not_or,not_false_eq_true,List.nodup_nil,and_true]
  exact ⟨⟨Ne.symm m2.2,Ne.symm m3'.2,Ne.symm m4''.2,Ne.symm m5s.2,Ne.symm m6t.2⟩,⟨Ne.symm m3.2,Ne.symm m4'.2,Ne.symm m5''.2,Ne.symm m6s.2⟩,⟨Ne.symm m4.2,Ne.symm m5'.2,Ne.symm m6''.2⟩,⟨Ne.symm m5.2,Ne.symm m6'.2⟩,Ne.symm m6.2⟩
 ·exact S6.keep _ _ (S5.keep _ _ (S4.keep _ _ (S3.keep _ _ (S2.keep _ _ S1.ad ne1) ne1) ne1) ne1) ne1
 ·exact S6.keep _ _ (S5.keep _ _ (S4.keep _ _ (S3.keep _ _ S2.ad ne2) ne2) ne2) ne2
 ·exact S6.keep _ _ (S5.keep _ _ (S4.keep _ _ S3.ad ne3) ne3) ne3
 ·exact S6.keep _ _ (S5.keep _ _ S4.ad ne4) ne4
 ·exact S6.keep _ _ S5.ad ne5
 ·exact S6.keep _ _ (S5.keep _ _ (S4.keep _ _ (S3.keep _ _ (S2.keep _ _ (S1.keep _ _ hb hn) hn) hn) hn) hn) hn
 ·rcases S6.nodt b u hb with hb | hb
  ·rcases S5.nodt b u hb with hb | hb
   ·rcases S4.nodt b u hb with hb | hb
    ·rcases S3.nodt b u hb with hb | hb
     ·rcases S2.nodt b u hb with hb | hb
      ·exact S1.nodt b u hb
      ·exact .inr hb
     ·exact .inr hb
    ·exact .inr hb
   ·exact .inr hb
  ·exact .inr hb
end
section
variable(C:Cs)
structure dv(H:Hp)(L:Lay)(e:Nat×Vbnlai.Entry)(a:Addr):Prop where
 ex:∃ dx na sa,H a=some (.ins C.Entry dx [("day",.int e.1),("place",.int (SV.pl e.2)),("numbers",.ref na),("sheets",.ref sa)])∧H na=some (.lst (((e.1:Int) :: SV.ar e.2).map V.int))∧H sa=some (.lst ((SV.sh e.2).map V.int)) ∧
  a∉aS C L∧na∉aS C L∧sa∉aS C L
abbrev LogAt(H:Hp)(L:Lay)(log:List (Nat×Vbnlai.Entry)):Prop:=Paired (dv C H L) log L.log
def ma(log:List (Nat×Vbnlai.Entry)):Nat:=(log.getLast?.map Prod.fst).getD 0
def mO:Sp:=fun vs H Q _=>∃ L hs P0 w log,vs=[.ref L.self]∧Rep C H L hs P0 w∧LogAt C H L log∧Q (.int (ma log)) H
def iN:Sp:=fun vs H Q _=>∃ L hs P0 w x A k p,vs=[.ref L.self,.ref A.a]∧Rep C H L hs P0 w∧(x,A)∈L.ss∧x.loans.getLast? = some k∧L.ln k=some p∧Q (.ref p.2.a) H
def mG:Sp:=fun vs H Q _=>∃ L hs P0 w x A,vs=[.ref L.self,.ref A.a]∧bM C H L hs P0 w∧(x,A)∈L.ss∧Q (.int (Vbnlai.holder w x:Nat)) H
def jY(vs:List V)(H:Hp)(r:V):Prop:=∃ a dx x A,vs=[.ref a]∧H a=some (.ins C.Sheet dx (aG x A))∧bA H∧r = .bl (!Vbnlai.stands x)
def p7:Sp:=fun vs H Q _=>∃ r,jY C vs H r∧Q r H
def jB:Sp:=fun vs H Q _=>∃ L hs P0 w a,∃ ns:List Int,∃ ps:List (Vbnlai.Sheet×SA),vs=[.ref L.self,.ref a]∧Rep C H L hs P0 w∧H a=some (.lst (ns.map V.int))∧ns.length≤sizeLine∧ns.map L.sh=ps.map some ∧
 ∀ l H',H l=none→Ext (upd H l (.lst (ps.map fun p=>V.ref p.2.a))) H'→Q (.ref l) H'
def eO(vs:List V)(H:Hp)(r:V):Prop:=∃ L hs P0 w a,∃ ns:List Int,∃ z,vs=[.ref L.self,.ref a,.int z]∧Rep C H L hs P0 w∧H a=some (.lst (ns.map V.int))∧ns.length≤16∧r = .int (SV.gL w ns z)
def iX:Sp:=fun vs H Q _=>∃ r,eO C vs H r∧Q r H
def qo:Sp:=fun vs H Q _=>∃ L hs P0 w k,vs=[.ref L.self,.int k]∧Rep C H L hs P0 w∧Q (.int (SV.kj w k)) H
end
theorem jM{α β : Type}{f g : α→Option β}:∀ {l:List α},(∀ x∈l,f x=g x)→l.filterMap f=l.filterMap g
 | [],_=>rfl
 | x :: r,h=>by
  rw [List.filterMap_cons,List.filterMap_cons,h x List.mem_cons_self,jM fun y hy=>h y (List.mem_cons_of_mem _ hy)]
theorem q_ite{Q:VK}{H:Hp}{c:Prop}[Decidable c]{a b:Int}:Q (.int (if c then a else b)) H=(if c then Q (.int a) H else Q (.int b) H):=by split <;> rfl
theorem m8{x:Vbnlai.Sheet}:(Vbnlai.here x=false) = ¬ stI x.status=0:=by
 unfold Vbnlai.here
 cases x.status <;> simp [stI,Vbnlai.statusNumber]
theorem loans_ne{l:List Nat}:(l≠[])=(0 < (l.length:Int)):=by cases l <;> simp <;> omega
theorem nat_ne{n:Nat}:(n≠0) = ¬ (n:Int)=0:=by simp
theorem stI_lost(s:Vbnlai.Status):decide (stI s=2)=(s == .lost):=by cases s <;> rfl
theorem jL{α : Type}:∀ {l:List α} {v : α},l.getLast? = some v→l=l.dropLast ++ [v]
 | [],v,h=>by simp at h
 | [a],v,h=>by
  have:a=v:=by simpa using h
  subst this;rfl
 | a :: b :: r,v,h=>by
  have:=jL (l:=b :: r) (v:=v) (by simpa using h)
  rw [List.dropLast_cons₂,List.cons_append,← this]
theorem gr{α : Type}{l:List α}{v : α}(h:l.getLast? = some v):atI l (-1)=some v:=by
 obtain ⟨l',rfl⟩:∃ l',l=l' ++ [v]:=by
  exact ⟨_,(jL h)⟩
 exact atI_last l' v
theorem iz{α β : Type}{F : α→β→Prop}:∀ {l:List α} {m:List β},Paired F l m→∀ {b : β},m.getLast? = some b→∃ a,l.getLast? = some a∧F a b
 | _,_,.nil,b,h=>by simp at h
 | _,_,.cons (a:=a) (b:=c) h .nil,b,e=>by
  have:c=b:=by simpa using e
  subst this
  exact ⟨a,rfl,h⟩
 | _,_,.cons (a:=a) h (.cons (a:=a') h' t),b,e=>by
  obtain ⟨x,e1,e2⟩:=iz (.cons h' t) (by simpa using e)
  exact ⟨x,by simpa using e1,e2⟩
section
variable{P:Program}{w0:World}{K:PySem.W.Frag}{mg:Str→Option Value}{base:Heap}{C:Cs}
theorem dg(T:Txt K mg C):CanMe P w0 K mg base 1 C.Ledger "last_day" ["self"] (mO C):=by
 refine me_of T.me_Ledger_last_day sc_Ledger_last_day (fun vs H Q E h=>by obtain ⟨L,hs,P0,w,log,rfl,_⟩:=h;rfl) fun f cdv A outer s H vs Q E hr h=> ?_
 refine ⟨_,(a7 (aw (ak aL (aA aV rfl T.b_len PySem.boot_len (a6 (ae (K:=K) rfl (pv 0) rfl) ab)) ag (ap _)) (a8 (ai ag)) aj)
   (a8 (ai (ae (K:=K) rfl (aD aq (ae (K:=K) rfl (pv 0) rfl) (aJ az ag) (fun _ _=>rfl)) rfl)))),?_⟩
 obtain ⟨L,hs,P0,w,log,rfl,R,lg,q⟩:=h
 have hl:log.length=L.log.length:=Paired.length lg
 cases e:L.log.getLast? with
 | none=>
  have e0:L.log=[]:=by simpa using e
  rw [e0] at hl
  have e1:log=[]:=List.length_eq_zero_iff.mp hl
  subst e1
  dsimp! only [R.self,R.lg,e0]
  exact q
 | some a=>
  obtain ⟨en,e1,e2⟩:=iz lg e
  obtain ⟨dx,na,sa,h1,_⟩:=e2.ex
  have ne:¬ (L.log.length:Int)=0:=fun z=>by
   have:L.log=[]:=List.length_eq_zero_iff.mp (by omega)
   rw [this] at e;cases e
  have a1:atI (L.log.map V.ref) (-1)=some (.ref a):=gr (by rw [List.getLast?_map,e];rfl)
  unfold ma at q
  rw [e1] at q
  dsimp! only [R.self,R.lg,List.length_map,ne,a1,h1]
  exact ⟨_,rfl,q⟩
theorem eU(T:Txt K mg C):Can P w0 K mg base 1 "last_loan_of" ["ledger", "sheet"] (iN C):=by
 refine ay T.f_last_loan_of sc_last_loan_of (fun vs H Q E h=>by obtain ⟨_,_,_,_,_,_,_,_,rfl,_⟩:=h;rfl) fun f cdv A outer s H vs Q E hr h=> ?_
 refine ⟨_,(a8 (ai (aP (aM hr) (ae (K:=K) rfl (pv 0) rfl) (aD aq (ae (K:=K) rfl (pv 1) rfl) (aJ az ag) (fun _ _=>rfl)) (fun _ _=>rfl)))),?_⟩
 obtain ⟨L,hs,P0,w,x,A',k,p,rfl,R,hx,hk,hp,q⟩:=h
 have S:=R.sheet hx
 have Rw:=R.row hx
 simp only at S Rw
 have a1:atI (aT x.loans) (-1)=some (.int k):=gr (by unfold aT;rw [List.getLast?_map,hk];rfl)
 have a2:bo (kvL L.ls) (Sum.inl (k:Int))=some (.ref p.2.a):=by rw [g5,hp];rfl
 dsimp! only [R.self,R.lD,S,Rw,a1,a2]
 exact q
theorem cV(T:Txt K mg C):Can P w0 K mg base 2 "holder_of" ["ledger", "sheet"] (mG C):=by
 refine ay T.f_holder_of sc_holder_of (fun vs H Q E h=>by obtain ⟨_,_,_,_,_,_,rfl,_⟩:=h;rfl) fun f cdv A outer s H vs Q E hr h=> ?_
 refine ⟨_,(a7 (aw (ak aL (aA aV rfl T.b_len PySem.boot_len (a6 (ae (K:=K) rfl (pv 1) rfl) ab)) ag (ap _)) (a8 (ai (ae (K:=K) rfl (pv 1) rfl))) aj)
   (a8 (ai (ae (K:=K) rfl (am (eU T) (hr.mono (by decide)) rfl (a6 (pv 0) (a6 (pv 1) ab))) rfl)))),?_⟩
 obtain ⟨L,hs,P0,w,x,A',rfl,⟨R,⟨n,hn,inv⟩,rin⟩,hx,q⟩:=h
 have S:=R.sheet hx
 have Rw:=R.row hx
 simp only at S Rw
 unfold Vbnlai.holder at q
 cases e:x.loans.getLast? with
 | none=>
  have e0:x.loans=[]:=by simpa using e
  rw [e] at q
  dsimp! only [S,Rw,aT,e0]
  exact q
 | some k=>
  have ne:¬ (x.loans.length:Int)=0:=fun z=>by
   have:x.loans=[]:=List.length_eq_zero_iff.mp (by omega)
   rw [this] at e;cases e
  rw [e] at q
  simp only at q
  have hxw:x∈w.sheets:=R.sP.mem_iff.mp (List.mem_map_of_mem (f:=Prod.fst) hx)
  obtain ⟨l,hl⟩:=inv.row hxw (List.mem_of_getLast? e)
  rw [hl] at q
  rw [R.loanOf] at hl
  cases e2:L.ln k with
  | none=>rw [e2] at hl;cases hl
  | some p=>
   rw [e2] at hl
   cases hl
   have hP:=R.loan (fB e2).1
   dsimp! only [S,Rw,aT,List.length_map,ne]
   refine ⟨L,hs,P0,w,x,A',k,p,rfl,R,hx,e,e2,?_⟩
   dsimp! only [hP]
   exact q
theorem gd(T:Txt K mg C):Can P w0 K mg base 1 "is_gone" ["sheet"] (p7 C):=by
 refine cb (pre:=jY C) (ay T.f_is_gone sc_is_gone (fun vs H Q E h=>by obtain ⟨_,⟨_,_,_,_,rfl,_⟩,_⟩:=h;rfl) fun f cdv A outer s H vs Q E hr h=> ?_) fun vs H r h=>by obtain ⟨_,_,_,_,_,_,h,_⟩:=h;exact h
 refine ⟨_,(a8 (ai (bm jg (ae (K:=K) rfl (pv 0) rfl) (i0 (a6 (aB T.g_DESTROYED rfl) (a6 (aB T.g_DIVIDED rfl) ab))) (by with_unfolding_all rfl)))),?_⟩
 obtain ⟨r,⟨a,dx,x,A',rfl,S,pl,rfl⟩,q⟩:=h
 dsimp! only [S]
 refine ⟨by decide,fun p hp=>⟨_,a9,by rfl,?_⟩⟩
 have:=q _ (Ext.upd (o:=.tup [.int 3,.int 4]) hp rfl).1
 have e:inV (.int (stI x.status)) [.int 3,.int 4] = !Vbnlai.stands x:=by
  unfold Vbnlai.stands
  cases x.status <;> rfl
 rw [e]
 exact this
theorem bn(T:Txt K mg C):Can P w0 K mg base 1 "sheets_with" ["ledger", "keys"] (jB C):=by
 refine ay T.f_sheets_with sc_sheets_with (fun vs H Q E h=>by obtain ⟨_,_,_,_,_,_,_,rfl,_⟩:=h;rfl) fun f cdv A outer s H vs Q E hr h=> ?_
 refine ⟨_,(a8 (ai (cT rfl (sc_sheets_with).nd (aN (K:=K) rfl (pv 1)) (aX (N:=["ledger", "keys", "key"]) (sc:=ah s_sheets_with) (own:=[("key",2)]) (by decide +kernel)) (fun _ _ _ _ _=>(aC (i:=2) (sc_sheets_with).nd rfl (by trivial))) (fun _ _ _ _ _=>bT) (fun _ _ _ _ _=>(aP (aM hr) (ae (K:=K) rfl (pv 0) rfl) (pv 2) (fun _ _=>rfl)))))),?_⟩
 obtain ⟨L,hs,P0,w,a,ns,ps,rfl,R,ha,hz0,hp,q⟩:=h
 have hl:ns.length=ps.length:=by
  have:=congrArg List.length hp
  simpa using this
 have hat:∀ (i:Nat) (k:Int),ns[i]? = some k→∃ p,ps[i]? = some p∧L.sh k=some p:=fun i k hk=>by
  have:=congrArg (fun l=>l[i]?) hp
  simp only [List.getElem?_map,hk,Option.map_some] at this
  cases e:ps[i]? with
  | none=>rw [e] at this;cases this
  | some p=>rw [e] at this;exact ⟨p,rfl,Option.some.inj this⟩
 have hz:ns.length≤sizeLine:=hz0
 refine eJ (ns.map V.int).length _ (fun i=>(ps.map fun p=>V.ref p.2.a)[i]?) (by rw [List.length_map];exact hz) (cN rfl ha) (fun i x H' N hi s hx hN=> ?_) fun D H' hD s=>q D H' hD ?_
 ·rw [List.getElem?_map] at hx
  cases ek:ns[i]? with
  | none=>rw [ek] at hx;cases hx
  | some k=>
   rw [ek] at hx
   cases hx
   obtain ⟨p,e1,e2⟩:=hat i k ek
   have R':=R.mono s
   have hv:bo (kvS L.ss) (Sum.inl k)=some (.ref p.2.a):=by rw [bL,e2];rfl
   have hN':=hN H' (Ext.refl _)
   rw [List.getElem?_map,e1] at hN'
   dsimp! only [fU,b7,R'.self,R'.sD,hv]
   exact hN'
 ·rw [List.length_map,hl] at s
  have e:(List.range ps.length).filterMap (fun i=>(ps.map fun p=>V.ref p.2.a)[i]?)=ps.map fun p=>V.ref p.2.a:=by
   have:=range_fm (fun x:V=>some x) .non (ps.map fun p=>V.ref p.2.a)
   rw [List.length_map] at this
   rw [List.filterMap_some] at this
   refine Eq.trans ?_ this
   exact jM fun i hi=>by
    rw [List.mem_range] at hi
    rw [List.getD_eq_getElem?_getD,List.getElem?_eq_getElem (by rw [List.length_map];exact hi)]
    rfl
  rw [e] at s
  exact s
theorem known_iff{H:Hp}{L:Lay}{hs:List Nat}{P0:List Vbnlai.Person}{w:Vbnlai.World}(R:Rep C H L hs P0 w)(ns:List Int):(ns.all fun k=>(L.sh k).isSome)=Vbnlai.known w ns:=by
 unfold Vbnlai.known
 congr 1
 funext k
 rw [R.sheetOf,Option.isSome_map]
theorem c8(T:Txt K mg C):Can P w0 K mg base 2 "list_refusal" ["ledger", "keys", "wrong_list"] (iX C):=by
 refine cb (pre:=eO C) (ay T.f_list_refusal sc_list_refusal (fun vs H Q E h=>by obtain ⟨_,⟨_,_,_,_,_,_,_,rfl,_⟩,_⟩:=h;rfl) fun f cdv A outer s H vs Q E hr h=> ?_) fun vs H r h=>by obtain ⟨_,_,_,_,_,_,_,_,R,_⟩:=h;exact R.pl
 refine ⟨_,(a7 (aw (bG (b9 (am (iu T) (hr.mono (by decide)) rfl (a6 (pv 1) ab)))) (a8 (ai (pv 2))) aj)
   (a7 (aw (bG (b9 (dE (aA (md (K:=K) rfl rfl) rfl T.b_all boot_all (a6 (cT rfl (sc_list_refusal).nd (aN (K:=K) rfl (pv 1)) (aX (N:=["ledger", "keys", "wrong_list", "key"]) (sc:=ah s_list_refusal) (own:=[("key",3)]) (by decide +kernel)) (fun _ _ _ _ _=>(aC (i:=3) (sc_list_refusal).nd rfl (by trivial))) (fun _ _ _ _ _=>bT) (fun _ _ _ _ _=>(pe_cmp (fR (aM hr) (pv 3) (ae (K:=K) rfl (pv 0) rfl))))) ab))))) (a8 (ai (df o8 (pv 2) ag))) aj)
   (a8 (ai ag)))),?_⟩
 obtain ⟨r,⟨L,hs,P0,w,a,ns,z,rfl,R,ha,hz,rfl⟩,q⟩:=h
 have q:=q H (bD.refl H)
 unfold SV.gL at q
 refine ⟨_,rfl,_,⟨a,ns,rfl,ha,hz,R.pl,rfl⟩,_,rfl,?_⟩
 cases e:Vbnlai.listOk ns with
 | false=>
  rw [e] at q
  exact iteT ⟨_,rfl,q⟩
 | true=>
  rw [e] at q
  refine iteF ?_
  dsimp only [tSeq,kC,kY,tNot,tB,fE,kT,ms,bZ,tRet]
  refine all_lc (ns.map V.int).length (fun i x _=>(ns.map V.int)[i]? = some x) (fun i=>(L.sh (ns.getD i 0)).isSome) R.pl (by rw [List.length_map,sizeLine_eq];omega) ?_ (fun i x H' N hi s hx hN=> ?_) ?_
  ·exact cN rfl ha
  ·rw [List.getElem?_map] at hx
   cases ek:ns[i]? with
   | none=>rw [ek] at hx;cases hx
   | some k=>
    rw [ek] at hx
    cases hx
    have R':=R.mono s
    have hN':=hN H' (Ext.refl _)
    rw [getD_of ek] at hN'
    dsimp! only [fU,b7,R'.self,R'.sD,bL,Option.isSome_map]
    exact hN'
  ·rw [List.length_map,range_all (fun k=>(L.sh k).isSome) 0 ns,known_iff R]
   refine ⟨_,rfl,?_⟩
   cases e2:Vbnlai.known w ns with
   | false=>
    rw [e2] at q
    simp! only []
    exact q
   | true=>
    rw [e2] at q
    exact iteF q
theorem cc(T:Txt K mg C):Can P w0 K mg base 1 "unlent_sheet_refusal" ["ledger", "key"] (qo C):=by
 refine ay T.f_unlent_sheet_refusal sc_unlent_sheet_refusal (fun vs H Q E h=>by obtain ⟨_,_,_,_,_,rfl,_⟩:=h;rfl) fun f cdv A outer s H vs Q E hr h=> ?_
 refine ⟨_,(a7 (aw (br (aW (aM hr) (pv 1) (ae (K:=K) rfl (pv 0) rfl))) (a8 (ai (aJ az ag))) aj)
   (a7 (aI (i:=2) (sc_unlent_sheet_refusal).nd rfl (by trivial) (aP (aM hr) (ae (K:=K) rfl (pv 0) rfl) (pv 1) (fun _ _=>rfl)))
   (a7 (aw (ak bU (ae (K:=K) rfl (pv 2) rfl) (aB T.g_HERE rfl) (ap _)) (a8 (ai (aJ az ag))) aj)
   (a7 (aw (ak dI (aA aV rfl T.b_len PySem.boot_len (a6 (ae (K:=K) rfl (pv 2) rfl) ab)) ag (ap _)) (a8 (ai (aJ az ag))) aj)
   (a7 (aw (ak bU (ae (K:=K) rfl (pv 2) rfl) ag (ap _)) (a8 (ai (aJ az ag))) aj)
   (a8 (ai ag))))))),?_⟩
 obtain ⟨L,hs,P0,w,k,rfl,R,q⟩:=h
 unfold SV.kj at q
 rw [R.sheetOf] at q
 cases e:L.sh k with
 | none=>
  rw [e] at q
  dsimp! only [R.self,R.sD,bL,e,Option.map_none,Option.isSome_none]
  exact q
 | some p=>
  rw [e] at q
  have S:=R.sheet (b5 e).1
  have Rw:=R.row (b5 e).1
  dsimp! only [R.self,R.sD,bL,e,Option.map_some,Option.isSome_some,S,Rw,aT,List.length_map]
  simp only [Option.map_some,q_ite (Q:=Q),m8,loans_ne,nat_ne] at q
  exact q
end
theorem c9{α : Type}(p : α→Bool)(l:List α):((List.range l.length).any fun i=>(l[i]?).any p)=l.any p:=by
 rw [Bool.eq_iff_iff,List.any_eq_true,List.any_eq_true]
 constructor
 ·rintro ⟨i,hi,h⟩
  rw [List.mem_range] at hi
  rw [List.getElem?_eq_getElem hi] at h
  exact ⟨l[i],List.getElem_mem hi,h⟩
 ·rintro ⟨x,hx,h⟩
  obtain ⟨i,hi,rfl⟩:=List.getElem_of_mem hx
  exact ⟨i,List.mem_range.mpr hi,by rw [List.getElem?_eq_getElem hi];exact h⟩
theorem jO{α : Type}(p : α→Bool)(l:List α):((List.range l.length).all fun i=>(l[i]?).any p)=l.all p:=by
 rw [Bool.eq_iff_iff,List.all_eq_true,List.all_eq_true]
 constructor
 ·intro h x hx
  obtain ⟨i,hi,rfl⟩:=List.getElem_of_mem hx
  have:=h i (List.mem_range.mpr hi)
  rw [List.getElem?_eq_getElem hi] at this
  exact this
 ·intro h i hi
  rw [List.mem_range] at hi
  rw [List.getElem?_eq_getElem hi]
  exact h _ (List.getElem_mem hi)
theorem cf{α β : Type}(f : α→Option β):∀ l:List α,((List.range l.length).filterMap fun i=>(l[i]?).bind f)=l.filterMap f:=by
 intro l
 have e:l=(List.range l.length).filterMap fun i=>l[i]? := by
  induction l with
  | nil=>rfl
  | cons x r ih=>
   rw [List.length_cons,List.range_succ_eq_map,List.filterMap_cons]
   simp only [List.getElem?_cons_zero,List.filterMap_map,Function.comp_def,List.getElem?_cons_succ]
   rw [← ih]
 conv=>rhs;rw [e]
 rw [List.filterMap_filterMap]
theorem bd{α : Type}(p : α→Bool)(l:List α):(l.all p=false)=((l.any fun x=> !p x)=true):=by
 rw [eq_iff_iff]
 simp
theorem range_fmM{α β γ : Type}(g : α→Option β)(h : β→γ)(l:List α):((List.range l.length).filterMap fun i=>((l[i]?).bind g).map h)=(l.filterMap g).map h:=by
 rw [List.map_filterMap,← cf (fun x=>(g x).map h) l]
 refine jM fun i _=> ?_
 cases l[i]? <;> rfl
theorem fm_mem{α β : Type}{g : α→Option β}{l:List α}{y : β}(h:y∈l.filterMap g):∃ x∈l,g x=some y:=List.mem_filterMap.mp h
theorem mt{α β : Type}(f : α→Option β)(p : β→Bool):∀ l:List α,(l.filterMap f).all p=l.all fun x=>(f x).all p
 | [] =>rfl
 | x :: r=>by
  rw [List.filterMap_cons,List.all_cons]
  cases f x with
  | none=>simp [mt f p r]
  | some y=>simp [mt f p r]
theorem d7{C:Cs}{H:Hp}{L:Lay}{hs:List Nat}{P0:List Vbnlai.Person}{w:Vbnlai.World}(R:Rep C H L hs P0 w)(p:Vbnlai.Sheet→Bool):∀ {ns:List Int} {ps:List (Vbnlai.Sheet×SA)},ns.map L.sh=ps.map some→Vbnlai.each w ns p=ps.all fun q=>p q.1
 | [],[],_=>rfl
 | [],q :: ps,h=>by simp at h
 | n :: ns,[],h=>by simp at h
 | n :: ns,q :: ps,h=>by
  rw [List.map_cons,List.map_cons] at h
  injection h with h1 h2
  have ih:=d7 R p h2
  unfold Vbnlai.each at ih ⊢
  rw [List.all_cons,List.all_cons,ih,R.sheetOf,h1]
  rfl
theorem gp{C:Cs}{H:Hp}{L:Lay}{hs:List Nat}{P0:List Vbnlai.Person}{w:Vbnlai.World}(R:Rep C H L hs P0 w):∀ {ns:List Int},Vbnlai.known w ns=true→∃ ps:List (Vbnlai.Sheet×SA),ns.map L.sh=ps.map some∧(∀ p∈ps,p∈L.ss)∧ps.length=ns.length
 | [],_=>⟨[],rfl,fun p h=>absurd h (by simp),rfl⟩
 | n :: ns,h=>by
  unfold Vbnlai.known at h
  rw [List.all_cons,Bool.and_eq_true,R.sheetOf,Option.isSome_map] at h
  obtain ⟨ps,e,hm,hl⟩:=gp R (ns:=ns) h.2
  cases e1:L.sh n with
  | none=>rw [e1] at h;exact absurd h.1 (by simp)
  | some p=>
   refine ⟨p :: ps,by rw [List.map_cons,List.map_cons,e,e1],fun q hq=> ?_,by rw [List.length_cons,List.length_cons,hl]⟩
   rcases List.mem_cons.mp hq with rfl | hq
   ·exact (b5 e1).1
   ·exact hm q hq
theorem dY{w:Vbnlai.World}{ns:List Int}{z:Int}(hz:z < 0)(h:SV.gL w ns z=0):Vbnlai.listOk ns=true∧Vbnlai.known w ns=true:=by
 unfold SV.gL at h
 cases e1:Vbnlai.listOk ns with
 | false=>rw [e1,if_pos rfl] at h;omega
 | true=>
  cases e2:Vbnlai.known w ns with
  | false=>rw [e1,e2,if_neg (by simp),if_pos rfl] at h;omega
  | true=>exact ⟨rfl,rfl⟩
theorem ite_or'{c d:Prop}[Decidable c][Decidable d]{A B:Prop}:(if c∨d then A else B)=(if c then A else if d then A else B):=by
 by_cases h1:c <;> by_cases h2:d <;> simp [h1,h2]
theorem ite_and'{c d:Prop}[Decidable c][Decidable d]{A B:Prop}:(if c∧d then A else B)=(if c then (if d then A else B) else B):=by
 by_cases h1:c <;> by_cases h2:d <;> simp [h1,h2]
theorem nQ(l:List Nat)(k:Int):(bo (kvH l) (Sum.inl k)).isSome=dL l k:=by
 rw [val_H]
 cases dL l k <;> rfl
def kF(a b d o:Int):List (Str×V):=[("lender",.int a),("borrower",.int b),("due",.int d),("onward",.int o)]
theorem l9(a b d o:Int):(kF a b d o).lookup ("lender" : Str)=some (V.int a):=rfl
theorem mM(a b d o:Int):(kF a b d o).lookup ("borrower" : Str)=some (V.int b):=rfl
theorem rk_due(a b d o:Int):(kF a b d o).lookup ("due" : Str)=some (V.int d):=rfl
theorem rk_onward(a b d o:Int):(kF a b d o).lookup ("onward" : Str)=some (V.int o):=rfl
section
variable(C:Cs)
def j6:Sp:=fun vs H Q _=>∃ L hs P0 w day key la dx a b d o,vs=[.ref L.self,.int day,.int key,.ref la]∧Rep C H L hs P0 w∧H la=some (.ins C.Loan dx (kF a b d o))∧Q (.int (SV.loanR hs w day key a b d o)) H
def cv(vs:List V)(H:Hp)(r:V):Prop:=∃ L hs P0 w la dx a b d o sa,∃ ns:List Int,∃ ps:List (Vbnlai.Sheet×SA),vs=[.ref L.self,.ref la,.ref sa]∧bM C H L hs P0 w∧H la=some (.ins C.Loan dx (kF a b d o)) ∧
 H sa=some (.lst (ps.map fun p=>V.ref p.2.a))∧ns.map L.sh=ps.map some∧ps.length≤16∧r = .int (SV.lentR w ns a d)
def e8:Sp:=fun vs H Q _=>∃ r,cv C vs H r∧Q r H
end
theorem mC(x y:Int):(x == y)=decide (x=y):=by rw [Bool.eq_iff_iff];simp
theorem hZ{x:Vbnlai.Sheet}(h:stI x.status=0):Vbnlai.here x=true:=by
 cases e:Vbnlai.here x with
 | true=>rfl
 | false=>rw [m8] at e;exact absurd h e
theorem ia{x:Vbnlai.Sheet}(h:¬ stI x.status=0):Vbnlai.here x=false:=by rw [m8];exact h
theorem on_iff{o:Int}:(Vbnlai.within o 0 1=false)=(¬ o=0∧¬ o=1):=by
 rw [eq_iff_iff]
 constructor
 ·intro h
  have h2:¬ Vbnlai.within o 0 1=true:=by rw [h];simp
  rw [SV.cC] at h2
  omega
 ·intro h
  cases e:Vbnlai.within o 0 1 with
  | false=>rfl
  | true=>
   rw [SV.cC] at e
   omega
section
variable{P:Program}{w0:World}{K:PySem.W.Frag}{mg:Str→Option Value}{base:Heap}{C:Cs}
theorem j4(T:Txt K mg C):Can P w0 K mg base 2 "loan_refusal" ["ledger", "day", "key", "loan"] (j6 C):=by
 refine ay T.f_loan_refusal sc_loan_refusal (fun vs H Q E h=>by obtain ⟨_,_,_,_,_,_,_,_,_,_,_,_,rfl,_⟩:=h;rfl) fun f cdv A outer s H vs Q E hr h=> ?_
 refine ⟨_,(a7 (aw (bG (b9 (am (cB T) (hr.mono (by decide)) rfl (a6 (pv 2) ab)))) (a8 (ai (aJ az ag))) aj)
   (a7 (aw (br (fR (aM hr) (pv 2) (ae (K:=K) rfl (pv 0) rfl))) (a8 (ai (aJ az ag))) aj)
   (a7 (aw (br (aW (aM hr) (ae (K:=K) rfl (pv 3) rfl) (ae (K:=K) rfl (pv 0) rfl))) (a8 (ai (aJ az ag))) aj)
   (a7 (aw (PW.pt (fZ (br (aW (aM hr) (ae (K:=K) rfl (pv 3) rfl) (ae (K:=K) rfl (pv 0) rfl))) (dW (ak aL (ae (K:=K) rfl (pv 3) rfl) (ae (K:=K) rfl (pv 3) rfl) (ap _))))) (a8 (ai (aJ az ag))) aj)
   (a7 (aw (PW.pt (fZ (bG (b9 (am (fT T) (hr.mono (by decide)) rfl (a6 (ae (K:=K) rfl (pv 3) rfl) ab)))) (dW (ak fC (ae (K:=K) rfl (pv 3) rfl) (pv 1) (ap _))))) (a8 (ai (aJ az ag))) aj)
   (a7 (aw (PW.pt (ff (ak bU (ae (K:=K) rfl (pv 3) rfl) ag (ap _)) (dl (ak bU (ae (K:=K) rfl (pv 3) rfl) ag (ap _))))) (a8 (ai (aJ az ag))) aj)
   (a8 (ai ag)))))))),?_⟩
 obtain ⟨L,hs,P0,w,day,key,la,dx,a,b,d,o,rfl,R,hl,q⟩:=h
 unfold SV.loanR at q
 have e1:(w.loans.any fun l=>(l.key:Int) == key)=(L.ln key).isSome:=by
  rw [← Option.isSome_map,← R.loanZ,List.isSome_find?]
 rw [e1,← R.house,← R.house] at q
 dsimp! only [l9,mM,rk_due,rk_onward,R.self,R.lD,R.hD,g5,nQ,hl,Option.isSome_map]
 simp only [q_ite (Q:=Q),ite_or',ite_and',on_iff] at q
 exact q
def eQ(L:Lay)(p:Vbnlai.Sheet×SA):Option (Vbnlai.Loan×QA):=p.1.loans.getLast?.bind fun k=>L.ln k
theorem jv{H:Hp}{L:Lay}{hs:List Nat}{P0:List Vbnlai.Person}{w:Vbnlai.World}(R:Rep C H L hs P0 w)(p:Vbnlai.Sheet×SA):Vbnlai.last w p.1=(eQ L p).map (·.1):=by
 unfold Vbnlai.last eQ
 cases p.1.loans.getLast? with
 | none=>rfl
 | some k=>exact R.loanOf k
theorem gB{H:Hp}{L:Lay}{hs:List Nat}{P0:List Vbnlai.Person}{w:Vbnlai.World}(R:Rep C H L hs P0 w){p:Vbnlai.Sheet×SA}(h:p∈L.ss):p.1∈w.sheets:=R.sP.mem_iff.mp (List.mem_map_of_mem (f:=Prod.fst) h)
theorem bM.mono{H H':Hp}{L:Lay}{hs:List Nat}{P0:List Vbnlai.Person}{w:Vbnlai.World}(R:bM C H L hs P0 w)(x:Ext H H'):bM C H' L hs P0 w:=⟨R.r.mono x,R.inv,R.rin⟩
theorem eC(T:Txt K mg C):Can P w0 K mg base 3 "lent_sheets_refusal" ["ledger", "loan", "sheets"] (e8 C):=by
 refine cb (pre:=cv C) (ay T.f_lent_sheets_refusal sc_lent_sheets_refusal (fun vs H Q E h=>by obtain ⟨_,⟨_,_,_,_,_,_,_,_,_,_,_,_,_,rfl,_⟩,_⟩:=h;rfl) fun f cdv A outer s H vs Q E hr h=> ?_) fun vs H r h=>by obtain ⟨_,_,_,_,_,_,_,_,_,_,_,_,_,_,R,_⟩:=h;exact R.r.pl
 refine ⟨_,(a7 (aw (b9 (dE (aA (eq (K:=K) rfl rfl) rfl T.b_any boot_any (a6 (cT rfl (sc_lent_sheets_refusal).nd (aN (K:=K) rfl (pv 2)) (aX (N:=["ledger", "loan", "sheets", "loans_before", "sheet", "before"]) (sc:=ah s_lent_sheets_refusal) (own:=[("sheet",4)]) (by decide +kernel)) (fun _ _ _ _ _=>(aC (i:=4) (sc_lent_sheets_refusal).nd rfl (by trivial))) (fun _ _ _ _ _=>bT) (fun _ _ _ _ _=>(pY (bm bU (ae (K:=K) rfl (pv 4) rfl) (aB T.g_HERE rfl) (ap _)) (i5 (bm bU (am (cV T) (hr.mono (by decide)) rfl (a6 (pv 0) (a6 (pv 4) ab))) (ae (K:=K) rfl (pv 1) rfl) (ap _)))))) ab)))) (a8 (ai (aJ az ag))) aj)
   (a7 (cj (i:=3) rfl (sc_lent_sheets_refusal).nd rfl rfl (cZ rfl rfl rfl (by decide +kernel)) (aN (K:=K) rfl (pv 2)) (aX (N:=["ledger", "loan", "sheets", "loans_before", "sheet", "before"]) (sc:=ah s_lent_sheets_refusal) (own:=[("sheet",4)]) (by decide +kernel)) (fun _ _ _ _ _=>(aC (i:=4) (sc_lent_sheets_refusal).nd rfl (by trivial))) (fun _ _ _ _ _=>(c7 (ak dI (aA aV rfl T.b_len PySem.boot_len (a6 (ae (K:=K) rfl (pv 4) rfl) ab)) ag (ap _)))) (fun _ _ _ _ _=>(am (eU T) (hr.mono (by decide)) rfl (a6 (pv 0) (a6 (pv 4) ab)))))
   (a7 (aw (b9 (dE (aA (eq (K:=K) rfl rfl) rfl T.b_any boot_any (a6 (cT rfl (sc_lent_sheets_refusal).nd (aN (K:=K) rfl (pv 3)) (aX (N:=["ledger", "loan", "sheets", "loans_before", "sheet", "before"]) (sc:=ah s_lent_sheets_refusal) (own:=[("before",5)]) (by decide +kernel)) (fun _ _ _ _ _=>(aC (i:=5) (sc_lent_sheets_refusal).nd rfl (by trivial))) (fun _ _ _ _ _=>bT) (fun _ _ _ _ _=>(bm aL (ae (K:=K) rfl (pv 5) rfl) ag (ap _)))) ab)))) (a8 (ai (aJ az ag))) aj)
   (a7 (aw (b9 (dE (aA (eq (K:=K) rfl rfl) rfl T.b_any boot_any (a6 (cT rfl (sc_lent_sheets_refusal).nd (aN (K:=K) rfl (pv 3)) (aX (N:=["ledger", "loan", "sheets", "loans_before", "sheet", "before"]) (sc:=ah s_lent_sheets_refusal) (own:=[("before",5)]) (by decide +kernel)) (fun _ _ _ _ _=>(aC (i:=5) (sc_lent_sheets_refusal).nd rfl (by trivial))) (fun _ _ _ _ _=>bT) (fun _ _ _ _ _=>(bm fC (ae (K:=K) rfl (pv 5) rfl) (ae (K:=K) rfl (pv 1) rfl) (ap _)))) ab)))) (a8 (ai (aJ az ag))) aj)
   (a8 (ai ag)))))),?_⟩
 obtain ⟨r,⟨L,hs,P0,w,la,dx,a,b,d,o,sa,ns,ps,rfl,RI,hl,hsa,hps,hz,rfl⟩,q⟩:=h
 have R:=RI.r
 have mem:∀ (i:Nat) p,ps[i]? = some p→p∈L.ss:=fun i p hp=>by
  have:=congrArg (fun l=>l[i]?) hps
  simp only [List.getElem?_map,hp,Option.map_some] at this
  cases e:ns[i]? with
  | none=>rw [e] at this;cases this
  | some k=>rw [e] at this;exact (b5 (Option.some.inj this)).1
 have hzz:(ps.map fun p=>V.ref p.2.a).length≤sizeLine:=by rw [List.length_map,sizeLine_eq];omega
 unfold SV.lentR at q
 rw [d7 R _ hps,d7 R _ hps,d7 R _ hps] at q
 dsimp only [tSeq,kC,kY,tNot,tB,fE,kT,ms,bZ,tRet]
 refine lC (ps.map fun p=>V.ref p.2.a).length (fun i x _=>(ps.map fun p=>V.ref p.2.a)[i]? = some x) (fun i=>(ps[i]?).any fun p=> !(Vbnlai.here p.1 && (Vbnlai.holder w p.1:Int) == a)) R.pl hzz ?_ (fun i x H' N hi s hx hN=> ?_) ?_
 ·exact cN rfl hsa
 ·rw [List.getElem?_map] at hx
  cases ek:ps[i]? with
  | none=>rw [ek] at hx;cases hx
  | some p=>
   rw [ek] at hx
   cases hx
   have hp:=mem i p ek
   have R':=RI.mono s
   have S:=R'.r.sheet hp
   have hl':=s.1 _ _ hl
   have hN':=hN H' (Ext.refl _)
   rw [ek] at hN'
   dsimp! only [fU,b7,S,hl']
   simp only [Option.any_some] at hN'
   by_cases h0:stI p.1.status=0
   ·rw [if_neg (by simpa using h0)]
    refine ⟨L,hs,P0,w,p.1,p.2,rfl,R',hp,?_⟩
    dsimp! only [l9,hl']
    rw [hZ h0,Bool.true_and,mC] at hN'
    exact hN'
   ·rw [if_pos h0]
    rw [ia h0] at hN'
    exact hN'
 ·refine ⟨_,rfl,?_⟩
  rw [List.length_map,c9]
  by_cases c1:(ps.all fun q=>Vbnlai.here q.1 && (Vbnlai.holder w q.1:Int) == a)=false
  ·have q:=q H (bD.refl H)
   rw [if_pos c1] at q
   rw [if_pos (by rw [bd] at c1;exact c1)]
   simp! only []
   exact q
  ·simp only [if_neg c1] at q
   rw [if_neg (by rw [bd] at c1;exact c1)]
   refine eJ (ps.map fun p=>V.ref p.2.a).length (fun i x _=>(ps.map fun p=>V.ref p.2.a)[i]? = some x) (fun i=>((ps[i]?).bind (eQ L)).map fun q=>V.ref q.2.a) hzz ?_ (fun i x H' N hi s hx hN=> ?_) fun D H' hD s=> ?_
   ·exact cN rfl hsa
   ·rw [List.getElem?_map] at hx
    cases ek:ps[i]? with
    | none=>rw [ek] at hx;cases hx
    | some p=>
     rw [ek] at hx
     cases hx
     have hp:=mem i p ek
     have R':=RI.mono s
     have S:=R'.r.sheet hp
     have Rw:=R'.r.row hp
     have hN':=hN H' (Ext.refl _)
     rw [ek,Option.bind_some] at hN'
     unfold eQ at hN'
     cases e:p.1.loans.getLast? with
     | none=>
      have e0:p.1.loans=[]:=by simpa using e
      rw [e0] at Rw hN'
      dsimp! only [fU,b7,S,Rw,aT]
      exact hN'
     | some k=>
      have ne:0 < (p.1.loans.length:Int):=by
       cases e1:p.1.loans with
       | nil=>rw [e1] at e;cases e
       | cons=>simp
      obtain ⟨n,hn,inv⟩:=RI.inv
      obtain ⟨l,hl2⟩:=inv.row (gB R hp) (List.mem_of_getLast? e)
      rw [R.loanOf] at hl2
      cases e2:L.ln k with
      | none=>rw [e2] at hl2;cases hl2
      | some q'=>
       rw [e] at hN'
       simp only [Option.bind_some,e2,Option.map_some] at hN'
       dsimp! only [fU,b7,S,Rw,aT,List.length_map,ne]
       exact ⟨L,hs,P0,w,p.1,p.2,k,q',rfl,R'.r,hp,e,e2,hN'⟩
   ·rw [List.length_map,range_fmM] at s
    have hD':=s.at_
    have hq:∀ q'∈ps.filterMap (eQ L),q'∈L.ls:=fun q' hq=>by
     obtain ⟨x,_,e⟩:=fm_mem hq
     unfold eQ at e
     cases e1:x.1.loans.getLast? with
     | none=>rw [e1] at e;cases e
     | some k=>rw [e1] at e;exact (fB e).1
    have hlen:(ps.filterMap (eQ L)).length≤16:=Nat.le_trans (List.length_filterMap_le _ _) hz
    have s0:=Ext.off hD rfl s
    have R1:=RI.mono s0
    have hl1:=s0.1 _ _ hl
    have e1:(ps.all fun q=>(Vbnlai.last w q.1).all fun l=>l.onward)=(ps.filterMap (eQ L)).all fun q=>q.1.onward:=by
     rw [mt]
     congr 1
     funext p
     rw [jv R]
     cases eQ L p <;> rfl
    have e2:(ps.all fun q=>(Vbnlai.last w q.1).all fun l=>decide (d≤(l.due:Int)))=(ps.filterMap (eQ L)).all fun q=>decide (d≤(q.1.due:Int)):=by
     rw [mt]
     congr 1
     funext p
     rw [jv R]
     cases eQ L p <;> rfl
    rw [e1,e2] at q
    have q:=q H' s0.1
    generalize ps.filterMap (eQ L)=qs at *
    have hzq:(qs.map fun q=>V.ref q.2.a).length≤sizeLine:=by rw [List.length_map,sizeLine_eq];omega
    refine lC (qs.map fun q=>V.ref q.2.a).length (fun i x _=>(qs.map fun q=>V.ref q.2.a)[i]? = some x) (fun i=>(qs[i]?).any fun q=> !q.1.onward) R1.r.pl hzq ?_ (fun i x H2 N hi s2 hx hN=> ?_) ?_
    ·exact cN rfl hD'
    ·rw [List.getElem?_map] at hx
     cases ek:qs[i]? with
     | none=>rw [ek] at hx;cases hx
     | some q'=>
      rw [ek] at hx
      cases hx
      have S:=(R1.mono s2).r.loan (hq q' (List.mem_of_getElem? ek))
      have hN':=hN H2 (Ext.refl _)
      rw [ek,Option.any_some] at hN'
      dsimp! only [fU,b7,S]
      have e:decide (on01 q'.1.onward=0) = !q'.1.onward:=by cases q'.1.onward <;> rfl
      rw [e]
      exact hN'
    ·refine ⟨_,rfl,?_⟩
     rw [List.length_map,c9]
     by_cases c2:(qs.all fun q=>q.1.onward)=false
     ·rw [if_pos c2] at q
      rw [if_pos (by rw [bd] at c2;exact c2)]
      simp! only []
      exact q
     ·rw [if_neg c2] at q
      rw [if_neg (by rw [bd] at c2;exact c2)]
      refine lC (qs.map fun q=>V.ref q.2.a).length (fun i x _=>(qs.map fun q=>V.ref q.2.a)[i]? = some x) (fun i=>(qs[i]?).any fun q=> !decide (d≤(q.1.due:Int))) R1.r.pl hzq ?_ (fun i x H2 N hi s2 hx hN=> ?_) ?_
      ·exact cN rfl hD'
      ·rw [List.getElem?_map] at hx
       cases ek:qs[i]? with
       | none=>rw [ek] at hx;cases hx
       | some q'=>
        rw [ek] at hx
        cases hx
        have S:=(R1.mono s2).r.loan (hq q' (List.mem_of_getElem? ek))
        have hl2:=s2.1 _ _ hl1
        have hN':=hN H2 (Ext.refl _)
        rw [ek,Option.any_some] at hN'
        dsimp! only [rk_due,fU,b7,S,hl2]
        have e:decide ((q'.1.due:Int) < d) = !decide (d≤(q'.1.due:Int)):=by
         rw [Bool.eq_iff_iff];simp
        rw [e]
        exact hN'
      ·refine ⟨_,rfl,?_⟩
       rw [List.length_map,c9]
       by_cases c3:(qs.all fun q=>decide (d≤(q.1.due:Int)))=false
       ·rw [if_pos c3] at q
        rw [if_pos (by rw [bd] at c3;exact c3)]
        simp! only []
        exact q
       ·rw [if_neg c3] at q
        rw [if_neg (by rw [bd] at c3;exact c3)]
        exact q
end
def bk(key:Int)(p:Vbnlai.Sheet×SA):Bool:=Vbnlai.here p.1 && (p.1.loans.getLast?).any fun k=>(k:Int) == key
section
variable(C:Cs)
def eR(vs:List V)(H:Hp)(r:V):Prop:=∃ L hs P0 w,∃ d:Nat,∃ key la dx a b du o ka,∃ ns:List Int,vs=[.ref L.self,.int d,.int key,.ref la,.ref ka]∧bM C H L hs P0 w∧H la=some (.ins C.Loan dx (kF a b du o)) ∧
 H ka=some (.lst (ns.map V.int))∧ns.length≤16∧r = .int (SV.rfs (Vbnlai.act hs w d (.lend key a b du o ns)))
def iY:Sp:=fun vs H Q _=>∃ r,eR C vs H r∧Q r H
def eN(vs:List V)(H:Hp)(r:V):Prop:=∃ L hs P0 w d key ka,∃ ns:List Int,vs=[.ref L.self,.int key,.ref ka]∧Rep C H L hs P0 w∧H ka=some (.lst (ns.map V.int))∧ns.length≤16∧r = .int (SV.rfs (Vbnlai.act hs w d (.back key ns)))
def iL:Sp:=fun vs H Q _=>∃ r,eN C vs H r∧Q r H
def iT:Sp:=fun vs H Q _=>∃ L hs P0 w d key,vs=[.ref L.self,.int key]∧bM C H L hs P0 w∧Q (.int (SV.rfs (Vbnlai.act hs w d (.cede key)))) H
end
section
variable{P:Program}{w0:World}{K:PySem.W.Frag}{mg:Str→Option Value}{base:Heap}{C:Cs}
theorem j7(T:Txt K mg C):Can P w0 K mg base 4 "lend_refusal" ["ledger", "day", "key", "loan", "keys"] (iY C):=by
 refine cb (pre:=eR C) (ay T.f_lend_refusal sc_lend_refusal (fun vs H Q E h=>by obtain ⟨_,⟨_,_,_,_,_,_,_,_,_,_,_,_,_,_,rfl,_⟩,_⟩:=h;rfl) fun f cdv A outer s H vs Q E hr h=> ?_) fun vs H r h=>by obtain ⟨_,_,_,_,_,_,_,_,_,_,_,_,_,_,_,R,_⟩:=h;exact R.r.pl
 refine ⟨_,(a7 (aI (i:=5) (sc_lend_refusal).nd rfl (by trivial) (am (j4 T) (hr.mono (by decide)) rfl (a6 (pv 0) (a6 (pv 1) (a6 (pv 2) (a6 (pv 3) ab))))))
   (a7 (aw (ak aL (pv 5) ag (ap _)) (a8 (aI (i:=5) (sc_lend_refusal).nd rfl (by trivial) (am (c8 T) (hr.mono (by decide)) rfl (a6 (pv 0) (a6 (pv 4) (a6 (aJ az ag) ab)))))) aj)
   (a7 (aw (ak aL (pv 5) ag (ap _)) (a8 (aI (i:=5) (sc_lend_refusal).nd rfl (by trivial) (am (eC T) (hr.mono (by decide)) rfl (a6 (pv 0) (a6 (pv 3) (a6 (am (bn T) (hr.mono (by decide)) rfl (a6 (pv 0) (a6 (pv 4) ab))) ab)))))) aj)
   (a7 (aw (PW.pt (ff (ak aL (pv 5) ag (ap _)) (dl (ak qb (aA e7 rfl T.b_len PySem.boot_len (a6 (ae (K:=K) rfl (pv 0) rfl) ab)) (aB T.g_MOST_LOANS rfl) (ap _))))) (a8 (aI (i:=5) (sc_lend_refusal).nd rfl (by trivial) (aJ az ag))) aj)
   (a8 (ai (pv 5))))))),?_⟩
 obtain ⟨r,⟨L,hs,P0,w,d,key,la,dx,a,b,du,o,ka,ns,rfl,RI,hl,hka,hz,rfl⟩,q⟩:=h
 have R:=RI.r
 rw [SV.lend_rfs] at q
 simp! only []
 refine ⟨L,hs,P0,w,d,key,la,dx,a,b,du,o,rfl,R,hl,?_⟩
 simp! only []
 by_cases c1:SV.loanR hs w d key a b du o=0
 ·rw [if_pos c1]
  simp only [c1,not_true_eq_false,if_false] at q
  refine ⟨_,⟨L,hs,P0,w,ka,ns,-8,rfl,R,hka,hz,rfl⟩,?_⟩
  simp! only []
  by_cases c2:SV.gL w ns (-8)=0
  ·rw [if_pos c2]
   simp only [c2,not_true_eq_false,if_false] at q
   obtain ⟨_,hkn⟩:=dY (by decide) c2
   obtain ⟨ps,hps,hm,hlen⟩:=gp R hkn
   refine ⟨L,hs,P0,w,ka,ns,ps,rfl,R,hka,by rw [sizeLine_eq];omega,hps,fun l H' hl0 s1=> ?_⟩
   have s0:=Ext.off hl0 rfl s1
   refine ⟨_,⟨L,hs,P0,w,la,dx,a,b,du,o,l,ns,ps,rfl,RI.mono s0,s0.1 _ _ hl,s1.at_,hps,by omega,rfl⟩,?_⟩
   have R1:=R.mono s0
   have q:=q H' s0.1
   dsimp! only [R1.self,R1.lD,kvL,List.length_map,R1.nL]
   by_cases c3:SV.lentR w ns a du=0
   ·rw [if_pos c3]
    simp only [c3,not_true_eq_false,if_false] at q
    by_cases c4:Vbnlai.LOANS≤w.loans.length
    ·rw [if_pos c4] at q
     rw [if_pos (show (40:Int)≤_ by unfold Vbnlai.LOANS at c4;omega)]
     exact q
    ·rw [if_neg c4] at q
     rw [if_neg (show ¬ (40:Int)≤_ by unfold Vbnlai.LOANS at c4;omega)]
     rw [c3]
     exact q
   ·rw [if_neg c3]
    rw [if_pos c3] at q
    exact q
  ·rw [if_neg c2]
   simp only [if_pos c2] at q
   simp! only [c2]
   exact q H (bD.refl H)
 ·rw [if_neg c1]
  simp only [if_pos c1] at q
  simp! only [c1]
  exact q H (bD.refl H)
theorem iQ(T:Txt K mg C):Can P w0 K mg base 1 "cede_refusal" ["ledger", "key"] (iT C):=by
 refine ay T.f_cede_refusal sc_cede_refusal (fun vs H Q E h=>by obtain ⟨_,_,_,_,_,_,rfl,_⟩:=h;rfl) fun f cdv A outer s H vs Q E hr h=> ?_
 refine ⟨_,(a7 (aw (br (aW (aM hr) (pv 1) (ae (K:=K) rfl (pv 0) rfl))) (a8 (ai (aJ az ag))) aj)
   (a7 (aI (i:=2) (sc_cede_refusal).nd rfl (by trivial) (aP (aM hr) (ae (K:=K) rfl (pv 0) rfl) (pv 1) (fun _ _=>rfl)))
   (a7 (aw (ak bU (ae (K:=K) rfl (pv 2) rfl) (aB T.g_HERE rfl) (ap _)) (a8 (ai (aJ az ag))) aj)
   (a7 (aw (ak aL (aA aV rfl T.b_len PySem.boot_len (a6 (ae (K:=K) rfl (pv 2) rfl) ab)) ag (ap _)) (a8 (ai (aJ az ag))) aj)
   (a7 (aw (ak bU (ae (K:=K) rfl (pv 2) rfl) ag (ap _)) (a8 (ai (aJ az ag))) aj)
   (a8 (ai ag))))))),?_⟩
 obtain ⟨L,hs,P0,w,d,k,rfl,RI,q⟩:=h
 have R:=RI.r
 simp only [Vbnlai.act] at q
 rw [R.sheetOf] at q
 cases e:L.sh k with
 | none=>
  rw [e] at q
  dsimp! only [R.self,R.sD,bL,e,Option.map_none,Option.isSome_none]
  exact q
 | some p=>
  rw [e] at q
  have S:=R.sheet (b5 e).1
  have Rw:=R.row (b5 e).1
  dsimp! only [R.self,R.sD,bL,e,Option.map_some,Option.isSome_some,S,Rw,aT,List.length_map]
  simp only [Option.map_some] at q
  by_cases h1:stI p.1.status=0
  ·rw [hZ h1] at q
   rw [if_neg (by simpa using h1)]
   cases el:p.1.loans with
   | nil=>
    rw [el] at q
    exact q
   | cons k' r=>
    rw [el] at q
    rw [if_neg (by simp;omega)]
    obtain ⟨n,hn,inv⟩:=RI.inv
    obtain ⟨l,hl2⟩:=inv.row (gB R (b5 e).1) (k:=k') (by rw [el];exact List.mem_cons_self)
    simp only [hl2,Bool.true_eq_false,if_false] at q
    by_cases h2:p.1.type=0
    ·rw [if_neg (by simpa using h2)]
     rw [if_neg (by simpa using h2)] at q
     exact q
    ·rw [if_pos (by simpa using h2)]
     rw [if_pos (by simpa using h2)] at q
     exact q
  ·rw [ia h1] at q
   rw [if_pos h1]
   exact q
theorem iS(T:Txt K mg C):Can P w0 K mg base 3 "back_refusal" ["ledger", "loan", "keys"] (iL C):=by
 refine cb (pre:=eN C) (ay T.f_back_refusal sc_back_refusal (fun vs H Q E h=>by obtain ⟨_,⟨_,_,_,_,_,_,_,_,rfl,_⟩,_⟩:=h;rfl) fun f cdv A outer s H vs Q E hr h=> ?_) fun vs H r h=>by obtain ⟨_,_,_,_,_,_,_,_,_,R,_⟩:=h;exact R.pl
 refine ⟨_,(a7 (aI (i:=3) (sc_back_refusal).nd rfl (by trivial) (am (c8 T) (hr.mono (by decide)) rfl (a6 (pv 0) (a6 (pv 2) (a6 (aJ az ag) ab)))))
   (a7 (aw (ak bU (pv 3) ag (ap _)) (a8 (ai (pv 3))) aj)
   (a7 (bO PassesOwn.never rfl (aN (K:=K) rfl (am (bn T) (hr.mono (by decide)) rfl (a6 (pv 0) (a6 (pv 2) ab)))) (aC (i:=4) (sc_back_refusal).nd rfl (by trivial)) (a8 (aw (PW.pt (fZ (ak bU (ae (K:=K) rfl (pv 4) rfl) (aB T.g_HERE rfl) (ap _)) (fZ (ak aL (aA aV rfl T.b_len PySem.boot_len (a6 (ae (K:=K) rfl (pv 4) rfl) ab)) ag (ap _)) (dW (ak bU (aD aq (ae (K:=K) rfl (pv 4) rfl) (aJ az ag) (fun _ _=>rfl)) (pv 1) (ap _)))))) (a8 (ai (aJ az ag))) aj)))
   (a8 (ai ag))))),?_⟩
 obtain ⟨r,⟨L,hs,P0,w,d,key,ka,ns,rfl,R,hka,hz,rfl⟩,q⟩:=h
 rw [SV.back_rfs] at q
 unfold SV.ld at q
 simp! only []
 refine ⟨_,⟨L,hs,P0,w,ka,ns,-2,rfl,R,hka,hz,rfl⟩,?_⟩
 simp! only []
 by_cases c1:SV.gL w ns (-2)=0
 ·rw [if_neg (by simpa using c1)]
  simp only [c1,not_true_eq_false,if_false] at q
  obtain ⟨_,hkn⟩:=dY (by decide) c1
  obtain ⟨ps,hps,hm,hlen⟩:=gp R hkn
  rw [d7 R _ hps] at q
  refine ⟨_,rfl,_,rfl,L,hs,P0,w,ka,ns,ps,rfl,R,hka,by rw [sizeLine_eq];omega,hps,fun l H' hl0 s1=>⟨l,_,rfl,s1.at_,?_⟩⟩
  have s0:=Ext.off hl0 rfl s1
  refine jz (cn (SqL.of s1.at_)) (fun i σ2 H2=>(∃ v:Option V,σ2=[some (V.ref L.self),some (V.int key),some (V.ref ka),some (V.int (SV.gL w ns (-2))),v])∧Ext H' H2∧∀ (j:Nat) p',j < i→ps[j]? = some p'→bk key p'=true) (fun i σ2 H2 h=>h.2.1) ⟨⟨none,rfl⟩,Ext.refl _,fun j p' hj=>absurd hj (by omega)⟩ (fun i x σ2 H2 H3 hi h e3 hx=> ?_) (fun σ2 H2 h=> ?_)
  ·obtain ⟨⟨v,rfl⟩,e2,g2⟩:=h
   rw [List.getElem?_map] at hx
   cases ek:ps[i]? with
   | none=>rw [ek] at hx;cases hx
   | some p'=>
    rw [ek] at hx
    cases hx
    have hp:=hm p' (List.mem_of_getElem? ek)
    have e03:=(s0.trans e2).trans e3
    have R3:=R.mono e03
    have S:=R3.sheet hp
    have Rw:=R3.row hp
    have bad:bk key p'=false→Q (V.int (-4)) H3:=fun hb=>by
     have:=q H3 e03.1
     rw [if_pos] at this
     ·exact this
     ·rw [bd,List.any_eq_true]
      exact ⟨p',List.mem_of_getElem? ek,by show (!(bk key p'))=true;rw [hb];rfl⟩
    have good:bk key p'=true→∀ (j:Nat) p2,j < i + 1→ps[j]? = some p2→bk key p2=true:=fun hb j p2 hj hp2=>by
     by_cases hji:j < i
     ·exact g2 j p2 hji hp2
     ·have:j=i:=by omega
      subst this
      rw [ek] at hp2
      cases hp2
      exact hb
    by_cases h1:stI p'.1.status=0
    ·cases el:p'.1.loans.getLast? with
     | none=>
      have e0:p'.1.loans=[]:=by simpa using el
      rw [e0] at Rw
      dsimp! only [S,Rw,aT,h1]
      exact bad (by unfold bk;rw [el];simp)
     | some k=>
      have ne:¬ (p'.1.loans.length:Int)=0:=fun z=>by
       have:p'.1.loans=[]:=List.length_eq_zero_iff.mp (by omega)
       rw [this] at el;cases el
      have a1:atI (aT p'.1.loans) (-1)=some (.int k):=gr (by unfold aT;rw [List.getLast?_map,el];rfl)
      have nl:(aT p'.1.loans).length=p'.1.loans.length:=by unfold aT;rw [List.length_map]
      dsimp! only [S,Rw,nl,ne,h1,a1]
      by_cases h2:(k:Int)=key
      ·rw [if_neg (by simpa using h2)]
       exact ⟨e2.trans e3,good (by unfold bk;rw [el,hZ h1];simp [h2])⟩
      ·rw [if_pos h2]
       exact bad (by unfold bk;rw [el];simp [h2])
    ·dsimp! only [S,h1]
     exact bad (by unfold bk;rw [ia h1];rfl)
  ·obtain ⟨⟨v,rfl⟩,e2,g2⟩:=h
   have:=q H2 (s0.trans e2).1
   rw [if_neg] at this
   ·exact this
   ·rw [bd]
    intro hany
    obtain ⟨p',hp',hb⟩:=List.any_eq_true.mp hany
    obtain ⟨j,hj,rfl⟩:=List.getElem_of_mem hp'
    have:=g2 j ps[j] (by rw [List.length_map];exact hj) (List.getElem?_eq_getElem hj)
    unfold bk at this
    rw [this] at hb
    cases hb
 ·rw [if_pos c1]
  simp only [if_pos c1] at q
  exact q H (bD.refl H)
end
theorem mv{K:PySem.W.Frag}{wi:TI}{g:TG}{te:TE}{vs:List Nat}{σ : L2.St}{H:Hp}{Q:V→Prop}(n:Nat)(P:Nat→V→Hp→Prop)(bs:Nat→Bool)(pl:bA H)(hn:n≤sizeLine)
  (hw:∀ R:It→Hp→Prop,(∀ J H1,Ext H H1→ij J H1 n P→R J H1)→wi σ H R)
  (turn:∀ i x H' (N:V→Hp→Prop),i < n→Ext H H'→P i x H'→(∀ H'',Ext H' H''→N (.bl (bs i)) H'')→g x (b7 σ vs) H' fun σ2 H2=>b7 σ2 vs=b7 σ vs∧te σ2 H2 N)
  (q:Q (.bl ((List.range n).any bs))):bA H∧tLc wi g fU te vs σ H fun x H1=>rAny K [x] H1 fun v H'=>bD H H'∧Q v:=lC (K:=K) (Q:=fun v _=>Q v) n P bs pl hn hw turn q
theorem all_lx{K:PySem.W.Frag}{wi:TI}{g:TG}{te:TE}{vs:List Nat}{σ : L2.St}{H:Hp}{Q:V→Prop}(n:Nat)(P:Nat→V→Hp→Prop)(bs:Nat→Bool)(pl:bA H)(hn:n≤sizeLine)
  (hw:∀ R:It→Hp→Prop,(∀ J H1,Ext H H1→ij J H1 n P→R J H1)→wi σ H R)
  (turn:∀ i x H' (N:V→Hp→Prop),i < n→Ext H H'→P i x H'→(∀ H'',Ext H' H''→N (.bl (bs i)) H'')→g x (b7 σ vs) H' fun σ2 H2=>b7 σ2 vs=b7 σ vs∧te σ2 H2 N)
  (q:Q (.bl ((List.range n).all bs))):bA H∧tLc wi g fU te vs σ H fun x H1=>rAll K [x] H1 fun v H'=>bD H H'∧Q v:=all_lc (K:=K) (Q:=fun v _=>Q v) n P bs pl hn hw turn q
section
variable(C:Cs)
def dueB(w:Vbnlai.World)(row:List Nat)(k:Nat)(due:Int):Bool:=!(((Vbnlai.beforeIn row k).bind (Vbnlai.loanOf w)).all fun m=>decide (due≤(m.due:Int)))
def gZ:Sp:=fun vs H Q _=>∃ L hs P0 w la,∃ row:List Nat,∃ k:Nat,∃ due,vs=[.ref L.self,.ref la,.int k,.int due]∧Rep C H L hs P0 w∧H la=some (.lst (aT row))∧row.Nodup∧k∈row∧(∀ j∈row,∃ l,Vbnlai.loanOf w j=some l)∧Q (.bl (dueB w row k due)) H
def dr(vs:List V)(H:Hp)(r:V):Prop:=∃ L hs P0 w d loan due,vs=[.ref L.self,.int loan,.int due]∧bM C H L hs P0 w∧r = .int (SV.rfs (Vbnlai.act hs w d (.extend loan due)))
def gJ:Sp:=fun vs H Q _=>∃ r,dr C vs H r∧Q r H
end
theorem f9{α β : Type}(c : α→Bool)(g : α→β):∀ l:List α,(l.filterMap fun x=>if c x=true then some (g x) else none)=(l.filter c).map g
 | [] =>rfl
 | x :: r=>by
  rw [List.filterMap_cons,List.filter_cons]
  cases c x with
  | true=>rw [if_pos rfl,if_pos rfl,List.map_cons,f9 c g r]
  | false=>rw [if_neg (by simp),if_neg (by simp),f9 c g r]
theorem ii(l:List Nat):(aT l).all bV=true:=by
 unfold aT
 rw [List.all_map,List.all_eq_true]
 intro x _;rfl
theorem qi(k:Nat)(l:List Nat):inV (.int k) (aT l)=l.contains k:=by
 have:aT l=(l.map fun n:Nat=>(n:Int)).map V.int:=by unfold aT;rw [List.map_map];rfl
 rw [this,jf,Bool.eq_iff_iff,List.contains_iff_mem,List.contains_iff_mem]
 constructor
 ·intro h
  obtain ⟨x,hx,e⟩:=List.mem_map.mp h
  have:x=k:=Int.ofNat.inj e
  exact this ▸ hx
 ·intro h
  exact List.mem_map.mpr ⟨k,h,rfl⟩
section
variable{P:Program}{w0:World}{K:PySem.W.Frag}{mg:Str→Option Value}{base:Heap}{C:Cs}
theorem gY(T:Txt K mg C):Can P w0 K mg base 1 "is_due_before" ["ledger", "row", "loan", "due"] (gZ C):=by
 refine ay T.f_is_due_before sc_is_due_before (fun vs H Q E h=>by obtain ⟨_,_,_,_,_,_,_,_,rfl,_⟩:=h;rfl) fun f cdv A outer s H vs Q E hr h=> ?_
 refine ⟨_,(a7 (aI (i:=4) (sc_is_due_before).nd rfl (by trivial) (cq PySem.F.plainAttrs_list PySem.F.slot_list_index PySem.F.type_list_index (mt_indexK (K:=K) rfl) (pv 1) (a6 (pv 2) ab)))
   (a8 (ai (oF (bm dI (pv 4) ag (ap _)) (i5 (bm fC (ae (K:=K) rfl (aP (aM hr) (ae (K:=K) rfl (pv 0) rfl) (aD aq (pv 1) (df o8 (pv 4) ag) (fun _ _=>rfl)) (fun _ _=>rfl)) rfl) (pv 3) (ap _))))))),?_⟩
 obtain ⟨L,hs,P0,w,la,row,k,due,rfl,R,hla,nd,hk,hall,q⟩:=h
 obtain ⟨j,hj,ej⟩:=List.getElem_of_mem hk
 have gj:row[j]? = some k:=by rw [List.getElem?_eq_getElem hj,ej]
 unfold dueB at q
 rw [SV.beforeIn_pos nd gj] at q
 have nj:(aT row)[j]? = some (.int k):=by unfold aT;rw [List.getElem?_map,gj];rfl
 simp! only [om,hla]
 refine ⟨aT row,SqL.of hla,ii row,j,.int k,nj,by simp [eqV],fun m z' hm hz=> ?_,?_⟩
 ·unfold aT at hz
  rw [List.getElem?_map] at hz
  cases em:row[m]? with
  | none=>rw [em] at hz;cases hz
  | some k'=>
   rw [em] at hz
   cases hz
   have:k'≠k:=fun e=>by
    subst e
    have:=mN nd em gj
    omega
   have h2:¬ (k':Int)=(k:Int):=by omega
   simp [eqV,h2]
 ·cases j with
  | zero=>exact q
  | succ j=>
   have hj':j < row.length:=by omega
   have gj':row[j]? = some row[j]:=List.getElem?_eq_getElem hj'
   obtain ⟨l,hl⟩:=hall row[j] (List.getElem_mem hj')
   simp only [Nat.add_one_ne_zero,if_false,Nat.add_sub_cancel,gj',Option.bind_some,hl,Option.all_some] at q
   rw [R.loanOf] at hl
   cases e2:L.ln row[j] with
   | none=>rw [e2] at hl;cases hl
   | some p=>
    rw [e2] at hl
    cases hl
    have S:=R.loan (fB e2).1
    have pos:0 < ((j + 1:Nat):Int):=by omega
    have a1:atI (aT row) (((j + 1:Nat):Int) - 1)=some (.int (row[j]:Nat)):=pW (j:=j) (by omega) (by unfold aT;rw [List.getElem?_map,gj'];rfl)
    have a2:bo (kvL L.ls) (Sum.inl ((row[j]:Nat):Int))=some (.ref p.2.a):=by rw [g5,e2];rfl
    dsimp! only [hla,pos,a1,a2,R.self,R.lD,S]
    have e:decide ((p.1.due:Int) < due) = !decide (due≤(p.1.due:Int)):=by rw [Bool.eq_iff_iff];simp
    rw [e]
    exact q
theorem gI(T:Txt K mg C):Can P w0 K mg base 2 "extend_refusal" ["ledger", "loan", "due"] (gJ C):=by
 refine cb (pre:=dr C) (ay T.f_extend_refusal sc_extend_refusal (fun vs H Q E h=>by obtain ⟨_,⟨_,_,_,_,_,_,_,rfl,_⟩,_⟩:=h;rfl) fun f cdv A outer s H vs Q E hr h=> ?_) fun vs H r h=>by obtain ⟨_,_,_,_,_,_,_,_,R,_⟩:=h;exact R.r.pl
 refine ⟨_,(a7 (aw (br (aW (aM hr) (pv 1) (ae (K:=K) rfl (pv 0) rfl))) (a8 (ai (aJ az ag))) aj)
   (a7 (fS (cj (i:=3) rfl (sc_extend_refusal).nd rfl rfl (cZ rfl rfl rfl (by decide +kernel)) (fN (ae (K:=K) rfl (pv 0) rfl)) (aX (N:=["ledger", "loan", "due", "rows", "sheet", "row"]) (sc:=ah s_extend_refusal) (own:=[("sheet",4)]) (by decide +kernel)) (fun _ _ _ _ _=>(aC (i:=4) (sc_extend_refusal).nd rfl (by trivial))) (fun _ _ _ _ _=>(c7 (ak k8 (pv 1) (ae (K:=K) rfl (pv 4) rfl) (by with_unfolding_all rfl)))) (fun _ _ _ _ _=>(ae (K:=K) rfl (pv 4) rfl))))
   (a7 (aw (ak aL (aA aV rfl T.b_len PySem.boot_len (a6 (pv 3) ab)) ag (ap _)) (a8 (ai (aJ az ag))) aj)
   (a7 (aw (PW.pt (fZ (bG (b9 (am (fT T) (hr.mono (by decide)) rfl (a6 (pv 2) ab)))) (dW (ak fC (pv 2) (ae (K:=K) rfl (aP (aM hr) (ae (K:=K) rfl (pv 0) rfl) (pv 1) (fun _ _=>rfl)) rfl) (ap _))))) (a8 (ai (aJ az ag))) aj)
   (a7 (aw (b9 (dE (aA (eq (K:=K) rfl rfl) rfl T.b_any boot_any (a6 (cT rfl (sc_extend_refusal).nd (aN (K:=K) rfl (pv 3)) (aX (N:=["ledger", "loan", "due", "rows", "sheet", "row"]) (sc:=ah s_extend_refusal) (own:=[("row",5)]) (by decide +kernel)) (fun _ _ _ _ _=>(aC (i:=5) (sc_extend_refusal).nd rfl (by trivial))) (fun _ _ _ _ _=>bT) (fun _ _ _ _ _=>(am (gY T) (hr.mono (by decide)) rfl (a6 (pv 0) (a6 (pv 5) (a6 (pv 1) (a6 (pv 2) ab))))))) ab)))) (a8 (ai (aJ az ag))) aj)
   (a8 (ai ag))))))),?_⟩
 obtain ⟨r,⟨L,hs,P0,w,d,loan,due,rfl,RI,rfl⟩,q⟩:=h
 have R:=RI.r
 simp only [Vbnlai.act,R.loanZ] at q
 dsimp! only [R.self,R.lD,g5,Option.isSome_map]
 cases e:L.ln loan with
 | none=>
  rw [e] at q
  exact q H (bD.refl H)
 | some p=>
  rw [e] at q
  simp only [Option.map_some] at q
  simp only [Option.isSome_some,Bool.true_eq_false,if_false]
  obtain ⟨hpm,hpk⟩:=fB e
  obtain ⟨n,hn,inv⟩:=RI.inv
  have hlen:(kvS L.ss).length=L.ss.length:=by unfold kvS;rw [List.length_map]
  have h60:L.ss.length≤60:=by rw [R.nS];exact inv.sN
  refine ig L.sD (kvS L.ss) (fun i=>(L.ss[i]?).bind fun p'=>if p'.1.loans.contains p.1.key=true then some (V.ref p'.2.la) else none) R.sD (by rw [hlen,sizeLine_eq];omega) (fun od Q' hq=> ?_) (fun od i x H' N hi s hx hN=> ?_) (fun l H' hl s=> ?_)
  ·have h0:upd H L.sD (.frz od (.dK (kvS L.ss))) L.self=some (.ins C.Ledger L.dx (bb L)):=(af (cu R.self R.sD (by intro z;cases z))).trans R.self
   dsimp! only [h0]
   exact hq
  ·obtain ⟨k,hx⟩:=hx
   unfold kvS at hx
   rw [List.getElem?_map] at hx
   cases ei:L.ss[i]? with
   | none=>rw [ei] at hx;cases hx
   | some p'=>
    rw [ei] at hx
    cases hx
    have hp:=List.mem_of_getElem? ei
    have S:=kf R.sD s (R.sheet hp) (by intro z;cases z)
    have Rw:=kf R.sD s (R.row hp) (by intro z;cases z)
    have hN':=hN H' (Ext.refl _)
    rw [ei,Option.bind_some] at hN'
    rw [← hpk]
    dsimp! only [b7,S,Rw,ii,qi]
    by_cases hc:p'.1.loans.contains p.1.key=true
    ·rw [if_pos hc] at hN' ⊢
     exact hN'
    ·rw [if_neg hc] at hN' ⊢
     exact hN'
  ·rw [hlen,cf] at s
   have s0:=Ext.off hl rfl s
   have hl':=s.at_
   have R1:=RI.mono s0
   have q:=q H' s0.1
   have e1:(L.ss.filterMap fun p'=>if p'.1.loans.contains p.1.key=true then some (V.ref p'.2.la) else none)=(L.ss.filter fun p'=>p'.1.loans.contains p.1.key).map fun p'=>V.ref p'.2.la:=f9 _ _ _
   rw [e1] at hl'
   have pm:((L.ss.filter fun p'=>p'.1.loans.contains p.1.key).map (·.1)).Perm (Vbnlai.out w p.1.key):=by
    unfold Vbnlai.out
    refine List.Perm.trans (List.Perm.of_eq ?_) (R.sP.filter _)
    rw [List.filter_map];rfl
   have hsub:∀ p'∈L.ss.filter (fun p'=>p'.1.loans.contains p.1.key),p'∈L.ss∧p.1.key∈p'.1.loans:=fun p' hp'=>by
    have:=List.mem_filter.mp hp'
    exact ⟨this.1,by simpa using this.2⟩
   have hrl:(L.ss.filter fun p'=>p'.1.loans.contains p.1.key).length≤60:=Nat.le_trans (List.length_filter_le _ _) h60
   generalize L.ss.filter (fun p'=>p'.1.loans.contains p.1.key)=rs at *
   have hlo:(Vbnlai.out w p.1.key).length=rs.length:=by rw [← pm.length_eq,List.length_map]
   have hv:bo (kvL L.ls) (Sum.inl loan)=some (.ref p.2.a):=by rw [g5,e];rfl
   have Sp:=R1.r.loan hpm
   dsimp! only [hl',List.length_map,R1.r.self,R1.r.lD,hv,Sp]
   by_cases c1:Vbnlai.out w p.1.key=[]
   ·rw [if_pos c1] at q
    rw [if_pos (by rw [← hlo,c1];rfl)]
    exact q
   ·rw [if_neg c1] at q
    rw [if_neg (by rw [← hlo];intro z;exact c1 (List.length_eq_zero_iff.mp (by omega)))]
    by_cases c2:Vbnlai.dayOk due=false∨due < (p.1.due:Int)
    ·rw [if_pos c2] at q
     by_cases c3:Vbnlai.dayOk due=false
     ·rw [if_pos c3];exact q
     ·rw [if_neg c3,if_pos (c2.resolve_left c3)];exact q
    ·rw [if_neg c2] at q
     rw [if_neg (fun z=>c2 (.inl z)),if_neg (fun z=>c2 (.inr z))]
     have hz:(rs.map fun p'=>V.ref p'.2.la).length≤sizeLine:=by rw [List.length_map,sizeLine_eq];omega
     refine mv (rs.map fun p'=>V.ref p'.2.la).length (fun i x _=>(rs.map fun p'=>V.ref p'.2.la)[i]? = some x) (fun i=>(rs[i]?).any fun p'=>dueB w p'.1.loans p.1.key due) R1.r.pl hz ?_ (fun i x H2 N hi s2 hx hN=> ?_) ?_
     ·exact cN rfl hl'
     ·rw [List.getElem?_map] at hx
      cases ek:rs[i]? with
      | none=>rw [ek] at hx;cases hx
      | some p'=>
       rw [ek] at hx
       cases hx
       obtain ⟨hp,hkr⟩:=hsub p' (List.mem_of_getElem? ek)
       have R2:=(R1.mono s2).r
       have hw:=gB R hp
       have hN':=hN H2 (Ext.refl _)
       rw [ek,Option.any_some] at hN'
       rw [← hpk]
       simp! only [b7]
       exact ⟨L,hs,P0,w,p'.2.la,p'.1.loans,p.1.key,due,rfl,R2,R2.row hp,inv.nd _ hw,hkr,fun j hj=>inv.row hw hj,hN'⟩
     ·refine ⟨_,rfl,?_⟩
      rw [List.length_map,c9]
      have e3:(rs.any fun p'=>dueB w p'.1.loans p.1.key due) = !((Vbnlai.out w p.1.key).all fun x=>((Vbnlai.beforeIn x.loans p.1.key).bind (Vbnlai.loanOf w)).all fun m=>decide (due≤(m.due:Int))):=by
       rw [← SV.all_perm pm,List.all_map,List.any_eq_not_all_not]
       congr 2
       funext p'
       unfold dueB
       simp
      rw [e3]
      by_cases c4:((Vbnlai.out w p.1.key).all fun x=>((Vbnlai.beforeIn x.loans p.1.key).bind (Vbnlai.loanOf w)).all fun m=>decide (due≤(m.due:Int)))=false
      ·rw [if_pos c4] at q
       rw [if_pos (by rw [c4];rfl)]
       exact q
      ·rw [if_neg c4] at q
       rw [if_neg (by simpa using c4)]
       exact q
end
section
variable(C:Cs)
def mR:Sp:=fun vs H Q _=>∃ first n,vs=[.int first,.int n]∧SV.b32 first∧n≤8 ∧ -(2 ^ 40)≤n∧∀ l H',H l=none→Ext (upd H l (.lst ((SV.oZ first n.toNat).map V.int))) H'→Q (.ref l) H'
def cA(vs:List V)(H:Hp)(r:V):Prop:=∃ L hs P0 w first n,vs=[.ref L.self,.int first,.int n]∧Rep C H L hs P0 w∧SV.b32 first∧1≤n∧n≤8∧r = .int (SV.newR w first n)
def f6:Sp:=fun vs H Q _=>∃ r,cA C vs H r∧Q r H
def gF:Sp:=fun vs H Q _=>∃ L hs P0 w d key person n first,vs=[.ref L.self,.int key,.int person,.int n,.int first]∧Rep C H L hs P0 w∧SV.b32 first∧Q (.int (SV.rfs (Vbnlai.act hs w d (.gather key person n first)))) H
def iq:Sp:=fun vs H Q _=>∃ L hs P0 w d key first n,vs=[.ref L.self,.int key,.int first,.int n]∧Rep C H L hs P0 w∧SV.b32 first∧Q (.int (SV.rfs (Vbnlai.act hs w d (.split key first n)))) H
def g9:Sp:=fun vs H Q _=>∃ L hs P0 w d key,vs=[.ref L.self,.int key]∧Rep C H L hs P0 w∧Q (.int (SV.rfs (Vbnlai.act hs w d (.destroy key)))) H
def gM:Sp:=fun vs H Q _=>∃ L hs P0 w d key name,vs=[.ref L.self,.int key,.int name]∧Rep C H L hs P0 w∧Q (.int (SV.rfs (Vbnlai.act hs w d (.type key name)))) H
def fc:Sp:=fun vs H Q _=>∃ L hs P0 w d key person name conf,vs=[.ref L.self,.int key,.int person,.int name,.int conf]∧bM C H L hs P0 w∧Q (.int (SV.rfs (Vbnlai.act hs w d (.determine key person name conf)))) H
def jc:Sp:=fun vs H Q _=>∃ L hs P0 w d person house,vs=[.ref L.self,.int person,.int house]∧Rep C H L hs P0 w∧Q (.int (SV.rfs (Vbnlai.act hs w d (.move person house)))) H
def j2:Sp:=fun vs H Q _=>∃ L hs P0 w d person rank,vs=[.ref L.self,.int person,.int rank]∧Rep C H L hs P0 w∧Q (.int (SV.rfs (Vbnlai.act hs w d (.rank person rank)))) H
end
theorem jH{n:Int}{a b:Nat}:(Vbnlai.within n a b=false)=(n < a∨(b:Int) < n):=by
 rw [eq_iff_iff]
 constructor
 ·intro h
  have h2:¬ Vbnlai.within n a b=true:=by rw [h];simp
  rw [SV.cC] at h2
  omega
 ·intro h
  cases e:Vbnlai.within n a b with
  | false=>rfl
  | true=>
   rw [SV.cC] at e
   omega
section
variable{P:Program}{w0:World}{K:PySem.W.Frag}{mg:Str→Option Value}{base:Heap}{C:Cs}
theorem cJ(T:Txt K mg C):Can P w0 K mg base 1 "new_keys" ["first", "n"] mR:=by
 refine ay T.f_new_keys sc_new_keys (fun vs H Q E h=>by obtain ⟨_,_,rfl,_⟩:=h;rfl) fun f cdv A outer s H vs Q E hr h=> ?_
 refine ⟨_,(a8 (ai (d9 (oJ rfl) rfl T.b_list boot_list (a6 (d9 qx rfl T.b_range boot_range (a6 (pv 0) (a6 (df eL (pv 0) (pv 1)) ab))) ab)))),?_⟩
 obtain ⟨first,n,rfl,hb,hn,hn',q⟩:=h
 obtain ⟨b1,b2⟩:=hb
 simp! only [pH,mQ]
 intro p hp
 refine ⟨_,_,a9,?_,?_,?_,?_,?_,fun l hl=> ?_⟩
 ·omega
 ·omega
 ·omega
 ·omega
 ·omega
 ·have e:(first + n - first).toNat=n.toNat:=by omega
  rw [e]
  have hlp:l≠p:=fun z=>by subst z;rw [a9] at hl;cases hl
  rw [af hlp] at hl
  refine q l _ hl ⟨fun b u hb=> ?_,fun b u hb=> ?_⟩
  ·by_cases h1:b=l
   ·subst h1;rw [a9] at hb ⊢;exact hb
   ·rw [af h1] at hb ⊢
    rw [af (al hb hp)];exact hb
  ·by_cases h1:b=l
   ·subst h1;rw [a9] at hb ⊢;exact .inl hb
   ·rw [af h1] at hb ⊢
    by_cases h2:b=p
    ·subst h2;rw [a9] at hb;cases hb;exact .inr rfl
    ·rw [af h2] at hb;exact .inl hb
theorem px{H:Hp}{L:Lay}{hs:List Nat}{P0:List Vbnlai.Person}{w:Vbnlai.World}(R:Rep C H L hs P0 w){first n:Int}(h:0≤first):((SV.oZ first n.toNat).any fun k=>(L.sh k).isSome) = !Vbnlai.unused w (Vbnlai.keysFrom first n):=by
 rw [SV.upFrom_keys h,List.any_map]
 unfold Vbnlai.unused
 rw [List.any_eq_not_all_not]
 congr 2
 funext k
 simp only [Function.comp]
 congr 1
 rw [← Option.isSome_map,← R.sheetOf]
 unfold Vbnlai.sheetOf
 rw [List.isSome_find?]
 congr 1
 funext x
 rw [Bool.eq_iff_iff,beq_iff_eq,beq_iff_eq]
 omega
theorem cz(T:Txt K mg C):Can P w0 K mg base 2 "new_sheets_refusal" ["ledger", "first", "n"] (f6 C):=by
 refine cb (pre:=cA C) (ay T.f_new_sheets_refusal sc_new_sheets_refusal (fun vs H Q E h=>by obtain ⟨_,⟨_,_,_,_,_,_,rfl,_⟩,_⟩:=h;rfl) fun f cdv A outer s H vs Q E hr h=> ?_) fun vs H r h=>by obtain ⟨_,_,_,_,_,_,_,R,_⟩:=h;exact R.pl
 refine ⟨_,(a7 (aI (i:=3) (sc_new_sheets_refusal).nd rfl (by trivial) (am (cJ T) (hr.mono (by decide)) rfl (a6 (pv 1) (a6 (pv 2) ab))))
   (a7 (aw (bG (b9 (dE (aA (md (K:=K) rfl rfl) rfl T.b_all boot_all (a6 (cT rfl (sc_new_sheets_refusal).nd (aN (K:=K) rfl (pv 3)) (aX (N:=["ledger", "first", "n", "keys", "key"]) (sc:=ah s_new_sheets_refusal) (own:=[("key",4)]) (by decide +kernel)) (fun _ _ _ _ _=>(aC (i:=4) (sc_new_sheets_refusal).nd rfl (by trivial))) (fun _ _ _ _ _=>bT) (fun _ _ _ _ _=>(am (cB T) (hr.mono (by decide)) rfl (a6 (pv 4) ab)))) ab))))) (a8 (ai (aJ az ag))) aj)
   (a7 (aw (b9 (dE (aA (eq (K:=K) rfl rfl) rfl T.b_any boot_any (a6 (cT rfl (sc_new_sheets_refusal).nd (aN (K:=K) rfl (pv 3)) (aX (N:=["ledger", "first", "n", "keys", "key"]) (sc:=ah s_new_sheets_refusal) (own:=[("key",4)]) (by decide +kernel)) (fun _ _ _ _ _=>(aC (i:=4) (sc_new_sheets_refusal).nd rfl (by trivial))) (fun _ _ _ _ _=>bT) (fun _ _ _ _ _=>(pe_cmp (fR (aM hr) (pv 4) (ae (K:=K) rfl (pv 0) rfl))))) ab)))) (a8 (ai (aJ az ag))) aj)
   (a7 (aw (ak dI (df eL (aA e7 rfl T.b_len PySem.boot_len (a6 (ae (K:=K) rfl (pv 0) rfl) ab)) (pv 2)) (aB T.g_MOST_SHEETS rfl) (ap _)) (a8 (ai (aJ az ag))) aj)
   (a8 (ai ag)))))),?_⟩
 obtain ⟨r,⟨L,hs,P0,w,first,n,rfl,R,hb,h1,h8,rfl⟩,q⟩:=h
 simp! only []
 refine ⟨first,n,rfl,hb,h8,by omega,fun l H' hl s=> ?_⟩
 have s0:=Ext.off hl rfl s
 have R1:=R.mono s0
 have hl':=s.at_
 have q:=q H' s0.1
 unfold SV.newR at q
 have hz:((SV.oZ first n.toNat).map V.int).length≤sizeLine:=by unfold SV.oZ;rw [List.length_map,List.length_map,List.length_range,sizeLine_eq];omega
 refine all_lx ((SV.oZ first n.toNat).map V.int).length (fun i x _=>((SV.oZ first n.toNat).map V.int)[i]? = some x) (fun i=>((SV.oZ first n.toNat)[i]?).any fun k=>Vbnlai.keyOk k) R1.pl hz ?_ (fun i x H2 N hi s2 hx hN=> ?_) ?_
 ·exact cN rfl hl'
 ·rw [List.getElem?_map] at hx
  cases ek:(SV.oZ first n.toNat)[i]? with
  | none=>rw [ek] at hx;cases hx
  | some k=>
   rw [ek] at hx
   cases hx
   have hN':=hN H2 (Ext.refl _)
   rw [ek,Option.any_some] at hN'
   simp! only [b7]
   exact hN'
 ·refine ⟨_,rfl,?_⟩
  rw [List.length_map,jO,SV.upFrom_room h1]
  by_cases c1:Vbnlai.roomFor first n=false
  ·rw [if_pos c1] at q
   rw [c1]
   exact q
  ·rw [if_neg c1] at q
   have c1':=SV.bu c1
   rw [c1']
   simp only [Bool.true_eq_false,if_false]
   refine mv ((SV.oZ first n.toNat).map V.int).length (fun i x _=>((SV.oZ first n.toNat).map V.int)[i]? = some x) (fun i=>((SV.oZ first n.toNat)[i]?).any fun k=>(L.sh k).isSome) R1.pl (by rw [List.length_map] at hz ⊢;exact hz) ?_ (fun i x H2 N hi s2 hx hN=> ?_) ?_
   ·exact cN rfl hl'
   ·rw [List.getElem?_map] at hx
    cases ek:(SV.oZ first n.toNat)[i]? with
    | none=>rw [ek] at hx;cases hx
    | some k=>
     rw [ek] at hx
     cases hx
     have R2:=R1.mono s2
     have hN':=hN H2 (Ext.refl _)
     rw [ek,Option.any_some] at hN'
     dsimp! only [b7,R2.self,R2.sD,bL,Option.isSome_map]
     exact hN'
   ·refine ⟨_,rfl,?_⟩
    have hr:=SV.dm.mp c1'
    rw [List.length_map,c9,px R (by omega)]
    dsimp! only [R1.self,R1.sD,kvS,List.length_map,R.nS]
    by_cases c2:Vbnlai.unused w (Vbnlai.keysFrom first n)=false
    ·rw [if_pos c2] at q
     rw [if_pos c2]
     exact q
    ·rw [if_neg c2] at q
     rw [if_neg c2]
     by_cases c3:Vbnlai.SHEETS < w.sheets.length + n.toNat
     ·rw [if_pos c3] at q
      rw [if_pos (by unfold Vbnlai.SHEETS at c3;omega)]
      exact q
     ·rw [if_neg c3] at q
      rw [if_neg (by unfold Vbnlai.SHEETS at c3;omega)]
      exact q
theorem gE(T:Txt K mg C):Can P w0 K mg base 3 "gather_refusal" ["ledger", "key", "person", "n", "first"] (gF C):=by
 refine ay T.f_gather_refusal sc_gather_refusal (fun vs H Q E h=>by obtain ⟨_,_,_,_,_,_,_,_,_,rfl,_⟩:=h;rfl) fun f cdv A outer s H vs Q E hr h=> ?_
 refine ⟨_,(a7 (aw (bG (b9 (am (cB T) (hr.mono (by decide)) rfl (a6 (pv 1) ab)))) (a8 (ai (aJ az ag))) aj)
   (a7 (aw (br (fR (aM hr) (pv 1) (ae (K:=K) rfl (pv 0) rfl))) (a8 (ai (aJ az ag))) aj)
   (a7 (aw (br (aW (aM hr) (pv 2) (ae (K:=K) rfl (pv 0) rfl))) (a8 (ai (aJ az ag))) aj)
   (a7 (aw (PW.pt (fZ (ak fC (pv 3) ag (ap _)) (dW (ak dI (pv 3) ag (ap _))))) (a8 (ai (aJ az ag))) aj)
   (a8 (ai (am (cz T) (hr.mono (by decide)) rfl (a6 (pv 0) (a6 (pv 4) (a6 (pv 3) ab)))))))))),?_⟩
 obtain ⟨L,hs,P0,w,d,key,person,n,first,rfl,R,hb,q⟩:=h
 rw [SV.gather_rfs,R.personOf] at q
 dsimp! only [R.self,R.gD,R.pD,nQ,fz,Option.isSome_map]
 by_cases c1:Vbnlai.keyOk key=false
 ·rw [if_pos c1] at q ⊢
  exact q
 rw [if_neg c1] at q ⊢
 have hk:=SV.db.mp (SV.bu c1)
 have eg:dL L.gs key=w.gatherings.contains key.toNat:=by
  rw [R.gather,Bool.eq_iff_iff,List.any_eq_true,List.contains_iff_mem]
  constructor
  ·rintro ⟨x,hx,e⟩
   have:x=key.toNat:=by have:=beq_iff_eq.mp e;omega
   exact this ▸ hx
  ·intro h
   exact ⟨_,h,by rw [beq_iff_eq];omega⟩
 rw [eg]
 by_cases c2:w.gatherings.contains key.toNat=true
 ·rw [if_pos c2] at q ⊢
  exact q
 rw [if_neg c2] at q ⊢
 cases e:L.pn person with
 | none=>
  rw [e] at q
  exact q
 | some p=>
  rw [e] at q
  simp only [Option.map_some,jH] at q
  simp only [Option.isSome_some,Bool.true_eq_false,if_false]
  by_cases c3:n < 1
  ·rw [if_pos (.inl c3)] at q
   rw [if_pos c3]
   exact q
  ·rw [if_neg c3]
   by_cases c4:8 < n
   ·rw [if_pos (.inr c4)] at q
    rw [if_pos c4]
    exact q
   ·rw [if_neg (by intro z;rcases z with z | z <;> omega)] at q
    rw [if_neg c4]
    exact ⟨_,⟨L,hs,P0,w,first,n,rfl,R,hb,by omega,by omega,rfl⟩,q⟩
theorem i8(T:Txt K mg C):Can P w0 K mg base 3 "split_refusal" ["ledger", "key", "first", "n"] (iq C):=by
 refine ay T.f_split_refusal sc_split_refusal (fun vs H Q E h=>by obtain ⟨_,_,_,_,_,_,_,_,rfl,_⟩:=h;rfl) fun f cdv A outer s H vs Q E hr h=> ?_
 refine ⟨_,(a7 (aw (br (aW (aM hr) (pv 1) (ae (K:=K) rfl (pv 0) rfl))) (a8 (ai (aJ az ag))) aj)
   (a7 (aI (i:=4) (sc_split_refusal).nd rfl (by trivial) (aP (aM hr) (ae (K:=K) rfl (pv 0) rfl) (pv 1) (fun _ _=>rfl)))
   (a7 (aw (ak bU (ae (K:=K) rfl (pv 4) rfl) (aB T.g_HERE rfl) (ap _)) (a8 (ai (aJ az ag))) aj)
   (a7 (aw (ak bU (ae (K:=K) rfl (pv 4) rfl) ag (ap _)) (a8 (ai (aJ az ag))) aj)
   (a7 (aw (PW.pt (fZ (ak fC (pv 3) ag (ap _)) (dW (ak dI (pv 3) ag (ap _))))) (a8 (ai (aJ az ag))) aj)
   (a8 (ai (am (cz T) (hr.mono (by decide)) rfl (a6 (pv 0) (a6 (pv 2) (a6 (pv 3) ab))))))))))),?_⟩
 obtain ⟨L,hs,P0,w,d,key,first,n,rfl,R,hb,q⟩:=h
 rw [SV.split_rfs,R.sheetOf] at q
 cases e:L.sh key with
 | none=>
  rw [e] at q
  dsimp! only [R.self,R.sD,bL,e,Option.map_none,Option.isSome_none]
  exact q
 | some p=>
  rw [e] at q
  have S:=R.sheet (b5 e).1
  dsimp! only [R.self,R.sD,bL,e,Option.map_some,Option.isSome_some,S]
  simp only [Option.map_some,m8,nat_ne,jH] at q
  by_cases c1:stI p.1.status=0
  ·rw [if_neg (by simpa using c1)] at q ⊢
   by_cases c2:(p.1.type:Int)=0
   ·rw [if_neg (by simpa using c2)] at q ⊢
    by_cases c3:n < 2
    ·rw [if_pos (.inl c3)] at q
     rw [if_pos c3]
     exact q
    ·rw [if_neg c3]
     by_cases c4:4 < n
     ·rw [if_pos (.inr c4)] at q
      rw [if_pos c4]
      exact q
     ·rw [if_neg (by intro z;rcases z with z | z <;> omega)] at q
      rw [if_neg c4]
      exact ⟨_,⟨L,hs,P0,w,first,n,rfl,R,hb,by omega,by omega,rfl⟩,q⟩
   ·rw [if_pos c2] at q ⊢
    exact q
  ·rw [if_pos c1] at q ⊢
   exact q
theorem g7(T:Txt K mg C):Can P w0 K mg base 2 "destroy_refusal" ["ledger", "key"] (g9 C):=by
 refine ay T.f_destroy_refusal sc_destroy_refusal (fun vs H Q E h=>by obtain ⟨_,_,_,_,_,_,rfl,_⟩:=h;rfl) fun f cdv A outer s H vs Q E hr h=> ?_
 refine ⟨_,(a8 (ai (am (cc T) (hr.mono (by decide)) rfl (a6 (pv 0) (a6 (pv 1) ab))))),?_⟩
 obtain ⟨L,hs,P0,w,d,key,rfl,R,q⟩:=h
 rw [SV.destroy_rfs] at q
 simp! only []
 exact ⟨L,hs,P0,w,key,rfl,R,q⟩
theorem gK(T:Txt K mg C):Can P w0 K mg base 2 "typify_refusal" ["ledger", "key", "name"] (gM C):=by
 refine ay T.f_typify_refusal sc_typify_refusal (fun vs H Q E h=>by obtain ⟨_,_,_,_,_,_,_,rfl,_⟩:=h;rfl) fun f cdv A outer s H vs Q E hr h=> ?_
 refine ⟨_,(a7 (aI (i:=3) (sc_typify_refusal).nd rfl (by trivial) (am (cc T) (hr.mono (by decide)) rfl (a6 (pv 0) (a6 (pv 1) ab))))
   (a7 (aw (PW.pt (ff (ak aL (pv 3) ag (ap _)) (dl (bG (b9 (am (cB T) (hr.mono (by decide)) rfl (a6 (pv 2) ab))))))) (a8 (aI (i:=3) (sc_typify_refusal).nd rfl (by trivial) (aJ az ag))) aj)
   (a8 (ai (pv 3))))),?_⟩
 obtain ⟨L,hs,P0,w,d,key,name,rfl,R,q⟩:=h
 rw [SV.type_rfs] at q
 simp! only []
 refine ⟨L,hs,P0,w,key,rfl,R,?_⟩
 simp! only []
 by_cases c1:SV.kj w key=0
 ·rw [if_neg (by simpa using c1)] at q
  rw [if_pos c1]
  simp only [c1]
  by_cases c2:Vbnlai.keyOk name=false
  ·rw [if_pos c2] at q ⊢
   exact q
  ·rw [if_neg c2] at q ⊢
   exact q
 ·rw [if_pos c1] at q
  rw [if_neg c1]
  exact q
theorem iO(T:Txt K mg C):Can P w0 K mg base 1 "move_refusal" ["ledger", "person", "house"] (jc C):=by
 refine ay T.f_move_refusal sc_move_refusal (fun vs H Q E h=>by obtain ⟨_,_,_,_,_,_,_,rfl,_⟩:=h;rfl) fun f cdv A outer s H vs Q E hr h=> ?_
 refine ⟨_,(a7 (aw (br (aW (aM hr) (pv 1) (ae (K:=K) rfl (pv 0) rfl))) (a8 (ai (aJ az ag))) aj)
   (a7 (aw (br (aW (aM hr) (pv 2) (ae (K:=K) rfl (pv 0) rfl))) (a8 (ai (aJ az ag))) aj)
   (a8 (ai ag)))),?_⟩
 obtain ⟨L,hs,P0,w,d,person,house,rfl,R,q⟩:=h
 simp only [Vbnlai.act,R.personOf,← R.house] at q
 dsimp! only [R.self,R.pD,R.hD,fz,nQ,Option.isSome_map]
 cases e:L.pn person with
 | none=>rw [e] at q;exact q
 | some p=>
  rw [e] at q
  simp only [Option.map_some] at q
  simp only [Option.isSome_some,Bool.true_eq_false,if_false]
  cases e2:dL L.hs house with
  | false=>rw [e2] at q;exact q
  | true=>rw [e2] at q;exact q
theorem iR(T:Txt K mg C):Can P w0 K mg base 2 "rank_refusal" ["ledger", "person", "rank"] (j2 C):=by
 refine ay T.f_rank_refusal sc_rank_refusal (fun vs H Q E h=>by obtain ⟨_,_,_,_,_,_,_,rfl,_⟩:=h;rfl) fun f cdv A outer s H vs Q E hr h=> ?_
 refine ⟨_,(a7 (aw (br (aW (aM hr) (pv 1) (ae (K:=K) rfl (pv 0) rfl))) (a8 (ai (aJ az ag))) aj)
   (a7 (aw (bG (b9 (am (kb T) (hr.mono (by decide)) rfl (a6 (pv 2) ab)))) (a8 (ai (aJ az ag))) aj)
   (a8 (ai ag)))),?_⟩
 obtain ⟨L,hs,P0,w,d,person,rank,rfl,R,q⟩:=h
 simp only [Vbnlai.act,R.personOf] at q
 dsimp! only [R.self,R.pD,fz,Option.isSome_map]
 cases e:L.pn person with
 | none=>rw [e] at q;exact q
 | some p=>
  rw [e] at q
  simp only [Option.map_some] at q
  simp only [Option.isSome_some,Bool.true_eq_false,if_false]
  cases e2:Vbnlai.within rank 1 9 with
  | false=>rw [e2] at q;exact q
  | true=>rw [e2] at q;exact q
theorem fF(T:Txt K mg C):Can P w0 K mg base 3 "determine_refusal" ["ledger", "key", "person", "name", "conf"] (fc C):=by
 refine ay T.f_determine_refusal sc_determine_refusal (fun vs H Q E h=>by obtain ⟨_,_,_,_,_,_,_,_,_,rfl,_⟩:=h;rfl) fun f cdv A outer s H vs Q E hr h=> ?_
 refine ⟨_,(a7 (aw (br (aW (aM hr) (pv 1) (ae (K:=K) rfl (pv 0) rfl))) (a8 (ai (aJ az ag))) aj)
   (a7 (aw (br (aW (aM hr) (pv 2) (ae (K:=K) rfl (pv 0) rfl))) (a8 (ai (aJ az ag))) aj)
   (a7 (aI (i:=5) (sc_determine_refusal).nd rfl (by trivial) (aP (aM hr) (ae (K:=K) rfl (pv 0) rfl) (pv 1) (fun _ _=>rfl)))
   (a7 (aw (ak bU (ae (K:=K) rfl (pv 5) rfl) (aB T.g_HERE rfl) (ap _)) (a8 (ai (aJ az ag))) aj)
   (a7 (aw (ak bU (ae (K:=K) rfl (aP (aM hr) (ae (K:=K) rfl (pv 0) rfl) (pv 2) (fun _ _=>rfl)) rfl) (am (cV T) (hr.mono (by decide)) rfl (a6 (pv 0) (a6 (pv 5) ab))) (ap _)) (a8 (ai (aJ az ag))) aj)
   (a7 (aw (bG (b9 (am (cB T) (hr.mono (by decide)) rfl (a6 (pv 3) ab)))) (a8 (ai (aJ az ag))) aj)
   (a7 (aw (PW.pt (fZ (ak fC (pv 4) ag (ap _)) (dW (ak dI (pv 4) (aB T.g_GREATEST_CONF rfl) (ap _))))) (a8 (ai (aJ az ag))) aj)
   (a8 (ai ag))))))))),?_⟩
 obtain ⟨L,hs,P0,w,d,key,person,name,conf,rfl,RI,q⟩:=h
 have R:=RI.r
 simp only [Vbnlai.act,R.sheetOf,R.personOf] at q
 cases e:L.sh key with
 | none=>
  rw [e] at q
  dsimp! only [R.self,R.sD,bL,e,Option.map_none,Option.isSome_none]
  exact q
 | some x=>
  cases e2:L.pn person with
  | none=>
   rw [e,e2] at q
   dsimp! only [R.self,R.sD,R.pD,bL,fz,e,e2,Option.map_none,Option.isSome_none,Option.map_some,Option.isSome_some]
   exact q
  | some p=>
   rw [e,e2] at q
   have S:=R.sheet (b5 e).1
   have Pp:=R.person (km e2).1
   dsimp! only [R.self,R.sD,R.pD,bL,fz,e,e2,Option.map_some,Option.isSome_some,S,Pp]
   simp only [Option.map_some] at q
   by_cases c1:stI x.1.status=0
   ·rw [if_neg (by simpa using c1)]
    simp only [hZ c1,Bool.true_eq_false,if_false] at q
    refine ⟨L,hs,P0,w,x.1,x.2,rfl,RI,(b5 e).1,?_⟩
    simp! only []
    by_cases c2:(p.1.1.house:Int)=(Vbnlai.holder w x.1:Int)
    ·rw [if_neg (by simpa using c2)]
     rw [if_neg (by simp;omega)] at q
     by_cases c3:Vbnlai.keyOk name=false
     ·rw [if_pos c3] at q ⊢
      exact q
     ·rw [if_neg c3] at q ⊢
      simp only [jH] at q
      by_cases c4:conf < 0
      ·rw [if_pos (.inl c4)] at q
       rw [if_pos c4]
       exact q
      ·rw [if_neg c4]
       by_cases c5:3 < conf
       ·rw [if_pos (.inr c5)] at q
        rw [if_pos c5]
        exact q
       ·rw [if_neg (by intro z;rcases z with z | z <;> omega)] at q
        rw [if_neg c5]
        exact q
    ·rw [if_pos c2]
     rw [if_pos (by simp;omega)] at q
     exact q
   ·rw [if_pos c1]
    simp only [ia c1,if_true] at q
    exact q
end
section
variable(C:Cs)
def dA(vs:List V)(H:Hp)(r:V):Prop:=∃ L hs P0 w ka ta,∃ ns ts:List Int,∃ p:Vbnlai.Sheet→Bool,vs=[.ref L.self,.ref ka,.ref ta]∧Rep C H L hs P0 w∧H ka=some (.lst (ns.map V.int))∧ns.length≤16 ∧
 H ta=some (.tup (ts.map V.int))∧(∀ x,inV (.int (stI x.status)) (ts.map V.int)=p x)∧r = .int (SV.ld w ns p)
def gt:Sp:=fun vs H Q _=>∃ r,dA C vs H r∧Q r H
def cG(mk:List Int→Vbnlai.Entry)(vs:List V)(H:Hp)(r:V):Prop:=∃ L hs P0 w d ka,∃ ns:List Int,vs=[.ref L.self,.ref ka]∧Rep C H L hs P0 w∧H ka=some (.lst (ns.map V.int))∧ns.length≤16∧r = .int (SV.rfs (Vbnlai.act hs w d (mk ns)))
def dD(mk:List Int→Vbnlai.Entry):Sp:=fun vs H Q _=>∃ r,cG C mk vs H r∧Q r H
def eT(vs:List V)(H:Hp)(r:V):Prop:=∃ L hs P0 w d old new ka,∃ ns:List Int,vs=[.ref L.self,.int old,.int new,.ref ka]∧Rep C H L hs P0 w∧H ka=some (.lst (ns.map V.int))∧ns.length≤16∧r = .int (SV.rfs (Vbnlai.act hs w d (.give old new ns)))
def jb:Sp:=fun vs H Q _=>∃ r,eT C vs H r∧Q r H
def mI:Sp:=fun vs H Q _=>∃ na,∃ d k a b du o:Int,∃ rest:List V,vs=[.ref na]∧H na=some (.lst (.int d :: .int k :: .int a :: .int b :: .int du :: .int o :: rest)) ∧
 ∀ x dx H',H x=none→H dx=none→dx≠x→H' x=some (.ins C.Loan dx (kF a b du o))→H' dx=some (.own x)→Ext H H'→Q (.ref x) H'
end
section
variable{P:Program}{w0:World}{K:PySem.W.Frag}{mg:Str→Option Value}{base:Heap}{C:Cs}
theorem cr(T:Txt K mg C):Can P w0 K mg base 3 "status_refusal" ["ledger", "keys", "statuses"] (gt C):=by
 refine cb (pre:=dA C) (ay T.f_status_refusal sc_status_refusal (fun vs H Q E h=>by obtain ⟨_,⟨_,_,_,_,_,_,_,_,_,rfl,_⟩,_⟩:=h;rfl) fun f cdv A outer s H vs Q E hr h=> ?_) fun vs H r h=>by obtain ⟨_,_,_,_,_,_,_,_,_,_,R,_⟩:=h;exact R.pl
 refine ⟨_,(a7 (aI (i:=3) (sc_status_refusal).nd rfl (by trivial) (am (c8 T) (hr.mono (by decide)) rfl (a6 (pv 0) (a6 (pv 1) (a6 (aJ az ag) ab)))))
   (a7 (aw (ak bU (pv 3) ag (ap _)) (a8 (ai (pv 3))) aj)
   (a7 (aw (bG (b9 (dE (aA (md (K:=K) rfl rfl) rfl T.b_all boot_all (a6 (cT rfl (sc_status_refusal).nd (aN (K:=K) rfl (am (bn T) (hr.mono (by decide)) rfl (a6 (pv 0) (a6 (pv 1) ab)))) (aX (N:=["ledger", "keys", "statuses", "refusal", "sheet"]) (sc:=ah s_status_refusal) (own:=[("sheet",4)]) (by decide +kernel)) (fun _ _ _ _ _=>(aC (i:=4) (sc_status_refusal).nd rfl (by trivial))) (fun _ _ _ _ _=>bT) (fun _ _ _ _ _=>(bm jg (ae (K:=K) rfl (pv 4) rfl) (pv 2) (by with_unfolding_all rfl)))) ab))))) (a8 (ai (aJ az ag))) aj)
   (a8 (ai ag))))),?_⟩
 obtain ⟨r,⟨L,hs,P0,w,ka,ta,ns,ts,p,rfl,R,hka,hz,hta,hp,rfl⟩,q⟩:=h
 have q:=q H (bD.refl H)
 unfold SV.ld at q
 simp! only []
 refine ⟨_,⟨L,hs,P0,w,ka,ns,-2,rfl,R,hka,hz,rfl⟩,?_⟩
 simp! only []
 by_cases c1:SV.gL w ns (-2)=0
 ·rw [if_neg (by simpa using c1)] at q ⊢
  obtain ⟨_,hkn⟩:=dY (by decide) c1
  obtain ⟨ps,hps,hm,hlen⟩:=gp R hkn
  rw [d7 R _ hps] at q
  have hzz:(ps.map fun p=>V.ref p.2.a).length≤sizeLine:=by rw [List.length_map,sizeLine_eq];omega
  refine all_lx (ps.map fun p=>V.ref p.2.a).length (fun i x _=>(ps.map fun p=>V.ref p.2.a)[i]? = some x) (fun i=>(ps[i]?).any fun q=>p q.1) R.pl hzz ?_ (fun i x H2 N hi s2 hx hN=> ?_) ?_
  ·exact fun R0 h=>⟨_,rfl,_,rfl,L,hs,P0,w,ka,ns,ps,rfl,R,hka,by rw [sizeLine_eq];omega,hps,fun l H' hl0 s1=>⟨l,_,rfl,s1.at_,h _ _ (Ext.off hl0 rfl s1) (cn (SqL.of s1.at_))⟩⟩
  ·rw [List.getElem?_map] at hx
   cases ek:ps[i]? with
   | none=>rw [ek] at hx;cases hx
   | some p'=>
    rw [ek] at hx
    cases hx
    have S:=(R.mono s2).sheet (hm p' (List.mem_of_getElem? ek))
    have hta2:=s2.1 _ _ hta
    have hN':=hN H2 (Ext.refl _)
    rw [ek,Option.any_some] at hN'
    have hpp:=hp p'.1
    rw [jf] at hpp
    dsimp! only [b7,S,hta2,hpp]
    exact hN'
  ·refine ⟨_,rfl,?_⟩
   rw [List.length_map,jO]
   by_cases c2:(ps.all fun q=>p q.1)=false
   ·rw [if_pos c2] at q ⊢
    exact q
   ·rw [if_neg c2] at q ⊢
    exact q
 ·rw [if_pos c1] at q ⊢
  exact q
theorem gH(T:Txt K mg C):Can P w0 K mg base 4 "arrive_refusal" ["ledger", "keys"] (dD C .arrive):=by
 refine cb (pre:=cG C .arrive) (ay T.f_arrive_refusal sc_arrive_refusal (fun vs H Q E h=>by obtain ⟨_,⟨_,_,_,_,_,_,_,rfl,_⟩,_⟩:=h;rfl) fun f cdv A outer s H vs Q E hr h=> ?_) fun vs H r h=>by obtain ⟨_,_,_,_,_,_,_,_,R,_⟩:=h;exact R.pl
 refine ⟨_,(a8 (ai (am (cr T) (hr.mono (by decide)) rfl (a6 (pv 0) (a6 (pv 1) (a6 (i0 (a6 (aB T.g_ON_THE_WAY rfl) ab)) ab)))))),?_⟩
 obtain ⟨r,⟨L,hs,P0,w,d,ka,ns,rfl,R,hka,hz,rfl⟩,q⟩:=h
 rw [SV.arrive_rfs] at q
 simp! only []
 refine ⟨by decide,fun p hp=> ?_⟩
 have x:=Ext.upd (H:=H) (o:=.tup [.int 1]) hp rfl
 exact ⟨_,⟨L,hs,P0,w,ka,p,ns,[1],_,rfl,R.mono x,x.1 _ _ hka,hz,a9,fun y=>by cases y.status <;> rfl,rfl⟩,q _ x.1⟩
theorem j1(T:Txt K mg C):Can P w0 K mg base 4 "lose_refusal" ["ledger", "keys"] (dD C .lose):=by
 refine cb (pre:=cG C .lose) (ay T.f_lose_refusal sc_lose_refusal (fun vs H Q E h=>by obtain ⟨_,⟨_,_,_,_,_,_,_,rfl,_⟩,_⟩:=h;rfl) fun f cdv A outer s H vs Q E hr h=> ?_) fun vs H r h=>by obtain ⟨_,_,_,_,_,_,_,_,R,_⟩:=h;exact R.pl
 refine ⟨_,(a8 (ai (am (cr T) (hr.mono (by decide)) rfl (a6 (pv 0) (a6 (pv 1) (a6 (i0 (a6 (aB T.g_HERE rfl) (a6 (aB T.g_ON_THE_WAY rfl) ab))) ab)))))),?_⟩
 obtain ⟨r,⟨L,hs,P0,w,d,ka,ns,rfl,R,hka,hz,rfl⟩,q⟩:=h
 rw [SV.lose_rfs] at q
 simp! only []
 refine ⟨by decide,fun p hp=> ?_⟩
 have x:=Ext.upd (H:=H) (o:=.tup [.int 0,.int 1]) hp rfl
 exact ⟨_,⟨L,hs,P0,w,ka,p,ns,[0,1],_,rfl,R.mono x,x.1 _ _ hka,hz,a9,fun y=>by unfold Vbnlai.here;cases y.status <;> rfl,rfl⟩,q _ x.1⟩
theorem j0(T:Txt K mg C):Can P w0 K mg base 4 "find_refusal" ["ledger", "keys"] (dD C .find):=by
 refine cb (pre:=cG C .find) (ay T.f_find_refusal sc_find_refusal (fun vs H Q E h=>by obtain ⟨_,⟨_,_,_,_,_,_,_,rfl,_⟩,_⟩:=h;rfl) fun f cdv A outer s H vs Q E hr h=> ?_) fun vs H r h=>by obtain ⟨_,_,_,_,_,_,_,_,R,_⟩:=h;exact R.pl
 refine ⟨_,(a8 (ai (am (cr T) (hr.mono (by decide)) rfl (a6 (pv 0) (a6 (pv 1) (a6 (i0 (a6 (aB T.g_LOST rfl) ab)) ab)))))),?_⟩
 obtain ⟨r,⟨L,hs,P0,w,d,ka,ns,rfl,R,hka,hz,rfl⟩,q⟩:=h
 rw [SV.find_rfs] at q
 simp! only []
 refine ⟨by decide,fun p hp=> ?_⟩
 have x:=Ext.upd (H:=H) (o:=.tup [.int 2]) hp rfl
 exact ⟨_,⟨L,hs,P0,w,ka,p,ns,[2],_,rfl,R.mono x,x.1 _ _ hka,hz,a9,fun y=>by cases y.status <;> rfl,rfl⟩,q _ x.1⟩
theorem jd(T:Txt K mg C):Can P w0 K mg base 3 "give_refusal" ["ledger", "old", "new", "keys"] (jb C):=by
 refine cb (pre:=eT C) (ay T.f_give_refusal sc_give_refusal (fun vs H Q E h=>by obtain ⟨_,⟨_,_,_,_,_,_,_,_,_,rfl,_⟩,_⟩:=h;rfl) fun f cdv A outer s H vs Q E hr h=> ?_) fun vs H r h=>by obtain ⟨_,_,_,_,_,_,_,_,_,_,R,_⟩:=h;exact R.pl
 refine ⟨_,(a7 (aw (br (aW (aM hr) (pv 1) (ae (K:=K) rfl (pv 0) rfl))) (a8 (ai (aJ az ag))) aj)
   (a7 (aw (PW.pt (fZ (br (aW (aM hr) (pv 2) (ae (K:=K) rfl (pv 0) rfl))) (dW (ak aL (pv 2) (pv 1) (ap _))))) (a8 (ai (aJ az ag))) aj)
   (a7 (aI (i:=4) (sc_give_refusal).nd rfl (by trivial) (am (c8 T) (hr.mono (by decide)) rfl (a6 (pv 0) (a6 (pv 3) (a6 (aJ az ag) ab)))))
   (a7 (aw (ak bU (pv 4) ag (ap _)) (a8 (ai (pv 4))) aj)
   (a7 (aI (i:=5) (sc_give_refusal).nd rfl (by trivial) (am (bn T) (hr.mono (by decide)) rfl (a6 (pv 0) (a6 (pv 3) ab))))
   (a7 (aw (b9 (dE (aA (eq (K:=K) rfl rfl) rfl T.b_any boot_any (a6 (cT rfl (sc_give_refusal).nd (aN (K:=K) rfl (pv 5)) (aX (N:=["ledger", "old", "new", "keys", "refusal", "sheets", "sheet"]) (sc:=ah s_give_refusal) (own:=[("sheet",6)]) (by decide +kernel)) (fun _ _ _ _ _=>(aC (i:=6) (sc_give_refusal).nd rfl (by trivial))) (fun _ _ _ _ _=>bT) (fun _ _ _ _ _=>(pY (bm bU (ae (K:=K) rfl (pv 6) rfl) (aB T.g_HERE rfl) (ap _)) (pY (bm dI (aA aV rfl T.b_len PySem.boot_len (a6 (ae (K:=K) rfl (pv 6) rfl) ab)) ag (ap _)) (i5 (bm bU (ae (K:=K) rfl (pv 6) rfl) (pv 1) (ap _))))))) ab)))) (a8 (ai (aJ az ag))) aj)
   (a7 (aw (b9 (dE (aA (eq (K:=K) rfl rfl) rfl T.b_any boot_any (a6 (cT rfl (sc_give_refusal).nd (aN (K:=K) rfl (pv 5)) (aX (N:=["ledger", "old", "new", "keys", "refusal", "sheets", "sheet"]) (sc:=ah s_give_refusal) (own:=[("sheet",6)]) (by decide +kernel)) (fun _ _ _ _ _=>(aC (i:=6) (sc_give_refusal).nd rfl (by trivial))) (fun _ _ _ _ _=>bT) (fun _ _ _ _ _=>(bm bU (ae (K:=K) rfl (pv 6) rfl) ag (ap _)))) ab)))) (a8 (ai (aJ az ag))) aj)
   (a8 (ai ag))))))))),?_⟩
 obtain ⟨r,⟨L,hs,P0,w,d,old,new,ka,ns,rfl,R,hka,hz,rfl⟩,q⟩:=h
 rw [SV.give_rfs,← R.house,← R.house] at q
 dsimp! only [R.self,R.hD,nQ]
 by_cases c1:dL L.hs old=false
 ·rw [if_pos c1]
  simp only [if_pos c1] at q
  exact q H (bD.refl H)
 rw [if_neg c1]
 simp only [if_neg c1] at q
 by_cases c2:dL L.hs new=false
 ·rw [if_pos c2]
  simp only [if_pos (show dL L.hs new=false∨new=old from .inl c2)] at q
  exact q H (bD.refl H)
 rw [if_neg c2]
 by_cases c3:new=old
 ·rw [if_pos c3]
  simp only [if_pos (show dL L.hs new=false∨new=old from .inr c3)] at q
  exact q H (bD.refl H)
 rw [if_neg c3]
 simp only [if_neg (show ¬ (dL L.hs new=false∨new=old) from fun z=>z.elim c2 c3)] at q
 refine ⟨_,⟨L,hs,P0,w,ka,ns,-4,rfl,R,hka,hz,rfl⟩,?_⟩
 simp! only []
 by_cases c4:SV.gL w ns (-4)=0
 ·rw [if_neg (by simpa using c4)]
  simp only [c4,not_true_eq_false,if_false] at q
  obtain ⟨_,hkn⟩:=dY (by decide) c4
  obtain ⟨ps,hps,hm,hlen⟩:=gp R hkn
  rw [d7 R _ hps,d7 R _ hps] at q
  refine ⟨L,hs,P0,w,ka,ns,ps,rfl,R,hka,by rw [sizeLine_eq];omega,hps,fun l H' hl0 s1=> ?_⟩
  have s0:=Ext.off hl0 rfl s1
  have R1:=R.mono s0
  have hl':=s1.at_
  have q:=q H' s0.1
  have hzz:(ps.map fun p=>V.ref p.2.a).length≤sizeLine:=by rw [List.length_map,sizeLine_eq];omega
  refine mv (ps.map fun p=>V.ref p.2.a).length (fun i x _=>(ps.map fun p=>V.ref p.2.a)[i]? = some x) (fun i=>(ps[i]?).any fun q=> !(Vbnlai.here q.1 && (q.1.loans == [] && (q.1.owner:Int) == old))) R1.pl hzz ?_ (fun i x H2 N hi s2 hx hN=> ?_) ?_
  ·exact cN rfl hl'
  ·rw [List.getElem?_map] at hx
   cases ek:ps[i]? with
   | none=>rw [ek] at hx;cases hx
   | some p'=>
    rw [ek] at hx
    cases hx
    have R2:=R1.mono s2
    have S:=R2.sheet (hm p' (List.mem_of_getElem? ek))
    have Rw:=R2.row (hm p' (List.mem_of_getElem? ek))
    have hN':=hN H2 (Ext.refl _)
    rw [ek,Option.any_some] at hN'
    dsimp! only [b7,S,Rw,aT,List.length_map]
    by_cases h1:stI p'.1.status=0
    ·rw [if_neg (by simpa using h1)]
     rw [hZ h1,Bool.true_and] at hN'
     by_cases h2:0 < (p'.1.loans.length:Int)
     ·rw [if_pos h2]
      have:(p'.1.loans == [])=false:=by
       cases e:p'.1.loans with
       | nil=>rw [e] at h2;simp at h2
       | cons=>rfl
      rw [this] at hN'
      exact hN'
     ·rw [if_neg h2]
      have:(p'.1.loans == [])=true:=by
       cases e:p'.1.loans with
       | nil=>rfl
       | cons a r=>rw [e] at h2;simp at h2
      rw [this,Bool.true_and,mC] at hN'
      exact hN'
    ·rw [if_pos h1]
     rw [ia h1] at hN'
     exact hN'
  ·refine ⟨_,rfl,?_⟩
   rw [List.length_map,c9]
   by_cases c5:(ps.all fun q=>Vbnlai.here q.1 && (q.1.loans == [] && (q.1.owner:Int) == old))=false
   ·rw [if_pos c5] at q
    rw [if_pos (by rw [bd] at c5;exact c5)]
    exact q
   ·rw [if_neg c5] at q
    rw [if_neg (by rw [bd] at c5;exact c5)]
    refine mv (ps.map fun p=>V.ref p.2.a).length (fun i x _=>(ps.map fun p=>V.ref p.2.a)[i]? = some x) (fun i=>(ps[i]?).any fun q=> !(q.1.type == 0)) R1.pl hzz ?_ (fun i x H2 N hi s2 hx hN=> ?_) ?_
    ·exact cN rfl hl'
    ·rw [List.getElem?_map] at hx
     cases ek:ps[i]? with
     | none=>rw [ek] at hx;cases hx
     | some p'=>
      rw [ek] at hx
      cases hx
      have S:=(R1.mono s2).sheet (hm p' (List.mem_of_getElem? ek))
      have hN':=hN H2 (Ext.refl _)
      rw [ek,Option.any_some] at hN'
      dsimp! only [b7,S]
      have e:(p'.1.type == 0)=decide ((p'.1.type:Int)=0):=by rw [Bool.eq_iff_iff];simp
      rw [e] at hN'
      exact hN'
    ·refine ⟨_,rfl,?_⟩
     rw [List.length_map,c9]
     by_cases c6:(ps.all fun q=>q.1.type == 0)=false
     ·rw [if_pos c6] at q
      rw [if_pos (by rw [bd] at c6;exact c6)]
      exact q
     ·rw [if_neg c6] at q
      rw [if_neg (by rw [bd] at c6;exact c6)]
      exact q
 ·rw [if_pos c4]
  simp only [if_pos c4] at q
  exact q H (bD.refl H)
theorem gR(T:Txt K mg C):Can P w0 K mg base 3 "loan_told" ["numbers"] (mI C):=by
 refine ay T.f_loan_told sc_loan_told (fun vs H Q E h=>by obtain ⟨_,_,_,_,_,_,_,_,rfl,_⟩:=h;rfl) fun f cdv A outer s H vs Q E hr h=> ?_
 refine ⟨_,(a8 (ai (k7 (lJ T) (hr.mono (by decide)) rfl (a6 (aD aq (pv 0) ag (fun _ _=>rfl)) (a6 (aD aq (pv 0) ag (fun _ _=>rfl)) (a6 (aD aq (pv 0) ag (fun _ _=>rfl)) (a6 (aD aq (pv 0) ag (fun _ _=>rfl)) ab))))))),?_⟩
 obtain ⟨na,d,k,a,b,du,o,rest,rfl,hna,q⟩:=h
 simp! only [hna,dO]
 intro x dx hx hdx hne
 refine ⟨x,dx,a,b,du,o,rfl,a9,rfl,?_⟩
 rw [bv]
 refine q x dx _ hx hdx hne a9 ?_ ?_
 ·rw [af hne,a9]
 ·exact (Ext.upd hdx rfl).trans (Ext.upd (by rw [af (Ne.symm hne)];exact hx) rfl)
end
section
variable(C:Cs)
def f7(vs:List V)(H:Hp)(r:V):Prop:=∃ L hs P0 w,∃ d:Nat,∃ e na sa,vs=[.ref L.self,.int (SV.pl e),.ref na,.ref sa]∧bM C H L hs P0 w∧H na=some (.lst (((d:Int) :: SV.ar e).map V.int))∧H sa=some (.lst ((SV.sh e).map V.int))∧SV.Ok32 e ∧
 r = .int (SV.rfs (Vbnlai.act hs w d e))
def jU:Sp:=fun vs H Q _=>∃ r,f7 C vs H r∧Q r H
end
section
variable{P:Program}{w0:World}{K:PySem.W.Frag}{mg:Str→Option Value}{base:Heap}{C:Cs}
theorem jV(T:Txt K mg C):Can P w0 K mg base 5 "own_refusal" ["ledger", "place", "numbers", "sheets"] (jU C):=by
 refine cb (pre:=f7 C) (ay T.f_own_refusal sc_own_refusal (fun vs H Q E h=>by obtain ⟨_,⟨_,_,_,_,_,_,_,_,rfl,_⟩,_⟩:=h;rfl) fun f cdv A outer s H vs Q E hr h=> ?_) fun vs H r h=>by obtain ⟨_,_,_,_,_,_,_,_,_,R,_⟩:=h;exact R.r.pl
 refine ⟨_,(a7 (aw (ak aL (pv 1) (aB T.g_MOVE rfl) (ap _)) (a8 (ai (am (iO T) (hr.mono (by decide)) rfl (a6 (pv 0) (a6 (aD aq (pv 2) ag (fun _ _=>rfl)) (a6 (aD aq (pv 2) ag (fun _ _=>rfl)) ab)))))) aj)
   (a7 (aw (ak aL (pv 1) (aB T.g_RANK rfl) (ap _)) (a8 (ai (am (iR T) (hr.mono (by decide)) rfl (a6 (pv 0) (a6 (aD aq (pv 2) ag (fun _ _=>rfl)) (a6 (aD aq (pv 2) ag (fun _ _=>rfl)) ab)))))) aj)
   (a7 (aw (ak aL (pv 1) (aB T.g_GATHER rfl) (ap _)) (a8 (ai (am (gE T) (hr.mono (by decide)) rfl (a6 (pv 0) (a6 (aD aq (pv 2) ag (fun _ _=>rfl)) (a6 (aD aq (pv 2) ag (fun _ _=>rfl)) (a6 (aD aq (pv 2) ag (fun _ _=>rfl)) (a6 (aD aq (pv 2) ag (fun _ _=>rfl)) ab)))))))) aj)
   (a7 (aw (ak aL (pv 1) (aB T.g_SPLIT rfl) (ap _)) (a8 (ai (am (i8 T) (hr.mono (by decide)) rfl (a6 (pv 0) (a6 (aD aq (pv 2) ag (fun _ _=>rfl)) (a6 (aD aq (pv 2) ag (fun _ _=>rfl)) (a6 (aD aq (pv 2) ag (fun _ _=>rfl)) ab))))))) aj)
   (a7 (aw (ak aL (pv 1) (aB T.g_LEND rfl) (ap _)) (a8 (ai (am (j7 T) (hr.mono (by decide)) rfl (a6 (pv 0) (a6 (aD aq (pv 2) ag (fun _ _=>rfl)) (a6 (aD aq (pv 2) ag (fun _ _=>rfl)) (a6 (am (gR T) (hr.mono (by decide)) rfl (a6 (pv 2) ab)) (a6 (pv 3) ab)))))))) aj)
   (a7 (aw (ak aL (pv 1) (aB T.g_ARRIVE rfl) (ap _)) (a8 (ai (am (gH T) (hr.mono (by decide)) rfl (a6 (pv 0) (a6 (pv 3) ab))))) aj)
   (a7 (aw (ak aL (pv 1) (aB T.g_BACK rfl) (ap _)) (a8 (ai (am (iS T) (hr.mono (by decide)) rfl (a6 (pv 0) (a6 (aD aq (pv 2) ag (fun _ _=>rfl)) (a6 (pv 3) ab)))))) aj)
   (a7 (aw (ak aL (pv 1) (aB T.g_GIVE rfl) (ap _)) (a8 (ai (am (jd T) (hr.mono (by decide)) rfl (a6 (pv 0) (a6 (aD aq (pv 2) ag (fun _ _=>rfl)) (a6 (aD aq (pv 2) ag (fun _ _=>rfl)) (a6 (pv 3) ab))))))) aj)
   (a7 (aw (ak aL (pv 1) (aB T.g_CEDE rfl) (ap _)) (a8 (ai (am (iQ T) (hr.mono (by decide)) rfl (a6 (pv 0) (a6 (aD aq (pv 2) ag (fun _ _=>rfl)) ab))))) aj)
   (a7 (aw (ak aL (pv 1) (aB T.g_EXTEND rfl) (ap _)) (a8 (ai (am (gI T) (hr.mono (by decide)) rfl (a6 (pv 0) (a6 (aD aq (pv 2) ag (fun _ _=>rfl)) (a6 (aD aq (pv 2) ag (fun _ _=>rfl)) ab)))))) aj)
   (a7 (aw (ak aL (pv 1) (aB T.g_LOSE rfl) (ap _)) (a8 (ai (am (j1 T) (hr.mono (by decide)) rfl (a6 (pv 0) (a6 (pv 3) ab))))) aj)
   (a7 (aw (ak aL (pv 1) (aB T.g_FIND rfl) (ap _)) (a8 (ai (am (j0 T) (hr.mono (by decide)) rfl (a6 (pv 0) (a6 (pv 3) ab))))) aj)
   (a7 (aw (ak aL (pv 1) (aB T.g_DESTROY rfl) (ap _)) (a8 (ai (am (g7 T) (hr.mono (by decide)) rfl (a6 (pv 0) (a6 (aD aq (pv 2) ag (fun _ _=>rfl)) ab))))) aj)
   (a7 (aw (ak aL (pv 1) (aB T.g_DETERMINE rfl) (ap _)) (a8 (ai (am (fF T) (hr.mono (by decide)) rfl (a6 (pv 0) (a6 (aD aq (pv 2) ag (fun _ _=>rfl)) (a6 (aD aq (pv 2) ag (fun _ _=>rfl)) (a6 (aD aq (pv 2) ag (fun _ _=>rfl)) (a6 (aD aq (pv 2) ag (fun _ _=>rfl)) ab)))))))) aj)
   (a8 (ai (am (gK T) (hr.mono (by decide)) rfl (a6 (pv 0) (a6 (aD aq (pv 2) ag (fun _ _=>rfl)) (a6 (aD aq (pv 2) ag (fun _ _=>rfl)) ab)))))))))))))))))))),?_⟩
 obtain ⟨r,⟨L,hs,P0,w,d,e,na,sa,rfl,RI,hna,hsa,ok,rfl⟩,q⟩:=h
 have R:=RI.r
 have q1:=q H (bD.refl H)
 cases e with
 | move a b=>
  simp only [SV.pl,SV.ar] at hna ⊢
  simp! only [hna,Int.reduceEq]
  exact ⟨L,hs,P0,w,d,a,b,rfl,R,q1⟩
 | rank a b=>
  simp only [SV.pl,SV.ar] at hna ⊢
  simp! only [hna,Int.reduceEq]
  exact ⟨L,hs,P0,w,d,a,b,rfl,R,q1⟩
 | gather a b c e'=>
  simp only [SV.pl,SV.ar] at hna ⊢
  simp! only [hna,Int.reduceEq]
  exact ⟨L,hs,P0,w,d,a,b,c,e',rfl,R,ok.ar e' (by simp [SV.ar]),q1⟩
 | split a b c=>
  simp only [SV.pl,SV.ar] at hna ⊢
  simp! only [hna,Int.reduceEq]
  exact ⟨L,hs,P0,w,d,a,b,c,rfl,R,ok.ar b (by simp [SV.ar]),q1⟩
 | lend a b c du o l=>
  simp only [SV.pl,SV.ar] at hna ⊢
  simp! only [hna,Int.reduceEq]
  refine ⟨na,d,a,b,c,du,o,[],rfl,hna,fun x dx H' hx hdx hne hx' hdx' x'=> ?_⟩
  exact ⟨_,⟨L,hs,P0,w,d,a,x,dx,b,c,du,o,sa,l,rfl,RI.mono x',hx',x'.1 _ _ hsa,ok.sh,rfl⟩,q _ x'.1⟩
 | arrive l=>
  simp only [SV.pl,SV.ar] at hna ⊢
  simp! only [hna,Int.reduceEq]
  exact ⟨_,⟨L,hs,P0,w,d,sa,l,rfl,R,hsa,ok.sh,rfl⟩,q1⟩
 | back a l=>
  simp only [SV.pl,SV.ar] at hna ⊢
  simp! only [hna,Int.reduceEq]
  exact ⟨_,⟨L,hs,P0,w,d,a,sa,l,rfl,R,hsa,ok.sh,rfl⟩,q1⟩
 | give a b l=>
  simp only [SV.pl,SV.ar] at hna ⊢
  simp! only [hna,Int.reduceEq]
  exact ⟨_,⟨L,hs,P0,w,d,a,b,sa,l,rfl,R,hsa,ok.sh,rfl⟩,q1⟩
 | cede a=>
  simp only [SV.pl,SV.ar] at hna ⊢
  simp! only [hna,Int.reduceEq]
  exact ⟨L,hs,P0,w,d,a,rfl,RI,q1⟩
 | extend a b=>
  simp only [SV.pl,SV.ar] at hna ⊢
  simp! only [hna,Int.reduceEq]
  exact ⟨_,⟨L,hs,P0,w,d,a,b,rfl,RI,rfl⟩,q1⟩
 | lose l=>
  simp only [SV.pl,SV.ar] at hna ⊢
  simp! only [hna,Int.reduceEq]
  exact ⟨_,⟨L,hs,P0,w,d,sa,l,rfl,R,hsa,ok.sh,rfl⟩,q1⟩
 | find l=>
  simp only [SV.pl,SV.ar] at hna ⊢
  simp! only [hna,Int.reduceEq]
  exact ⟨_,⟨L,hs,P0,w,d,sa,l,rfl,R,hsa,ok.sh,rfl⟩,q1⟩
 | destroy a=>
  simp only [SV.pl,SV.ar] at hna ⊢
  simp! only [hna,Int.reduceEq]
  exact ⟨L,hs,P0,w,d,a,rfl,R,q1⟩
 | determine a b c e'=>
  simp only [SV.pl,SV.ar] at hna ⊢
  simp! only [hna,Int.reduceEq]
  exact ⟨L,hs,P0,w,d,a,b,c,e',rfl,RI,q1⟩
 | type a b=>
  simp only [SV.pl,SV.ar] at hna ⊢
  simp! only [hna,Int.reduceEq]
  exact ⟨L,hs,P0,w,d,a,b,rfl,R,q1⟩
end
section
variable(C:Cs)
def o3:Sp:=fun vs H Q _=>∃ L hs P0 w w' d a b,vs=[.ref L.self,.int a,.int b]∧Rep C H L hs P0 w∧Vbnlai.act hs w d (.move a b) = .inr w'∧Did C H L hs P0 w' fun H'=>Q .non H'
def oj:Sp:=fun vs H Q _=>∃ L hs P0 w w' d a b,vs=[.ref L.self,.int a,.int b]∧Rep C H L hs P0 w∧Vbnlai.act hs w d (.rank a b) = .inr w'∧Did C H L hs P0 w' fun H'=>Q .non H'
def mo:Sp:=fun vs H Q _=>∃ L hs P0 w w' d a b,vs=[.ref L.self,.int a,.int b]∧Rep C H L hs P0 w∧Vbnlai.act hs w d (.extend a b) = .inr w'∧Did C H L hs P0 w' fun H'=>Q .non H'
def m9:Sp:=fun vs H Q _=>∃ L hs P0 w w' d a b,vs=[.ref L.self,.int a,.int b]∧Rep C H L hs P0 w∧Vbnlai.act hs w d (.type a b) = .inr w'∧Did C H L hs P0 w' fun H'=>Q .non H'
def kD:Sp:=fun vs H Q _=>∃ L hs P0 w w' d a,vs=[.ref L.self,.int a]∧Rep C H L hs P0 w∧Vbnlai.act hs w d (.destroy a) = .inr w'∧Did C H L hs P0 w' fun H'=>Q .non H'
def nZ:Sp:=fun vs H Q _=>∃ L hs P0 w w' d a,vs=[.ref L.self,.int a]∧Rep C H L hs P0 w∧Vbnlai.act hs w d (.cede a) = .inr w'∧Did C H L hs P0 w' fun H'=>Q .non H'
def j5:Sp:=fun vs H Q _=>∃ L hs P0 w w',∃ d:Nat,∃ a b c e,vs=[.ref L.self,.int d,.int a,.int b,.int c,.int e]∧bM C H L hs P0 w∧Vbnlai.act hs w d (.determine a b c e) = .inr w'∧Did C H L hs P0 w' fun H'=>Q .non H'
end
theorem dG{l:List Nat}{k:Int}(h:¬ (l.any fun h=>(h:Int) == k)=false):((k.toNat:Nat):Int)=k:=by
 have h':=SV.bu h
 obtain ⟨x,_,e⟩:=List.any_eq_true.mp h'
 have:=beq_iff_eq.mp e
 omega
theorem pf_house{p q:Vbnlai.Person}{b:Int}(h:((b.toNat:Nat):Int)=b):b0 "house" (.int b) (bz p q)=bz { p with house:=b.toNat } q:=by
 show [_,_,_,_] = [_,_,_,_]
 rw [h]
theorem pf_rank{p q:Vbnlai.Person}{b:Int}(h:((b.toNat:Nat):Int)=b):b0 "rank" (.int b) (bz p q)=bz { p with rank:=b.toNat } q:=by
 show [_,_,_,_] = [_,_,_,_]
 rw [h]
theorem pf_due{l:Vbnlai.Loan}{b:Int}(h:((b.toNat:Nat):Int)=b):b0 "due" (.int b) (bF l)=bF { l with due:=b.toNat }:=by
 show [_,_,_,_] = [_,_,_,_]
 rw [h]
theorem pf_type{x:Vbnlai.Sheet}{A:SA}{b:Int}(h:((b.toNat:Nat):Int)=b):b0 "typified" (.int b) (aG x A)=aG { x with type:=b.toNat } A:=by
 show [_,_,_,_,_,_] = [_,_,_,_,_,_]
 rw [h]
theorem kW{x:Vbnlai.Sheet}{A:SA}{b:Nat}:b0 "owner" (.int (b:Int)) (aG x A)=aG { x with owner:=b } A:=rfl
theorem si0(n:Nat):seqIndex? 0 (n + 1)=some 0:=(pV (n:=n + 1) (i:=0) (j:=0) (by unfold ixN;rw [if_pos (by omega),if_pos (by omega)];rfl)).1
theorem dQ{x:Vbnlai.Sheet}{A:SA}(s:Vbnlai.Status){b:Int}(h:stI s=b):b0 "status" (.int b) (aG x A)=aG { x with status:=s } A:=by
 subst h;rfl
theorem dX{a:Int}{k j:Nat}(h:(j:Int)=a):(([a]:List Int).contains (k:Int)=true)=(k=j):=by
 rw [eq_iff_iff]
 simp
 omega
section
variable{P:Program}{w0:World}{K:PySem.W.Frag}{mg:Str→Option Value}{base:Heap}{C:Cs}
theorem pb(T:Txt K mg C):Can P w0 K mg base 1 "do_move" ["ledger", "person", "house"] (o3 C):=by
 refine ay T.f_do_move sc_do_move (fun vs H Q E h=>by obtain ⟨_,_,_,_,_,_,_,_,rfl,_⟩:=h;rfl) fun f cdv A outer s H vs Q E hr h=> ?_
 refine ⟨_,(a8 (aH (K:=K) rfl (aP (aM hr) (ae (K:=K) rfl (pv 0) rfl) (pv 1) (fun _ _=>rfl)) (pv 2) rfl)),?_⟩
 obtain ⟨L,hs,P0,w,w',d,a,b,rfl,R,ha,q⟩:=h
 simp only [Vbnlai.act,R.personOf] at ha
 cases e:L.pn a with
 | none=>rw [e] at ha;cases ha
 | some p=>
  rw [e] at ha
  obtain ⟨h1,ha⟩:=SV.ac ha
  cases ha
  have hc:=dG h1
  obtain ⟨hm,hpk⟩:=km e
  have hP:=R.person hm
  obtain ⟨R',fr⟩:=R.putP e (fun y=>{ y with house:=b.toNat }) (fun _=>rfl)
  dsimp! only [R.self,R.pD,fz,e,Option.map_some,hP,pf_house hc]
  refine ⟨show 4 < 1000 by decide,q _ _ (R'.world (List.Perm.of_eq ?_) (List.Perm.refl _) (List.Perm.refl _) (List.Perm.refl _)) fr rfl rfl⟩
  simp only [dX hpk]
theorem oB(T:Txt K mg C):Can P w0 K mg base 1 "do_rank" ["ledger", "person", "rank"] (oj C):=by
 refine ay T.f_do_rank sc_do_rank (fun vs H Q E h=>by obtain ⟨_,_,_,_,_,_,_,_,rfl,_⟩:=h;rfl) fun f cdv A outer s H vs Q E hr h=> ?_
 refine ⟨_,(a8 (aH (K:=K) rfl (aP (aM hr) (ae (K:=K) rfl (pv 0) rfl) (pv 1) (fun _ _=>rfl)) (pv 2) rfl)),?_⟩
 obtain ⟨L,hs,P0,w,w',d,a,b,rfl,R,ha,q⟩:=h
 simp only [Vbnlai.act,R.personOf] at ha
 cases e:L.pn a with
 | none=>rw [e] at ha;cases ha
 | some p=>
  rw [e] at ha
  obtain ⟨h1,ha⟩:=SV.ac ha
  cases ha
  have hc:=SV.cC.mp (SV.bu h1)
  obtain ⟨hm,hpk⟩:=km e
  have hP:=R.person hm
  obtain ⟨R',fr⟩:=R.putP e (fun y=>{ y with rank:=b.toNat }) (fun _=>rfl)
  dsimp! only [R.self,R.pD,fz,e,Option.map_some,hP,pf_rank (show ((b.toNat:Nat):Int)=b by omega)]
  refine ⟨show 4 < 1000 by decide,q _ _ (R'.world (List.Perm.of_eq ?_) (List.Perm.refl _) (List.Perm.refl _) (List.Perm.refl _)) fr rfl rfl⟩
  simp only [dX hpk]
theorem lO(T:Txt K mg C):Can P w0 K mg base 1 "do_extend" ["ledger", "loan", "due"] (mo C):=by
 refine ay T.f_do_extend sc_do_extend (fun vs H Q E h=>by obtain ⟨_,_,_,_,_,_,_,_,rfl,_⟩:=h;rfl) fun f cdv A outer s H vs Q E hr h=> ?_
 refine ⟨_,(a8 (aH (K:=K) rfl (aP (aM hr) (ae (K:=K) rfl (pv 0) rfl) (pv 1) (fun _ _=>rfl)) (pv 2) rfl)),?_⟩
 obtain ⟨L,hs,P0,w,w',d,a,b,rfl,R,ha,q⟩:=h
 simp only [Vbnlai.act,R.loanZ] at ha
 cases e:L.ln a with
 | none=>rw [e] at ha;cases ha
 | some p=>
  rw [e] at ha
  obtain ⟨_,ha⟩:=SV.ac ha
  obtain ⟨h2,ha⟩:=SV.ac ha
  obtain ⟨_,ha⟩:=SV.ac ha
  cases ha
  have hc:=SV.qu.mp (SV.bu (fun z=>h2 (.inl z)))
  obtain ⟨hm,hpk⟩:=fB e
  have hP:=R.loan hm
  obtain ⟨R',fr⟩:=R.putL e (fun y=>{ y with due:=b.toNat }) (fun _=>rfl)
  dsimp! only [R.self,R.lD,g5,e,Option.map_some,hP,pf_due (show ((b.toNat:Nat):Int)=b by omega)]
  refine ⟨show 4 < 1000 by decide,q _ _ (R'.world (List.Perm.refl _) (List.Perm.refl _) (List.Perm.refl _) (List.Perm.of_eq ?_)) fr rfl rfl⟩
  simp only [dX hpk]
theorem lV(T:Txt K mg C):Can P w0 K mg base 1 "do_typify" ["ledger", "key", "name"] (m9 C):=by
 refine ay T.f_do_typify sc_do_typify (fun vs H Q E h=>by obtain ⟨_,_,_,_,_,_,_,_,rfl,_⟩:=h;rfl) fun f cdv A outer s H vs Q E hr h=> ?_
 refine ⟨_,(a8 (aH (K:=K) rfl (aP (aM hr) (ae (K:=K) rfl (pv 0) rfl) (pv 1) (fun _ _=>rfl)) (pv 2) rfl)),?_⟩
 obtain ⟨L,hs,P0,w,w',d,a,b,rfl,R,ha,q⟩:=h
 simp only [Vbnlai.act,R.sheetOf] at ha
 cases e:L.sh a with
 | none=>rw [e] at ha;cases ha
 | some p=>
  rw [e] at ha
  obtain ⟨_,ha⟩:=SV.ac ha
  obtain ⟨_,ha⟩:=SV.ac ha
  obtain ⟨_,ha⟩:=SV.ac ha
  obtain ⟨h2,ha⟩:=SV.ac ha
  cases ha
  have hc:=SV.db.mp (SV.bu h2)
  have hP:=R.sheet (b5 e).1
  obtain ⟨R',fr⟩:=R.setS (x:=p.1) (A:=p.2) e (fun y=>{ y with type:=b.toNat }) (fun _=>rfl) rfl rfl
  dsimp! only [R.self,R.sD,bL,e,Option.map_some,hP,pf_type (show ((b.toNat:Nat):Int)=b by omega)]
  exact ⟨show 6 < 1000 by decide,q _ _ R' fr rfl rfl⟩
theorem kt(T:Txt K mg C):Can P w0 K mg base 1 "do_destroy" ["ledger", "key"] (kD C):=by
 refine ay T.f_do_destroy sc_do_destroy (fun vs H Q E h=>by obtain ⟨_,_,_,_,_,_,_,rfl,_⟩:=h;rfl) fun f cdv A outer s H vs Q E hr h=> ?_
 refine ⟨_,(a8 (aH (K:=K) rfl (aP (aM hr) (ae (K:=K) rfl (pv 0) rfl) (pv 1) (fun _ _=>rfl)) (aB T.g_DESTROYED rfl) rfl)),?_⟩
 obtain ⟨L,hs,P0,w,w',d,a,rfl,R,ha,q⟩:=h
 simp only [Vbnlai.act,R.sheetOf] at ha
 cases e:L.sh a with
 | none=>rw [e] at ha;cases ha
 | some p=>
  rw [e] at ha
  obtain ⟨_,ha⟩:=SV.ac ha
  obtain ⟨_,ha⟩:=SV.ac ha
  obtain ⟨_,ha⟩:=SV.ac ha
  cases ha
  have hP:=R.sheet (b5 e).1
  obtain ⟨R',fr⟩:=R.setS (x:=p.1) (A:=p.2) e (fun y=>{ y with status:=.destroyed }) (fun _=>rfl) rfl rfl
  dsimp! only [R.self,R.sD,bL,e,Option.map_some,hP,dQ .destroyed (show stI .destroyed=3 from rfl)]
  exact ⟨show 6 < 1000 by decide,q _ _ R' fr rfl rfl⟩
theorem oV(T:Txt K mg C):Can P w0 K mg base 1 "do_cede" ["ledger", "key"] (nZ C):=by
 refine ay T.f_do_cede sc_do_cede (fun vs H Q E h=>by obtain ⟨_,_,_,_,_,_,_,rfl,_⟩:=h;rfl) fun f cdv A outer s H vs Q E hr h=> ?_
 refine ⟨_,(a7 (aI (i:=2) (sc_do_cede).nd rfl (by trivial) (aP (aM hr) (ae (K:=K) rfl (pv 0) rfl) (pv 1) (fun _ _=>rfl)))
   (a7 (aI (i:=3) (sc_do_cede).nd rfl (by trivial) (cq PySem.F.plainAttrs_list PySem.F.slot_list_pop PySem.F.type_list_pop mt_popAt (ae (K:=K) rfl (pv 2) rfl) (a6 ag ab)))
   (a8 (aH (K:=K) rfl (pv 2) (ae (K:=K) rfl (aP (aM hr) (ae (K:=K) rfl (pv 0) rfl) (pv 3) (fun _ _=>rfl)) rfl) rfl)))),?_⟩
 obtain ⟨L,hs,P0,w,w',d,a,rfl,R,ha,q⟩:=h
 simp only [Vbnlai.act,R.sheetOf] at ha
 cases e:L.sh a with
 | none=>rw [e] at ha;cases ha
 | some p=>
  rw [e] at ha
  obtain ⟨_,ha⟩:=SV.ac ha
  have hP:=R.sheet (b5 e).1
  have hW:=R.row (b5 e).1
  cases el:p.1.loans with
  | nil=>simp only [el] at ha;cases ha
  | cons k r=>
   simp only [el] at ha
   obtain ⟨_,ha⟩:=SV.ac ha
   rw [R.loanOf] at ha
   cases e2:L.ln k with
   | none=>rw [e2] at ha;cases ha
   | some l=>
    rw [e2] at ha
    cases ha
    have hL:=R.loan (fB e2).1
    have hv:bo (kvL L.ls) (Sum.inl (k:Int))=some (.ref l.2.a):=by rw [g5,e2];rfl
    rw [el] at hW
    simp only [aT,List.map_cons] at hW
    have n1:L.self≠p.2.la:=cu R.self hW (by intro z;cases z)
    have n2:L.lD≠p.2.la:=cu R.lD hW (by intro z;cases z)
    have n3:l.2.a≠p.2.la:=cu hL hW (by intro z;cases z)
    have n4:p.2.a≠p.2.la:=cu hP hW (by intro z;cases z)
    dsimp! only [R.self,R.sD,R.lD,bL,e,Option.map_some,hP,hW,hv,hL,af n1,af n2,af n3,af n4,si0,List.eraseIdx_cons_zero,kW]
    obtain ⟨R',fr⟩:=R.setSL (x:=p.1) (A:=p.2) e (fun y=>{ y with owner:=l.1.borrower,loans:=r }) (fun _=>rfl) rfl
    exact ⟨by decide,by decide,show 6 < 1000 by decide,q _ _ R' fr rfl rfl⟩
theorem iW(T:Txt K mg C):Can P w0 K mg base 3 "do_determine" ["ledger", "day", "key", "person", "name", "conf"] (j5 C):=by
 refine ay T.f_do_determine sc_do_determine (fun vs H Q E h=>by obtain ⟨_,_,_,_,_,_,_,_,_,_,rfl,_⟩:=h;rfl) fun f cdv A outer s H vs Q E hr h=> ?_
 refine ⟨_,(a7 (aI (i:=6) (sc_do_determine).nd rfl (by trivial) (ae (K:=K) rfl (aP (aM hr) (ae (K:=K) rfl (pv 0) rfl) (pv 3) (fun _ _=>rfl)) rfl))
   (a8 (aY (cq PySem.F.plainAttrs_list PySem.F.slot_list_append PySem.F.type_list_append cD (ae (K:=K) rfl (aP (aM hr) (ae (K:=K) rfl (pv 0) rfl) (pv 2) (fun _ _=>rfl)) rfl) (a6 (k7 (eX T) (hr.mono (by decide)) rfl (a6 (pv 1) (a6 (pv 3) (a6 (pv 6) (a6 (pv 4) (a6 (pv 5) ab)))))) ab))))),?_⟩
 obtain ⟨L,hs,P0,w,w',d,a,b,c,e',rfl,RI,ha,q⟩:=h
 have R:=RI.r
 simp only [Vbnlai.act,R.sheetOf,R.personOf] at ha
 cases e:L.sh a with
 | none=>rw [e] at ha;cases ha
 | some x=>
  cases e2:L.pn b with
  | none=>rw [e,e2] at ha;cases ha
  | some p=>
   rw [e,e2] at ha
   obtain ⟨_,ha⟩:=SV.ac ha
   obtain ⟨_,ha⟩:=SV.ac ha
   obtain ⟨h3,ha⟩:=SV.ac ha
   obtain ⟨h4,ha⟩:=SV.ac ha
   cases ha
   have hc:=SV.db.mp (SV.bu h3)
   have hw:=SV.cC.mp (SV.bu h4)
   have hX:=R.sheet (b5 e).1
   have hD:=R.dts (b5 e).1
   obtain ⟨hpm,hpk⟩:=km e2
   have hP:=R.person hpm
   dsimp! only [R.self,R.sD,R.pD,bL,fz,e,e2,Option.map_some,hX,hP,hD,dO]
   intro x1 dx1 hx1 hdx1 hne
   refine ⟨x1,dx1,d,b,p.1.1.rank,c,e',rfl,a9,rfl,?_⟩
   rw [bv]
   have ex:Ext H (upd (upd H dx1 (.own x1)) x1 (.ins C.Determination dx1 [("day",V.int d),("person",V.int b),("rank",V.int p.1.1.rank),("name",V.int c),("conf",V.int e')])):=(Ext.upd hdx1 rfl).trans (Ext.upd (by rw [af (Ne.symm hne)];exact hx1) rfl)
   have hx':upd (upd H dx1 (.own x1)) x1 (.ins C.Determination dx1 [("day",V.int d),("person",V.int b),("rank",V.int p.1.1.rank),("name",V.int c),("conf",V.int e')]) x1=some (.ins C.Determination dx1 (cI { person:=p.1.1.key,day:=d,rank:=p.1.1.rank,name:=c.toNat,conf:=e'.toNat })):=by
    rw [a9]
    unfold cI
    simp only
    rw [hpk,show ((c.toNat:Nat):Int)=c by omega,show ((e'.toNat:Nat):Int)=e' by omega]
   generalize upd (upd H dx1 (.own x1)) x1 (.ins C.Determination dx1 [("day",V.int d),("person",V.int b),("rank",V.int p.1.1.rank),("name",V.int c),("conf",V.int e')])=H1 at ex hx' ⊢
   have R1:=R.mono ex
   obtain ⟨L',R',fr,g1,g2⟩:=R1.addD (x:=x.1) (A:=x.2) e { person:=p.1.1.key,day:=d,rank:=p.1.1.rank,name:=c.toNat,conf:=e'.toNat } x1 ⟨R.cs.free hx1,dx1,hx'⟩
   refine ⟨_,ex.1 _ _ hD,?_,?_⟩
   ·obtain ⟨n,hn,inv⟩:=RI.inv
    have h1:=Paired.length (R.ds x (b5 e).1)
    have h2:=(inv.few x.1 (gB R (b5 e).1)).2
    rw [List.length_map,sizeLine_eq]
    omega
   ·have:=q _ _ R' ((Fr.ext ex).trans fr) g1 g2
    rw [List.map_append] at this
    exact this
end
structure gm(C:Cs)(H1:Hp)(L:Lay)(hs:List Nat)(P0:List Vbnlai.Person)(w:Vbnlai.World)(f:Vbnlai.Sheet→Vbnlai.Sheet)(ns:List Int)(ps:List (Vbnlai.Sheet×SA))(i:Nat)(H':Hp)(L':Lay):Prop where
 rep:Rep C H' L' hs P0 (Vbnlai.change w (ns.take i) f)
 fr:Fr C H1 L H' L'
 rest:∀ (j:Nat) k p,i≤j→ns[j]? = some k→ps[j]? = some p→L'.sh k=some p
 self:L'.self=L.self
 log:L'.log=L.log
section
variable{C:Cs}{H1 H' H2:Hp}{L L':Lay}{hs:List Nat}{P0:List Vbnlai.Person}{w:Vbnlai.World}{f:Vbnlai.Sheet→Vbnlai.Sheet}{ns:List Int}{ps:List (Vbnlai.Sheet×SA)}{i:Nat}{k:Int}
theorem gq(h:ns.map L.sh=ps.map some){j:Nat}{p:Vbnlai.Sheet×SA}(hp:ps[j]? = some p):∃ k,ns[j]? = some k∧L.sh k=some p:=by
 have:=congrArg (fun l=>l[j]?) h
 simp only [List.getElem?_map,hp,Option.map_some] at this
 cases e:ns[j]? with
 | none=>rw [e] at this;cases this
 | some k=>rw [e] at this;exact ⟨k,rfl,Option.some.inj this⟩
theorem gm.start(R:Rep C H1 L hs P0 w)(h:ns.map L.sh=ps.map some):gm C H1 L hs P0 w f ns ps 0 H1 L:=by
 refine ⟨?_,Fr.refl,fun j k p _ hk hp=> ?_,rfl,rfl⟩
 ·rw [List.take_zero,SV.change_nil];exact R
 ·obtain ⟨k',e1,e2⟩:=gq h hp
  rw [hk] at e1
  cases e1
  exact e2
theorem gm.step(I:gm C H1 L hs P0 w f ns ps i H' L')(hf:∀ x,(f x).key=x.key)(nd:ns.Nodup)(hk:ns[i]? = some k)(R2:Rep C H2 (L'.put k f id) hs P0 (Vbnlai.change (Vbnlai.change w (ns.take i) f) [k] f))(fr:Fr C H' L' H2 (L'.put k f id)) :
  gm C H1 L hs P0 w f ns ps (i + 1) H2 (L'.put k f id):=by
 have hi:=(List.getElem?_eq_some_iff.mp hk).1
 have et:ns.take (i + 1)=ns.take i ++ [k]:=by rw [List.take_add_one,hk];rfl
 have hn:k∉ns.take i:=fun z=>by
  obtain ⟨j,hj,e⟩:=List.getElem_of_mem z
  rw [List.length_take] at hj
  have h1:ns[j]? = some k:=by rw [List.getElem_take] at e;rw [List.getElem?_eq_getElem (by omega),e]
  have:=mN nd h1 hk
  omega
 refine ⟨?_,I.fr.trans fr,fun j k' p hj hk' hp=> ?_,I.self,I.log⟩
 ·rw [et,SV.change_snoc hf hn]
  exact R2
 ·have hne:k'≠k:=fun z=>by
   subst z
   have:=mN nd hk' hk
   omega
  rw [Lay.put_sh hf,I.rest j k' p (by omega) hk' hp]
  simp [hne]
theorem gm.did(I:gm C H1 L hs P0 w f ns ps ns.length H' L'):Rep C H' L' hs P0 (Vbnlai.change w ns f):=by
 have:=I.rep
 rw [List.take_length] at this
 exact this
end
section
variable(C:Cs)
def kG:Sp:=fun vs H Q _=>∃ L hs P0 w ka st,∃ ns:List Int,∃ st':Vbnlai.Status,vs=[.ref L.self,.ref ka,.int st]∧Rep C H L hs P0 w∧H ka=some (.lst (ns.map V.int))∧Vbnlai.listOk ns=true∧Vbnlai.known w ns=true∧stI st'=st ∧
 Did C H L hs P0 (Vbnlai.change w ns fun x=>{ x with status:=st' }) fun H'=>Q .non H'
def gf(f:Vbnlai.Sheet→Vbnlai.Sheet):Sp:=fun vs H Q _=>∃ L hs P0 w ka,∃ ns:List Int,vs=[.ref L.self,.ref ka]∧Rep C H L hs P0 w∧H ka=some (.lst (ns.map V.int))∧Vbnlai.listOk ns=true∧Vbnlai.known w ns=true ∧
 Did C H L hs P0 (Vbnlai.change w ns f) fun H'=>Q .non H'
def ol:Sp:=fun vs H Q _=>∃ L hs P0 w ka,∃ ns:List Int,vs=[.ref L.self,.ref ka]∧Rep C H L hs P0 w∧H ka=some (.lst (ns.map V.int))∧Vbnlai.listOk ns=true∧Vbnlai.known w ns=true∧(Vbnlai.each w ns fun x=> !x.loans.isEmpty)=true ∧
 Did C H L hs P0 (Vbnlai.change w ns fun x=>{ x with loans:=x.loans.dropLast,status:=.way }) fun H'=>Q .non H'
def oh:Sp:=fun vs H Q _=>∃ L hs P0 w,∃ new:Nat,∃ ka,∃ ns:List Int,vs=[.ref L.self,.int new,.ref ka]∧Rep C H L hs P0 w∧H ka=some (.lst (ns.map V.int))∧Vbnlai.listOk ns=true∧Vbnlai.known w ns=true ∧
 Did C H L hs P0 (Vbnlai.change w ns fun x=>{ x with owner:=new,status:=.way }) fun H'=>Q .non H'
def pE:Sp:=fun vs H Q _=>∃ L hs P0 w l la dx ka,∃ ns:List Int,vs=[.ref L.self,.int (l.key:Nat),.ref la,.ref ka]∧bM C H L hs P0 w∧H la=some (.ins C.Loan dx (bF l))∧H dx=some (.own la)∧la∉aS C L∧dx∉aS C L∧dx≠la∧L.ln l.key=none∧L.ls.length≤40 ∧
 H ka=some (.lst (ns.map V.int))∧Vbnlai.listOk ns=true∧Vbnlai.known w ns=true ∧
 ∀ H' L',Rep C H' L' hs P0 (Vbnlai.change { w with loans:=Vbnlai.place Vbnlai.Loan.key l w.loans } ns fun x=>{ x with loans:=x.loans ++ [l.key],status:=.way })→(∀ a o,H a=some o→a∉aS C L→a≠la→a≠dx→H' a=some o)→(∀ a,a∈aS C L'→a∈aS C L∨a=la∨a=dx∨H a=none)→L'.self=L.self→L'.log=L.log→Q .non H'
end
theorem cX{ns:List Int}(h:Vbnlai.listOk ns=true):ns.Nodup∧ns.length≤8:=by
 unfold Vbnlai.listOk Vbnlai.MOST at h
 simp only [Bool.and_eq_true,decide_eq_true_eq] at h
 exact ⟨SV.fb.mp h.2.2,h.2.1⟩
section
variable{P:Program}{w0:World}{K:PySem.W.Frag}{mg:Str→Option Value}{base:Heap}{C:Cs}
theorem dC(T:Txt K mg C):Can P w0 K mg base 2 "put_status" ["ledger", "keys", "status"] (kG C):=by
 refine ay T.f_put_status sc_put_status (fun vs H Q E h=>by obtain ⟨_,_,_,_,_,_,_,_,rfl,_⟩:=h;rfl) fun f cdv A outer s H vs Q E hr h=> ?_
 refine ⟨_,(a8 (bO PassesOwn.never rfl (aN (K:=K) rfl (am (bn T) (hr.mono (by decide)) rfl (a6 (pv 0) (a6 (pv 1) ab)))) (aC (i:=3) (sc_put_status).nd rfl (by trivial)) (a8 (aH (K:=K) rfl (pv 3) (pv 2) rfl)))),?_⟩
 obtain ⟨L,hs,P0,w,ka,st,ns,st',rfl,R,hka,hok,hkn,hst,q⟩:=h
 obtain ⟨nd,h8⟩:=cX hok
 obtain ⟨ps,hps,hm,hlen⟩:=gp R hkn
 refine ⟨_,rfl,_,rfl,L,hs,P0,w,ka,ns,ps,rfl,R,hka,by rw [sizeLine_eq];omega,hps,fun l H' hl0 s1=>⟨l,_,rfl,s1.at_,?_⟩⟩
 have s0:=Ext.off hl0 rfl s1
 have R1:=R.mono s0
 have hlf:l∉aS C L:=R.cs.free hl0
 refine di (xs:=ps.map fun p=>V.ref p.2.a) (fun i σ2 H2=>(∃ v:Option V,σ2=[some (V.ref L.self),some (V.ref ka),some (V.int st),v])∧∃ M2,gm C H' L hs P0 w (fun x=>{ x with status:=st' }) ns ps i H2 M2) ⟨⟨none,rfl⟩,L,gm.start R1 hps⟩ (fun i σ2 H2 _ h=> ?_) (fun i x σ2 H2 hx h=> ?_) (fun σ2 H2 h=> ?_)
 ·obtain ⟨_,M2,I⟩:=h
  exact SqL.of (I.fr.keep _ _ s1.at_ hlf)
 ·obtain ⟨⟨v,rfl⟩,M2,I⟩:=h
  rw [List.getElem?_map] at hx
  cases ek:ps[i]? with
  | none=>rw [ek] at hx;cases hx
  | some p=>
   rw [ek] at hx
   cases hx
   obtain ⟨k,hk,_⟩:=gq hps ek
   have hsh:=I.rest i k p (Nat.le_refl _) hk ek
   have S:=I.rep.sheet (b5 hsh).1
   obtain ⟨R2,fr2⟩:=I.rep.setS (x:=p.1) (A:=p.2) hsh (fun x=>{ x with status:=st' }) (fun _=>rfl) rfl rfl
   dsimp! only [S,dQ st' hst]
   exact ⟨show 6 < 1000 by decide,_,I.step (fun _=>rfl) nd hk R2 fr2⟩
 ·obtain ⟨⟨v,rfl⟩,M2,I⟩:=h
  rw [List.length_map,hlen] at I
  exact q _ _ I.did ((Fr.ext s0).trans I.fr) I.self I.log
theorem mj(T:Txt K mg C):Can P w0 K mg base 3 "do_arrive" ["ledger", "keys"] (gf C fun x=>{ x with status:=.here }):=by
 refine ay T.f_do_arrive sc_do_arrive (fun vs H Q E h=>by obtain ⟨_,_,_,_,_,_,rfl,_⟩:=h;rfl) fun f cdv A outer s H vs Q E hr h=> ?_
 refine ⟨_,(a8 (aY (am (dC T) (hr.mono (by decide)) rfl (a6 (pv 0) (a6 (pv 1) (a6 (aB T.g_HERE rfl) ab)))))),?_⟩
 obtain ⟨L,hs,P0,w,ka,ns,rfl,R,hka,hok,hkn,q⟩:=h
 simp! only []
 exact ⟨L,hs,P0,w,ka,0,ns,.here,rfl,R,hka,hok,hkn,rfl,q⟩
theorem pd(T:Txt K mg C):Can P w0 K mg base 3 "do_lose" ["ledger", "keys"] (gf C fun x=>{ x with status:=.lost }):=by
 refine ay T.f_do_lose sc_do_lose (fun vs H Q E h=>by obtain ⟨_,_,_,_,_,_,rfl,_⟩:=h;rfl) fun f cdv A outer s H vs Q E hr h=> ?_
 refine ⟨_,(a8 (aY (am (dC T) (hr.mono (by decide)) rfl (a6 (pv 0) (a6 (pv 1) (a6 (aB T.g_LOST rfl) ab)))))),?_⟩
 obtain ⟨L,hs,P0,w,ka,ns,rfl,R,hka,hok,hkn,q⟩:=h
 simp! only []
 exact ⟨L,hs,P0,w,ka,2,ns,.lost,rfl,R,hka,hok,hkn,rfl,q⟩
theorem oX(T:Txt K mg C):Can P w0 K mg base 3 "do_find" ["ledger", "keys"] (gf C fun x=>{ x with status:=.here }):=by
 refine ay T.f_do_find sc_do_find (fun vs H Q E h=>by obtain ⟨_,_,_,_,_,_,rfl,_⟩:=h;rfl) fun f cdv A outer s H vs Q E hr h=> ?_
 refine ⟨_,(a8 (aY (am (dC T) (hr.mono (by decide)) rfl (a6 (pv 0) (a6 (pv 1) (a6 (aB T.g_HERE rfl) ab)))))),?_⟩
 obtain ⟨L,hs,P0,w,ka,ns,rfl,R,hka,hok,hkn,q⟩:=h
 simp! only []
 exact ⟨L,hs,P0,w,ka,0,ns,.here,rfl,R,hka,hok,hkn,rfl,q⟩
theorem oC(T:Txt K mg C):Can P w0 K mg base 2 "do_back" ["ledger", "keys"] (ol C):=by
 refine ay T.f_do_back sc_do_back (fun vs H Q E h=>by obtain ⟨_,_,_,_,_,_,rfl,_⟩:=h;rfl) fun f cdv A outer s H vs Q E hr h=> ?_
 refine ⟨_,(a8 (bO PassesOwn.never rfl (aN (K:=K) rfl (am (bn T) (hr.mono (by decide)) rfl (a6 (pv 0) (a6 (pv 1) ab)))) (aC (i:=2) (sc_do_back).nd rfl (by trivial)) (a7 (aY (pe_bm0T PySem.F.plainAttrs_list PySem.F.slot_list_pop PySem.F.type_list_pop mt_pop (ae (K:=K) rfl (pv 2) rfl)))
   (a8 (aH (K:=K) rfl (pv 2) (aB T.g_ON_THE_WAY rfl) rfl))))),?_⟩
 obtain ⟨L,hs,P0,w,ka,ns,rfl,R,hka,hok,hkn,hne,q⟩:=h
 obtain ⟨nd,h8⟩:=cX hok
 obtain ⟨ps,hps,hm,hlen⟩:=gp R hkn
 rw [d7 R _ hps] at hne
 refine ⟨_,rfl,_,rfl,L,hs,P0,w,ka,ns,ps,rfl,R,hka,by rw [sizeLine_eq];omega,hps,fun l H' hl0 s1=>⟨l,_,rfl,s1.at_,?_⟩⟩
 have s0:=Ext.off hl0 rfl s1
 have R1:=R.mono s0
 have hlf:l∉aS C L:=R.cs.free hl0
 refine di (xs:=ps.map fun p=>V.ref p.2.a) (fun i σ2 H2=>(∃ v:Option V,σ2=[some (V.ref L.self),some (V.ref ka),v])∧∃ M2,gm C H' L hs P0 w (fun x=>{ x with loans:=x.loans.dropLast,status:=.way }) ns ps i H2 M2) ⟨⟨none,rfl⟩,L,gm.start R1 hps⟩ (fun i σ2 H2 _ h=> ?_) (fun i x σ2 H2 hx h=> ?_) (fun σ2 H2 h=> ?_)
 ·obtain ⟨_,M2,I⟩:=h
  exact SqL.of (I.fr.keep _ _ s1.at_ hlf)
 ·obtain ⟨⟨v,rfl⟩,M2,I⟩:=h
  rw [List.getElem?_map] at hx
  cases ek:ps[i]? with
  | none=>rw [ek] at hx;cases hx
  | some p=>
   rw [ek] at hx
   cases hx
   obtain ⟨k,hk,_⟩:=gq hps ek
   have hsh:=I.rest i k p (Nat.le_refl _) hk ek
   have S:=I.rep.sheet (b5 hsh).1
   have Rw:=I.rep.row (b5 hsh).1
   have nz:p.1.loans≠[]:=by
    have:=List.all_eq_true.mp hne p (List.mem_of_getElem? ek)
    intro z
    rw [z] at this
    cases this
   have n4:p.2.a≠p.2.la:=cu S Rw (by intro z;cases z)
   have hl1:(aT p.1.loans)[(aT p.1.loans).length - 1]? = some (.int (p.1.loans.getLast nz:Nat)):=by
    unfold aT
    rw [List.length_map,List.getElem?_map,← List.getLast?_eq_getElem?,List.getLast?_eq_some_getLast nz]
    rfl
   have hdl:(aT p.1.loans).dropLast=aT p.1.loans.dropLast:=by unfold aT;rw [List.map_dropLast]
   obtain ⟨R2,fr2⟩:=I.rep.setSL (x:=p.1) (A:=p.2) hsh (fun x=>{ x with loans:=x.loans.dropLast,status:=.way }) (fun _=>rfl) rfl
   dsimp! only [S,Rw,hl1,hdl,af n4,dQ .way (show stI .way=1 from rfl)]
   exact ⟨show 6 < 1000 by decide,_,I.step (fun _=>rfl) nd hk R2 fr2⟩
 ·obtain ⟨⟨v,rfl⟩,M2,I⟩:=h
  rw [List.length_map,hlen] at I
  exact q _ _ I.did ((Fr.ext s0).trans I.fr) I.self I.log
theorem pC(T:Txt K mg C):Can P w0 K mg base 2 "do_give" ["ledger", "new", "keys"] (oh C):=by
 refine ay T.f_do_give sc_do_give (fun vs H Q E h=>by obtain ⟨_,_,_,_,_,_,_,rfl,_⟩:=h;rfl) fun f cdv A outer s H vs Q E hr h=> ?_
 refine ⟨_,(a8 (bO PassesOwn.never rfl (aN (K:=K) rfl (am (bn T) (hr.mono (by decide)) rfl (a6 (pv 0) (a6 (pv 2) ab)))) (aC (i:=3) (sc_do_give).nd rfl (by trivial)) (a7 (aH (K:=K) rfl (pv 3) (pv 1) rfl)
   (a8 (aH (K:=K) rfl (pv 3) (aB T.g_ON_THE_WAY rfl) rfl))))),?_⟩
 obtain ⟨L,hs,P0,w,new,ka,ns,rfl,R,hka,hok,hkn,q⟩:=h
 obtain ⟨nd,h8⟩:=cX hok
 obtain ⟨ps,hps,hm,hlen⟩:=gp R hkn
 refine ⟨_,rfl,_,rfl,L,hs,P0,w,ka,ns,ps,rfl,R,hka,by rw [sizeLine_eq];omega,hps,fun l H' hl0 s1=>⟨l,_,rfl,s1.at_,?_⟩⟩
 have s0:=Ext.off hl0 rfl s1
 have R1:=R.mono s0
 have hlf:l∉aS C L:=R.cs.free hl0
 refine di (xs:=ps.map fun p=>V.ref p.2.a) (fun i σ2 H2=>(∃ v:Option V,σ2=[some (V.ref L.self),some (V.int new),some (V.ref ka),v])∧∃ M2,gm C H' L hs P0 w (fun x=>{ x with owner:=new,status:=.way }) ns ps i H2 M2) ⟨⟨none,rfl⟩,L,gm.start R1 hps⟩ (fun i σ2 H2 _ h=> ?_) (fun i x σ2 H2 hx h=> ?_) (fun σ2 H2 h=> ?_)
 ·obtain ⟨_,M2,I⟩:=h
  exact SqL.of (I.fr.keep _ _ s1.at_ hlf)
 ·obtain ⟨⟨v,rfl⟩,M2,I⟩:=h
  rw [List.getElem?_map] at hx
  cases ek:ps[i]? with
  | none=>rw [ek] at hx;cases hx
  | some p=>
   rw [ek] at hx
   cases hx
   obtain ⟨k,hk,_⟩:=gq hps ek
   have hsh:=I.rest i k p (Nat.le_refl _) hk ek
   have S:=I.rep.sheet (b5 hsh).1
   obtain ⟨R2,fr2⟩:=I.rep.setS (x:=p.1) (A:=p.2) hsh (fun x=>{ x with owner:=new,status:=.way }) (fun _=>rfl) rfl rfl
   dsimp! only [S,a9,bv,kW,dQ .way (show stI .way=1 from rfl)]
   exact ⟨show 6 < 1000 by decide,show 6 < 1000 by decide,_,I.step (fun _=>rfl) nd hk R2 fr2⟩
 ·obtain ⟨⟨v,rfl⟩,M2,I⟩:=h
  rw [List.length_map,hlen] at I
  exact q _ _ I.did ((Fr.ext s0).trans I.fr) I.self I.log
theorem oY(T:Txt K mg C):Can P w0 K mg base 2 "do_lend" ["ledger", "key", "loan", "keys"] (pE C):=by
 refine ay T.f_do_lend sc_do_lend (fun vs H Q E h=>by obtain ⟨_,_,_,_,_,_,_,_,_,rfl,_⟩:=h;rfl) fun f cdv A outer s H vs Q E hr h=> ?_
 refine ⟨_,(a7 (ck (aM hr) (ae (K:=K) rfl (pv 0) rfl) (pv 1) (pv 2) rfl)
   (a8 (bO PassesOwn.never rfl (aN (K:=K) rfl (am (bn T) (hr.mono (by decide)) rfl (a6 (pv 0) (a6 (pv 3) ab)))) (aC (i:=4) (sc_do_lend).nd rfl (by trivial)) (a7 (aY (cq PySem.F.plainAttrs_list PySem.F.slot_list_append PySem.F.type_list_append cD (ae (K:=K) rfl (pv 4) rfl) (a6 (pv 1) ab)))
   (a8 (aH (K:=K) rfl (pv 4) (aB T.g_ON_THE_WAY rfl) rfl)))))),?_⟩
 obtain ⟨L,hs,P0,w,x,la,dx,ka,ns,rfl,RI,hla,hdx,fla,fdx,ndl,hln,h40,hka,hok,hkn,q⟩:=h
 have R:=RI.r
 obtain ⟨nd,h8⟩:=cX hok
 have ncs:ax H (bh C (x,⟨la,dx⟩)):=by
  refine ⟨?_,fun c hc=> ?_⟩
  ·simp [bh];exact fun z=>ndl z.symm
  ·simp only [bh,List.mem_cons,List.not_mem_nil,or_false] at hc
   rcases hc with rfl | rfl
   ·exact hla
   ·exact hdx
 have R0:=R.addL (x:=x) (A:=⟨la,dx⟩) hln ncs (fun c hc=>by
  simp only [bh,List.mem_cons,List.not_mem_nil,or_false] at hc
  rcases hc with rfl | rfl
  ·exact fla
  ·exact fdx)
 have hput:cH (kvL L.ls) (Sum.inl (x.key:Int)) (.ref la)=kvL (L.ls ++ [(x,⟨la,dx⟩)]):=by
  rw [de _ (by rw [g5,hln];rfl)]
  unfold kvL
  rw [List.map_append];rfl
 have hkvl:(kvL L.ls).length < sizeLine:=by unfold kvL;rw [List.length_map,sizeLine_eq];omega
 dsimp! only [R.self,R.lD,hput]
 refine ⟨hkvl,?_⟩
 have hka0:upd H L.lD (.dK (kvL (L.ls ++ [(x,⟨la,dx⟩)]))) ka=some (.lst (ns.map V.int)):=(af (cu hka R.lD (by intro z;cases z))).trans hka
 have frk:∀ a o,H a=some o→a∉aS C L→upd H L.lD (.dK (kvL (L.ls ++ [(x,⟨la,dx⟩)]))) a=some o:=fun a o e h=>by
  have ne:a≠L.lD:=fun z=>h (by rw [z];exact List.mem_map_of_mem (bE (c:=(L.lD,.dK (kvL L.ls))) (by simp [b8])))
  rw [af ne];exact e
 have frn:∀ a,upd H L.lD (.dK (kvL (L.ls ++ [(x,⟨la,dx⟩)]))) a=none→H a=none:=fun a h=>by
  have ne:a≠L.lD:=fun z=>by subst z;rw [a9] at h;cases h
  rw [af ne] at h;exact h
 have feet:∀ b,b∈aS C { L with ls:=L.ls ++ [(x,⟨la,dx⟩)] }→b∈aS C L∨b=la∨b=dx:=fun b hb=>by
  have perm:=bC (C:=C) (L:={ L with ls:=L.ls ++ [(x,⟨la,dx⟩)] }) (l1:=L.ls) (l2:=[]) (p:=(x,⟨la,dx⟩)) rfl
  rw [List.append_nil] at perm
  have h1:=(bi perm).mp hb
  rw [List.map_append,List.mem_append] at h1
  rcases h1 with h1 | h1
  ·simp [bh] at h1
   exact .inr h1
  ·exact .inl h1
 have hkn0:Vbnlai.known { w with loans:=Vbnlai.place Vbnlai.Loan.key x w.loans } ns=true:=hkn
 generalize upd H L.lD (.dK (kvL (L.ls ++ [(x,⟨la,dx⟩)])))=H0 at *
 obtain ⟨ps,hps,hm,hlen⟩:=gp R0 hkn0
 refine ⟨_,rfl,_,rfl,{ L with ls:=L.ls ++ [(x,⟨la,dx⟩)] },hs,P0,{ w with loans:=Vbnlai.place Vbnlai.Loan.key x w.loans },ka,ns,ps,rfl,R0,hka0,by rw [sizeLine_eq];omega,hps,fun l H' hl0 s1=>⟨l,_,rfl,s1.at_,?_⟩⟩
 have s0:=Ext.off hl0 rfl s1
 have R1:=R0.mono s0
 have hlf:l∉aS C { L with ls:=L.ls ++ [(x,⟨la,dx⟩)] }:=R0.cs.free hl0
 refine di (xs:=ps.map fun p=>V.ref p.2.a) (fun i σ2 H2=>(∃ v:Option V,σ2=[some (V.ref L.self),some (V.int x.key),some (V.ref la),some (V.ref ka),v])∧∃ M2,gm C H' { L with ls:=L.ls ++ [(x,⟨la,dx⟩)] } hs P0 { w with loans:=Vbnlai.place Vbnlai.Loan.key x w.loans } (fun y=>{ y with loans:=y.loans ++ [x.key],status:=.way }) ns ps i H2 M2) ⟨⟨none,rfl⟩,_,gm.start R1 hps⟩ (fun i σ2 H2 _ h=> ?_) (fun i y σ2 H2 hx h=> ?_) (fun σ2 H2 h=> ?_)
 ·obtain ⟨_,M2,I⟩:=h
  exact SqL.of (I.fr.keep _ _ s1.at_ hlf)
 ·obtain ⟨⟨v,rfl⟩,M2,I⟩:=h
  rw [List.getElem?_map] at hx
  cases ek:ps[i]? with
  | none=>rw [ek] at hx;cases hx
  | some p=>
   rw [ek] at hx
   cases hx
   obtain ⟨k,hk,_⟩:=gq hps ek
   have hsh:=I.rest i k p (Nat.le_refl _) hk ek
   have S:=I.rep.sheet (b5 hsh).1
   have Rw:=I.rep.row (b5 hsh).1
   have n4:p.2.a≠p.2.la:=cu S Rw (by intro z;cases z)
   have hap:aT p.1.loans ++ [V.int (x.key:Int)] = aT (p.1.loans ++ [x.key]):=by unfold aT;rw [List.map_append];rfl
   have hpw:p.1∈w.sheets:=by
    have:=gB R0 (hm p (List.mem_of_getElem? ek))
    exact this
   have hlen2:(aT p.1.loans).length < sizeLine:=by
    obtain ⟨n,hn,inv⟩:=RI.inv
    have:=(inv.few p.1 hpw).1
    unfold aT
    rw [List.length_map,sizeLine_eq]
    omega
   obtain ⟨R2,fr2⟩:=I.rep.setSL (x:=p.1) (A:=p.2) hsh (fun y=>{ y with loans:=y.loans ++ [x.key],status:=.way }) (fun _=>rfl) rfl
   dsimp! only [S,Rw,hap,hlen2,af n4,dQ .way (show stI .way=1 from rfl)]
   exact ⟨show 6 < 1000 by decide,_,I.step (fun _=>rfl) nd hk R2 fr2⟩
 ·obtain ⟨⟨v,rfl⟩,M2,I⟩:=h
  rw [List.length_map,hlen] at I
  refine q _ _ I.did (fun a o e h n1 n2=> ?_) (fun a h=> ?_) I.self I.log
  ·refine I.fr.keep a o (s0.1 _ _ (frk a o e h)) fun z=> ?_
   rcases feet a z with z | z | z
   ·exact h z
   ·exact n1 z
   ·exact n2 z
  ·rcases I.fr.new a h with h | h
   ·rcases feet a h with z | z | z
    ·exact .inl z
    ·exact .inr (.inl z)
    ·exact .inr (.inr (.inl z))
   ·exact .inr (.inr (.inr (frn a (s0.1.free h))))
end
section
variable(C:Cs)
def oA:Sp:=fun vs H Q _=>∃ x A,vs=[.ref A.a]∧H A.a=some (.ins C.Sheet A.dx (aG x A))∧H A.la=some (.lst (aT x.loans))∧H A.da=some (.lst (A.ds.map V.ref)) ∧
 ∀ B G,Ext H G→H B.a=none→H B.dx=none→H B.la=none→H B.da=none→B.ds=A.ds→ax G (aO C ({ x with status:=.here,type:=0 },B))→Q (.ref B.a) G
def lQ:Sp:=fun vs H Q _=>∃ L hs P0 w w' d a b n first,vs=[.ref L.self,.int a,.int b,.int n,.int first]∧bM C H L hs P0 w∧Vbnlai.act hs w d (.gather a b n first) = .inr w'∧Did C H L hs P0 w' fun H'=>Q .non H'
def nv:Sp:=fun vs H Q _=>∃ L hs P0 w w' d a first n,vs=[.ref L.self,.int a,.int first,.int n]∧bM C H L hs P0 w∧Vbnlai.act hs w d (.split a first n) = .inr w'∧Did C H L hs P0 w' fun H'=>Q .non H'
end
section
variable{P:Program}{w0:World}{K:PySem.W.Frag}{mg:Str→Option Value}{base:Heap}{C:Cs}
theorem o4(T:Txt K mg C):Can P w0 K mg base 3 "part_of" ["sheet"] (oA C):=by
 refine ay T.f_part_of sc_part_of (fun vs H Q E h=>by obtain ⟨_,_,rfl,_⟩:=h;rfl) fun f cdv A outer s H vs Q E hr h=> ?_
 refine ⟨_,(a7 (aI (i:=1) (sc_part_of).nd rfl (by trivial) (k7 (g4 T) (hr.mono (by decide)) rfl (a6 (ae (K:=K) rfl (pv 0) rfl) (a6 (ae (K:=K) rfl (pv 0) rfl) ab))))
   (a7 (aH (K:=K) rfl (pv 1) (d9 jw rfl T.b_list boot_list (a6 (ae (K:=K) rfl (pv 0) rfl) ab)) rfl)
   (a7 (aH (K:=K) rfl (pv 1) (d9 jw rfl T.b_list boot_list (a6 (ae (K:=K) rfl (pv 0) rfl) ab)) rfl)
   (a8 (ai (pv 1)))))),?_⟩
 obtain ⟨x,A',rfl,hA,hla,hda,q⟩:=h
 dsimp! only [hA,dO]
 intro y dy hy hdy hne
 refine ⟨y,dy,x.gathering,x.owner,rfl,a9,fun la da G hla' hda' hlne hG1 hG2 hG3 keep nodt=>⟨rfl,?_⟩⟩
 obtain ⟨ex,hdy'⟩:=ke hy hdy hne keep nodt
 have hA1:=ex.1 _ _ hA
 have hla1:=ex.1 _ _ hla
 have hda1:=ex.1 _ _ hda
 have ny:=al hA hy
 dsimp! only [hA1,hla1,rListT,hG1]
 intro lb hlb
 have nb1:=al hG1 hlb
 have nb2:=al hA1 hlb
 have nb3:=al hda1 hlb
 have nb4:=al hdy' hlb
 simp_all! only [af nb1,hG1]
 refine ⟨show 6 < 1000 by decide,?_⟩
 have S1:=Stp.mk' (o:=.lst (aT x.loans)) (I':=.ins C.Sheet dy (b0 "loans" (V.ref lb) [("gathering",V.int x.gathering),("owner",V.int x.owner),("loans",V.ref la),("status",V.int 0),("determinations",V.ref da),("typified",V.int 0)])) hG1 hlb rfl rfl
 generalize upd (upd G lb (.lst (aT x.loans))) y (.ins C.Sheet dy (b0 "loans" (V.ref lb) [("gathering",V.int x.gathering),("owner",V.int x.owner),("loans",V.ref la),("status",V.int 0),("determinations",V.ref da),("typified",V.int 0)]))=G1 at S1 ⊢
 have ndy:A'.da≠y:=al hda hy
 refine ⟨_,_,_,S1.keep _ _ hA1 ny,T.cl_Sheet,T.na_Sheet_determinations,_,lk_det _ _,_,rfl,_,S1.keep _ _ hda1 ndy,fun lc hlc=> ?_⟩
 refine ⟨_,_,_,(af (al S1.aa hlc)).trans S1.aa,T.cl_Sheet,T.na_Sheet_determinations,show 6 < 1000 by decide,?_⟩
 have S2:=Stp.mk' (o:=.lst (A'.ds.map V.ref)) (I':=.ins C.Sheet dy (b0 "determinations" (V.ref lc) (b0 "loans" (V.ref lb) [("gathering",V.int x.gathering),("owner",V.int x.owner),("loans",V.ref la),("status",V.int 0),("determinations",V.ref da),("typified",V.int 0)]))) S1.aa hlc rfl rfl
 generalize upd (upd G1 lc (.lst (A'.ds.map V.ref))) y (.ins C.Sheet dy (b0 "determinations" (V.ref lc) (b0 "loans" (V.ref lb) [("gathering",V.int x.gathering),("owner",V.int x.owner),("loans",V.ref la),("status",V.int 0),("determinations",V.ref da),("typified",V.int 0)])))=G2 at S2 ⊢
 have m1:=S1.nn _ hlc
 have fl:∀ b,G b=none→H b=none:=fun b hb=>ex.1.free hb
 have nlb:lb≠y:=Ne.symm nb1
 have nlc:lc≠y:=Ne.symm (al S1.aa hlc)
 refine q ⟨y,dy,lb,lc,A'.ds⟩ G2 ⟨fun b u e=> ?_,fun b u e=> ?_⟩ hy hdy (fl _ hlb) (fl _ m1.1) rfl (cells4 S2.aa ?_ ?_ S2.ad (Ne.symm m1.2))
 ·have nb:=al e hy
  exact S2.keep _ _ (S1.keep _ _ (ex.1 _ _ e) nb) nb
 ·rcases S2.nodt b u e with h | h
  ·rcases S1.nodt b u h with h | h
   ·exact ex.2 b u h
   ·exact .inr h
  ·exact .inr h
 ·exact S2.keep _ _ (S1.keep _ _ hdy' hne) hne
 ·exact S2.keep _ _ S1.ad nlb
structure mq(C:Cs)(H1:Hp)(L:Lay)(hs:List Nat)(P0:List Vbnlai.Person)(w:Vbnlai.World)(xs:List Vbnlai.Sheet)(i:Nat)(H':Hp)(L':Lay):Prop where
 rep:Rep C H' L' hs P0 { w with sheets:=w.sheets ++ xs.take i }
 fr:Fr C H1 L H' L'
 rest:∀ (j:Nat) x,i≤j→xs[j]? = some x→L'.sh x.key=none
 old:∀ k p,L.sh k=some p→L'.sh k=some p
 len:L'.ss.length=L.ss.length + i
 sf:L'.self=L.self∧L'.log=L.log
theorem mq.start{H1:Hp}{L:Lay}{hs:List Nat}{P0:List Vbnlai.Person}{w:Vbnlai.World}{xs:List Vbnlai.Sheet}(R:Rep C H1 L hs P0 w)(h:∀ x∈xs,L.sh x.key=none)(hx:xs.length≤8):mq C H1 L hs P0 w xs 0 H1 L:=by
 refine ⟨?_,Fr.refl,fun j x _ hx=>h x (List.mem_of_getElem? hx),fun k p h=>h,by simp,rfl,rfl⟩
 rw [List.take_zero,List.append_nil]
 exact R
theorem mq.step{H1 H' G:Hp}{L L':Lay}{hs:List Nat}{P0:List Vbnlai.Person}{w:Vbnlai.World}{xs:List Vbnlai.Sheet}{i:Nat}{x:Vbnlai.Sheet}{B:SA}(I:mq C H1 L hs P0 w xs i H' L')(nd:(xs.map fun x=>(x.key:Int)).Nodup)(hx:xs[i]? = some x)
  (ex:Ext H' G) (hf:∀ c∈aO C (x,B),H' c.1=none) (hc:ax G (aO C (x,B))) (hd:Paired (cS C G L') x.dets B.ds) (hd2:∀ a∈B.ds,a∉(aO C (x,B)).map (·.1)) :
  mq C H1 L hs P0 w xs (i + 1) (upd G L'.sD (.dK (cH (kvS L'.ss) (Sum.inl (x.key:Int)) (.ref B.a)))) { L' with ss:=L'.ss ++ [(x,B)] }:=by
 have hk:=I.rest i x (Nat.le_refl _) hx
 have e:cH (kvS L'.ss) (Sum.inl (x.key:Int)) (.ref B.a)=kvS (L'.ss ++ [(x,B)]):=by
  rw [de _ (by rw [bL,hk];rfl)]
  unfold kvS
  rw [List.map_append];rfl
 rw [e]
 have R1:=(I.rep.mono ex).addS (x:=x) (A:=B) hk hc (fun c hc'=>I.rep.cs.free (hf c hc')) hd hd2
 refine ⟨?_,I.fr.trans (Rep.addS_fr ex hf),fun j y hj hy=> ?_,fun k p h=> ?_,?_,I.sf⟩
 ·have:xs.take (i + 1)=xs.take i ++ [x]:=by rw [List.take_add_one,hx];rfl
  rw [this,← List.append_assoc]
  exact R1
 ·rw [lu,I.rest j y (by omega) hy]
  have:¬ (x.key:Int)=(y.key:Int):=fun z=>by
   have h1:(xs.map fun x=>(x.key:Int))[i]? = some (x.key:Int):=by rw [List.getElem?_map,hx];rfl
   have h2:(xs.map fun x=>(x.key:Int))[j]? = some (x.key:Int):=by rw [List.getElem?_map,hy,z];rfl
   have:=mN nd h1 h2
   omega
  rw [if_neg this];rfl
 ·rw [lu,I.old k p h];rfl
 ·show (L'.ss ++ [(x,B)]).length=_
  rw [List.length_append,I.len,List.length_singleton]
  omega
theorem fI{H:Hp}{L:Lay}{hs:List Nat}{P0:List Vbnlai.Person}{w:Vbnlai.World}(R:Rep C H L hs P0 w){l:List Nat}(h:¬ Vbnlai.unused w l=false){k:Nat}(hk:k∈l):L.sh k=none:=by
 have:=List.all_eq_true.mp (SV.bu h) k hk
 cases e:L.sh k with
 | none=>rfl
 | some p=>
  obtain ⟨h1,h2⟩:=b5 e
  have h3:(w.sheets.any fun x=>x.key == k)=true:=List.any_eq_true.mpr ⟨p.1,gB R h1,by simp;omega⟩
  rw [h3] at this
  cases this
theorem mx(T:Txt K mg C):Can P w0 K mg base 3 "do_gather" ["ledger", "gathering", "person", "n", "first"] (lQ C):=by
 refine ay T.f_do_gather sc_do_gather (fun vs H Q E h=>by obtain ⟨_,_,_,_,_,_,_,_,_,_,rfl,_⟩:=h;rfl) fun f cdv A outer s H vs Q E hr h=> ?_
 refine ⟨_,(a7 (ck (aM hr) (ae (K:=K) rfl (pv 0) rfl) (pv 1) pe_bl rfl)
   (a7 (aI (i:=5) (sc_do_gather).nd rfl (by trivial) (ae (K:=K) rfl (aP (aM hr) (ae (K:=K) rfl (pv 0) rfl) (pv 2) (fun _ _=>rfl)) rfl))
   (a8 (bO PassesOwn.never rfl (aN (K:=K) rfl (am (cJ T) (hr.mono (by decide)) rfl (a6 (pv 4) (a6 (pv 3) ab)))) (aC (i:=6) (sc_do_gather).nd rfl (by trivial)) (a8 (ck (aM hr) (ae (K:=K) rfl (pv 0) rfl) (pv 6) (k7 (g4 T) (hr.mono (by decide)) rfl (a6 (pv 1) (a6 (pv 5) ab))) rfl)))))),?_⟩
 obtain ⟨L,hs,P0,w,w',d,a,b,n,first,rfl,RI,ha,q⟩:=h
 have R:=RI.r
 simp only [Vbnlai.act,R.personOf] at ha
 obtain ⟨h1,ha⟩:=SV.ac ha
 obtain ⟨h2,ha⟩:=SV.ac ha
 cases e:L.pn b with
 | none=>rw [e] at ha;cases ha
 | some p=>
  rw [e] at ha
  obtain ⟨h3,ha⟩:=SV.ac ha
  obtain ⟨h4,ha⟩:=SV.ac ha
  obtain ⟨h5,ha⟩:=SV.ac ha
  obtain ⟨h6,ha⟩:=SV.ac ha
  cases ha
  have hk:=SV.db.mp (SV.bu h1)
  have hw:=SV.cC.mp (SV.bu h3)
  have hrm:=SV.dm.mp (SV.bu h4)
  have hka:((a.toNat:Nat):Int)=a:=by omega
  have hg:dL L.gs a.toNat=false:=by
   rw [R.gather]
   cases hh:(w.gatherings.any fun h=>(h:Int) == ((a.toNat:Nat):Int)) with
   | false=>rfl
   | true=>
    obtain ⟨y,hy,e⟩:=List.any_eq_true.mp hh
    have:y=a.toNat:=by have:=beq_iff_eq.mp e;omega
    exact absurd (by simpa using this ▸ hy) h2
  obtain ⟨hpm,hpk⟩:=km e
  have hP:=R.person hpm
  obtain ⟨R0,fr0⟩:=R.addG hg
  have hput:cH (kvH L.gs) (Sum.inl a) (V.bl true)=kvH (L.gs ++ [a.toNat]):=by
   rw [de _ (by rw [val_H,← hka,hg];rfl)]
   unfold kvH
   rw [List.map_append,List.map_cons,hka];rfl
  obtain ⟨m,hm,inv⟩:=RI.inv
  have hgl:(kvH L.gs).length < sizeLine:=by
   unfold kvH
   rw [List.length_map,R.gP.length_eq,sizeLine_eq]
   have:=inv.gN
   have:=inv.sN
   unfold Vbnlai.SHEETS at this
   omega
  have np:p.2.a≠L.gD:=cu hP R.gD (by intro z;cases z)
  have n1:L.self≠L.gD:=cu R.self R.gD (by intro z;cases z)
  have n2:L.pD≠L.gD:=by
   have:=R.cs.nd
   intro z
   unfold cells b8 at this
   simp [z] at this
  dsimp! only [R.self,R.gD,R.pD,fz,e,Option.map_some,hP,hput,af np,af n1,af n2]
  refine ⟨hgl,?_⟩
  have hb32:SV.b32 first:=by
   unfold SV.b32
   unfold Vbnlai.KEYS at hrm
   omega
  have hkeys:=SV.upFrom_keys (first:=first) (n:=n) (by omega)
  refine ⟨_,rfl,_,rfl,first,n,rfl,hb32,by omega,by omega,fun l H' hl0 s1=>⟨l,_,rfl,s1.at_,?_⟩⟩
  have s0:=Ext.off hl0 rfl s1
  have R1:=R0.mono s0
  have hlf:l∉aS C { L with gs:=L.gs ++ [a.toNat] }:=R0.cs.free hl0
  have hxn:∀ x∈(Vbnlai.keysFrom first n).map (fun k=>({ key:=k,gathering:=a.toNat,owner:=p.1.1.house }:Vbnlai.Sheet)),({ L with gs:=L.gs ++ [a.toNat] }:Lay).sh x.key=none:=fun x hx=>by
   obtain ⟨k,hk',rfl⟩:=List.mem_map.mp hx
   exact fI R h5 hk'
  have hnd:(((Vbnlai.keysFrom first n).map (fun k=>({ key:=k,gathering:=a.toNat,owner:=p.1.1.house }:Vbnlai.Sheet))).map fun x=>(x.key:Int)).Nodup:=by
   rw [List.map_map]
   have:=SV.jT first n
   rw [List.Nodup,List.pairwise_map]
   exact this.imp fun {x y} h z=>h (Int.ofNat.inj z)
  have hl8:((Vbnlai.keysFrom first n).map (fun k=>({ key:=k,gathering:=a.toNat,owner:=p.1.1.house }:Vbnlai.Sheet))).length=n.toNat:=by rw [List.length_map,SV.eW]
  have hlu:(SV.oZ first n.toNat).length=n.toNat:=by unfold SV.oZ;rw [List.length_map,List.length_range]
  refine di (xs:=(SV.oZ first n.toNat).map V.int) (fun i σ2 H2=>(∃ v:Option V,σ2=[some (V.ref L.self),some (V.int a),some (V.int b),some (V.int n),some (V.int first),some (V.int p.1.1.house),v])∧∃ M,mq C H' { L with gs:=L.gs ++ [a.toNat] } hs P0 { w with gatherings:=Vbnlai.place id a.toNat w.gatherings } ((Vbnlai.keysFrom first n).map (fun k=>({ key:=k,gathering:=a.toNat,owner:=p.1.1.house }:Vbnlai.Sheet))) i H2 M)
   ⟨⟨none,rfl⟩,_,mq.start R1 hxn (by rw [hl8];omega)⟩ (fun i σ2 H2 _ h=> ?_) (fun i y σ2 H2 hx h=> ?_) (fun σ2 H2 h=> ?_)
  ·obtain ⟨_,M,I⟩:=h
   exact SqL.of (I.fr.keep _ _ s1.at_ hlf)
  ·obtain ⟨⟨v,rfl⟩,M,I⟩:=h
   rw [List.getElem?_map,hkeys,List.getElem?_map] at hx
   cases ek:(Vbnlai.keysFrom first n)[i]? with
   | none=>rw [ek] at hx;cases hx
   | some k=>
    rw [ek] at hx
    cases hx
    have hxi:((Vbnlai.keysFrom first n).map (fun k=>({ key:=k,gathering:=a.toNat,owner:=p.1.1.house }:Vbnlai.Sheet)))[i]? = some { key:=k,gathering:=a.toNat,owner:=p.1.1.house }:=by rw [List.getElem?_map,ek];rfl
    have hMs:M.self=L.self:=I.sf.1
    simp! only [dO]
    intro x dx hx' hdx' hne
    refine ⟨x,dx,a,p.1.1.house,rfl,a9,fun la da G hla hda hlne hG1 hG2 hG3 keep nodt=>⟨rfl,?_⟩⟩
    obtain ⟨ex,hdx2⟩:=ke hx' hdx' hne keep nodt
    have RG:=I.rep.mono ex
    have hself:=RG.self
    rw [hMs] at hself
    dsimp! only [hself,RG.sD]
    have z1:=ci hne hla
    have z2:=ci hne hda
    have hlen:(kvS M.ss).length < sizeLine:=by
     unfold kvS
     rw [List.length_map,I.len,sizeLine_eq]
     have h1:(i:Int) < n.toNat:=by
      have:=(List.getElem?_eq_some_iff.mp ek).1
      rw [SV.eW] at this
      omega
     have h2:=inv.sN
     rw [← R.nS] at h2
     unfold Vbnlai.SHEETS at h2
     show L.ss.length + i < _
     omega
    refine ⟨hlen,_,I.step (x:={ key:=k,gathering:=a.toNat,owner:=p.1.1.house }) (B:=⟨x,dx,la,da,[]⟩) hnd hxi ex (fun c hc=> ?_) (cells4 ?_ hdx2 hG2 hG3 hlne) .nil (fun a ha=>nomatch ha)⟩
    ·simp only [aO,List.mem_cons,List.not_mem_nil,or_false] at hc
     rcases hc with rfl | rfl | rfl | rfl
     ·exact hx'
     ·exact hdx'
     ·exact z1.1
     ·exact z2.1
    ·rw [hG1]
     unfold aG
     simp only
     rw [hka]
     rfl
  ·obtain ⟨⟨v,rfl⟩,M,I⟩:=h
   have hI:=I.rep
   rw [List.length_map,hlu,← hl8,List.take_length] at hI
   refine q _ _ (hI.world (List.Perm.refl _) (List.Perm.refl _) (SV.adds_perm _ _).symm (List.Perm.refl _)) ((fr0.trans (Fr.ext s0)).trans I.fr) I.sf.1 I.sf.2
end
theorem gG{α β : Type}{F : α→β→Prop}:∀ {l:List α} {m:List β},Paired F l m→∀ {b : β},b∈m→∃ a,F a b
 | _,_,.cons h t,b,hb=>by
  rcases List.mem_cons.mp hb with rfl | hb
  ·exact ⟨_,h⟩
  ·exact gG t hb
section
variable{P:Program}{w0:World}{K:PySem.W.Frag}{mg:Str→Option Value}{base:Heap}{C:Cs}
theorem mU(T:Txt K mg C):Can P w0 K mg base 4 "do_split" ["ledger", "key", "first", "n"] (nv C):=by
 refine ay T.f_do_split sc_do_split (fun vs H Q E h=>by obtain ⟨_,_,_,_,_,_,_,_,_,rfl,_⟩:=h;rfl) fun f cdv A outer s H vs Q E hr h=> ?_
 refine ⟨_,(a7 (aI (i:=4) (sc_do_split).nd rfl (by trivial) (aP (aM hr) (ae (K:=K) rfl (pv 0) rfl) (pv 1) (fun _ _=>rfl)))
   (a7 (bO PassesOwn.never rfl (aN (K:=K) rfl (am (cJ T) (hr.mono (by decide)) rfl (a6 (pv 2) (a6 (pv 3) ab)))) (aC (i:=5) (sc_do_split).nd rfl (by trivial)) (a8 (ck (aM hr) (ae (K:=K) rfl (pv 0) rfl) (pv 5) (am (o4 T) (hr.mono (by decide)) rfl (a6 (pv 4) ab)) rfl)))
   (a7 (aH (K:=K) rfl (pv 4) (aB T.g_DIVIDED rfl) rfl)
   (a8 (aH (K:=K) rfl (pv 4) (bf ab) rfl))))),?_⟩
 obtain ⟨L,hs,P0,w,w',d,a,first,n,rfl,RI,ha,q⟩:=h
 have R:=RI.r
 simp only [Vbnlai.act,R.sheetOf] at ha
 cases e:L.sh a with
 | none=>rw [e] at ha;cases ha
 | some p=>
  rw [e] at ha
  obtain ⟨h1,ha⟩:=SV.ac ha
  obtain ⟨h2,ha⟩:=SV.ac ha
  obtain ⟨h3,ha⟩:=SV.ac ha
  obtain ⟨h4,ha⟩:=SV.ac ha
  obtain ⟨h5,ha⟩:=SV.ac ha
  obtain ⟨h6,ha⟩:=SV.ac ha
  cases ha
  obtain ⟨x,A'⟩:=p
  obtain ⟨hpm,hpk⟩:=b5 e
  simp only at hpk h1 h2 q
  have hw:=SV.cC.mp (SV.bu h3)
  have hrm:=SV.dm.mp (SV.bu h4)
  have hst:x.status = .here:=by
   have:=SV.bu h1
   unfold Vbnlai.here at this
   exact beq_iff_eq.mp this
  have hty:x.type=0:=by simpa using h2
  obtain ⟨m,hm,inv⟩:=RI.inv
  have hb32:SV.b32 first:=by
   unfold SV.b32
   unfold Vbnlai.KEYS at hrm
   omega
  have hkeys:=SV.upFrom_keys (first:=first) (n:=n) (by omega)
  dsimp! only [R.self,R.sD,bL,e,Option.map_some]
  refine ⟨_,rfl,_,rfl,first,n,rfl,hb32,by omega,by omega,fun l H' hl0 s1=>⟨l,_,rfl,s1.at_,?_⟩⟩
  have s0:=Ext.off hl0 rfl s1
  have R1:=R.mono s0
  have hlf:l∉aS C L:=R.cs.free hl0
  have hxn:∀ y∈(Vbnlai.keysFrom first n).map (fun k=>({ x with key:=k }:Vbnlai.Sheet)),L.sh y.key=none:=fun y hy=>by
   obtain ⟨k,hk',rfl⟩:=List.mem_map.mp hy
   exact fI R h5 hk'
  have hnd:(((Vbnlai.keysFrom first n).map (fun k=>({ x with key:=k }:Vbnlai.Sheet))).map fun x=>(x.key:Int)).Nodup:=by
   rw [List.map_map]
   have:=SV.jT first n
   rw [List.Nodup,List.pairwise_map]
   exact this.imp fun {x y} h z=>h (Int.ofNat.inj z)
  have hl8:((Vbnlai.keysFrom first n).map (fun k=>({ x with key:=k }:Vbnlai.Sheet))).length=n.toNat:=by rw [List.length_map,SV.eW]
  have hlu:(SV.oZ first n.toNat).length=n.toNat:=by unfold SV.oZ;rw [List.length_map,List.length_range]
  refine di (xs:=(SV.oZ first n.toNat).map V.int) (fun i σ2 H2=>(∃ v:Option V,σ2=[some (V.ref L.self),some (V.int a),some (V.int first),some (V.int n),some (V.ref A'.a),v])∧∃ M,mq C H' L hs P0 w ((Vbnlai.keysFrom first n).map (fun k=>({ x with key:=k }:Vbnlai.Sheet))) i H2 M)
   ⟨⟨none,rfl⟩,_,mq.start R1 hxn (by rw [hl8];omega)⟩ (fun i σ2 H2 _ h=> ?_) (fun i y σ2 H2 hx h=> ?_) (fun σ2 H2 h=> ?_)
  ·obtain ⟨_,M,I⟩:=h
   exact SqL.of (I.fr.keep _ _ s1.at_ hlf)
  ·obtain ⟨⟨v,rfl⟩,M,I⟩:=h
   rw [List.getElem?_map,hkeys,List.getElem?_map] at hx
   cases ek:(Vbnlai.keysFrom first n)[i]? with
   | none=>rw [ek] at hx;cases hx
   | some k=>
    rw [ek] at hx
    cases hx
    have hxi:((Vbnlai.keysFrom first n).map (fun k=>({ x with key:=k }:Vbnlai.Sheet)))[i]? = some { x with key:=k }:=by rw [List.getElem?_map,ek];rfl
    have hMs:M.self=L.self:=I.sf.1
    have hold:=(b5 (I.old _ _ e)).1
    simp! only []
    refine ⟨x,A',rfl,I.rep.sheet hold,I.rep.row hold,I.rep.dts hold,fun B G ex f1 f2 f3 f4 hB hc=> ?_⟩
    have RG:=I.rep.mono ex
    have hself:=RG.self
    rw [hMs] at hself
    dsimp! only [hself,RG.sD]
    have hlen:(kvS M.ss).length < sizeLine:=by
     unfold kvS
     rw [List.length_map,I.len,sizeLine_eq]
     have h1:(i:Int) < n.toNat:=by
      have:=(List.getElem?_eq_some_iff.mp ek).1
      rw [SV.eW] at this
      omega
     have h2:=inv.sN
     rw [← R.nS] at h2
     unfold Vbnlai.SHEETS at h2
     omega
    have hfree:∀ c∈aO C (({ x with key:=k }:Vbnlai.Sheet),B),H2 c.1=none:=fun c hc=>by
     simp only [aO,List.mem_cons,List.not_mem_nil,or_false] at hc
     rcases hc with rfl | rfl | rfl | rfl
     ·exact f1
     ·exact f2
     ·exact f3
     ·exact f4
    have hcell:ax G (aO C (({ x with key:=k }:Vbnlai.Sheet),B)):=by
     have e1:aO C (({ x with key:=k }:Vbnlai.Sheet),B)=aO C (({ x with status:=.here,type:=0 }:Vbnlai.Sheet),B):=by
      unfold aO aG
      simp only [hst,hty]
     rw [e1]
     exact hc
    refine ⟨hlen,_,I.step (x:={ x with key:=k }) (B:=B) hnd hxi ex hfree hcell ?_ (fun b hb z=> ?_)⟩
    ·rw [hB]
     exact bK (I.rep.ds _ hold) (Fr.ext ex)
    ·rw [hB] at hb
     obtain ⟨dd,_,dx,hdd⟩:=gG (I.rep.ds _ hold) hb
     obtain ⟨c,hc',rfl⟩:=List.mem_map.mp z
     rw [hfree c hc'] at hdd
     cases hdd
  ·obtain ⟨⟨v,rfl⟩,M,I⟩:=h
   have hI:=I.rep
   rw [List.length_map,hlu,← hl8,List.take_length] at hI
   have hsh:=I.old _ _ e
   have S:=hI.sheet (b5 hsh).1
   dsimp! only [S]
   refine ⟨show 6 < 1000 by decide,Nat.zero_le _,fun lb hlb=> ?_⟩
   refine ⟨_,_,_,(af (al (H:=upd H2 A'.a _) a9 hlb)).trans a9,T.cl_Sheet,T.na_Sheet_loans,show 6 < 1000 by decide,?_⟩
   obtain ⟨M',R',fr',g1,g2⟩:=hI.divide (x:=x) (A:=A') hsh hlb
   refine q _ M' (R'.world (List.Perm.refl _) (List.Perm.refl _) ?_ (List.Perm.refl _)) (((Fr.ext s0).trans I.fr).trans fr') (g1.trans I.sf.1) (g2.trans I.sf.2)
   refine List.Perm.trans (List.Perm.of_eq ?_) (SV.adds_perm _ _).symm
   show List.map _ (w.sheets ++ _)=List.map _ w.sheets ++ _
   rw [List.map_append]
   congr 1
   refine (List.map_congr_left fun y hy=> ?_).trans (List.map_id _)
   obtain ⟨k,hk',rfl⟩:=List.mem_map.mp hy
   rw [if_neg]
   ·rfl
   ·intro z
    have:(k:Int)=a:=by simpa using z
    have h7:=fI R h5 hk'
    rw [this,e] at h7
    cases h7
end
section
variable(C:Cs)
def lU:Sp:=fun vs H Q _=>∃ L hs P0 w w',∃ d:Nat,∃ e na sa,vs=[.ref L.self,.int (SV.pl e),.ref na,.ref sa]∧bM C H L hs P0 w∧H na=some (.lst (((d:Int) :: SV.ar e).map V.int))∧H sa=some (.lst ((SV.sh e).map V.int)) ∧
 Vbnlai.act hs w d e = .inr w'∧Did C H L hs P0 w' fun H'=>Q .non H'
end
section
variable{P:Program}{w0:World}{K:PySem.W.Frag}{mg:Str→Option Value}{base:Heap}{C:Cs}
theorem gw(T:Txt K mg C):Can P w0 K mg base 5 "carry_out" ["ledger", "place", "numbers", "sheets"] (lU C):=by
 refine ay T.f_carry_out sc_carry_out (fun vs H Q E h=>by obtain ⟨_,_,_,_,_,_,_,_,_,rfl,_⟩:=h;rfl) fun f cdv A outer s H vs Q E hr h=> ?_
 refine ⟨_,(a8 (aw (ak aL (pv 1) (aB T.g_MOVE rfl) (ap _)) (a8 (aY (am (pb T) (hr.mono (by decide)) rfl (a6 (pv 0) (a6 (aD aq (pv 2) ag (fun _ _=>rfl)) (a6 (aD aq (pv 2) ag (fun _ _=>rfl)) ab)))))) (a8 (aw (ak aL (pv 1) (aB T.g_RANK rfl) (ap _)) (a8 (aY (am (oB T) (hr.mono (by decide)) rfl (a6 (pv 0) (a6 (aD aq (pv 2) ag (fun _ _=>rfl)) (a6 (aD aq (pv 2) ag (fun _ _=>rfl)) ab)))))) (a8 (aw (ak aL (pv 1) (aB T.g_GATHER rfl) (ap _)) (a8 (aY (am (mx T) (hr.mono (by decide)) rfl (a6 (pv 0) (a6 (aD aq (pv 2) ag (fun _ _=>rfl)) (a6 (aD aq (pv 2) ag (fun _ _=>rfl)) (a6 (aD aq (pv 2) ag (fun _ _=>rfl)) (a6 (aD aq (pv 2) ag (fun _ _=>rfl)) ab)))))))) (a8 (aw (ak aL (pv 1) (aB T.g_SPLIT rfl) (ap _)) (a8 (aY (am (mU T) (hr.mono (by decide)) rfl (a6 (pv 0) (a6 (aD aq (pv 2) ag (fun _ _=>rfl)) (a6 (aD aq (pv 2) ag (fun _ _=>rfl)) (a6 (aD aq (pv 2) ag (fun _ _=>rfl)) ab))))))) (a8 (aw (ak aL (pv 1) (aB T.g_LEND rfl) (ap _)) (a8 (aY (am (oY T) (hr.mono (by decide)) rfl (a6 (pv 0) (a6 (aD aq (pv 2) ag (fun _ _=>rfl)) (a6 (am (gR T) (hr.mono (by decide)) rfl (a6 (pv 2) ab)) (a6 (pv 3) ab))))))) (a8 (aw (ak aL (pv 1) (aB T.g_ARRIVE rfl) (ap _)) (a8 (aY (am (mj T) (hr.mono (by decide)) rfl (a6 (pv 0) (a6 (pv 3) ab))))) (a8 (aw (ak aL (pv 1) (aB T.g_BACK rfl) (ap _)) (a8 (aY (am (oC T) (hr.mono (by decide)) rfl (a6 (pv 0) (a6 (pv 3) ab))))) (a8 (aw (ak aL (pv 1) (aB T.g_GIVE rfl) (ap _)) (a8 (aY (am (pC T) (hr.mono (by decide)) rfl (a6 (pv 0) (a6 (aD aq (pv 2) ag (fun _ _=>rfl)) (a6 (pv 3) ab)))))) (a8 (aw (ak aL (pv 1) (aB T.g_CEDE rfl) (ap _)) (a8 (aY (am (oV T) (hr.mono (by decide)) rfl (a6 (pv 0) (a6 (aD aq (pv 2) ag (fun _ _=>rfl)) ab))))) (a8 (aw (ak aL (pv 1) (aB T.g_EXTEND rfl) (ap _)) (a8 (aY (am (lO T) (hr.mono (by decide)) rfl (a6 (pv 0) (a6 (aD aq (pv 2) ag (fun _ _=>rfl)) (a6 (aD aq (pv 2) ag (fun _ _=>rfl)) ab)))))) (a8 (aw (ak aL (pv 1) (aB T.g_LOSE rfl) (ap _)) (a8 (aY (am (pd T) (hr.mono (by decide)) rfl (a6 (pv 0) (a6 (pv 3) ab))))) (a8 (aw (ak aL (pv 1) (aB T.g_FIND rfl) (ap _)) (a8 (aY (am (oX T) (hr.mono (by decide)) rfl (a6 (pv 0) (a6 (pv 3) ab))))) (a8 (aw (ak aL (pv 1) (aB T.g_DESTROY rfl) (ap _)) (a8 (aY (am (kt T) (hr.mono (by decide)) rfl (a6 (pv 0) (a6 (aD aq (pv 2) ag (fun _ _=>rfl)) ab))))) (a8 (aw (ak aL (pv 1) (aB T.g_DETERMINE rfl) (ap _)) (a8 (aY (am (iW T) (hr.mono (by decide)) rfl (a6 (pv 0) (a6 (aD aq (pv 2) ag (fun _ _=>rfl)) (a6 (aD aq (pv 2) ag (fun _ _=>rfl)) (a6 (aD aq (pv 2) ag (fun _ _=>rfl)) (a6 (aD aq (pv 2) ag (fun _ _=>rfl)) (a6 (aD aq (pv 2) ag (fun _ _=>rfl)) ab))))))))) (a8 (aY (am (lV T) (hr.mono (by decide)) rfl (a6 (pv 0) (a6 (aD aq (pv 2) ag (fun _ _=>rfl)) (a6 (aD aq (pv 2) ag (fun _ _=>rfl)) ab)))))))))))))))))))))))))))))))))),?_⟩
 obtain ⟨L,hs,P0,w,w',d,e,na,sa,rfl,RI,hna,hsa,ha,q⟩:=h
 have R:=RI.r
 cases e with
 | move a b=>
  simp only [SV.pl,SV.ar] at hna ⊢
  simp! only [hna,Int.reduceEq]
  exact ⟨L,hs,P0,w,w',d,a,b,rfl,R,ha,q⟩
 | rank a b=>
  simp only [SV.pl,SV.ar] at hna ⊢
  simp! only [hna,Int.reduceEq]
  exact ⟨L,hs,P0,w,w',d,a,b,rfl,R,ha,q⟩
 | gather a b c e'=>
  simp only [SV.pl,SV.ar] at hna ⊢
  simp! only [hna,Int.reduceEq]
  exact ⟨L,hs,P0,w,w',d,a,b,c,e',rfl,RI,ha,q⟩
 | split a b c=>
  simp only [SV.pl,SV.ar] at hna ⊢
  simp! only [hna,Int.reduceEq]
  exact ⟨L,hs,P0,w,w',d,a,b,c,rfl,RI,ha,q⟩
 | lend k a b du o l=>
  simp only [SV.pl,SV.ar] at hna ⊢
  simp! only [hna,Int.reduceEq]
  replace ha:(if _ then _ else _)=Sum.inr _:=ha
  obtain ⟨h1,ha⟩:=SV.ac ha
  obtain ⟨h2,ha⟩:=SV.ac ha
  obtain ⟨h3,ha⟩:=SV.ac ha
  obtain ⟨h4,ha⟩:=SV.ac ha
  obtain ⟨h5,ha⟩:=SV.ac ha
  obtain ⟨h6,ha⟩:=SV.ac ha
  obtain ⟨h7,ha⟩:=SV.ac ha
  obtain ⟨h8,ha⟩:=SV.ac ha
  obtain ⟨_,ha⟩:=SV.ac ha
  obtain ⟨_,ha⟩:=SV.ac ha
  obtain ⟨_,ha⟩:=SV.ac ha
  obtain ⟨h12,ha⟩:=SV.ac ha
  cases ha
  have hk:=SV.db.mp (SV.bu h1)
  have hkc:((k.toNat:Nat):Int)=k:=by omega
  have hac:=dG h3
  have hbc:=dG (fun z=>h4 (.inl z))
  have hdc:=SV.qu.mp (SV.bu (fun z=>h5 (.inl z)))
  have hoc:=SV.cC.mp (SV.bu h6)
  refine ⟨na,d,k,a,b,du,o,[],rfl,hna,fun x dx H' hx hdx hne hx' hdx' ex=> ?_⟩
  have hfs:kF a b du o=bF { key:=k.toNat,lender:=a.toNat,borrower:=b.toNat,due:=du.toNat,onward:=o == 1 }:=by
   unfold kF bF
   simp only
   rw [hac,hbc,show ((du.toNat:Nat):Int)=du by omega]
   have:on01 (o == 1)=o:=by
    have h01:o=0∨o=1:=by omega
    rcases h01 with rfl | rfl <;> rfl
   rw [this]
  rw [hfs] at hx'
  have hlnn:L.ln ((k.toNat:Nat):Int)=none:=by
   rw [hkc]
   cases e:L.ln k with
   | none=>rfl
   | some p=>
    have:(w.loans.any fun l=>(l.key:Int) == k)=true:=by
     rw [← List.isSome_find?,R.loanZ,e];rfl
    exact absurd this h2
  have h40:L.ls.length≤40:=by
   rw [R.nL]
   unfold Vbnlai.LOANS at h12
   omega
  refine ⟨L,hs,P0,w,{ key:=k.toNat,lender:=a.toNat,borrower:=b.toNat,due:=du.toNat,onward:=o == 1 },x,dx,sa,l,by simp only [hkc],RI.mono ex,hx',hdx',R.cs.free hx,R.cs.free hdx,hne,hlnn,h40,ex.1 _ _ hsa,SV.bu h7,SV.bu h8,fun H2 M R2 k2 n2 g1 g2=> ?_⟩
  refine q H2 M R2 ⟨fun c u hc hn=>k2 c u (ex.1 _ _ hc) hn (al hc hx) (al hc hdx),fun c hc=> ?_⟩ g1 g2
  rcases n2 c hc with h | h | h | h
  ·exact .inl h
  ·exact .inr (h ▸ hx)
  ·exact .inr (h ▸ hdx)
  ·exact .inr (ex.1.free h)
 | arrive l=>
  simp only [SV.pl,SV.ar] at hna ⊢
  simp! only [hna,Int.reduceEq]
  simp only [Vbnlai.act] at ha
  obtain ⟨h1,ha⟩:=SV.ac ha
  obtain ⟨h2,ha⟩:=SV.ac ha
  obtain ⟨_,ha⟩:=SV.ac ha
  cases ha
  exact ⟨L,hs,P0,w,sa,l,rfl,R,hsa,SV.bu h1,SV.bu h2,q⟩
 | back k l=>
  simp only [SV.pl,SV.ar] at hna ⊢
  simp! only [hna,Int.reduceEq]
  simp only [Vbnlai.act] at ha
  obtain ⟨h1,ha⟩:=SV.ac ha
  obtain ⟨h2,ha⟩:=SV.ac ha
  obtain ⟨h3,ha⟩:=SV.ac ha
  cases ha
  refine ⟨L,hs,P0,w,sa,l,rfl,R,hsa,SV.bu h1,SV.bu h2,?_,q⟩
  have h3':=SV.bu h3
  unfold Vbnlai.each at h3' ⊢
  rw [List.all_eq_true] at h3' ⊢
  intro z hz
  have:=h3' z hz
  cases e:Vbnlai.sheetOf w z with
  | none=>rw [e] at this;cases this
  | some x=>
   rw [e] at this
   simp only [Option.any_some,Bool.and_eq_true] at this ⊢
   cases el:x.loans with
   | nil=>rw [el] at this;exact absurd this.2 (by simp)
   | cons=>rfl
 | give a b l=>
  simp only [SV.pl,SV.ar] at hna ⊢
  simp! only [hna,Int.reduceEq]
  simp only [Vbnlai.act] at ha
  obtain ⟨_,ha⟩:=SV.ac ha
  obtain ⟨h2,ha⟩:=SV.ac ha
  obtain ⟨h3,ha⟩:=SV.ac ha
  obtain ⟨h4,ha⟩:=SV.ac ha
  obtain ⟨_,ha⟩:=SV.ac ha
  obtain ⟨_,ha⟩:=SV.ac ha
  cases ha
  have hbc:=dG (fun z=>h2 (.inl z))
  exact ⟨L,hs,P0,w,b.toNat,sa,l,by rw [hbc],R,hsa,SV.bu h3,SV.bu h4,q⟩
 | cede a=>
  simp only [SV.pl,SV.ar] at hna ⊢
  simp! only [hna,Int.reduceEq]
  exact ⟨L,hs,P0,w,w',d,a,rfl,R,ha,q⟩
 | extend a b=>
  simp only [SV.pl,SV.ar] at hna ⊢
  simp! only [hna,Int.reduceEq]
  exact ⟨L,hs,P0,w,w',d,a,b,rfl,R,ha,q⟩
 | lose l=>
  simp only [SV.pl,SV.ar] at hna ⊢
  simp! only [hna,Int.reduceEq]
  simp only [Vbnlai.act] at ha
  obtain ⟨h1,ha⟩:=SV.ac ha
  obtain ⟨h2,ha⟩:=SV.ac ha
  obtain ⟨_,ha⟩:=SV.ac ha
  cases ha
  exact ⟨L,hs,P0,w,sa,l,rfl,R,hsa,SV.bu h1,SV.bu h2,q⟩
 | find l=>
  simp only [SV.pl,SV.ar] at hna ⊢
  simp! only [hna,Int.reduceEq]
  simp only [Vbnlai.act] at ha
  obtain ⟨h1,ha⟩:=SV.ac ha
  obtain ⟨h2,ha⟩:=SV.ac ha
  obtain ⟨_,ha⟩:=SV.ac ha
  cases ha
  exact ⟨L,hs,P0,w,sa,l,rfl,R,hsa,SV.bu h1,SV.bu h2,q⟩
 | destroy a=>
  simp only [SV.pl,SV.ar] at hna ⊢
  simp! only [hna,Int.reduceEq]
  exact ⟨L,hs,P0,w,w',d,a,rfl,R,ha,q⟩
 | determine a b c e'=>
  simp only [SV.pl,SV.ar] at hna ⊢
  simp! only [hna,Int.reduceEq]
  exact ⟨L,hs,P0,w,w',d,a,b,c,e',rfl,RI,ha,q⟩
 | type a b=>
  simp only [SV.pl,SV.ar] at hna ⊢
  simp! only [hna,Int.reduceEq]
  exact ⟨L,hs,P0,w,w',d,a,b,rfl,R,ha,q⟩
end
structure cY(C:Cs)(H:Hp)(L:Lay)(s:Vbnlai.State):Prop where
 rep:Rep C H L s.houses s.persons s.now
 log:LogAt C H L s.log
 fine:SV.lW s
section
variable{C:Cs}{H H':Hp}{L L':Lay}{s:Vbnlai.State}
theorem cY.repI(M:cY C H L s):bM C H L s.houses s.persons s.now:=⟨M.rep,⟨_,M.fine.logN,M.fine.toGood.invNow⟩,M.fine.rinvNow⟩
theorem dv.fr{e:Nat×Vbnlai.Entry}{a:Addr}(h:dv C H L e a)(f:Fr C H L H' L'):dv C H' L' e a:=by
 obtain ⟨dx,na,sa,h1,h2,h3,h4,h5,h6⟩:=h.ex
 exact ⟨dx,na,sa,f.keep _ _ h1 h4,f.keep _ _ h2 h5,f.keep _ _ h3 h6,f.off h1 h4,f.off h2 h5,f.off h3 h6⟩
theorem eD{l:List (Nat×Vbnlai.Entry)}{m:List Addr}(h:Paired (dv C H L) l m)(f:Fr C H L H' L'):Paired (dv C H' L') l m:=Paired.mapP h fun _ _ q=>q.fr f
theorem cY.mono(M:cY C H L s)(x:Ext H H'):cY C H' L s:=⟨M.rep.mono x,eD M.log (Fr.ext x),M.fine⟩
theorem cY.day(M:cY C H L s):s.day=ma s.log:=M.fine.last
end
section
variable(C:Cs)
def DidC(H:Hp)(L:Lay)(r:Vbnlai.State×Vbnlai.Answer)(Q:VK):Prop:=∀ H' L' z,cY C H' L' r.1→Fr C H L H' L'→L'.self=L.self→r.2 = .number z→Q (.int z) H'
def sp_enter:Sp:=fun vs H Q _=>∃ L s d e na sa,vs=[.ref L.self,.int (SV.pl e),.ref na,.ref sa]∧cY C H L s∧H na=some (.lst ((d :: SV.ar e).map V.int))∧H sa=some (.lst ((SV.sh e).map V.int))∧na∉aS C L∧sa∉aS C L∧SV.Ok32 e ∧
 DidC C H L (Vbnlai.enter s d e) Q
def lZ:Sp:=fun vs H Q _=>∃ L s k,vs=[.ref L.self,.int k]∧cY C H L s∧DidC C H L (Vbnlai.step s (.house k)) Q
def kz:Sp:=fun vs H Q _=>∃ L s k h r,vs=[.ref L.self,.int k,.int h,.int r]∧cY C H L s∧DidC C H L (Vbnlai.step s (.person k h r)) Q
end
section
variable{P:Program}{w0:World}{K:PySem.W.Frag}{mg:Str→Option Value}{base:Heap}{C:Cs}
theorem mm(T:Txt K mg C):Can P w0 K mg base 2 "add_house" ["ledger", "key"] (lZ C):=by
 refine ay T.f_add_house sc_add_house (fun vs H Q E h=>by obtain ⟨_,_,_,rfl,_⟩:=h;rfl) fun f cdv A outer s0 H vs Q E hr h=> ?_
 refine ⟨_,(a7 (aw (bG (b9 (am (cB T) (hr.mono (by decide)) rfl (a6 (pv 1) ab)))) (a8 (ai (aJ az ag))) aj)
   (a7 (aw (br (fR (aM hr) (pv 1) (ae (K:=K) rfl (pv 0) rfl))) (a8 (ai (aJ az ag))) aj)
   (a7 (aw (ak qb (aA e7 rfl T.b_len PySem.boot_len (a6 (ae (K:=K) rfl (pv 0) rfl) ab)) (aB T.g_MOST_HOUSES rfl) (ap _)) (a8 (ai (aJ az ag))) aj)
   (a7 (ck (aM hr) (ae (K:=K) rfl (pv 0) rfl) (pv 1) pe_bl rfl)
   (a8 (ai ag)))))),?_⟩
 obtain ⟨L,s,k,rfl,M,q⟩:=h
 have R:=M.rep
 dsimp! only [R.self,R.hD,nQ]
 have fine':=M.fine.step (.house k)
 simp only [Vbnlai.step] at q fine'
 by_cases c1:Vbnlai.keyOk k=false
 ·rw [if_pos c1] at q ⊢
  exact q H L _ M Fr.refl rfl rfl
 rw [if_neg c1] at q fine' ⊢
 have hk:=SV.db.mp (SV.bu c1)
 have hkc:((k.toNat:Nat):Int)=k:=by omega
 have eg:dL L.hs k=s.houses.contains k.toNat:=by
  rw [R.house,Bool.eq_iff_iff,List.any_eq_true,List.contains_iff_mem]
  constructor
  ·rintro ⟨x,hx,e⟩
   have:x=k.toNat:=by have:=beq_iff_eq.mp e;omega
   exact this ▸ hx
  ·intro h
   exact ⟨_,h,by rw [beq_iff_eq];omega⟩
 rw [eg]
 by_cases c2:s.houses.contains k.toNat=true
 ·rw [if_pos c2] at q ⊢
  exact q H L _ M Fr.refl rfl rfl
 rw [if_neg c2] at q fine' ⊢
 have hlen:(kvH L.hs).length=s.houses.length:=by unfold kvH;rw [List.length_map,R.nH]
 rw [hlen]
 by_cases c3:Vbnlai.HOUSES≤s.houses.length
 ·rw [if_pos c3] at q
  rw [if_pos (by unfold Vbnlai.HOUSES at c3;omega)]
  exact q H L _ M Fr.refl rfl rfl
 rw [if_neg c3] at q fine'
 rw [if_neg (by unfold Vbnlai.HOUSES at c3;omega)]
 have hg:dL L.hs ((k.toNat:Nat):Int)=false:=by
  rw [hkc,eg]
  cases e:s.houses.contains k.toNat with
  | false=>rfl
  | true=>exact absurd e c2
 obtain ⟨R',fr⟩:=R.addH hg
 have hput:cH (kvH L.hs) (Sum.inl k) (V.bl true)=kvH (L.hs ++ [k.toNat]):=by
  rw [de _ (by rw [val_H,← hkc,hg];rfl)]
  unfold kvH
  rw [List.map_append,List.map_cons,hkc];rfl
 rw [hput]
 refine ⟨?_,q _ _ _ ⟨R',eD M.log fr,fine'⟩ fr rfl rfl⟩
 rw [sizeLine_eq]
 unfold Vbnlai.HOUSES at c3
 omega
theorem ku(T:Txt K mg C):Can P w0 K mg base 3 "add_person" ["ledger", "key", "house", "rank"] (kz C):=by
 refine ay T.f_add_person sc_add_person (fun vs H Q E h=>by obtain ⟨_,_,_,_,_,rfl,_⟩:=h;rfl) fun f cdv A outer s0 H vs Q E hr h=> ?_
 refine ⟨_,(a7 (aw (bG (b9 (am (cB T) (hr.mono (by decide)) rfl (a6 (pv 1) ab)))) (a8 (ai (aJ az ag))) aj)
   (a7 (aw (br (aW (aM hr) (pv 2) (ae (K:=K) rfl (pv 0) rfl))) (a8 (ai (aJ az ag))) aj)
   (a7 (aw (bG (b9 (am (kb T) (hr.mono (by decide)) rfl (a6 (pv 3) ab)))) (a8 (ai (aJ az ag))) aj)
   (a7 (aw (br (fR (aM hr) (pv 1) (ae (K:=K) rfl (pv 0) rfl))) (a8 (ai (aJ az ag))) aj)
   (a7 (aw (ak qb (aA e7 rfl T.b_len PySem.boot_len (a6 (ae (K:=K) rfl (pv 0) rfl) ab)) (aB T.g_MOST_PERSONS rfl) (ap _)) (a8 (ai (aJ az ag))) aj)
   (a7 (ck (aM hr) (ae (K:=K) rfl (pv 0) rfl) (pv 1) (k7 (f8 T) (hr.mono (by decide)) rfl (a6 (pv 2) (a6 (pv 3) ab))) rfl)
   (a8 (ai ag)))))))),?_⟩
 obtain ⟨L,s,k,h,r,rfl,M,q⟩:=h
 have R:=M.rep
 dsimp! only [R.self,R.hD,R.pD,nQ,fz,Option.isSome_map]
 have fine':=M.fine.step (.person k h r)
 simp only [Vbnlai.step] at q fine'
 by_cases c1:Vbnlai.keyOk k=false
 ·rw [if_pos c1] at q ⊢
  exact q H L _ M Fr.refl rfl rfl
 rw [if_neg c1] at q fine' ⊢
 have hk:=SV.db.mp (SV.bu c1)
 have hkc:((k.toNat:Nat):Int)=k:=by omega
 rw [R.house]
 by_cases c2:(s.houses.any fun h'=>(h':Int) == h)=false
 ·rw [if_pos c2] at q ⊢
  exact q H L _ M Fr.refl rfl rfl
 rw [if_neg c2] at q fine' ⊢
 have hhc:=dG c2
 by_cases c3:Vbnlai.within r 1 9=false
 ·rw [if_pos c3] at q ⊢
  exact q H L _ M Fr.refl rfl rfl
 rw [if_neg c3] at q fine' ⊢
 have hrc:=SV.cC.mp (SV.bu c3)
 have ep:(s.persons.any fun p=>(p.key:Int) == k)=(L.pn k).isSome:=by
  rw [← SV.any_perm R.p2,List.any_map]
  unfold Lay.pn
  rw [List.isSome_find?,Bool.eq_iff_iff,List.any_eq_true,List.any_eq_true]
  constructor
  ·rintro ⟨p,hp,e⟩
   exact ⟨p,hp,by rw [R.pk p hp];exact e⟩
  ·rintro ⟨p,hp,e⟩
   exact ⟨p,hp,by rw [R.pk p hp] at e;exact e⟩
 rw [ep] at q fine'
 by_cases c4:(L.pn k).isSome=true
 ·rw [if_pos c4] at q ⊢
  exact q H L _ M Fr.refl rfl rfl
 rw [if_neg c4] at q fine' ⊢
 have hlen:(kvP L.ps).length=s.persons.length:=by
  unfold kvP
  rw [List.length_map,← R.p2.length_eq,List.length_map]
 rw [hlen]
 by_cases c5:Vbnlai.PERSONS≤s.persons.length
 ·rw [if_pos c5] at q
  rw [if_pos (by unfold Vbnlai.PERSONS at c5;omega)]
  exact q H L _ M Fr.refl rfl rfl
 rw [if_neg c5] at q fine'
 rw [if_neg (by unfold Vbnlai.PERSONS at c5;omega)]
 simp! only [dO]
 intro x dx hx hdx hne
 refine ⟨x,dx,h,r,rfl,a9,rfl,?_⟩
 rw [bv]
 have ex:Ext H (upd (upd H dx (.own x)) x (.ins C.Person dx [("house",.int h),("rank",.int r),("first_house",.int h),("first_rank",.int r)])):=(Ext.upd hdx rfl).trans (Ext.upd (by rw [af (Ne.symm hne)];exact hx) rfl)
 have hx':upd (upd H dx (.own x)) x (.ins C.Person dx [("house",.int h),("rank",.int r),("first_house",.int h),("first_rank",.int r)]) x=some (.ins C.Person dx (bz { key:=k.toNat,house:=h.toNat,rank:=r.toNat } { key:=k.toNat,house:=h.toNat,rank:=r.toNat })):=by
  rw [a9]
  unfold bz
  simp only
  rw [hhc,show ((r.toNat:Nat):Int)=r by omega]
 have hdx':upd (upd H dx (.own x)) x (.ins C.Person dx [("house",.int h),("rank",.int r),("first_house",.int h),("first_rank",.int r)]) dx=some (.own x):=by rw [af hne,a9]
 generalize upd (upd H dx (.own x)) x (.ins C.Person dx [("house",.int h),("rank",.int r),("first_house",.int h),("first_rank",.int r)])=H1 at ex hx' hdx' ⊢
 have R1:=R.mono ex
 have hpn:L.pn ((k.toNat:Nat):Int)=none:=by
  rw [hkc]
  cases e:L.pn k with
  | none=>rfl
  | some p=>rw [e] at c4;exact absurd rfl c4
 have fresh:∀ c∈aU C ((({ key:=k.toNat,house:=h.toNat,rank:=r.toNat }:Vbnlai.Person),({ key:=k.toNat,house:=h.toNat,rank:=r.toNat }:Vbnlai.Person)),(⟨x,dx⟩:QA)),H c.1=none:=fun c hc=>by
  simp only [aU,List.mem_cons,List.not_mem_nil,or_false] at hc
  rcases hc with rfl | rfl
  ·exact hx
  ·exact hdx
 have R2:=R1.addP (p:={ key:=k.toNat,house:=h.toNat,rank:=r.toNat }) (A:=⟨x,dx⟩) hpn ⟨by simp [aU];exact fun z=>hne z.symm,fun c hc=>by
  simp only [aU,List.mem_cons,List.not_mem_nil,or_false] at hc
  rcases hc with rfl | rfl
  ·exact hx'
  ·exact hdx'⟩ (fun c hc=>R.cs.free (fresh c hc))
 have fr:=Rep.addP_fr (C:=C) (L:=L) (p:=((({ key:=k.toNat,house:=h.toNat,rank:=r.toNat }:Vbnlai.Person),({ key:=k.toNat,house:=h.toNat,rank:=r.toNat }:Vbnlai.Person)),(⟨x,dx⟩:QA))) ex fresh
 have hput:cH (kvP L.ps) (Sum.inl k) (V.ref x)=kvP (L.ps ++ [((({ key:=k.toNat,house:=h.toNat,rank:=r.toNat }:Vbnlai.Person),({ key:=k.toNat,house:=h.toNat,rank:=r.toNat }:Vbnlai.Person)),(⟨x,dx⟩:QA))]):=by
  rw [de _ (by rw [fz,← hkc,hpn];rfl)]
  unfold kvP
  rw [List.map_append,List.map_cons]
  simp only [hkc];rfl
 dsimp! only [R1.self,R1.pD,hput]
 refine ⟨by rw [hlen,sizeLine_eq];unfold Vbnlai.PERSONS at c5;omega,q _ { L with ps:=L.ps ++ [((({ key:=k.toNat,house:=h.toNat,rank:=r.toNat }:Vbnlai.Person),({ key:=k.toNat,house:=h.toNat,rank:=r.toNat }:Vbnlai.Person)),(⟨x,dx⟩:QA))] } _ ⟨?_,eD M.log fr,fine'⟩ fr rfl rfl⟩
 have hp1:(s.persons ++ [({ key:=k.toNat,house:=h.toNat,rank:=r.toNat }:Vbnlai.Person)]).Perm (Vbnlai.place Vbnlai.Person.key { key:=k.toNat,house:=h.toNat,rank:=r.toNat } s.persons):=List.perm_append_comm.trans (SV.jr s.persons).symm
 have hp2:(s.now.persons ++ [({ key:=k.toNat,house:=h.toNat,rank:=r.toNat }:Vbnlai.Person)]).Perm (Vbnlai.place Vbnlai.Person.key { key:=k.toNat,house:=h.toNat,rank:=r.toNat } s.now.persons):=List.perm_append_comm.trans (SV.jr s.now.persons).symm
 exact { R2 with p1:=R2.p1.trans hp2,p2:=R2.p2.trans hp1 }
theorem ok_enter(T:Txt K mg C):Can P w0 K mg base 6 "enter" ["ledger", "place", "numbers", "sheets"] (sp_enter C):=by
 refine ay T.f_enter sc_enter (fun vs H Q E h=>by obtain ⟨_,_,_,_,_,_,rfl,_⟩:=h;rfl) fun f cdv A outer s0 H vs Q E hr h=> ?_
 refine ⟨_,(a7 (aI (i:=4) (sc_enter).nd rfl (by trivial) (aD aq (pv 2) ag (fun _ _=>rfl)))
   (a7 (aw (PW.pt (fZ (bG (b9 (am (fT T) (hr.mono (by decide)) rfl (a6 (pv 4) ab)))) (dW (ak fC (pv 4) (pe_me0 (pv 0) T.cl_Ledger (dg T) (hr.mono (by decide))) (ap _))))) (a8 (ai (aJ az ag))) aj)
   (a7 (aI (i:=5) (sc_enter).nd rfl (by trivial) (am (jV T) (hr.mono (by decide)) rfl (a6 (pv 0) (a6 (pv 1) (a6 (pv 2) (a6 (pv 3) ab))))))
   (a7 (aw (ak bU (pv 5) ag (ap _)) (a8 (ai (pv 5))) aj)
   (a7 (aw (ak qb (aA aV rfl T.b_len PySem.boot_len (a6 (ae (K:=K) rfl (pv 0) rfl) ab)) (aB T.g_MOST_ENTRIES rfl) (ap _)) (a8 (ai (aJ az ag))) aj)
   (a7 (aY (am (gw T) (hr.mono (by decide)) rfl (a6 (pv 0) (a6 (pv 1) (a6 (pv 2) (a6 (pv 3) ab))))))
   (a7 (aY (cq PySem.F.plainAttrs_list PySem.F.slot_list_append PySem.F.type_list_append cD (ae (K:=K) rfl (pv 0) rfl) (a6 (k7 (kH T) (hr.mono (by decide)) rfl (a6 (pv 4) (a6 (pv 1) (a6 (pv 2) (a6 (pv 3) ab))))) ab)))
   (a8 (ai (aA aV rfl T.b_len PySem.boot_len (a6 (ae (K:=K) rfl (pv 0) rfl) ab))))))))))),?_⟩
 obtain ⟨L,s,d,e,na,sa,rfl,M,hna,hsa,fna,fsa,ok,q⟩:=h
 have R:=M.rep
 have fine':=M.fine.step (.enter d e)
 simp only [Vbnlai.step] at fine'
 simp! only [hna]
 unfold Vbnlai.enter at q fine'
 by_cases c1:Vbnlai.dayOk d=false
 ·rw [if_pos c1]
  rw [if_pos (.inl c1)] at q
  exact q H L _ M Fr.refl rfl rfl
 rw [if_neg c1]
 have hdc:=SV.qu.mp (SV.bu c1)
 have hday:=M.day
 refine ⟨_,rfl,L.self,_,_,rfl,R.self,rfl,L,s.houses,s.persons,s.now,s.log,rfl,R,M.log,_,rfl,?_⟩
 rw [← hday]
 by_cases c2:d < (s.day:Int)
 ·rw [if_pos c2]
  rw [if_pos (.inr c2)] at q
  exact q H L _ M Fr.refl rfl rfl
 rw [if_neg c2]
 rw [if_neg (fun z=>z.elim c1 c2)] at q fine'
 have hna':H na=some (.lst ((((d.toNat:Nat):Int) :: SV.ar e).map V.int)):=by rw [show ((d.toNat:Nat):Int)=d by omega];exact hna
 refine ⟨_,⟨L,s.houses,s.persons,s.now,d.toNat,e,na,sa,rfl,M.repI,hna',hsa,ok,rfl⟩,?_⟩
 cases ha:Vbnlai.act s.houses s.now d.toNat e with
 | inl c=>
  rw [ha] at q
  have hc:=SV.act_neg ha
  simp! only [SV.rfs,hc]
  exact q H L _ M Fr.refl rfl rfl
 | inr w'=>
  rw [ha] at q fine'
  have hll:L.log.length=s.log.length:=(Paired.length M.log).symm
  dsimp! only [SV.rfs,R.self,R.lg,List.length_map,hll]
  by_cases c3:Vbnlai.LOG≤s.log.length
  ·simp only [if_pos c3] at q
   rw [if_pos (by unfold Vbnlai.LOG at c3;omega)]
   exact q H L _ M Fr.refl rfl rfl
  simp only [if_neg c3] at q fine'
  rw [if_neg (by unfold Vbnlai.LOG at c3;omega)]
  refine ⟨L,s.houses,s.persons,s.now,w',d.toNat,e,na,sa,rfl,M.repI,hna',hsa,ha,fun H' L' R' fr g1 g2=> ?_⟩
  have hself:=R'.self
  rw [g1] at hself
  dsimp! only [hself,R'.lg,dO]
  intro x dx hx hdx hne
  refine ⟨x,dx,d,SV.pl e,na,sa,rfl,a9,rfl,?_⟩
  rw [bv]
  have ex:Ext H' (upd (upd H' dx (.own x)) x (.ins C.Entry dx [("day",.int d),("place",.int (SV.pl e)),("numbers",.ref na),("sheets",.ref sa)])):=(Ext.upd hdx rfl).trans (Ext.upd (by rw [af (Ne.symm hne)];exact hx) rfl)
  have hx':upd (upd H' dx (.own x)) x (.ins C.Entry dx [("day",.int d),("place",.int (SV.pl e)),("numbers",.ref na),("sheets",.ref sa)]) x=some (.ins C.Entry dx [("day",.int ((d.toNat:Nat):Int)),("place",.int (SV.pl e)),("numbers",.ref na),("sheets",.ref sa)]):=by
   rw [a9,show ((d.toNat:Nat):Int)=d by omega]
  generalize upd (upd H' dx (.own x)) x (.ins C.Entry dx [("day",.int d),("place",.int (SV.pl e)),("numbers",.ref na),("sheets",.ref sa)])=H1 at ex hx' ⊢
  have R1:=R'.mono ex
  have hself1:=R1.self
  rw [g1] at hself1
  obtain ⟨R2,fr2⟩:=R1.addLog (a:=x)
  have hself2:=R2.self
  simp only [g1] at hself2
  have hlg2:=R2.lg
  have hL':L'.log.length=s.log.length:=by rw [g2,hll]
  simp only [List.map_append,List.map_cons,List.map_nil] at R2 fr2 hself2 hlg2
  dsimp! only [R1.lg,List.length_map,hL',hself2,hlg2,List.length_append]
  refine ⟨by rw [sizeLine_eq];unfold Vbnlai.LOG at c3;omega,?_⟩
  have frA:Fr C H L _ { L' with log:=L'.log ++ [x] }:=(fr.trans (Fr.ext ex)).trans fr2
  have ent:dv C H1 L' (d.toNat,e) x:=⟨dx,na,sa,hx',ex.1 _ _ (fr.keep _ _ hna' fna),ex.1 _ _ (fr.keep _ _ hsa fsa),R'.cs.free hx,fr.off hna' fna,fr.off hsa fsa⟩
  have logs:Paired (dv C (upd H1 L'.lg (.lst (L'.log.map V.ref ++ [V.ref x]))) { L' with log:=L'.log ++ [x] }) (s.log ++ [(d.toNat,e)]) (L'.log ++ [x]):=by
   have gen:∀ {F:(Nat×Vbnlai.Entry)→Addr→Prop} {l:List (Nat×Vbnlai.Entry)} {m:List Addr} {a:Nat×Vbnlai.Entry} {b:Addr},Paired F l m→F a b→Paired F (l ++ [a]) (m ++ [b]):=by
    intro F l m a b h hab
    induction h with
    | nil=>exact .cons hab .nil
    | cons h1 _ ih=>exact .cons h1 ih
   have ml:=eD M.log frA
   rw [← g2] at ml
   exact gen ml (ent.fr fr2)
  have:=q _ { L' with log:=L'.log ++ [x] } (s.log.length + 1) ⟨R2,logs,fine'⟩ frA g1 rfl
  exact this
end
section
variable(C:Cs)
def fW:Sp:=fun vs H Q _=>∃ pD,∃ ps:List ((Vbnlai.Person×Vbnlai.Person)×QA),vs=[.ref pD]∧H pD=some (.dK (kvP ps))∧(∀ p∈ps,H p.2.a=some (.ins C.Person p.2.dx (bz p.1.1 p.1.2)))∧(∀ p∈ps,p.1.1.key=p.1.2.key)∧(ps.map fun p=>(p.1.1.key:Int)).Nodup∧ps.length≤20 ∧
 ∀ d qs H',Ext H H'→qs.map (·.1)=ps.map (fun p=>(p.1.2,p.1.2))→ax H' ((d,.dK (kvP qs)) :: qs.flatMap (aU C))→(∀ c∈(d,HO.dK (kvP qs)) :: qs.flatMap (aU C),H c.1=none)→Q (.ref d) H'
end
section
variable{P:Program}{w0:World}{K:PySem.W.Frag}{mg:Str→Option Value}{base:Heap}{C:Cs}
theorem fY(T:Txt K mg C):Can P w0 K mg base 3 "persons_at_first" ["persons"] (fW C):=by
 refine ay T.f_persons_at_first sc_persons_at_first (fun vs H Q E h=>by obtain ⟨_,_,rfl,_⟩:=h;rfl) fun f cdv A outer s0 H vs Q E hr h=> ?_
 refine ⟨_,(a7 (aI (i:=1) (sc_persons_at_first).nd rfl (by trivial) cK)
   (a7 (fS (bO PassesOwn.never rfl (pi_items (pv 0)) (eE (n:=2) rfl (bw (aC (i:=2) (sc_persons_at_first).nd rfl (by trivial)) (bw (aC (i:=3) (sc_persons_at_first).nd rfl (by trivial)) eF))) (a8 (ck (aM hr) (pv 1) (pv 2) (k7 (f8 T) (hr.mono (by decide)) rfl (a6 (ae (K:=K) rfl (pv 3) rfl) (a6 (ae (K:=K) rfl (pv 3) rfl) ab))) rfl))))
   (a8 (ai (pv 1))))),?_⟩
 obtain ⟨pD,ps,rfl,hD,hps,hpk,nd,h20,q⟩:=h
 simp! only [k9]
 intro d hd
 have nd0:pD≠d:=al hD hd
 have hD1:upd H d (.dK []) pD=some (.dK (kvP ps)):=(af nd0).trans hD
 refine ⟨pD,_,hD1,trivial,fun od=> ?_⟩
 have hf:upd (upd H d (.dK [])) pD (.frz od (.dK (kvP ps))) pD=some (.frz od (.dK (kvP ps))):=a9
 have hfd:upd (upd H d (.dK [])) pD (.frz od (.dK (kvP ps))) d=some (.dK []):=(af (Ne.symm nd0)).trans a9
 have hfo:∀ b u,H b=some u→b≠pD→upd (upd H d (.dK [])) pD (.frz od (.dK (kvP ps))) b=some u:=fun b u hb hne=>by rw [af hne,af (al hb hd)];exact hb
 have hfn:∀ b u,upd (upd H d (.dK [])) pD (.frz od (.dK (kvP ps))) b=some u→b≠pD→b≠d→H b=some u:=fun b u hb h1 h2=>by rw [af h1,af h2] at hb;exact hb
 generalize upd (upd H d (.dK [])) pD (.frz od (.dK (kvP ps)))=Hf at hf hfd hfo hfn ⊢
 refine ⟨_,rfl,pD,od,kvP ps,rfl,hf,?_⟩
 refine cM (n:=ps.length) (P:=fun i x H1 H2=>∃ T k v,(kvP ps)[i]? = some (k,v)∧x = .ref T∧H1 T=none∧H2=upd H1 T (.tup [kV k,v]))
  (fun i σ2 H2=>(∃ v1 v2:Option V,σ2=[some (V.ref pD),some (V.ref d),v1,v2])∧H2 pD=some (.frz od (.dK (kvP ps)))∧∃ qs,qs.map (·.1)=(ps.take i).map (fun p=>(p.1.2,p.1.2))∧ax H2 ((d,.dK (kvP qs)) :: qs.flatMap (aU C)) ∧
   (∀ c∈(d,HO.dK (kvP qs)) :: qs.flatMap (aU C),H c.1=none)∧(∀ b u,H b=some u→b≠pD→H2 b=some u)∧(∀ b u,H2 b=some u→b≠pD→H b=some u∨ca u=true)) (fun i σ2 H2 hi h=> ?_) ?_ (fun i x σ2 H2 H3 hi h hx=> ?_) (fun σ2 H2 h=> ?_)
 ·obtain ⟨_,h1,_⟩:=h
  have hl:(kvP ps).length=ps.length:=by unfold kvP;rw [List.length_map]
  refine ⟨fun hlt=>⟨⟨h1,by rw [hl];exact hlt⟩,fun x H' hy=> ?_⟩,fun he=>⟨h1,by rw [hl];omega⟩⟩
  obtain ⟨T',k,v,e1,e2,e3,e4⟩:=hy
  exact ⟨T',k,v,e1,e2,e3,e4⟩
 ·refine ⟨⟨none,none,rfl⟩,hf,[],rfl,⟨by simp,fun c hc=> ?_⟩,fun c hc=> ?_,hfo,fun b u hb hne=> ?_⟩
  ·simp at hc;subst hc;exact hfd
  ·simp at hc;subst hc;exact hd
  ·by_cases hbd:b=d
   ·subst hbd;rw [hfd] at hb;cases hb;exact .inr rfl
   ·exact .inl (hfn b u hb hne hbd)
 ·obtain ⟨⟨v1,v2,rfl⟩,h1,qs,e1,hc,hfree,keep,nodt⟩:=h
  obtain ⟨T',k,v,e2,rfl,hT,rfl⟩:=hx
  unfold kvP at e2
  rw [List.getElem?_map] at e2
  cases ei:ps[i]? with
  | none=>rw [ei] at e2;cases e2
  | some p=>
   rw [ei] at e2
   cases e2
   have hpm:=List.mem_of_getElem? ei
   have hP:=hps p hpm
   have npD:p.2.a≠pD:=cu hP hD (by intro z;cases z)
   have hP2:=keep _ _ hP npD
   have hP3:upd H2 T' (.tup [kV (Sum.inl (p.1.1.key:Int)),V.ref p.2.a]) p.2.a=some (.ins C.Person p.2.dx (bz p.1.1 p.1.2)):=(af (al hP2 hT)).trans hP2
   simp! only [a9]
   dsimp! only [hP3,dO]
   have ex1:Ext H2 (upd H2 T' (.tup [kV (Sum.inl (p.1.1.key:Int)),V.ref p.2.a])):=Ext.upd hT rfl
   generalize upd H2 T' (.tup [kV (Sum.inl (p.1.1.key:Int)),V.ref p.2.a])=H3 at ex1 ⊢
   intro x dx hx hdx hne
   refine ⟨x,dx,p.1.2.house,p.1.2.rank,rfl,a9,rfl,?_⟩
   rw [bv]
   have ex2:Ext H3 (upd (upd H3 dx (.own x)) x (.ins C.Person dx (bz p.1.2 p.1.2))):=(Ext.upd hdx rfl).trans (Ext.upd (by rw [af (Ne.symm hne)];exact hx) rfl)
   have hx':upd (upd H3 dx (.own x)) x (.ins C.Person dx (bz p.1.2 p.1.2)) x=some (.ins C.Person dx (bz p.1.2 p.1.2)):=a9
   have hdx':upd (upd H3 dx (.own x)) x (.ins C.Person dx (bz p.1.2 p.1.2)) dx=some (.own x):=by rw [af hne,a9]
   have eG:upd (upd H3 dx (.own x)) x (.ins C.Person dx [("house",V.int p.1.2.house),("rank",V.int p.1.2.rank),("first_house",V.int p.1.2.house),("first_rank",V.int p.1.2.rank)])=upd (upd H3 dx (.own x)) x (.ins C.Person dx (bz p.1.2 p.1.2)):=rfl
   rw [eG]
   generalize upd (upd H3 dx (.own x)) x (.ins C.Person dx (bz p.1.2 p.1.2))=G at ex2 hx' hdx' ⊢
   have ex:=ex1.trans ex2
   have hdG:=ex.1 _ _ (hc.at_ (d,_) List.mem_cons_self)
   simp only at hdG
   have hkeys:qs.map (fun q=>(q.1.1.key:Int))=(ps.take i).map fun p=>(p.1.1.key:Int):=by
    have:=congrArg (List.map fun z:Vbnlai.Person×Vbnlai.Person=>(z.1.key:Int)) e1
    simp only [List.map_map] at this
    refine Eq.trans this (List.map_congr_left fun z hz=> ?_)
    simp only [Function.comp]
    rw [hpk z (List.mem_of_mem_take hz)]
   have hval:bo (kvP qs) (Sum.inl (p.1.1.key:Int))=none:=by
    unfold kvP
    rw [fP (fun q:(Vbnlai.Person×Vbnlai.Person)×QA=>(q.1.1.key:Int))]
    have:qs.find? (fun q=>(q.1.1.key:Int) == (p.1.1.key:Int))=none:=by
     rw [List.find?_eq_none]
     intro z hz hzk
     have h3:(p.1.1.key:Int)∈(ps.take i).map fun p=>(p.1.1.key:Int):=by
      rw [← hkeys]
      exact List.mem_map.mpr ⟨z,hz,beq_iff_eq.mp hzk⟩
     obtain ⟨z',hz',ez⟩:=List.mem_map.mp h3
     obtain ⟨j,hj,ej⟩:=List.getElem_of_mem hz'
     rw [List.length_take] at hj
     have a1:(ps.map fun p=>(p.1.1.key:Int))[j]? = some (p.1.1.key:Int):=by
      rw [List.getElem_take] at ej
      rw [List.getElem?_map,List.getElem?_eq_getElem (by omega),ej]
      exact congrArg some ez
     have a2:(ps.map fun p=>(p.1.1.key:Int))[i]? = some (p.1.1.key:Int):=by rw [List.getElem?_map,ei];rfl
     have:=mN nd a1 a2
     omega
    rw [this];rfl
   have hput:cH (kvP qs) (Sum.inl (p.1.1.key:Int)) (.ref x)=kvP (qs ++ [((p.1.2,p.1.2),(⟨x,dx⟩:QA))]):=by
    rw [de _ hval]
    unfold kvP
    rw [List.map_append,List.map_cons,hpk p hpm];rfl
   have hqs:qs.length≤20:=by
    have:=congrArg List.length e1
    simp only [List.length_map,List.length_take] at this
    omega
   simp! only [kV,hdG,hput]
   refine ⟨by unfold kvP;rw [List.length_map,sizeLine_eq];omega,?_,qs ++ [((p.1.2,p.1.2),(⟨x,dx⟩:QA))],?_,?_,?_,?_,?_⟩
   ·rw [af nd0]
    exact ex.1 _ _ h1
   ·rw [List.map_append,e1,List.take_add_one,ei,List.map_append];rfl
   ·have n1:ax G (aU C ((p.1.2,p.1.2),(⟨x,dx⟩:QA))):=⟨by simp [aU];exact fun z=>hne z.symm,fun c hc'=>by
     simp only [aU,List.mem_cons,List.not_mem_nil,or_false] at hc'
     rcases hc' with rfl | rfl
     ·exact hx'
     ·exact hdx'⟩
    have old:=hc.mono ex.1
    have n2:=old.add n1 (fun c hc'=>by
     simp only [aU,List.mem_cons,List.not_mem_nil,or_false] at hc'
     rcases hc' with rfl | rfl
     ·exact hc.free (ex1.1.free hx)
     ·exact hc.free (ex1.1.free hdx))
    have n3:=ax.set (p:=aU C ((p.1.2,p.1.2),(⟨x,dx⟩:QA))) (o':=.dK (kvP (qs ++ [((p.1.2,p.1.2),(⟨x,dx⟩:QA))]))) n2
    refine n3.perm ?_
    rw [List.flatMap_append]
    refine List.Perm.trans List.perm_middle ?_
    refine List.Perm.cons _ ?_
    refine List.Perm.trans List.perm_append_comm ?_
    exact List.Perm.append_left _ (List.Perm.of_eq (by simp))
   ·intro c hc'
    rcases List.mem_cons.mp hc' with rfl | hc'
    ·exact hd
    ·rw [List.flatMap_append,List.mem_append] at hc'
     rcases hc' with hc' | hc'
     ·exact hfree c (List.mem_cons_of_mem _ hc')
     ·have hn:∀ b,H2 b=none→H b=none:=fun b hb=>by
       cases eb:H b with
       | none=>rfl
       | some u=>
        by_cases hbp:b=pD
        ·subst hbp;rw [h1] at hb;cases hb
        ·rw [keep b u eb hbp] at hb;cases hb
      simp only [List.flatMap_cons,List.flatMap_nil,List.append_nil,aU,List.mem_cons,List.not_mem_nil,or_false] at hc'
      rcases hc' with rfl | rfl
      ·exact hn _ (ex1.1.free hx)
      ·exact hn _ (ex1.1.free hdx)
   ·intro b u hb hne'
    rw [af (al hb hd)]
    exact ex.1 _ _ (keep b u hb hne')
   ·intro b u hb hne'
    by_cases hbd:b=d
    ·subst hbd;rw [a9] at hb;cases hb;exact .inr rfl
    ·rw [af hbd] at hb
     rcases ex.2 b u hb with h | h
     ·exact nodt b u h hne'
     ·exact .inr h
 ·obtain ⟨⟨v1,v2,rfl⟩,h1,qs,e1,hc,hfree,keep,nodt⟩:=h
  rw [List.take_length] at e1
  refine ⟨h1,_,rfl,?_⟩
  have hpd:pD∉((d,HO.dK (kvP qs)) :: qs.flatMap (aU C)).map (·.1):=fun z=>by
   obtain ⟨c,hc',e⟩:=List.mem_map.mp z
   have:=hfree c hc'
   rw [e,hD] at this
   cases this
  refine q d qs _ ⟨fun b u hb=> ?_,fun b u hb=> ?_⟩ e1 (hc.other hpd) hfree
  ·by_cases hbp:b=pD
   ·subst hbp;rw [a9,← hb,hD]
   ·rw [af hbp];exact keep b u hb hbp
  ·by_cases hbp:b=pD
   ·subst hbp;rw [a9] at hb;cases hb;exact .inl hD
   ·rw [af hbp] at hb;exact nodt b u hb hbp
theorem nX{H G G1:Hp}{L0 L1:Lay}(ex:Ext H G)(ft:∀ a,a∈aS C L0→H a=none)(fr:Fr C G L0 G1 L1)(pl:bA G1):Ext H G1∧∀ a,a∈aS C L1→H a=none:=by
 refine ⟨⟨fun b u hb=> ?_,fun b u hb=>.inr (pl b u hb)⟩,fun a ha=> ?_⟩
 ·exact fr.keep b u (ex.1 b u hb) fun z=>by rw [ft b z] at hb;cases hb
 ·rcases fr.new a ha with h | h
  ·exact ft a h
  ·exact ex.1.free h
theorem bN{α β : Type}{F : α→β→Prop}:∀ {l:List α} {m:List β},Paired F l m→∀ {i:Nat} {b : β},m[i]? = some b→∃ a,l[i]? = some a∧F a b
 | _,_,.nil,i,b,h=>by simp at h
 | _,_,.cons (a:=a) h t,0,b,e=>by
  have:=Option.some.inj (by simpa using e)
  subst this
  exact ⟨a,rfl,h⟩
 | _,_,.cons h t,i + 1,b,e=>by
  obtain ⟨a,h1,h2⟩:=bN t (i:=i) (b:=b) (by simpa using e)
  exact ⟨a,by simpa using h1,h2⟩
theorem bc(a b c d:V):([("day",a),("place",b),("numbers",c),("sheets",d)]:List (Str×V)).lookup ("day" : Str)=some a:=rfl
theorem aQ(a b c d:V):([("day",a),("place",b),("numbers",c),("sheets",d)]:List (Str×V)).lookup ("place" : Str)=some b:=rfl
theorem aE(a b c d:V):([("day",a),("place",b),("numbers",c),("sheets",d)]:List (Str×V)).lookup ("numbers" : Str)=some c:=rfl
theorem aK(a b c d:V):([("day",a),("place",b),("numbers",c),("sheets",d)]:List (Str×V)).lookup ("sheets" : Str)=some d:=rfl
theorem gW{H G:Hp}{x dx hD pD gD sD lD lg:Addr}(hx:H x=none)(hdx:H dx=none)(hne:dx≠x)(g1:G x=some (.ins C.Ledger dx [("houses",.ref hD),("persons",.ref pD),("gatherings",.ref gD),("sheets",.ref sD),("loans",.ref lD),("log",.ref lg)]))
  (z1:upd (upd H dx (.own x)) x (.ins C.Ledger dx []) hD=none) (z2:upd (upd H dx (.own x)) x (.ins C.Ledger dx []) pD=none) (z3:upd (upd H dx (.own x)) x (.ins C.Ledger dx []) gD=none) (z4:upd (upd H dx (.own x)) x (.ins C.Ledger dx []) sD=none) (z5:upd (upd H dx (.own x)) x (.ins C.Ledger dx []) lD=none) (z6:upd (upd H dx (.own x)) x (.ins C.Ledger dx []) lg=none)
  (nd:([hD,pD,gD,sD,lD,lg]:List Addr).Nodup) (d1:G hD=some (.dK [])) (d2:G pD=some (.dK [])) (d3:G gD=some (.dK [])) (d4:G sD=some (.dK [])) (d5:G lD=some (.dK [])) (d6:G lg=some (.lst []))
  (keep:∀ b u,upd (upd H dx (.own x)) x (.ins C.Ledger dx []) b=some u→b≠x→G b=some u) (nodt:∀ b u,G b=some u→upd (upd H dx (.own x)) x (.ins C.Ledger dx []) b=some u∨ca u=true) (pl:bA H) :
  Ext H G∧Rep C G ⟨x,dx,hD,pD,gD,sD,lD,lg,[],[],[],[],[],[]⟩ [] [] {}∧∀ a,a∈aS C ⟨x,dx,hD,pD,gD,sD,lD,lg,[],[],[],[],[],[]⟩→H a=none:=by
 obtain ⟨ex,hdx'⟩:=ke hx hdx hne keep nodt
 have m1:=ci hne z1
 have m2:=ci hne z2
 have m3:=ci hne z3
 have m4:=ci hne z4
 have m5:=ci hne z5
 have m6:=ci hne z6
 refine ⟨ex,{ cs:=⟨?_,fun c hc=> ?_⟩,ds:=fun p hp=>(by cases hp),hP:=List.Perm.refl _,p1:=List.Perm.refl _,p2:=List.Perm.refl _,pk:=fun p hp=>(by cases hp),gP:=List.Perm.refl _,sP:=List.Perm.refl _,lP:=List.Perm.refl _,hN:=List.nodup_nil,pN:=List.nodup_nil,gN:=List.nodup_nil,sN:=List.nodup_nil,lN:=List.nodup_nil,pl:=ex.plain pl },fun a ha=> ?_⟩
 ·show (x :: dx :: [hD,pD,gD,sD,lD,lg]).Nodup
  rw [List.nodup_cons,List.nodup_cons]
  refine ⟨?_,?_,nd⟩
  ·simp only [List.mem_cons,List.not_mem_nil,or_false,not_or]
   exact ⟨Ne.symm hne,Ne.symm m1.2.1,Ne.symm m2.2.1,Ne.symm m3.2.1,Ne.symm m4.2.1,Ne.symm m5.2.1,Ne.symm m6.2.1⟩
  ·simp only [List.mem_cons,List.not_mem_nil,or_false,not_or]
   exact ⟨Ne.symm m1.2.2,Ne.symm m2.2.2,Ne.symm m3.2.2,Ne.symm m4.2.2,Ne.symm m5.2.2,Ne.symm m6.2.2⟩
 ·have hc':c∈[(x,HO.ins C.Ledger dx [("houses",V.ref hD),("persons",.ref pD),("gatherings",.ref gD),("sheets",.ref sD),("loans",.ref lD),("log",.ref lg)]),(dx,.own x),(hD,.dK []),(pD,.dK []),(gD,.dK []),(sD,.dK []),(lD,.dK []),(lg,.lst [])]:=hc
  simp only [List.mem_cons,List.not_mem_nil,or_false] at hc'
  rcases hc' with rfl | rfl | rfl | rfl | rfl | rfl | rfl | rfl
  ·exact g1
  ·exact hdx'
  ·exact d1
  ·exact d2
  ·exact d3
  ·exact d4
  ·exact d5
  ·exact d6
 ·have ha':a∈[x,dx,hD,pD,gD,sD,lD,lg]:=ha
  simp only [List.mem_cons,List.not_mem_nil,or_false] at ha'
  rcases ha' with rfl | rfl | rfl | rfl | rfl | rfl | rfl | rfl
  ·exact hx
  ·exact hdx
  ·exact m1.1
  ·exact m2.1
  ·exact m3.1
  ·exact m4.1
  ·exact m5.1
  ·exact m6.1
end
section
variable(C:Cs)
def lY:Sp:=fun vs H Q _=>∃ L s d,vs=[.ref L.self,.int d]∧cY C H L s∧Vbnlai.dayOk d=true∧∀ H' L',Ext H H'→bM C H' L' s.houses s.persons (Vbnlai.view s d.toNat)→Q (.ref L'.self) H'
end
section
variable{P:Program}{w0:World}{K:PySem.W.Frag}{mg:Str→Option Value}{base:Heap}{C:Cs}
theorem mn(T:Txt K mg C):Can P w0 K mg base 6 "ledger_at" ["ledger", "day"] (lY C):=by
 refine ay T.f_ledger_at sc_ledger_at (fun vs H Q E h=>by obtain ⟨_,_,_,rfl,_⟩:=h;rfl) fun f cdv A outer s0 H vs Q E hr h=> ?_
 refine ⟨_,(a7 (aI (i:=2) (sc_ledger_at).nd rfl (by trivial) (pe_mk0 (fo T) (hr.mono (by decide)) rfl))
   (a7 (aH (K:=K) rfl (pv 2) (d9 cr_dictOf rfl T.b_dict boot_dict (a6 (ae (K:=K) rfl (pv 0) rfl) ab)) rfl)
   (a7 (aH (K:=K) rfl (pv 2) (am (fY T) (hr.mono (by decide)) rfl (a6 (ae (K:=K) rfl (pv 0) rfl) ab)) rfl)
   (a7 (bO PassesOwn.never rfl (aN (K:=K) rfl (ae (K:=K) rfl (pv 0) rfl)) (aC (i:=3) (sc_ledger_at).nd rfl (by trivial)) (a7 (aw (ak dI (ae (K:=K) rfl (pv 3) rfl) (pv 1) (ap _)) (a8 ps_break) aj)
   (a8 (aY (am (gw T) (hr.mono (by decide)) rfl (a6 (pv 2) (a6 (ae (K:=K) rfl (pv 3) rfl) (a6 (ae (K:=K) rfl (pv 3) rfl) (a6 (ae (K:=K) rfl (pv 3) rfl) ab)))))))))
   (a8 (ai (pv 2))))))),?_⟩
 obtain ⟨L,s,d,rfl,M,hd,q⟩:=h
 have R:=M.rep
 have hdc:=SV.qu.mp hd
 simp! only [dO]
 intro x dx hx hdx hne
 refine ⟨x,dx,rfl,a9,fun hD pD gD sD lD lg G g1 z1 z2 z3 z4 z5 z6 nd d1 d2 d3 d4 d5 d6 keep nodt=>⟨rfl,?_⟩⟩
 obtain ⟨ex,R0,ft0⟩:=gW hx hdx hne g1 z1 z2 z3 z4 z5 z6 nd d1 d2 d3 d4 d5 d6 keep nodt R.pl
 have RG:=R.mono ex
 dsimp! only [RG.self,RG.hD,Rd]
 refine ⟨_,.inl rfl,fun h2 hh2=> ?_⟩
 refine ⟨_,_,_,(af (al g1 hh2)).trans g1,T.cl_Ledger,T.na_Ledger_houses,show 6 < 1000 by decide,?_⟩
 obtain ⟨R1,fr1⟩:=R0.newHouses (d:=h2) (l:=L.hs) (hs':=s.houses) hh2 R.hP R.hN
 have eq1:upd (upd G h2 (.dK (kvH L.hs))) x (.ins C.Ledger dx (b0 "houses" (V.ref h2) [("houses",.ref hD),("persons",.ref pD),("gatherings",.ref gD),("sheets",.ref sD),("loans",.ref lD),("log",.ref lg)]))=upd (upd G h2 (.dK (kvH L.hs))) x (.ins C.Ledger dx (bb ⟨x,dx,h2,pD,gD,sD,lD,lg,L.hs,[],[],[],[],[]⟩)):=rfl
 rw [eq1]
 obtain ⟨ex1,ft1⟩:=nX ex ft0 fr1 R1.pl
 simp only at R1 fr1 ex1 ft1
 generalize upd (upd G h2 (.dK (kvH L.hs))) x (.ins C.Ledger dx (bb ⟨x,dx,h2,pD,gD,sD,lD,lg,L.hs,[],[],[],[],[]⟩))=G1 at R1 fr1 ex1 ft1 ⊢
 have RG1:=R.mono ex1
 refine ⟨_,_,_,RG1.self,T.cl_Ledger,T.na_Ledger_persons,_,kn L,?_⟩
 have h20:L.ps.length≤20:=by
  have:=M.fine.pN
  unfold Vbnlai.PERSONS at this
  rw [← R.p2.length_eq,List.length_map] at this
  exact this
 refine ⟨L.pD,L.ps,rfl,RG1.pD,fun p hp=>RG1.person hp,R.pk,R.pN,h20,fun dq qs G2 ex2 e1 hc hfree=> ?_⟩
 have R1':=R1.mono ex2
 refine ⟨_,_,_,R1'.self,T.cl_Ledger,T.na_Ledger_persons,show 6 < 1000 by decide,?_⟩
 have hq:∀ p∈qs,p.1.1=p.1.2∧∃ z∈L.ps,p.1.1=z.1.2:=fun p hp=>by
  have h3:p.1∈qs.map (·.1):=List.mem_map_of_mem hp
  rw [e1] at h3
  obtain ⟨z,hz,e⟩:=List.mem_map.mp h3
  rw [← e]
  exact ⟨rfl,z,hz,rfl⟩
 have em1:qs.map (·.1.1)=L.ps.map (·.1.2):=by
  have:=congrArg (List.map fun z:Vbnlai.Person×Vbnlai.Person=>z.1) e1
  simp only [List.map_map] at this
  exact this
 have em2:qs.map (·.1.2)=L.ps.map (·.1.2):=by
  have:=congrArg (List.map fun z:Vbnlai.Person×Vbnlai.Person=>z.2) e1
  simp only [List.map_map] at this
  exact this
 have em3:(qs.map fun p=>(p.1.1.key:Int))=L.ps.map fun p=>(p.1.1.key:Int):=by
  have:=congrArg (List.map fun z:Vbnlai.Person=>(z.key:Int)) em1
  simp only [List.map_map] at this
  refine Eq.trans this (List.map_congr_left fun z hz=> ?_)
  simp only [Function.comp]
  rw [R.pk z hz]
 have R2:=R1'.newPersons (P1:=s.persons) rfl hc (fun c hc'=>R1.cs.free (hfree c hc')) (by rw [em1];exact R.p2) (by rw [em2];exact R.p2) (fun p hp=>by rw [(hq p hp).1]) (by rw [em3];exact R.pN) (fun p hp=>(by cases hp))
 have eq2:upd G2 x (.ins C.Ledger dx (b0 "persons" (V.ref dq) (bb ⟨x,dx,h2,pD,gD,sD,lD,lg,L.hs,[],[],[],[],[]⟩)))=upd G2 x (.ins C.Ledger dx (bb ⟨x,dx,h2,dq,gD,sD,lD,lg,L.hs,qs,[],[],[],[]⟩)):=rfl
 rw [eq2]
 have ex3:Ext H (upd G2 x (.ins C.Ledger dx (bb ⟨x,dx,h2,dq,gD,sD,lD,lg,L.hs,qs,[],[],[],[]⟩))):=Ext.into hx (ex1.trans ex2) rfl
 have ft3:∀ b,b∈aS C ⟨x,dx,h2,dq,gD,sD,lD,lg,L.hs,qs,[],[],[],[]⟩→H b=none:=fun b hb=>by
  rcases j9 (C:=C) (L:=⟨x,dx,h2,pD,gD,sD,lD,lg,L.hs,[],[],[],[],[]⟩) rfl hb with h | ⟨c,hc',rfl⟩
  ·exact ft1 b h
  ·exact ex1.1.free (hfree c hc')
 generalize upd G2 x (.ins C.Ledger dx (bb ⟨x,dx,h2,dq,gD,sD,lD,lg,L.hs,qs,[],[],[],[]⟩))=G3 at R2 ex3 ⊢
 have RG3:=R.mono ex3
 refine ⟨_,rfl,_,_,_,_,_,rfl,RG3.self,T.cl_Ledger,T.na_Ledger_log,lk_log L,L.lg,_,rfl,RG3.lg,?_⟩
 have g:=M.fine.toGood
 have done:∀ H2 N i,Ext H H2→Rep C H2 N s.houses s.persons (SV.wAt s i)→N.self=x→i=SV.upTo s d.toNat→Q (.ref x) H2:=fun H2 N i e2 r2 ns hi=>by
  subst hi
  have:=q H2 N e2 ⟨by rw [g.view];exact r2,⟨_,g.logN,by rw [g.view];exact (g.inv _ (SV.pS s _)).mono (SV.pS s _)⟩,by rw [g.view];exact M.fine.rinv _ (SV.pS s _)⟩
  rw [ns] at this
  exact this
 refine di (xs:=L.log.map V.ref) (fun i σ2 H2=>(∃ v:Option V,σ2=[some (V.ref L.self),some (V.int d),some (V.ref x),v])∧i≤SV.upTo s d.toNat∧∃ N,Ext H H2∧Rep C H2 N s.houses s.persons (SV.wAt s i)∧(∀ b,b∈aS C N→H b=none)∧N.self=x) ⟨⟨none,rfl⟩,Nat.zero_le _,_,ex3,?_,ft3,rfl⟩ (fun i σ2 H2 _ h=> ?_) (fun i y σ2 H2 hy h=> ?_) (fun σ2 H2 h=> ?_)
 ·rw [SV.ng]
  exact R2
 ·obtain ⟨_,_,N,e2,_⟩:=h
  exact SqL.of ((R.mono e2).lg)
 ·obtain ⟨⟨v,rfl⟩,hi,N,e2,r2,f2,ns⟩:=h
  rw [List.getElem?_map] at hy
  cases ea:L.log[i]? with
  | none=>rw [ea] at hy;cases hy
  | some a=>
   rw [ea] at hy
   cases hy
   obtain ⟨en,hen,hat⟩:=bN M.log ea
   obtain ⟨edx,na,sa,h1,h2',h3,h4,h5,h6⟩:=hat.ex
   have h1':=e2.1 _ _ h1
   have hiff:=SV.upTo_iff g (d:=d.toNat) hen
   simp_all! only [bc,aQ,aE,aK,tBreak,h1']
   by_cases c1:d < (en.1:Int)
   ·rw [if_pos c1]
    refine done H2 N i e2 r2 ns ?_
    have:¬ i < SV.upTo s d.toNat:=fun z=>by
     have:=hiff.mpr z
     omega
    omega
   ·rw [if_neg c1]
    have hlt:=hiff.mp (by omega)
    have hok:=g.ok i en.1 en.2 hen
    have hi':=(List.getElem?_eq_some_iff.mp hen).1
    have rI:bM C H2 N s.houses s.persons (SV.wAt s i):=⟨r2,⟨_,g.logN,(g.inv i (Nat.le_of_lt hi')).mono (Nat.le_of_lt hi')⟩,M.fine.rinv i (Nat.le_of_lt hi')⟩
    refine ⟨N,s.houses,s.persons,SV.wAt s i,SV.wAt s (i + 1),en.1,en.2,na,sa,by rw [ns],rI,e2.1 _ _ h2',e2.1 _ _ h3,hok,fun H4 N4 r4 fr4 s4 l4=> ?_⟩
    obtain ⟨e4,f4⟩:=nX e2 f2 fr4 r4.pl
    exact ⟨hlt,e4,N4,r4,f4,s4.trans ns⟩
 ·obtain ⟨⟨v,rfl⟩,hi,N,e2,r2,f2,ns⟩:=h
  refine ⟨_,rfl,done H2 N _ e2 r2 ns ?_⟩
  have h3:=SV.pS s d.toNat
  have h4:L.log.length=s.log.length:=(Paired.length M.log).symm
  rw [List.length_map] at hi ⊢
  omega
end
section
variable(C:Cs)
def fH(vs:List V)(H:Hp)(r:V):Prop:=∃ a dx na sa,∃ d:Nat,∃ e k,vs=[.ref a,.int k]∧H a=some (.ins C.Entry dx [("day",.int d),("place",.int (SV.pl e)),("numbers",.ref na),("sheets",.ref sa)])∧H na=some (.lst (((d:Int) :: SV.ar e).map V.int))∧H sa=some (.lst ((SV.sh e).map V.int))∧SV.SpOk e∧bA H∧r = .bl ((Vbnlai.speaks e).contains k)
def jQ:Sp:=fun vs H Q _=>∃ r,fH C vs H r∧Q r H
end
theorem d8(x k:Int):([x]:List Int).contains k=decide (k=x):=by rw [Bool.eq_iff_iff];simp
section
variable{P:Program}{w0:World}{K:PySem.W.Frag}{mg:Str→Option Value}{base:Heap}{C:Cs}
theorem jJ(T:Txt K mg C):Can P w0 K mg base 2 "names_sheet" ["entry", "key"] (jQ C):=by
 refine cb (pre:=fH C) (ay T.f_names_sheet sc_names_sheet (fun vs H Q E h=>by obtain ⟨_,⟨_,_,_,_,_,_,_,rfl,_⟩,_⟩:=h;rfl) fun f cdv A outer s H vs Q E hr h=> ?_) fun vs H r h=>by obtain ⟨_,_,_,_,_,_,_,_,_,_,_,_,pl,_⟩:=h;exact pl
 refine ⟨_,(a7 (aw (ak aL (ae (K:=K) rfl (pv 0) rfl) (aB T.g_GATHER rfl) (ap _)) (a8 (ai (bm k8 (pv 1) (am (cJ T) (hr.mono (by decide)) rfl (a6 (aD aq (ae (K:=K) rfl (pv 0) rfl) ag (fun _ _=>rfl)) (a6 (aD aq (ae (K:=K) rfl (pv 0) rfl) ag (fun _ _=>rfl)) ab))) (by with_unfolding_all rfl)))) aj)
   (a7 (aw (ak aL (ae (K:=K) rfl (pv 0) rfl) (aB T.g_SPLIT rfl) (ap _)) (a8 (ai (pY (bm aL (pv 1) (aD aq (ae (K:=K) rfl (pv 0) rfl) ag (fun _ _=>rfl)) (ap _)) (i5 (bm k8 (pv 1) (am (cJ T) (hr.mono (by decide)) rfl (a6 (aD aq (ae (K:=K) rfl (pv 0) rfl) ag (fun _ _=>rfl)) (a6 (aD aq (ae (K:=K) rfl (pv 0) rfl) ag (fun _ _=>rfl)) ab))) (by with_unfolding_all rfl)))))) aj)
   (a7 (aw (ak jg (ae (K:=K) rfl (pv 0) rfl) (i0 (a6 (aB T.g_CEDE rfl) (a6 (aB T.g_DESTROY rfl) (a6 (aB T.g_DETERMINE rfl) (a6 (aB T.g_TYPIFY rfl) ab))))) (by with_unfolding_all rfl)) (a8 (ai (bm aL (pv 1) (aD aq (ae (K:=K) rfl (pv 0) rfl) ag (fun _ _=>rfl)) (ap _)))) aj)
   (a8 (ai (bm k8 (pv 1) (ae (K:=K) rfl (pv 0) rfl) (by with_unfolding_all rfl))))))),?_⟩
 obtain ⟨r,⟨a,dx,na,sa,d,e,k,rfl,ha,hna,hsa,sok,pl,rfl⟩,q⟩:=h
 have q1:=q H (bD.refl H)
 cases e with
 | gather a1 a2 n first=>
  obtain ⟨⟨b1,b2⟩,b3,b4⟩:=sok
  simp only [SV.pl,SV.ar] at ha hna
  simp_all! only [bc,aQ,aE,aK,ha,hna,Int.reduceEq]
  refine ⟨first,n,rfl,b2,b4,by omega,fun l H' hl s1=> ?_⟩
  have hl':=s1.at_
  simp! only [hl']
  have e1:(SV.oZ first n.toNat).contains k=(Vbnlai.speaks (.gather a1 a2 n first)).contains k:=by rw [SV.upFrom_keys (by omega)];rfl
  rw [e1]
  exact q H' (Ext.off hl rfl s1).1
 | split a1 first n=>
  obtain ⟨⟨b1,b2⟩,b3,b4⟩:=sok
  simp only [SV.pl,SV.ar] at ha hna
  simp_all! only [bc,aQ,aE,aK,ha,hna,Int.reduceEq]
  have e1:(Vbnlai.speaks (.split a1 first n)).contains k=(decide (k=a1) || (SV.oZ first n.toNat).contains k):=by
   rw [SV.upFrom_keys (by omega)]
   show (a1 :: _).contains k=_
   rw [List.contains_cons]
   congr 1
  rw [e1] at q1
  simp only [e1] at q
  by_cases c:k=a1
  ·rw [if_pos c]
   rw [decide_eq_true c] at q1
   exact q1
  ·rw [if_neg c]
   rw [decide_eq_false c] at q
   refine ⟨first,n,rfl,b2,b4,by omega,fun l H' hl s1=> ?_⟩
   have hl':=s1.at_
   simp! only [hl']
   exact q H' (Ext.off hl rfl s1).1
 | cede a1=>
  simp only [SV.pl,SV.ar] at ha hna
  simp_all! only [bc,aQ,aE,aK,ha,hna,Int.reduceEq]
  refine ⟨by decide,fun p hp=>⟨_,a9,by rfl,?_⟩⟩
  have ex:=Ext.upd (H:=H) (o:=.tup [.int 10,.int 14,.int 15,.int 16]) hp rfl
  have ha':=ex.1 _ _ ha
  have hna':=ex.1 _ _ hna
  rw [if_pos (by rfl)]
  simp_all! only [bc,aQ,aE,aK,ha',hna']
  have q2:=q _ ex.1
  rw [show (Vbnlai.speaks (.cede a1)).contains k=decide (k=a1) from d8 a1 k] at q2
  exact q2
 | destroy a1=>
  simp only [SV.pl,SV.ar] at ha hna
  simp_all! only [bc,aQ,aE,aK,ha,hna,Int.reduceEq]
  refine ⟨by decide,fun p hp=>⟨_,a9,by rfl,?_⟩⟩
  have ex:=Ext.upd (H:=H) (o:=.tup [.int 10,.int 14,.int 15,.int 16]) hp rfl
  have ha':=ex.1 _ _ ha
  have hna':=ex.1 _ _ hna
  rw [if_pos (by rfl)]
  simp_all! only [bc,aQ,aE,aK,ha',hna']
  have q2:=q _ ex.1
  rw [show (Vbnlai.speaks (.destroy a1)).contains k=decide (k=a1) from d8 a1 k] at q2
  exact q2
 | determine a1 a2 a3 a4=>
  simp only [SV.pl,SV.ar] at ha hna
  simp_all! only [bc,aQ,aE,aK,ha,hna,Int.reduceEq]
  refine ⟨by decide,fun p hp=>⟨_,a9,by rfl,?_⟩⟩
  have ex:=Ext.upd (H:=H) (o:=.tup [.int 10,.int 14,.int 15,.int 16]) hp rfl
  have ha':=ex.1 _ _ ha
  have hna':=ex.1 _ _ hna
  rw [if_pos (by rfl)]
  simp_all! only [bc,aQ,aE,aK,ha',hna']
  have q2:=q _ ex.1
  rw [show (Vbnlai.speaks (.determine a1 a2 a3 a4)).contains k=decide (k=a1) from d8 a1 k] at q2
  exact q2
 | type a1 a2=>
  simp only [SV.pl,SV.ar] at ha hna
  simp_all! only [bc,aQ,aE,aK,ha,hna,Int.reduceEq]
  refine ⟨by decide,fun p hp=>⟨_,a9,by rfl,?_⟩⟩
  have ex:=Ext.upd (H:=H) (o:=.tup [.int 10,.int 14,.int 15,.int 16]) hp rfl
  have ha':=ex.1 _ _ ha
  have hna':=ex.1 _ _ hna
  rw [if_pos (by rfl)]
  simp_all! only [bc,aQ,aE,aK,ha',hna']
  have q2:=q _ ex.1
  rw [show (Vbnlai.speaks (.type a1 a2)).contains k=decide (k=a1) from d8 a1 k] at q2
  exact q2
 | move a1 a2=>
  simp only [SV.pl,SV.sh] at ha hsa
  simp_all! only [bc,aQ,aE,aK,ha,hsa,Int.reduceEq]
  refine ⟨by decide,fun p hp=>⟨_,a9,by rfl,?_⟩⟩
  have ex:=Ext.upd (H:=H) (o:=.tup [.int 10,.int 14,.int 15,.int 16]) hp rfl
  have ha':=ex.1 _ _ ha
  have hsa':=ex.1 _ _ hsa
  rw [if_neg (by intro z;cases z)]
  simp_all! only [bc,aQ,aE,aK,ha',hsa']
  exact ⟨rfl,q _ ex.1⟩
 | rank a1 a2=>
  simp only [SV.pl,SV.sh] at ha hsa
  simp_all! only [bc,aQ,aE,aK,ha,hsa,Int.reduceEq]
  refine ⟨by decide,fun p hp=>⟨_,a9,by rfl,?_⟩⟩
  have ex:=Ext.upd (H:=H) (o:=.tup [.int 10,.int 14,.int 15,.int 16]) hp rfl
  have ha':=ex.1 _ _ ha
  have hsa':=ex.1 _ _ hsa
  rw [if_neg (by intro z;cases z)]
  simp_all! only [bc,aQ,aE,aK,ha',hsa']
  exact ⟨rfl,q _ ex.1⟩
 | lend a1 a2 a3 a4 a5 l=>
  simp only [SV.pl,SV.sh] at ha hsa
  simp_all! only [bc,aQ,aE,aK,ha,hsa,Int.reduceEq]
  refine ⟨by decide,fun p hp=>⟨_,a9,by rfl,?_⟩⟩
  have ex:=Ext.upd (H:=H) (o:=.tup [.int 10,.int 14,.int 15,.int 16]) hp rfl
  have ha':=ex.1 _ _ ha
  have hsa':=ex.1 _ _ hsa
  rw [if_neg (by intro z;cases z)]
  simp_all! only [bc,aQ,aE,aK,ha',hsa']
  exact q _ ex.1
 | arrive l=>
  simp only [SV.pl,SV.sh] at ha hsa
  simp_all! only [bc,aQ,aE,aK,ha,hsa,Int.reduceEq]
  refine ⟨by decide,fun p hp=>⟨_,a9,by rfl,?_⟩⟩
  have ex:=Ext.upd (H:=H) (o:=.tup [.int 10,.int 14,.int 15,.int 16]) hp rfl
  have ha':=ex.1 _ _ ha
  have hsa':=ex.1 _ _ hsa
  rw [if_neg (by intro z;cases z)]
  simp_all! only [bc,aQ,aE,aK,ha',hsa']
  exact q _ ex.1
 | back a1 l=>
  simp only [SV.pl,SV.sh] at ha hsa
  simp_all! only [bc,aQ,aE,aK,ha,hsa,Int.reduceEq]
  refine ⟨by decide,fun p hp=>⟨_,a9,by rfl,?_⟩⟩
  have ex:=Ext.upd (H:=H) (o:=.tup [.int 10,.int 14,.int 15,.int 16]) hp rfl
  have ha':=ex.1 _ _ ha
  have hsa':=ex.1 _ _ hsa
  rw [if_neg (by intro z;cases z)]
  simp_all! only [bc,aQ,aE,aK,ha',hsa']
  exact q _ ex.1
 | give a1 a2 l=>
  simp only [SV.pl,SV.sh] at ha hsa
  simp_all! only [bc,aQ,aE,aK,ha,hsa,Int.reduceEq]
  refine ⟨by decide,fun p hp=>⟨_,a9,by rfl,?_⟩⟩
  have ex:=Ext.upd (H:=H) (o:=.tup [.int 10,.int 14,.int 15,.int 16]) hp rfl
  have ha':=ex.1 _ _ ha
  have hsa':=ex.1 _ _ hsa
  rw [if_neg (by intro z;cases z)]
  simp_all! only [bc,aQ,aE,aK,ha',hsa']
  exact q _ ex.1
 | extend a1 a2=>
  simp only [SV.pl,SV.sh] at ha hsa
  simp_all! only [bc,aQ,aE,aK,ha,hsa,Int.reduceEq]
  refine ⟨by decide,fun p hp=>⟨_,a9,by rfl,?_⟩⟩
  have ex:=Ext.upd (H:=H) (o:=.tup [.int 10,.int 14,.int 15,.int 16]) hp rfl
  have ha':=ex.1 _ _ ha
  have hsa':=ex.1 _ _ hsa
  rw [if_neg (by intro z;cases z)]
  simp_all! only [bc,aQ,aE,aK,ha',hsa']
  exact ⟨rfl,q _ ex.1⟩
 | lose l=>
  simp only [SV.pl,SV.sh] at ha hsa
  simp_all! only [bc,aQ,aE,aK,ha,hsa,Int.reduceEq]
  refine ⟨by decide,fun p hp=>⟨_,a9,by rfl,?_⟩⟩
  have ex:=Ext.upd (H:=H) (o:=.tup [.int 10,.int 14,.int 15,.int 16]) hp rfl
  have ha':=ex.1 _ _ ha
  have hsa':=ex.1 _ _ hsa
  rw [if_neg (by intro z;cases z)]
  simp_all! only [bc,aQ,aE,aK,ha',hsa']
  exact q _ ex.1
 | find l=>
  simp only [SV.pl,SV.sh] at ha hsa
  simp_all! only [bc,aQ,aE,aK,ha,hsa,Int.reduceEq]
  refine ⟨by decide,fun p hp=>⟨_,a9,by rfl,?_⟩⟩
  have ex:=Ext.upd (H:=H) (o:=.tup [.int 10,.int 14,.int 15,.int 16]) hp rfl
  have ha':=ex.1 _ _ ha
  have hsa':=ex.1 _ _ hsa
  rw [if_neg (by intro z;cases z)]
  simp_all! only [bc,aQ,aE,aK,ha',hsa']
  exact q _ ex.1
end
section
variable(C:Cs)
def DetH(H:Hp)(d:Vbnlai.Det)(a:Addr):Prop:=∃ dx,H a=some (.ins C.Determination dx (cI d))
structure fj(H:Hp)(da:Addr)(dets:List Vbnlai.Det):Prop where
 ex:∃ ds:List Addr,H da=some (.lst (ds.map V.ref))∧Paired (DetH C H) dets ds
 few:dets.length≤300
 rk:∀ d∈dets,(1≤d.rank∧d.rank≤9)∧d.conf≤3
def fV:Sp:=fun vs H Q _=>∃ da dets,vs=[.ref da]∧fj C H da dets∧∀ l H',H l=none→Ext (upd H l (.lst (aT ((SV.pr dets).map (·.2))))) H'→Q (.ref l) H'
def gk:Sp:=fun vs H Q _=>∃ da dets,vs=[.ref da]∧fj C H da dets∧∀ l H',H l=none→Ext (upd H l (.lst [.int (SV.nm (SV.pr dets):Nat),.int (SV.G (SV.pr dets):Nat)])) H'→Q (.ref l) H'
end
section
variable{P:Program}{w0:World}{K:PySem.W.Frag}{mg:Str→Option Value}{base:Heap}{C:Cs}
theorem fj.mono{H H':Hp}{da:Addr}{dets:List Vbnlai.Det}(h:fj C H da dets)(x:Ext H H'):fj C H' da dets:=by
 obtain ⟨ds,h1,h2⟩:=h.ex
 exact ⟨⟨ds,x.1 _ _ h1,Paired.mapP h2 fun _ _ ⟨dx,e⟩=>⟨dx,x.1 _ _ e⟩⟩,h.few,h.rk⟩
theorem enumJ{K:PySem.W.Frag}{H2:Hp}{da:Addr}{xs:List V}{i:Nat}(h:H2 da=some (.lst xs)):(i < xs.length→(Ite K da).go i H2∧∀ x H',(Ite K da).yld i H2 x H'→∃ T' u,xs[i]? = some u∧x = .ref T'∧H2 T'=none∧H'=upd H2 T' (.tup [.int (i:Nat),u]))∧(i=xs.length→(Ite K da).stop i H2):=by
 refine ⟨fun hi=>⟨⟨xs,xs[i],SqL.of h,List.getElem?_eq_getElem hi⟩,fun x H' hy=> ?_⟩,fun he=>⟨xs,SqL.of h,Nat.le_of_eq he.symm⟩⟩
 obtain ⟨T',u,e1,e2,e3,e4⟩:=hy
 exact ⟨T',u,e4 xs (SqL.of h),e1,e2,e3⟩
theorem zipJ{K:PySem.W.Frag}{H2:Hp}{a b:Addr}{xs ys:List V}{i:Nat}(ha:H2 a=some (.lst xs))(hb:H2 b=some (.lst ys))(hl:xs.length=ys.length):(i < xs.length→(Itz K a b).go i H2∧∀ x H',(Itz K a b).yld i H2 x H'→∃ T' u v,xs[i]? = some u∧ys[i]? = some v∧x = .ref T'∧H2 T'=none∧H'=upd H2 T' (.tup [u,v]))∧(i=xs.length→(Itz K a b).stop i H2):=by
 refine ⟨fun hi=>⟨⟨xs,ys,xs[i],ys[i],SqL.of ha,SqL.of hb,List.getElem?_eq_getElem hi,List.getElem?_eq_getElem (hl ▸ hi)⟩,fun x H' hy=> ?_⟩,fun he=>⟨xs,ys,SqL.of ha,SqL.of hb,.inl (Nat.le_of_eq he.symm)⟩⟩
 obtain ⟨T',u,v,e1,e2,e3,e4,e5⟩:=hy
 exact ⟨T',u,v,e4 xs (SqL.of ha),e5 ys (SqL.of hb),e1,e2,e3⟩
theorem pc{d:Vbnlai.Det}:(d.rank:Int) * ((d.conf:Int) + 1)=((Vbnlai.weight d:Nat):Int):=by
 unfold Vbnlai.weight
 rw [Int.natCast_mul,Int.natCast_add];rfl
theorem cQ(T:Txt K mg C):Can P w0 K mg base 1 "counting_weights" ["determinations"] (fV C):=by
 refine ay T.f_counting_weights sc_counting_weights (fun vs H Q E h=>by obtain ⟨_,_,rfl,_⟩:=h;rfl) fun f cdv A outer s H vs Q E hr h=> ?_
 refine ⟨_,(a7 (aI (i:=1) (sc_counting_weights).nd rfl (by trivial) cK)
   (a7 (bO PassesOwn.never rfl (ni (K:=K) rfl rfl T.b_enumerate (a6 (pv 0) ab)) (eE (n:=2) rfl (bw (aC (i:=3) (sc_counting_weights).nd rfl (by trivial)) (bw (aC (i:=4) (sc_counting_weights).nd rfl (by trivial)) eF))) (a8 (ck (aM hr) (pv 1) (ae (K:=K) rfl (pv 4) rfl) (pv 3) rfl)))
   (a7 (aI (i:=2) (sc_counting_weights).nd rfl (by trivial) (bf ab))
   (a7 (bO PassesOwn.never rfl (ni (K:=K) rfl rfl T.b_enumerate (a6 (pv 0) ab)) (eE (n:=2) rfl (bw (aC (i:=3) (sc_counting_weights).nd rfl (by trivial)) (bw (aC (i:=4) (sc_counting_weights).nd rfl (by trivial)) eF))) (a7 (aI (i:=5) (sc_counting_weights).nd rfl (by trivial) (bm aL (aP (aM hr) (pv 1) (ae (K:=K) rfl (pv 4) rfl) (fun _ _=>rfl)) (pv 3) (ap _)))
   (a8 (aY (cq PySem.F.plainAttrs_list PySem.F.slot_list_append PySem.F.type_list_append cD (pv 2) (a6 (nF (b9 (pv 5)) (df op_mul (ae (K:=K) rfl (pv 4) rfl) (df eL (ae (K:=K) rfl (pv 4) rfl) ag)) ag) ab))))))
   (a8 (ai (pv 2))))))),?_⟩
 obtain ⟨da,dets,rfl,D,q⟩:=h
 obtain ⟨ds,hda,hds⟩:=D.ex
 have hdl:dets.length=ds.length:=Paired.length hds
 have h300:=D.few
 simp! only [k9]
 intro d hd
 have nda:=al hda hd
 have x0:Ext H (upd H d (.dK [])):=Ext.upd hd rfl
 have hd0:upd H d (.dK []) d=some (.dK []):=a9
 generalize upd H d (.dK [])=H0 at x0 hd0 ⊢
 refine ⟨_,rfl,da,_,rfl,SqL.of (x0.1 _ _ hda),?_⟩
 have hdet:∀ (i:Nat) (b:V),(ds.map V.ref)[i]? = some b→∃ dt a dx,dets[i]? = some dt∧b = .ref a∧H a=some (.ins C.Determination dx (cI dt)):=fun i b hb=>by
  rw [List.getElem?_map] at hb
  cases e:ds[i]? with
  | none=>rw [e] at hb;cases hb
  | some a=>
   rw [e] at hb
   obtain ⟨dt,h1,dx,h2⟩:=bN hds e
   exact ⟨dt,a,dx,h1,(Option.some.inj hb).symm,h2⟩
 refine cM (n:=(ds.map V.ref).length) (P:=fun i x H1 H2=>∃ T' u,(ds.map V.ref)[i]? = some u∧x = .ref T'∧H1 T'=none∧H2=upd H1 T' (.tup [.int (i:Nat),u]))
  (fun i σ2 H2=>(∃ v3 v4:Option V,σ2=[some (V.ref da),some (V.ref d),none,v3,v4,none])∧(∀ b u,H b=some u→H2 b=some u)∧(∀ b u,H2 b=some u→H b=some u∨ca u=true)∧∃ kvs:List (Key×V),H2 d=some (.dK kvs)∧kvs.length≤i∧∀ p:Nat,bo kvs (Sum.inl (p:Int))=(SV.fA dets i p).map fun j:Nat=>V.int (j:Int))
  (fun i σ2 H2 hi h=>enumJ (h.2.1 _ _ hda)) ⟨⟨none,none,rfl⟩,x0.1,x0.2,[],hd0,Nat.zero_le _,fun p=>rfl⟩ (fun i x σ2 H2 H3 hi h hx=> ?_) (fun σ2 H2 h=> ?_)
 ·obtain ⟨⟨v3,v4,rfl⟩,keep,nodt,kvs,hk,hlen,hval⟩:=h
  obtain ⟨T',u,hu,rfl,hT,rfl⟩:=hx
  obtain ⟨dt,a,dx,hdt,rfl,ha⟩:=hdet i u hu
  have ha2:=keep _ _ ha
  have ha3:upd H2 T' (.tup [.int (i:Nat),.ref a]) a=some (.ins C.Determination dx (cI dt)):=(af (al ha2 hT)).trans ha2
  have hk3:upd H2 T' (.tup [.int (i:Nat),.ref a]) d=some (.dK kvs):=(af (al hk hT)).trans hk
  simp! only [a9]
  dsimp! only [ha3,hk3]
  rw [List.length_map] at hi
  refine ⟨by rw [sizeLine_eq];omega,fun b u hb=> ?_,fun b u hb=> ?_,Nat.le_trans (fe _ _ _) (by omega),fun p=> ?_⟩
  ·rw [af (al hb hd),af (al (keep b u hb) hT)]
   exact keep b u hb
  ·by_cases h1:b=d
   ·subst h1;rw [a9] at hb;cases hb;exact .inr rfl
   ·rw [af h1] at hb
    by_cases h2:b=T'
    ·subst h2;rw [a9] at hb;cases hb;exact .inr rfl
    ·rw [af h2] at hb;exact nodt b u hb
  ·rw [valV_put,SV.nM hdt,hval]
   by_cases hp:p=dt.person
   ·subst hp;simp
   ·rw [if_neg hp,if_neg (by intro z;exact hp (Int.ofNat.inj (Sum.inl.inj z)))]
 ·obtain ⟨⟨v3,v4,rfl⟩,keep,nodt,kvs,hk,hlen,hval⟩:=h
  rw [List.length_map,← hdl] at hval
  simp! only []
  refine ⟨by decide,fun l hl=> ?_⟩
  have hl0:H l=none:=by
   cases e:H l with
   | none=>rfl
   | some u=>rw [keep l u e] at hl;cases hl
  have nld:l≠d:=fun z=>by subst z;rw [hk] at hl;cases hl
  have keep1:∀ b u,H b=some u→upd H2 l (.lst []) b=some u:=fun b u hb=>by rw [af (al hb hl0)];exact keep b u hb
  have nodt1:∀ b u,upd H2 l (.lst []) b=some u→H b=some u∨ca u=true:=fun b u hb=>by
   by_cases h1:b=l
   ·subst h1;rw [a9] at hb;cases hb;exact .inr rfl
   ·rw [af h1] at hb;exact nodt b u hb
  have hk1:upd H2 l (.lst []) d=some (.dK kvs):=(af (Ne.symm nld)).trans hk
  have hl1:upd H2 l (.lst []) l=some (.lst []):=a9
  generalize upd H2 l (.lst [])=H4 at keep1 nodt1 hk1 hl1 ⊢
  refine ⟨_,rfl,da,_,rfl,SqL.of (keep1 _ _ hda),?_⟩
  refine cM (n:=(ds.map V.ref).length) (P:=fun i x H1 H2=>∃ T' u,(ds.map V.ref)[i]? = some u∧x = .ref T'∧H1 T'=none∧H2=upd H1 T' (.tup [.int (i:Nat),u]))
   (fun i σ2 H2=>(∃ v3 v4 v5:Option V,σ2=[some (V.ref da),some (V.ref d),some (V.ref l),v3,v4,v5])∧(∀ b u,H b=some u→H2 b=some u)∧(∀ b u,H2 b=some u→H b=some u∨ca u=true)∧H2 d=some (.dK kvs)∧H2 l=some (.lst (aT (((SV.pr dets).take i).map (·.2)))))
   (fun i σ2 H2 hi h=>enumJ (h.2.1 _ _ hda)) ⟨⟨_,_,_,rfl⟩,keep1,nodt1,hk1,hl1⟩ (fun i x σ2 H2 H3 hi h hx=> ?_) (fun σ2 H2 h=> ?_)
  ·obtain ⟨⟨v3,v4,v5,rfl⟩,keep2,nodt2,hk2,hl2⟩:=h
   obtain ⟨T',u,hu,rfl,hT,rfl⟩:=hx
   obtain ⟨dt,a,dx,hdt,rfl,ha⟩:=hdet i u hu
   have ha2:=keep2 _ _ ha
   have ha3:upd H2 T' (.tup [.int (i:Nat),.ref a]) a=some (.ins C.Determination dx (cI dt)):=(af (al ha2 hT)).trans ha2
   have hk3:upd H2 T' (.tup [.int (i:Nat),.ref a]) d=some (.dK kvs):=(af (al hk2 hT)).trans hk2
   have hl3:upd H2 T' (.tup [.int (i:Nat),.ref a]) l=some (.lst (aT (((SV.pr dets).take i).map (·.2)))):=(af (al hl2 hT)).trans hl2
   obtain ⟨j,hj,hw⟩:=SV.lastIx_weight hdt
   have hv:bo kvs (Sum.inl (dt.person:Int))=some (.int (j:Int)):=by rw [hval,hj];rfl
   simp! only [a9]
   dsimp! only [ha3,hk3,hl3,hv]
   have hrk:=D.rk dt (List.mem_of_getElem? hdt)
   have hpr:=SV.pr_at hdt
   rw [List.length_map] at hi
   have hlen2:(aT (((SV.pr dets).take i).map (·.2))).length < sizeLine:=by
    unfold aT
    rw [List.length_map,List.length_map,List.length_take,sizeLine_eq]
    omega
   have fin:∀ z:Int,z=(((if SV.kR dt (dets.drop (i + 1))=true then 0 else Vbnlai.weight dt:Nat)):Int)→(∀ b u,H b=some u→upd (upd H2 T' (.tup [.int (i:Nat),.ref a])) l (.lst (aT (((SV.pr dets).take i).map (·.2)) ++ [.int z])) b=some u)∧(∀ b u,upd (upd H2 T' (.tup [.int (i:Nat),.ref a])) l (.lst (aT (((SV.pr dets).take i).map (·.2)) ++ [.int z])) b=some u→H b=some u∨ca u=true) ∧
     upd (upd H2 T' (.tup [.int (i:Nat),.ref a])) l (.lst (aT (((SV.pr dets).take i).map (·.2)) ++ [.int z])) d=some (.dK kvs)∧aT (((SV.pr dets).take i).map (·.2)) ++ [.int z] = aT (((SV.pr dets).take (i + 1)).map (·.2)):=fun z hz=>by
    refine ⟨fun b u hb=> ?_,fun b u hb=> ?_,?_,?_⟩
    ·rw [af (al hb hl0),af (al (keep2 b u hb) hT)]
     exact keep2 b u hb
    ·by_cases h1:b=l
     ·subst h1;rw [a9] at hb;cases hb;exact .inr rfl
     ·rw [af h1] at hb
      by_cases h2:b=T'
      ·subst h2;rw [a9] at hb;cases hb;exact .inr rfl
      ·rw [af h2] at hb;exact nodt2 b u hb
    ·rw [af (Ne.symm nld)];exact hk3
    ·rw [List.take_add_one,hpr,hz]
     unfold aT
     simp only [Option.toList_some,List.map_append,List.map_cons,List.map_nil]
   have hji:decide ((j:Int)=(i:Int)) = !SV.kR dt (dets.drop (i + 1)):=by
    rw [← hw,decide_eq_decide];omega
   cases hL:SV.kR dt (dets.drop (i + 1)) with
   | true=>
    rw [hL] at hji
    rw [if_neg (by simpa using hji)]
    exact ⟨hlen2,fin 0 (by rw [hL];rfl)⟩
   | false=>
    rw [hL] at hji
    rw [if_pos (by simpa using hji)]
    refine ⟨.inl ⟨by omega,by omega⟩,hlen2,fin _ ?_⟩
    rw [hL,pc];rfl
  ·obtain ⟨⟨v3,v4,v5,rfl⟩,keep2,nodt2,hk2,hl2⟩:=h
   refine ⟨_,rfl,q l H2 hl0 ⟨fun b u hb=> ?_,fun b u hb=> ?_⟩⟩
   ·by_cases h1:b=l
    ·subst h1
     rw [a9] at hb
     cases hb
     rw [hl2,List.length_map,← hdl,← SV.pr_length,List.take_length]
    ·rw [af h1] at hb
     exact keep2 b u hb
   ·by_cases h1:b=l
    ·subst h1
     rw [hl2] at hb
     cases hb
     exact .inr rfl
    ·rw [af h1]
     exact nodt2 b u hb
end
def kvN(ps:List (Vbnlai.Det×Nat)):List (Key×V):=(SV.sumsAt ps).map fun p=>(Sum.inl (p.1:Int),V.int (p.2:Int))
theorem me(ps:List (Vbnlai.Det×Nat))(n:Nat):bo (kvN ps) (Sum.inl (n:Int))=if n∈ps.map (·.1.name) then some (V.int (SV.S ps n:Nat)) else none:=by
 unfold kvN SV.sumsAt
 rw [List.map_map]
 show bo ((SV.cP (ps.map (·.1.name))).map fun m:Nat=>(Sum.inl (m:Int),V.int (SV.S ps m:Nat))) _=_
 rw [fP (fun m:Nat=>(m:Int)) (fun m:Nat=>V.int (SV.S ps m:Nat))]
 by_cases h:n∈ps.map (·.1.name)
 ·rw [if_pos h]
  have h2:=SV.eh.mpr h
  cases e:(SV.cP (ps.map (·.1.name))).find? (fun m:Nat=>(m:Int) == (n:Int)) with
  | none=>exact absurd (by simp) (List.find?_eq_none.mp e n h2)
  | some m=>
   have:=List.find?_some e
   have hm:m=n:=by have:=beq_iff_eq.mp this;omega
   subst hm;rfl
 ·rw [if_neg h]
  have:(SV.cP (ps.map (·.1.name))).find? (fun m:Nat=>(m:Int) == (n:Int))=none:=by
   rw [List.find?_eq_none]
   intro m hm hz
   have hmn:m=n:=by have:=beq_iff_eq.mp hz;omega
   subst hmn
   exact h (SV.eh.mp hm)
  rw [this];rfl
theorem kvN_put(ps:List (Vbnlai.Det×Nat))(d:Vbnlai.Det)(v:Nat):cH (kvN ps) (Sum.inl (d.name:Int)) (V.int ((SV.S ps d.name + v:Nat):Int))=kvN (ps ++ [(d,v)]):=by
 have hS:∀ n,SV.S (ps ++ [(d,v)]) n=SV.S ps n + if d.name=n then v else 0:=fun n=>by rw [SV.S_append,SV.ox];simp [SV.S]
 have hval:=me ps d.name
 by_cases h:d.name∈ps.map (·.1.name)
 ·rw [if_pos h] at hval
  unfold cH
  rw [if_pos (by rw [dR,hval];rfl)]
  unfold kvN SV.sumsAt
  rw [List.map_append,List.map_singleton,SV.firstN_snoc,if_pos h]
  simp only [List.map_map]
  refine List.map_congr_left fun n _=> ?_
  simp only [Function.comp,hS]
  by_cases hn:d.name=n
  ·subst hn;simp
  ·rw [if_neg (by intro z;exact hn (Int.ofNat.inj (Sum.inl.inj z)).symm),if_neg hn];rfl
 ·rw [if_neg h] at hval
  rw [de _ hval]
  unfold kvN SV.sumsAt
  rw [List.map_append,List.map_singleton,SV.firstN_snoc,if_neg h,List.map_append,List.map_append]
  congr 1
  ·simp only [List.map_map]
   refine List.map_congr_left fun n hn=> ?_
   simp only [Function.comp,hS]
   have hne:¬ d.name=n:=fun z=>h (z ▸ SV.eh.mp hn)
   rw [if_neg hne];rfl
  ·simp only [List.map_cons,List.map_nil,hS,if_true]
theorem pB(ps:List (Vbnlai.Det×Nat)):(kvN ps).length≤ps.length:=by
 have gen:∀ (l a:List Nat),(l.foldl (fun a n=>if a.contains n=true then a else a ++ [n]) a).length≤a.length + l.length:=by
  intro l
  induction l with
  | nil=>intro a;simp
  | cons x r ih=>
   intro a
   rw [List.foldl_cons,List.length_cons]
   refine Nat.le_trans (ih _) ?_
   split
   ·omega
   ·rw [List.length_append,List.length_singleton];omega
 unfold kvN SV.sumsAt SV.cP
 rw [List.length_map,List.length_map]
 have:=gen (ps.map (·.1.name)) []
 simpa using this
section
variable{P:Program}{w0:World}{K:PySem.W.Frag}{mg:Str→Option Value}{base:Heap}{C:Cs}
theorem dh(T:Txt K mg C):Can P w0 K mg base 2 "name_and_weight" ["determinations"] (gk C):=by
 refine ay T.f_name_and_weight sc_name_and_weight (fun vs H Q E h=>by obtain ⟨_,_,rfl,_⟩:=h;rfl) fun f cdv A outer s H vs Q E hr h=> ?_
 refine ⟨_,(a7 (aI (i:=1) (sc_name_and_weight).nd rfl (by trivial) (am (cQ T) (hr.mono (by decide)) rfl (a6 (pv 0) ab)))
   (a7 (aI (i:=2) (sc_name_and_weight).nd rfl (by trivial) cK)
   (a7 (bO PassesOwn.never rfl (mB (K:=K) rfl rfl T.b_zip (a6 (pv 0) (a6 (pv 1) ab))) (eE (n:=2) rfl (bw (aC (i:=6) (sc_name_and_weight).nd rfl (by trivial)) (bw (aC (i:=4) (sc_name_and_weight).nd rfl (by trivial)) eF))) (a8 (ck (aM hr) (pv 2) (ae (K:=K) rfl (pv 6) rfl) (df eL (pe_dget2 (aM hr) (pv 2) (ae (K:=K) rfl (pv 6) rfl) ag ⟨rfl,rfl,rfl,rfl⟩) (pv 4)) rfl)))
   (a7 (aI (i:=3) (sc_name_and_weight).nd rfl (by trivial) ag)
   (a7 (fS (bO PassesOwn.never rfl (fN (pv 2)) (aC (i:=4) (sc_name_and_weight).nd rfl (by trivial)) (a8 (aI (i:=3) (sc_name_and_weight).nd rfl (by trivial) (aA (call_max2 rfl) rfl T.b_max boot_max (a6 (pv 3) (a6 (pv 4) ab)))))))
   (a7 (aI (i:=5) (sc_name_and_weight).nd rfl (by trivial) ag)
   (a7 (bO PassesOwn.never rfl (mB (K:=K) rfl rfl T.b_zip (a6 (pv 0) (a6 (pv 1) ab))) (eE (n:=2) rfl (bw (aC (i:=6) (sc_name_and_weight).nd rfl (by trivial)) (bw (aC (i:=4) (sc_name_and_weight).nd rfl (by trivial)) eF))) (a8 (aw (PW.pt (ff (ak dI (pv 4) ag (ap _)) (dl (ak aL (aP (aM hr) (pv 2) (ae (K:=K) rfl (pv 6) rfl) (fun _ _=>rfl)) (pv 3) (ap _))))) (a8 (aI (i:=5) (sc_name_and_weight).nd rfl (by trivial) (ae (K:=K) rfl (pv 6) rfl))) aj)))
   (a8 (ai (bf (a6 (pv 5) (a6 (pv 3) ab)))))))))))),?_⟩
 obtain ⟨da,dets,rfl,D,q⟩:=h
 have h300:=D.few
 simp! only []
 refine ⟨da,dets,rfl,D,fun wl H1 hwl s1=> ?_⟩
 have x1:=Ext.off hwl rfl s1
 have hwl1:=s1.at_
 have D1:=D.mono x1
 obtain ⟨ds,hda,hds⟩:=D1.ex
 have hdl:dets.length=ds.length:=Paired.length hds
 simp only [k9]
 intro sm hsm
 have nsd:=al hda hsm
 have x2:Ext H1 (upd H1 sm (.dK [])):=Ext.upd hsm rfl
 have hsm2:upd H1 sm (.dK []) sm=some (.dK (kvN [])):=a9
 generalize upd H1 sm (.dK [])=H2 at x2 hsm2 ⊢
 have hdet:∀ (i:Nat) (b:V),(ds.map V.ref)[i]? = some b→∃ dt a dx,dets[i]? = some dt∧b = .ref a∧H1 a=some (.ins C.Determination dx (cI dt)):=fun i b hb=>by
  rw [List.getElem?_map] at hb
  cases e:ds[i]? with
  | none=>rw [e] at hb;cases hb
  | some a=>
   rw [e] at hb
   obtain ⟨dt,h1,dx,h2⟩:=bN hds e
   exact ⟨dt,a,dx,h1,(Option.some.inj hb).symm,h2⟩
 have hpw:∀ (i:Nat) (v:V),(aT ((SV.pr dets).map (·.2)))[i]? = some v→∃ p,(SV.pr dets)[i]? = some p∧v = .int (p.2:Int):=fun i v hv=>by
  unfold aT at hv
  rw [List.getElem?_map,List.getElem?_map] at hv
  cases e:(SV.pr dets)[i]? with
  | none=>rw [e] at hv;cases hv
  | some p=>rw [e] at hv;exact ⟨p,rfl,(Option.some.inj hv).symm⟩
 have hfst:∀ (i:Nat) dt p,dets[i]? = some dt→(SV.pr dets)[i]? = some p→p.1=dt:=fun i dt p h1 h2=>by
  rw [SV.pr_at h1] at h2
  cases h2;rfl
 have hll:(ds.map V.ref).length=(aT ((SV.pr dets).map (·.2))).length:=by unfold aT;rw [List.length_map,List.length_map,List.length_map,SV.pr_length,hdl]
 have hlp:(ds.map V.ref).length=(SV.pr dets).length:=by rw [List.length_map,SV.pr_length,hdl]
 refine ⟨_,rfl,_,rfl,da,wl,_,_,rfl,SqL.of (x2.1 _ _ hda),SqL.of (x2.1 _ _ hwl1),?_⟩
 refine cM (n:=(ds.map V.ref).length) (P:=fun i x G1 G2=>∃ T' u v,(ds.map V.ref)[i]? = some u∧(aT ((SV.pr dets).map (·.2)))[i]? = some v∧x = .ref T'∧G1 T'=none∧G2=upd G1 T' (.tup [u,v]))
  (fun i σ2 G=>(∃ v4 v6:Option V,σ2=[some (V.ref da),some (V.ref wl),some (V.ref sm),none,v4,none,v6])∧(∀ b u,H1 b=some u→G b=some u)∧(∀ b u,G b=some u→H1 b=some u∨ca u=true)∧G sm=some (.dK (kvN ((SV.pr dets).take i))))
  (fun i σ2 G hi h=>zipJ (h.2.1 _ _ hda) (h.2.1 _ _ hwl1) hll) ⟨⟨none,none,rfl⟩,x2.1,x2.2,hsm2⟩ (fun i x σ2 G G3 hi h hx=> ?_) (fun σ2 G h=> ?_)
 ·obtain ⟨⟨v4,v6,rfl⟩,keep,nodt,hk⟩:=h
  obtain ⟨T',u,v,hu,hv,rfl,hT,rfl⟩:=hx
  obtain ⟨dt,a,dx,hdt,rfl,ha⟩:=hdet i u hu
  obtain ⟨pp,hpp,rfl⟩:=hpw i v hv
  have hf:=hfst i dt pp hdt hpp
  have ha2:=keep _ _ ha
  have ha3:upd G T' (.tup [.ref a,.int (pp.2:Int)]) a=some (.ins C.Determination dx (cI dt)):=(af (al ha2 hT)).trans ha2
  have hk3:upd G T' (.tup [.ref a,.int (pp.2:Int)]) sm=some (.dK (kvN ((SV.pr dets).take i))):=(af (al hk hT)).trans hk
  rw [List.length_map] at hi
  have etk:(SV.pr dets).take (i + 1)=(SV.pr dets).take i ++ [(dt,pp.2)]:=by
   rw [List.take_add_one,hpp]
   show _ ++ [pp] = _
   rw [← hf]
  have hget:((bo (kvN ((SV.pr dets).take i)) (Sum.inl (dt.name:Int))).getD (.int 0)) = .int (SV.S ((SV.pr dets).take i) dt.name:Nat):=by
   rw [me]
   by_cases h:dt.name∈((SV.pr dets).take i).map (·.1.name)
   ·rw [if_pos h];rfl
   ·rw [if_neg h]
    have:SV.S ((SV.pr dets).take i) dt.name=0:=by
     apply Classical.byContradiction
     intro hz
     obtain ⟨p',hp',en,_⟩:=SV.pL (ps:=(SV.pr dets).take i) (n:=dt.name) (by omega)
     exact h (en ▸ List.mem_map_of_mem (f:=fun p:Vbnlai.Det×Nat=>p.1.name) hp')
    rw [this];rfl
  simp! only [a9]
  dsimp! only [tDGet2,ha3,hk3]
  have hlen:(kvN ((SV.pr dets).take i)).length < sizeLine:=by
   have h1:=pB ((SV.pr dets).take i)
   rw [List.length_take] at h1
   rw [sizeLine_eq]
   omega
  refine ⟨.inl ⟨_,.inl hk3⟩,_,iM.int hk3 rfl,_,hget,hlen,fun b u hb=> ?_,fun b u hb=> ?_,?_⟩
  ·rw [af (al hb hsm),af (al (keep b u hb) hT)]
   exact keep b u hb
  ·by_cases h1:b=sm
   ·subst h1;rw [a9] at hb;cases hb;exact .inr rfl
   ·rw [af h1] at hb
    by_cases h2:b=T'
    ·subst h2;rw [a9] at hb;cases hb;exact .inr rfl
    ·rw [af h2] at hb;exact nodt b u hb
  ·rw [etk,← kvN_put,Int.natCast_add]
 ·obtain ⟨⟨v4,v6,rfl⟩,keep,nodt,hk⟩:=h
  rw [hlp,List.take_length] at hk
  have xG:Ext H1 G:=⟨keep,nodt⟩
  simp! only []
  refine ⟨sm,_,hk,trivial,fun od=> ?_⟩
  have hf:upd G sm (.frz od (.dK (kvN (SV.pr dets)))) sm=some (.frz od (.dK (kvN (SV.pr dets)))):=a9
  refine ⟨_,rfl,sm,od,kvN (SV.pr dets),rfl,hf,?_⟩
  have hgv:∀ (i:Nat) (k:Key) (v:V),(kvN (SV.pr dets))[i]? = some (k,v)→∃ z:Nat,((SV.sumsAt (SV.pr dets)).map (·.2))[i]? = some z∧v = .int (z:Int):=fun i k v hv=>by
   unfold kvN at hv
   rw [List.getElem?_map] at hv
   cases e:(SV.sumsAt (SV.pr dets))[i]? with
   | none=>rw [e] at hv;cases hv
   | some z=>
    rw [e] at hv
    cases hv
    exact ⟨z.2,by rw [List.getElem?_map,e];rfl,rfl⟩
  have hkl:(kvN (SV.pr dets)).length=((SV.sumsAt (SV.pr dets)).map (·.2)).length:=by unfold kvN;rw [List.length_map,List.length_map]
  have hG:SV.G (SV.pr dets)=((SV.sumsAt (SV.pr dets)).map (·.2)).foldl max 0:=by
   unfold SV.G SV.sumsAt
   rw [List.map_map];rfl
  refine jz (kQ hf) (fun i σ2 G2=>(∃ v4:Option V,σ2=[some (V.ref da),some (V.ref wl),some (V.ref sm),some (V.int ((((SV.sumsAt (SV.pr dets)).map (·.2)).take i).foldl max 0:Nat)),v4,none,v6])∧Ext (upd G sm (.frz od (.dK (kvN (SV.pr dets))))) G2) (fun i σ2 G2 h=>h.2) ⟨⟨_,rfl⟩,Ext.refl _⟩ (fun i x σ2 G2 G3 hi h e3 hx=> ?_) (fun σ2 G2 h=> ?_)
  ·obtain ⟨⟨v4',rfl⟩,e2⟩:=h
   obtain ⟨k,hx⟩:=hx
   obtain ⟨z,hz,rfl⟩:=hgv i k x hx
   simp! only []
   refine ⟨?_,e2.trans e3⟩
   rw [List.take_add_one,hz]
   have e9:(some z).toList=[z]:=rfl
   rw [e9,SV.max_snoc]
   split <;> omega
  ·obtain ⟨⟨v4',rfl⟩,e2⟩:=h
   rw [hkl,List.take_length,← hG]
   refine ⟨e2.1 _ _ hf,?_⟩
   have xU:Ext G (upd G2 sm (.dK (kvN (SV.pr dets)))):=Ext.unlock hk rfl e2
   generalize upd G2 sm (.dK (kvN (SV.pr dets)))=G4 at xU ⊢
   have hk4:=xU.1 _ _ hk
   have x14:=xG.trans xU
   simp! only []
   refine ⟨_,rfl,_,rfl,da,wl,_,_,rfl,SqL.of (x14.1 _ _ hda),SqL.of (x14.1 _ _ hwl1),?_⟩
   refine jz (nr (x14.1 _ _ hda) (x14.1 _ _ hwl1) hll) (fun i σ2 G5=>(∃ v4 v6:Option V,σ2=[some (V.ref da),some (V.ref wl),some (V.ref sm),some (V.int (SV.G (SV.pr dets):Nat)),v4,some (V.int (((SV.pr dets).take i).foldl (fun a p=>if 0 < p.2∧SV.S (SV.pr dets) p.1.name=SV.G (SV.pr dets) then p.1.name else a) 0:Nat)),v6])∧Ext G4 G5) (fun i σ2 G5 h=>h.2) ⟨⟨_,_,rfl⟩,Ext.refl _⟩ (fun i x σ2 G5 G6 hi h e6 hx=> ?_) (fun σ2 G5 h=> ?_)
   ·obtain ⟨⟨v4'',v6'',rfl⟩,e5⟩:=h
    obtain ⟨T',u,v,hu,hv,rfl,hT⟩:=hx
    obtain ⟨dt,a,dx,hdt,rfl,ha⟩:=hdet i u hu
    obtain ⟨pp,hpp,rfl⟩:=hpw i v hv
    have hfs:=hfst i dt pp hdt hpp
    have x46:=e5.trans e6
    have ha6:=(x14.trans x46).1 _ _ ha
    have hk6:=x46.1 _ _ hk4
    have hin:dt.name∈(SV.pr dets).map (·.1.name):=by
     rw [← hfs]
     exact List.mem_map_of_mem (f:=fun p:Vbnlai.Det×Nat=>p.1.name) (List.mem_of_getElem? hpp)
    have hval:bo (kvN (SV.pr dets)) (Sum.inl (dt.name:Int))=some (.int (SV.S (SV.pr dets) dt.name:Nat)):=by rw [me,if_pos hin]
    have etk:(SV.pr dets).take (i + 1)=(SV.pr dets).take i ++ [pp]:=by rw [List.take_add_one,hpp];rfl
    have efold:((SV.pr dets).take (i + 1)).foldl (fun a p=>if 0 < p.2∧SV.S (SV.pr dets) p.1.name=SV.G (SV.pr dets) then p.1.name else a) 0=if 0 < pp.2∧SV.S (SV.pr dets) dt.name=SV.G (SV.pr dets) then dt.name else ((SV.pr dets).take i).foldl (fun a p=>if 0 < p.2∧SV.S (SV.pr dets) p.1.name=SV.G (SV.pr dets) then p.1.name else a) 0:=by
     rw [etk,List.foldl_append]
     show (if 0 < pp.2∧SV.S (SV.pr dets) pp.1.name=SV.G (SV.pr dets) then pp.1.name else _)=_
     rw [hfs]
    simp! only [hT]
    dsimp! only [ha6,hk6,hval]
    by_cases c1:0 < pp.2
    ·rw [if_pos (by omega)]
     by_cases c2:SV.S (SV.pr dets) dt.name=SV.G (SV.pr dets)
     ·rw [if_pos (by omega),efold,if_pos ⟨c1,c2⟩]
      exact ⟨rfl,x46⟩
     ·rw [if_neg (by omega),efold,if_neg (fun z=>c2 z.2)]
      exact ⟨rfl,x46⟩
    ·rw [if_neg (by omega),efold,if_neg (fun z=>c1 z.1)]
     exact ⟨rfl,x46⟩
   ·obtain ⟨⟨v4'',v6'',rfl⟩,e5⟩:=h
    rw [hlp,List.take_length]
    simp! only []
    refine ⟨by decide,fun l hl=> ?_⟩
    have xA:=(x1.trans x14).trans e5
    exact q l _ (xA.1.free hl) (Ext.both xA)
end
def dj(H:Hp)(Q:VK)(ns:List Int):Prop:=∀ l H',H l=none→Ext (upd H l (.lst (ns.map V.int))) H'→Q (.ref l) H'
def eP(H:Hp)(r:List Int)(a:Addr):Prop:=H a=some (.lst (r.map V.int))
section
variable(C:Cs)
def mf:Sp:=fun vs H Q _=>∃ a,∃ ns:List Int,vs=[.ref a]∧H a=some (.lst (ns.map V.int))∧ns.length≤2000∧dj H Q ((ns.length:Int) :: ns)
def lE:Sp:=fun vs H Q _=>∃ a,∃ as:List Addr,∃ rows:List (List Int),vs=[.ref a]∧H a=some (.lst (as.map V.ref))∧Paired (eP H) rows as∧rows.length≤400∧(∀ r∈rows,r.length≤5)∧dj H Q ((rows.length:Int) :: rows.flatten)
def sp_where:Sp:=fun vs H Q _=>∃ L hs P0 w x A,vs=[.ref L.self,.ref A.a]∧bM C H L hs P0 w∧(x,A)∈L.ss∧dj H Q [stI x.status,((if Vbnlai.stands x=true then Vbnlai.holder w x else 0:Nat):Int)]
def j8:Sp:=fun vs H Q _=>∃ L hs P0 w x A h,vs=[.ref L.self,.ref A.a,.int h]∧bM C H L hs P0 w∧(x,A)∈L.ss∧Q (.bl (Vbnlai.here x && ((Vbnlai.holder w x:Nat):Int) == h)) H
end
theorem dj.to{H H1:Hp}{Q:VK}{ns:List Int}(q:dj H Q ns)(x:Ext H H1):dj H1 Q ns:=fun l H' hl e=>q l H' (x.1.free hl) (Ext.trans (Ext.both x) e)
theorem dj.new{H:Hp}{Q:VK}{ns:List Int}(q:dj H Q ns){l:Addr}(hl:H l=none):Q (.ref l) (upd H l (.lst (ns.map V.int))):=q l _ hl (Ext.refl _)
theorem kq:∀ {rows:List (List Int)},(∀ r∈rows,r.length≤5)→rows.flatten.length≤5 * rows.length
 | [],_=>Nat.le_refl _
 | r :: rs,h=>by
  have h1:=h r List.mem_cons_self
  have h2:=kq fun r hr=>h r (List.mem_cons_of_mem _ hr)
  rw [List.flatten_cons,List.length_append,List.length_cons]
  omega
theorem take_flat{rows:List (List Int)}{i:Nat}{r:List Int}(h:rows[i]? = some r):(rows.take (i + 1)).flatten=(rows.take i).flatten ++ r:=by
 rw [List.take_add_one,h,List.flatten_append]
 simp
section
variable{P:Program}{w0:World}{K:PySem.W.Frag}{mg:Str→Option Value}{base:Heap}{C:Cs}
theorem cW(T:Txt K mg C):Can P w0 K mg base 1 "told_list" ["numbers"] mf:=by
 refine ay T.f_told_list sc_told_list (fun vs H Q E h=>by obtain ⟨_,_,rfl,_⟩:=h;rfl) fun f cdv A outer s H vs Q E hr h=> ?_
 refine ⟨_,(a8 (ai (df op_cat (bf (a6 (aA aV rfl T.b_len PySem.boot_len (a6 (pv 0) ab)) ab)) (pv 0)))),?_⟩
 obtain ⟨a,ns,rfl,ha,hz,q⟩:=h
 simp! only [ha]
 refine ⟨by rw [sizeLine_eq];decide,fun l hl=> ?_⟩
 have x1:Ext H (upd H l (.lst [.int (ns.map V.int).length])):=Ext.upd hl rfl
 have hl1:upd H l (.lst [.int (ns.map V.int).length]) l=some (.lst [.int (ns.map V.int).length]):=a9
 generalize upd H l (.lst [.int (ns.map V.int).length])=H1 at x1 hl1 ⊢
 have ha1:=x1.1 _ _ ha
 simp! only [hl1,ha1]
 rw [List.length_map]
 exact ⟨by rw [sizeLine_eq];omega,fun p hp=>(q.to x1).new hp⟩
theorem cU(T:Txt K mg C):Can P w0 K mg base 1 "told_rows" ["rows"] lE:=by
 refine ay T.f_told_rows sc_told_rows (fun vs H Q E h=>by obtain ⟨_,_,_,rfl,_⟩:=h;rfl) fun f cdv A outer s H vs Q E hr h=> ?_
 refine ⟨_,(a7 (aI (i:=1) (sc_told_rows).nd rfl (by trivial) (bf (a6 (aA aV rfl T.b_len PySem.boot_len (a6 (pv 0) ab)) ab)))
   (a7 (bO PassesOwn.never rfl (aN (K:=K) rfl (pv 0)) (aC (i:=2) (sc_told_rows).nd rfl (by trivial)) (a8 (aY (cq PySem.F.plainAttrs_list PySem.F.slot_list_extend PySem.F.type_list_extend li (pv 1) (a6 (pv 2) ab)))))
   (a8 (ai (pv 1))))),?_⟩
 obtain ⟨a,as,rows,rfl,ha,hp,hz,h5,q⟩:=h
 have hlen:rows.length=as.length:=Paired.length hp
 simp! only [ha]
 refine ⟨by rw [sizeLine_eq];decide,fun l hl=> ?_⟩
 rw [List.length_map,← hlen]
 have x1:Ext H (upd H l (.lst [.int (rows.length:Nat)])):=Ext.upd hl rfl
 have hl1:upd H l (.lst [.int (rows.length:Nat)]) l=some (.lst [.int (rows.length:Nat)]):=a9
 generalize upd H l (.lst [.int (rows.length:Nat)])=H1 at x1 hl1 ⊢
 refine ⟨_,rfl,a,_,rfl,x1.1 _ _ ha,?_⟩
 refine cM (J:=Itl K a) (n:=(as.map V.ref).length) (P:=fun i x G G'=>G'=G∧(as.map V.ref)[i]? = some x)
  (fun i σ2 G=>(∃ v:Option V,σ2=[some (V.ref a),some (V.ref l),v])∧(∀ b u,H b=some u→G b=some u)∧(∀ b u,G b=some u→H b=some u∨ca u=true)∧G l=some (.lst ((((rows.length:Int) :: (rows.take i).flatten)).map V.int)))
  (fun i σ2 G hi h=> ?_) ⟨⟨none,rfl⟩,x1.1,x1.2,hl1⟩ (fun i x σ2 G G' hi h hx=> ?_) (fun σ2 G h=> ?_)
 ·have hs:SqL K G a (as.map V.ref):=SqL.of (h.2.1 _ _ ha)
  obtain ⟨w1,w2⟩:=cn hs G (Ext.refl G)
  refine ⟨fun hi'=>⟨(w1 i hi').1,fun x G' hy=> ?_⟩,fun e=>w2 i (Nat.le_of_eq e.symm)⟩
  obtain ⟨e1,e2⟩:=hy
  exact ⟨e1,e2 _ hs⟩
 ·obtain ⟨⟨v,rfl⟩,keep,nodt,hG⟩:=h
  obtain ⟨rfl,hx⟩:=hx
  rw [List.getElem?_map] at hx
  cases ei:as[i]? with
  | none=>rw [ei] at hx;cases hx
  | some b=>
   rw [ei] at hx
   cases hx
   obtain ⟨r,hr1,hr2⟩:=bN hp ei
   have hb:=keep _ _ hr2
   simp! only [hG,hb]
   have n1:(rows.take i).flatten.length≤5 * (rows.take i).length:=kq fun r hr=>h5 r (List.mem_of_mem_take hr)
   have n2:=h5 r (List.mem_of_getElem? hr1)
   have n3:(rows.take i).length≤rows.length:=by rw [List.length_take];omega
   refine ⟨by rw [List.length_map,List.length_map,sizeLine_eq];omega,fun b u hb=> ?_,fun b u hb=> ?_,?_⟩
   ·rw [af (al hb hl)];exact keep b u hb
   ·by_cases h1:b=l
    ·subst h1;rw [a9] at hb;cases hb;exact .inr rfl
    ·rw [af h1] at hb;exact nodt b u hb
   ·rw [a9,take_flat hr1,List.map_append]
 ·obtain ⟨⟨v,rfl⟩,keep,nodt,hG⟩:=h
  rw [List.length_map,← hlen,List.take_length] at hG
  refine ⟨_,rfl,q l G hl ⟨fun b u hb=> ?_,fun b u hb=> ?_⟩⟩
  ·by_cases h1:b=l
   ·subst h1;rw [a9] at hb;cases hb;exact hG
   ·rw [af h1] at hb;exact keep b u hb
  ·by_cases h1:b=l
   ·subst h1;rw [hG] at hb;cases hb;exact .inr rfl
   ·rw [af h1];exact nodt b u hb
theorem ok_where(T:Txt K mg C):Can P w0 K mg base 3 "where" ["past", "sheet"] (sp_where C):=by
 refine ay T.f_where sc_where (fun vs H Q E h=>by obtain ⟨_,_,_,_,_,_,rfl,_⟩:=h;rfl) fun f cdv A outer s H vs Q E hr h=> ?_
 refine ⟨_,(a8 (ai (bf (a6 (ae (K:=K) rfl (pv 1) rfl) (a6 (nF (b9 (am (gd T) (hr.mono (by decide)) rfl (a6 (pv 1) ab))) ag (am (cV T) (hr.mono (by decide)) rfl (a6 (pv 0) (a6 (pv 1) ab)))) ab))))),?_⟩
 obtain ⟨L,hs,P0,w,x,A',rfl,R,hm,q⟩:=h
 dsimp! only [R.r.sheet hm]
 refine ⟨_,⟨_,_,x,A',rfl,R.r.sheet hm,R.r.pl,rfl⟩,_,rfl,?_⟩
 cases c:Vbnlai.stands x with
 | false=>
  rw [if_pos (by rfl)]
  rw [if_neg (by rw [c];decide)] at q
  exact ⟨by rw [sizeLine_eq];decide,fun p hp=>q.new hp⟩
 | true=>
  rw [if_neg (by decide)]
  rw [if_pos c] at q
  exact ⟨L,hs,P0,w,x,A',rfl,R,hm,by rw [sizeLine_eq];decide,fun p hp=>q.new hp⟩
theorem eS(T:Txt K mg C):Can P w0 K mg base 3 "is_held_here" ["past", "sheet", "house"] (j8 C):=by
 refine ay T.f_is_held_here sc_is_held_here (fun vs H Q E h=>by obtain ⟨_,_,_,_,_,_,_,rfl,_⟩:=h;rfl) fun f cdv A outer s H vs Q E hr h=> ?_
 refine ⟨_,(a8 (ai (oF (bm aL (ae (K:=K) rfl (pv 1) rfl) (aB T.g_HERE rfl) (ap _)) (i5 (bm aL (am (cV T) (hr.mono (by decide)) rfl (a6 (pv 0) (a6 (pv 1) ab))) (pv 2) (ap _)))))),?_⟩
 obtain ⟨L,hs,P0,w,x,A',hh,rfl,R,hm,q⟩:=h
 dsimp! only [R.r.sheet hm]
 by_cases c:stI x.status=0
 ·rw [if_pos c]
  rw [hZ c,Bool.true_and,mC] at q
  exact ⟨L,hs,P0,w,x,A',rfl,R,hm,rfl,by simp only [V.int.injEq];exact q⟩
 ·rw [if_neg c]
  rw [ia c,Bool.false_and] at q
  exact q
end
theorem g0{β : Type}(f:Nat→Option β)(i:Nat):(List.range (i + 1)).filterMap f=(List.range i).filterMap f ++ (f i).toList:=by
 rw [List.range_succ,List.filterMap_append]
 cases e:f i <;> simp [e]
theorem Paired.snoc{α β : Type}{F : α→β→Prop}:∀ {l:List α} {m:List β} {a : α} {b : β},Paired F l m→F a b→Paired F (l ++ [a]) (m ++ [b])
 | _,_,_,_,.nil,h=>.cons h .nil
 | _,_,_,_,.cons h r,h'=>.cons h (Paired.snoc r h')
theorem pX{wi:TI}{g:TG}{tt:TT}{te:TE}{vs:List Nat}{σ : L2.St}{H:Hp}{Q:VK}(n:Nat)(P:Nat→V→Hp→Prop)(r:Nat→Option (List Int))(hn:n≤sizeLine)
  (hw:∀ R:It→Hp→Prop,(∀ J H1,Ext H H1→ij J H1 n P→R J H1)→wi σ H R)
  (turn:∀ i x H' (N:Option V→Hp→Prop),i < n→Ext H H'→P i x H'→(r i=none→∀ H'',Ext H' H''→N none H'')→(∀ row,r i=some row→∀ l H1 H'',Ext H' H1→H1 l=none→Ext (upd H1 l (.lst (row.map V.int))) H''→N (some (.ref l)) H'') →
   g x (b7 σ vs) H' fun σ2 H2=>b7 σ2 vs=b7 σ vs∧tt σ2 H2 fun b H3=>if b=true then te σ2 H3 fun y H4=>N (some y) H4 else N none H3)
  (q:∀ D as H',Ext H H'→H' D=some (.lst (as.map V.ref))→Paired (eP H') ((List.range n).filterMap r) as→Q (.ref D) H'):tLc wi g tt te vs σ H Q:=by
 refine hw _ fun J H1 x W D hD=> ?_
 refine ⟨fun i m G=>i≤n∧m=n - i∧Ext H1 G∧∃ as:List Addr,G D=some (.lst (as.map V.ref))∧Paired (fun row a=>eP G row a∧a≠D) ((List.range i).filterMap r) as,⟨n,Nat.zero_le _,rfl,Ext.upd hD rfl,[],a9,.nil⟩,?_⟩
 rintro i m G ⟨hi,rfl,sm,as,hd,hp⟩
 obtain ⟨w1,w2⟩:=W G sm
 by_cases h:i < n
 ·refine .inr ⟨(w1 i h).1,fun G'=>Ext H1 G'∧∃ as:List Addr,G' D=some (.lst (as.map V.ref))∧Paired (fun row a=>eP G' row a∧a≠D) ((List.range (i + 1)).filterMap r) as,fun G' q=>⟨n - (i + 1),by omega,h,rfl,q.1,q.2⟩,fun y G' hy=> ?_⟩
  obtain ⟨s1,hpy⟩:=(w1 i h).2 y G' hy
  refine turn i y G' (fun o H4=>match o with
   | some y=>∃ acc,H4 D=some (.lst acc)∧acc.length < sizeLine∧(Ext H1 (upd H4 D (.lst (acc ++ [y])))∧∃ as:List Addr,upd H4 D (.lst (acc ++ [y])) D=some (.lst (as.map V.ref))∧Paired (fun row a=>eP (upd H4 D (.lst (acc ++ [y]))) row a∧a≠D) ((List.range (i + 1)).filterMap r) as)
   | none=>Ext H1 H4∧∃ as:List Addr,H4 D=some (.lst (as.map V.ref))∧Paired (fun row a=>eP H4 row a∧a≠D) ((List.range (i + 1)).filterMap r) as) h (x.trans (sm.trans s1)) hpy (fun hr H4 s2=> ?_) (fun row hr l G2 H4 s2 hl s3=> ?_)
  ·refine ⟨(sm.trans s1).trans s2,as,s2.1 _ _ (s1.1 _ _ hd),?_⟩
   rw [g0,hr]
   simp only [Option.toList_none,List.append_nil]
   exact Paired.mapP hp fun _ _ z=>⟨s2.1 _ _ (s1.1 _ _ z.1),z.2⟩
  ·have s4:Ext G2 H4:=Ext.off hl rfl s3
   have s5:=((sm.trans s1).trans s2).trans s4
   have hd2:=s2.1 _ _ (s1.1 _ _ hd)
   have hd4:=s4.1 _ _ hd2
   have hlen:as.length < sizeLine:=by
    have:=Paired.length hp
    have h2:=List.length_filterMap_le r (List.range i)
    rw [List.length_range] at h2
    omega
   refine ⟨_,hd4,by rw [List.length_map];exact hlen,Ext.into hD s5 rfl,as ++ [l],?_,?_⟩
   ·rw [a9,List.map_append];rfl
   ·rw [g0,hr]
    refine Paired.snoc (Paired.mapP hp fun _ _ z=>⟨?_,z.2⟩) ⟨?_,?_⟩
    ·unfold eP
     rw [af z.2]
     exact s4.1 _ _ (s2.1 _ _ (s1.1 _ _ z.1))
    ·have:l≠D:=fun e=>by subst e;rw [hd2] at hl;cases hl
     unfold eP
     rw [af this]
     exact s3.at_
    ·intro e;subst e;rw [hd2] at hl;cases hl
 ·have e:i=n:=by omega
  subst e
  exact .inl ⟨w2 i (Nat.le_refl _),q D as G (x.trans sm) hd (Paired.mapP hp fun _ _ z=>z.1)⟩
section
variable(C:Cs)
def oR:Sp:=fun vs H Q _=>∃ L hs P0 w x A,vs=[.ref L.self,.ref A.a]∧bM C H L hs P0 w∧(x,A)∈L.ss∧dj H Q (VbnlaiNeutral.shown (.custody x.owner (x.loans.filterMap fun k=>(Vbnlai.loanOf w k).map fun l=>[k,l.borrower,l.due])))
def sp_dets:Sp:=fun vs H Q _=>∃ a dx x A,vs=[.ref a]∧H a=some (.ins C.Sheet dx (aG x A))∧fj C H A.da x.dets ∧
 dj H Q (VbnlaiNeutral.shown (.rows ((List.range x.dets.length).filterMap fun i=>(x.dets[i]?).map fun d=>[d.day,d.person,d.name,d.conf,if ((x.dets.drop (i + 1)).any fun e=>e.person == d.person)=true then 0 else Vbnlai.weight d])))
end
section
variable{P:Program}{w0:World}{K:PySem.W.Frag}{mg:Str→Option Value}{base:Heap}{C:Cs}
theorem oU(T:Txt K mg C):Can P w0 K mg base 2 "custody" ["past", "sheet"] (oR C):=by
 refine ay T.f_custody sc_custody (fun vs H Q E h=>by obtain ⟨_,_,_,_,_,_,rfl,_⟩:=h;rfl) fun f cdv A outer s H vs Q E hr h=> ?_
 refine ⟨_,(a8 (ai (df op_cat (bf (a6 (ae (K:=K) rfl (pv 1) rfl) ab)) (am (cU T) (hr.mono (by decide)) rfl (a6 (cT rfl (sc_custody).nd (aN (K:=K) rfl (ae (K:=K) rfl (pv 1) rfl)) (aX (N:=["past", "sheet", "key"]) (sc:=ah s_custody) (own:=[("key",2)]) (by decide +kernel)) (fun _ _ _ _ _=>(aC (i:=2) (sc_custody).nd rfl (by trivial))) (fun _ _ _ _ _=>bT) (fun _ _ _ _ _=>(bf (a6 (pv 2) (a6 (ae (K:=K) rfl (aP (aM hr) (ae (K:=K) rfl (pv 0) rfl) (pv 2) (fun _ _=>rfl)) rfl) (a6 (ae (K:=K) rfl (aP (aM hr) (ae (K:=K) rfl (pv 0) rfl) (pv 2) (fun _ _=>rfl)) rfl) ab)))))) ab))))),?_⟩
 obtain ⟨L,hs,P0,w,x,A',rfl,R,hm,q⟩:=h
 dsimp! only [R.r.sheet hm]
 refine ⟨by rw [sizeLine_eq];decide,fun p hp=> ?_⟩
 have x1:Ext H (upd H p (.lst [.int (x.owner:Nat)])):=Ext.upd hp rfl
 have hp1:upd H p (.lst [.int (x.owner:Nat)]) p=some (.lst [.int (x.owner:Nat)]):=a9
 generalize upd H p (.lst [.int (x.owner:Nat)])=H1 at x1 hp1 ⊢
 have R1:=R.mono x1
 have hrow:=R1.r.row hm
 obtain ⟨n,hn,inv⟩:=R.inv
 have hfew:=(inv.few x (gB R.r hm)).1
 have hln:(aT x.loans).length=x.loans.length:=by unfold aT;rw [List.length_map]
 refine pX (aT x.loans).length (fun i y _=>(aT x.loans)[i]? = some y) (fun i=>(x.loans[i]?).bind fun k=>(Vbnlai.loanOf w k).map fun l=>VbnlaiNeutral.ints [k,l.borrower,l.due]) (by rw [hln,sizeLine_eq];omega) (fun R0 h=> ?_) (fun i y G N hi s hy hN0 hN=> ?_) (fun D as G s hD hp2=> ?_)
 ·dsimp! only [R1.r.sheet hm]
  exact ⟨_,hrow,h _ _ (Ext.refl _) (cn (SqL.of hrow))⟩
 ·unfold aT at hy
  rw [List.getElem?_map] at hy
  cases ek:x.loans[i]? with
  | none=>rw [ek] at hy;cases hy
  | some k=>
   rw [ek] at hy
   cases hy
   obtain ⟨l,hl⟩:=inv.row (gB R.r hm) (List.mem_of_getElem? ek)
   have R2:=R1.mono s
   have hl2:=hl
   rw [R.r.loanOf] at hl2
   cases e:L.ln k with
   | none=>rw [e] at hl2;cases hl2
   | some p'=>
    rw [e] at hl2
    cases hl2
    have hv:bo (kvL L.ls) (Sum.inl ((k:Nat):Int))=some (.ref p'.2.a):=by rw [g5,e];rfl
    obtain ⟨hpm,hpk⟩:=fB e
    dsimp! only [fU,b7,R2.r.self,R2.r.lD,hv,R2.r.loan hpm]
    refine ⟨by rw [sizeLine_eq];decide,fun l0 hl0=> ?_⟩
    exact hN _ (by rw [ek,Option.bind_some,hl];rfl) l0 G _ (Ext.refl _) hl0 (Ext.refl _)
 ·rw [hln,cf] at hp2
  have e1:(x.loans.filterMap fun k=>(Vbnlai.loanOf w k).map fun l=>VbnlaiNeutral.ints [k,l.borrower,l.due])=(x.loans.filterMap fun k=>(Vbnlai.loanOf w k).map fun l=>[k,l.borrower,l.due]).map VbnlaiNeutral.ints:=by
   rw [List.map_filterMap]
   congr 1
   funext k
   rw [Option.map_map];rfl
  rw [e1] at hp2
  have hl3:((x.loans.filterMap fun k=>(Vbnlai.loanOf w k).map fun l=>[k,l.borrower,l.due]).map VbnlaiNeutral.ints).length≤300:=by
   rw [List.length_map]
   exact Nat.le_trans (List.length_filterMap_le _ _) (by omega)
  have h5:∀ r∈(x.loans.filterMap fun k=>(Vbnlai.loanOf w k).map fun l=>[k,l.borrower,l.due]).map VbnlaiNeutral.ints,r.length≤5:=fun r hr=>by
   obtain ⟨r',hr',rfl⟩:=List.mem_map.mp hr
   obtain ⟨k,_,hk⟩:=List.mem_filterMap.mp hr'
   cases el:Vbnlai.loanOf w k with
   | none=>rw [el] at hk;cases hk
   | some l=>rw [el] at hk;cases hk;exact Nat.le_add_left 3 2
  refine ⟨D,as,_,rfl,hD,hp2,by omega,h5,fun l G2 hl s2=> ?_⟩
  have h7:=kq h5
  have s3:=Ext.off hl rfl s2
  refine ⟨l,rfl,_,s3.1 _ _ (s.1 _ _ hp1),_,s2.at_,by rw [List.length_map,List.length_cons,sizeLine_eq];simp only [List.length_cons,List.length_nil];omega,fun p' hp'=> ?_⟩
  have:=(q.to ((x1.trans s).trans s3)).new hp'
  simp only [VbnlaiNeutral.shown,List.map_cons] at this
  rw [List.flatMap_def] at this
  rw [List.length_map]
  exact this
theorem ok_dets(T:Txt K mg C):Can P w0 K mg base 2 "dets" ["sheet"] (sp_dets C):=by
 refine ay T.f_dets sc_dets (fun vs H Q E h=>by obtain ⟨_,_,_,_,rfl,_⟩:=h;rfl) fun f cdv A outer s H vs Q E hr h=> ?_
 refine ⟨_,(a7 (aI (i:=1) (sc_dets).nd rfl (by trivial) (am (cQ T) (hr.mono (by decide)) rfl (a6 (ae (K:=K) rfl (pv 0) rfl) ab)))
   (a8 (ai (am (cU T) (hr.mono (by decide)) rfl (a6 (cT rfl (sc_dets).nd (mB (K:=K) rfl rfl T.b_zip (a6 (ae (K:=K) rfl (pv 0) rfl) (a6 (pv 1) ab))) (aX (N:=["sheet", "weights", "said", "weight"]) (sc:=ah s_dets) (own:=[("said",2),("weight",3)]) (by decide +kernel)) (fun _ _ _ _ _=>(eE (n:=2) rfl (bw (aC (i:=2) (sc_dets).nd rfl (by trivial)) (bw (aC (i:=3) (sc_dets).nd rfl (by trivial)) eF)))) (fun _ _ _ _ _=>bT) (fun _ _ _ _ _=>(bf (a6 (ae (K:=K) rfl (pv 2) rfl) (a6 (ae (K:=K) rfl (pv 2) rfl) (a6 (ae (K:=K) rfl (pv 2) rfl) (a6 (ae (K:=K) rfl (pv 2) rfl) (a6 (pv 3) ab)))))))) ab))))),?_⟩
 obtain ⟨a,dx,x,A',rfl,ha,D,q⟩:=h
 dsimp! only [ha]
 refine ⟨_,_,rfl,D,fun l H1 hl s1=> ?_⟩
 have hl1:=s1.at_
 have x1:=Ext.off hl rfl s1
 obtain ⟨ds,hda,hds⟩:=(D.mono x1).ex
 have hdl:x.dets.length=ds.length:=Paired.length hds
 have h300:=D.few
 have ha1:=x1.1 _ _ ha
 have hll:(ds.map V.ref).length=(aT ((SV.pr x.dets).map (·.2))).length:=by unfold aT;rw [List.length_map,List.length_map,List.length_map,SV.pr_length,hdl]
 refine pX (ds.map V.ref).length (fun i y G=>∃ T u v,(ds.map V.ref)[i]? = some u∧(aT ((SV.pr x.dets).map (·.2)))[i]? = some v∧y = .ref T∧G T=some (.tup [u,v])) (fun i=>((x.dets[i]?).map fun d=>[d.day,d.person,d.name,d.conf,if ((x.dets.drop (i + 1)).any fun e=>e.person == d.person)=true then 0 else Vbnlai.weight d]).map VbnlaiNeutral.ints) (by rw [List.length_map,sizeLine_eq];omega) (fun R0 h=> ?_) (fun i y G N hi s hy hN0 hN=> ?_) (fun D' as G s hD hp2=> ?_)
 ·dsimp! only [iZip,ha1]
  exact ⟨_,SqL.of hda,_,SqL.of hl1,h _ _ (Ext.refl _) (nr hda hl1 hll)⟩
 ·obtain ⟨T',u,v,hu,hv,rfl,hT⟩:=hy
  rw [List.getElem?_map] at hu
  cases ei:ds[i]? with
  | none=>rw [ei] at hu;cases hu
  | some b=>
   rw [ei] at hu
   cases hu
   obtain ⟨d,hd,dx',hb⟩:=bN hds ei
   have hpr:=SV.pr_at hd
   unfold aT at hv
   rw [List.getElem?_map,List.getElem?_map,hpr] at hv
   cases hv
   have hb2:=s.1 _ _ hb
   dsimp! only [fU,b7,hT,hb2]
   refine ⟨by rw [sizeLine_eq];decide,fun l0 hl0=> ?_⟩
   exact hN _ (by rw [hd];rfl) l0 G _ (Ext.refl _) hl0 (Ext.refl _)
 ·rw [List.length_map,← hdl,← List.map_filterMap] at hp2
  generalize er:((List.range x.dets.length).filterMap fun i=>(x.dets[i]?).map fun d=>[d.day,d.person,d.name,d.conf,if ((x.dets.drop (i + 1)).any fun e=>e.person == d.person)=true then 0 else Vbnlai.weight d])=rows at hp2 q
  have hl3:(rows.map VbnlaiNeutral.ints).length≤300:=by
   rw [List.length_map,← er]
   refine Nat.le_trans (List.length_filterMap_le _ _) ?_
   rw [List.length_range];omega
  have h5:∀ r∈rows.map VbnlaiNeutral.ints,r.length≤5:=fun r hr=>by
   obtain ⟨r',hr',rfl⟩:=List.mem_map.mp hr
   rw [← er] at hr'
   obtain ⟨k,_,hk⟩:=List.mem_filterMap.mp hr'
   cases el:x.dets[k]? with
   | none=>rw [el] at hk;cases hk
   | some l=>rw [el] at hk;cases hk;exact Nat.le_refl 5
  refine ⟨D',as,_,rfl,hD,hp2,by omega,h5,fun l2 G2 hl2 s2=> ?_⟩
  refine q.to (x1.trans s) l2 G2 hl2 ?_
  simp only [VbnlaiNeutral.shown]
  rw [List.flatMap_def]
  rw [List.length_map] at s2
  exact s2
end
def bJ(w:Vbnlai.World):List Int:=w.sheets.map fun x=>(x.key:Int)
def cR(w:Vbnlai.World):List Int:=w.loans.map fun x=>(x.key:Int)
section
variable{C:Cs}{H:Hp}{L:Lay}{hs:List Nat}{P0:List Vbnlai.Person}{w:Vbnlai.World}
theorem jW(R:bM C H L hs P0 w){Q:VK}(q:∀ p,H p=none→Q (.ref p) (upd H p (.lst ((bJ w).map V.int)))):fw [V.ref L.sD] H Q:=by
 obtain ⟨n,hn,inv⟩:=R.inv
 refine ⟨L.sD,L.ss.map fun p=>((p.1.key:Int),V.ref p.2.a),rfl,?_,?_,fun ns p hp hs hf=> ?_⟩
 ·rw [R.r.sD,List.map_map];rfl
 ·rw [List.length_map,R.r.nS]
  have:=inv.sN
  unfold Vbnlai.SHEETS at this
  omega
 ·rw [List.map_map] at hp
  have e:ns=bJ w:=by
   refine SV.sorted_eq (hp.trans ?_) hs (SV.asc_le inv.sA)
   have:=R.r.sP.map (fun x:Vbnlai.Sheet=>(x.key:Int))
   rw [List.map_map] at this
   exact this
  rw [e]
  exact q p hf
theorem sorted_L(R:bM C H L hs P0 w){Q:VK}(q:∀ p,H p=none→Q (.ref p) (upd H p (.lst ((cR w).map V.int)))):fw [V.ref L.lD] H Q:=by
 obtain ⟨n,hn,inv⟩:=R.inv
 refine ⟨L.lD,L.ls.map fun p=>((p.1.key:Int),V.ref p.2.a),rfl,?_,?_,fun ns p hp hs hf=> ?_⟩
 ·rw [R.r.lD,List.map_map];rfl
 ·rw [List.length_map,R.r.nL]
  have:=inv.lN
  unfold Vbnlai.LOANS at this
  omega
 ·rw [List.map_map] at hp
  have e:ns=cR w:=by
   refine SV.sorted_eq (hp.trans ?_) hs (SV.asc_le inv.lA)
   have:=R.r.lP.map (fun x:Vbnlai.Loan=>(x.key:Int))
   rw [List.map_map] at this
   exact this
  rw [e]
  exact q p hf
theorem sh_of(R:bM C H L hs P0 w){x:Vbnlai.Sheet}(hx:x∈w.sheets):∃ A,L.sh (x.key:Int)=some (x,A)∧(x,A)∈L.ss:=by
 obtain ⟨n,hn,inv⟩:=R.inv
 have h:=inv.sheetOf hx
 rw [R.r.sheetOf] at h
 cases e:L.sh (x.key:Int) with
 | none=>rw [e] at h;cases h
 | some p=>
  rw [e] at h
  cases h
  exact ⟨p.2,rfl,(b5 e).1⟩
theorem ln_of(R:bM C H L hs P0 w){x:Vbnlai.Loan}(hx:x∈w.loans):∃ A,L.ln (x.key:Int)=some (x,A)∧(x,A)∈L.ls:=by
 obtain ⟨n,hn,inv⟩:=R.inv
 have h:=inv.loanOf hx
 rw [R.r.loanOf] at h
 cases e:L.ln (x.key:Int) with
 | none=>rw [e] at h;cases h
 | some p=>
  rw [e] at h
  cases h
  exact ⟨p.2,rfl,(fB e).1⟩
theorem mi{i:Nat}{v:V}(h:((bJ w).map V.int)[i]? = some v):∃ x,w.sheets[i]? = some x∧v = .int (x.key:Int):=by
 unfold bJ at h
 rw [List.map_map,List.getElem?_map] at h
 cases e:w.sheets[i]? with
 | none=>rw [e] at h;cases h
 | some x=>rw [e] at h;cases h;exact ⟨x,rfl,rfl⟩
theorem lkey_at{i:Nat}{v:V}(h:((cR w).map V.int)[i]? = some v):∃ x,w.loans[i]? = some x∧v = .int (x.key:Int):=by
 unfold cR at h
 rw [List.map_map,List.getElem?_map] at h
 cases e:w.loans[i]? with
 | none=>rw [e] at h;cases h
 | some x=>rw [e] at h;cases h;exact ⟨x,rfl,rfl⟩
end
section
variable(C:Cs)
def jK:Sp:=fun vs H Q _=>∃ L hs P0 w h,vs=[.ref L.self,.int h]∧bM C H L hs P0 w∧dj H Q (VbnlaiNeutral.ints ((w.sheets.filter fun x=>Vbnlai.here x && ((Vbnlai.holder w x:Nat):Int) == h).map fun x=>x.key))
def i7:Sp:=fun vs H Q _=>∃ L hs P0 w n,vs=[.ref L.self,.int n]∧bM C H L hs P0 w∧dj H Q (VbnlaiNeutral.ints ((w.sheets.filter fun x=>x.type != 0 && (x.type:Int) == n).map fun x=>x.key))
end
section
variable{P:Program}{w0:World}{K:PySem.W.Frag}{mg:Str→Option Value}{base:Heap}{C:Cs}
theorem js(T:Txt K mg C):Can P w0 K mg base 4 "keys_inside" ["past", "house"] (jK C):=by
 refine ay T.f_keys_inside sc_keys_inside (fun vs H Q E h=>by obtain ⟨_,_,_,_,_,rfl,_⟩:=h;rfl) fun f cdv A outer s H vs Q E hr h=> ?_
 refine ⟨_,(a8 (ai (cT rfl (sc_keys_inside).nd (aN (K:=K) rfl (aA (eK rfl) rfl T.b_sorted boot_sorted (a6 (ae (K:=K) rfl (pv 0) rfl) ab))) (aX (N:=["past", "house", "key"]) (sc:=ah s_keys_inside) (own:=[("key",2)]) (by decide +kernel)) (fun _ _ _ _ _=>(aC (i:=2) (sc_keys_inside).nd rfl (by trivial))) (fun _ _ _ _ _=>(c7 (b9 (am (eS T) (hr.mono (by decide)) rfl (a6 (pv 0) (a6 (aP (aM hr) (ae (K:=K) rfl (pv 0) rfl) (pv 2) (fun _ _=>rfl)) (a6 (pv 1) ab))))))) (fun _ _ _ _ _=>(pv 2))))),?_⟩
 obtain ⟨L,hs,P0,w,hh,rfl,R,q⟩:=h
 obtain ⟨n,hn,inv⟩:=R.inv
 have h60:=inv.sN
 unfold Vbnlai.SHEETS at h60
 have hlen:((bJ w).map V.int).length=w.sheets.length:=by unfold bJ;rw [List.length_map,List.length_map]
 refine eJ ((bJ w).map V.int).length (fun i y _=>((bJ w).map V.int)[i]? = some y) (fun i=>(w.sheets[i]?).bind fun x=>if (Vbnlai.here x && ((Vbnlai.holder w x:Nat):Int) == hh)=true then some (V.int (x.key:Int)) else none) (by rw [hlen,sizeLine_eq];omega) (fun R0 h=> ?_) (fun i y H' N hi s hx hN=> ?_) fun D H' hD s=>q D H' hD ?_
 ·dsimp! only [R.r.self]
  refine jW R fun p hp=>⟨p,rfl,_,a9,h _ _ (Ext.upd hp rfl) (cn (SqL.of a9))⟩
 ·obtain ⟨x,hx1,rfl⟩:=mi hx
  obtain ⟨A',e,hm⟩:=sh_of R (List.mem_of_getElem? hx1)
  have R':=R.mono s
  have hv:bo (kvS L.ss) (Sum.inl (x.key:Int))=some (.ref A'.a):=by rw [bL,e];rfl
  have hN':=hN H' (Ext.refl _)
  rw [hx1,Option.bind_some] at hN'
  dsimp! only [b7,R'.r.self,R'.r.sD,hv]
  refine ⟨L,hs,P0,w,x,A',hh,rfl,R',hm,_,rfl,?_⟩
  by_cases c:(Vbnlai.here x && ((Vbnlai.holder w x:Nat):Int) == hh)=true
  ·rw [if_pos c] at hN' ⊢
   exact hN'
  ·rw [if_neg c] at hN' ⊢
   exact hN'
 ·rw [hlen,cf,f9] at s
  unfold VbnlaiNeutral.ints
  rw [List.map_map,List.map_map]
  exact s
theorem io(T:Txt K mg C):Can P w0 K mg base 1 "typified_keys" ["past", "name"] (i7 C):=by
 refine ay T.f_typified_keys sc_typified_keys (fun vs H Q E h=>by obtain ⟨_,_,_,_,_,rfl,_⟩:=h;rfl) fun f cdv A outer s H vs Q E hr h=> ?_
 refine ⟨_,(a8 (ai (cT rfl (sc_typified_keys).nd (aN (K:=K) rfl (aA (eK rfl) rfl T.b_sorted boot_sorted (a6 (ae (K:=K) rfl (pv 0) rfl) ab))) (aX (N:=["past", "name", "key"]) (sc:=ah s_typified_keys) (own:=[("key",2)]) (by decide +kernel)) (fun _ _ _ _ _=>(aC (i:=2) (sc_typified_keys).nd rfl (by trivial))) (fun _ _ _ _ _=>(c7 (PW.pt (ff (ak bU (pv 1) ag (ap _)) (dl (ak aL (ae (K:=K) rfl (aP (aM hr) (ae (K:=K) rfl (pv 0) rfl) (pv 2) (fun _ _=>rfl)) rfl) (pv 1) (ap _))))))) (fun _ _ _ _ _=>(pv 2))))),?_⟩
 obtain ⟨L,hs,P0,w,hh,rfl,R,q⟩:=h
 obtain ⟨n,hn,inv⟩:=R.inv
 have h60:=inv.sN
 unfold Vbnlai.SHEETS at h60
 have hlen:((bJ w).map V.int).length=w.sheets.length:=by unfold bJ;rw [List.length_map,List.length_map]
 refine eJ ((bJ w).map V.int).length (fun i y _=>((bJ w).map V.int)[i]? = some y) (fun i=>(w.sheets[i]?).bind fun x=>if (x.type != 0 && (x.type:Int) == hh)=true then some (V.int (x.key:Int)) else none) (by rw [hlen,sizeLine_eq];omega) (fun R0 h=> ?_) (fun i y H' N hi s hx hN=> ?_) fun D H' hD s=>q D H' hD ?_
 ·dsimp! only [R.r.self]
  refine jW R fun p hp=>⟨p,rfl,_,a9,h _ _ (Ext.upd hp rfl) (cn (SqL.of a9))⟩
 ·obtain ⟨x,hx1,rfl⟩:=mi hx
  obtain ⟨A',e,hm⟩:=sh_of R (List.mem_of_getElem? hx1)
  have R':=R.mono s
  have hv:bo (kvS L.ss) (Sum.inl (x.key:Int))=some (.ref A'.a):=by rw [bL,e];rfl
  have hN':=hN H' (Ext.refl _)
  rw [hx1,Option.bind_some] at hN'
  dsimp! only [b7,R'.r.self,R'.r.sD,R'.r.sheet hm,hv]
  by_cases c1:(x.type:Int)=hh
  ·by_cases c2:hh=0
   ·rw [if_neg (fun z=>z c2)]
    rw [if_neg (by intro z;simp only [Bool.and_eq_true,bne_iff_ne,beq_iff_eq] at z;omega)] at hN'
    exact hN'
   ·rw [if_pos c2,if_pos c1]
    rw [if_pos (by simp only [Bool.and_eq_true,bne_iff_ne,beq_iff_eq];omega)] at hN'
    exact hN'
  ·rw [if_neg (by intro z;simp only [Bool.and_eq_true,bne_iff_ne,beq_iff_eq] at z;omega)] at hN'
   rw [if_neg c1]
   split <;> exact hN'
 ·rw [hlen,cf,f9] at s
  unfold VbnlaiNeutral.ints
  rw [List.map_map,List.map_map]
  exact s
end
def Rws(H:Hp)(D:Addr)(rows:List (List Int))(G:Hp):Prop:=Ext H G∧∃ as:List Addr,G D=some (.lst (as.map V.ref))∧Paired (fun row a=>eP G row a∧a≠D) rows as
section
variable{H G G2:Hp}{D l:Addr}{rows:List (List Int)}{row:List Int}
theorem Rws.start(hD:H D=none):Rws H D [] (upd H D (.lst [])):=⟨Ext.upd hD rfl,[],a9,.nil⟩
theorem Rws.mono(h:Rws H D rows G)(x:Ext G G2):Rws H D rows G2:=by
 obtain ⟨e,as,h1,h2⟩:=h
 exact ⟨e.trans x,as,x.1 _ _ h1,Paired.mapP h2 fun _ _ z=>⟨x.1 _ _ z.1,z.2⟩⟩
theorem Rws.add(hD:H D=none)(h:Rws H D rows G)(hl:G l=none)(s:Ext (upd G l (.lst (row.map V.int))) G2) :
  ∃ as:List Addr,G2 D=some (.lst (as.map V.ref))∧as.length=rows.length∧Rws H D (rows ++ [row]) (upd G2 D (.lst (as.map V.ref ++ [.ref l]))):=by
 obtain ⟨e,as,h1,h2⟩:=h
 have s1:=Ext.off hl rfl s
 have ne:l≠D:=fun z=>by subst z;rw [h1] at hl;cases hl
 refine ⟨as,s1.1 _ _ h1,(Paired.length h2).symm,Ext.into hD (e.trans s1) rfl,as ++ [l],?_,Paired.snoc (Paired.mapP h2 fun _ _ z=>⟨?_,z.2⟩) ⟨?_,ne⟩⟩
 ·rw [a9,List.map_append];rfl
 ·unfold eP;rw [af z.2];exact s1.1 _ _ z.1
 ·unfold eP;rw [af ne];exact s.at_
theorem Rws.told(h:Rws H D rows G):∃ as:List Addr,G D=some (.lst (as.map V.ref))∧Paired (eP G) rows as:=by
 obtain ⟨e,as,h1,h2⟩:=h
 exact ⟨as,h1,Paired.mapP h2 fun _ _ z=>z.1⟩
end
section
variable(C:Cs)
def ou:Sp:=fun vs H Q _=>∃ L hs P0 w,∃ d:Nat,vs=[.ref L.self,.int d]∧bM C H L hs P0 w∧dj H Q (VbnlaiNeutral.shown (.rows (Vbnlai.overdueOf w d)))
def lL:Sp:=fun vs H Q _=>∃ L hs P0 w k,vs=[.ref L.self,.int k]∧bM C H L hs P0 w∧dj H Q (if (w.gatherings.any fun g=>(g:Int) == k)=false then [-2] else VbnlaiNeutral.shown (.rows ((w.sheets.filter fun x=>Vbnlai.stands x && (x.gathering:Int) == k).map fun x=>[x.key,(Vbnlai.nameOf x).1])))
end
section
variable{P:Program}{w0:World}{K:PySem.W.Frag}{mg:Str→Option Value}{base:Heap}{C:Cs}
def gu(w:Vbnlai.World)(d:Nat)(l:Vbnlai.Loan):Option (List Int):=if (decide (l.due < d) && Vbnlai.out w l.key != [])=true then some (VbnlaiNeutral.ints [l.key,(Vbnlai.out w l.key).length]) else none
theorem jp{α β : Type}(f : α→Option β){l:List α}{i:Nat}{x : α}(h:l[i]? = some x):(l.take (i + 1)).filterMap f=(l.take i).filterMap f ++ (f x).toList:=by
 rw [List.take_add_one,h,List.filterMap_append]
 cases e:f x <;> simp [e]
theorem hw_L{H:Hp}{L:Lay}{hs:List Nat}{P0:List Vbnlai.Person}{w:Vbnlai.World}{σ : L2.St}(T:Txt K mg C)(h0 : σ[0]? = some (some (V.ref L.self)))(R:bM C H L hs P0 w){R0:It→Hp→Prop}(h:∀ p,H p=none→R0 (Itl K p) (upd H p (.lst ((cR w).map V.int)))) :
  gh K (tCB fw (bI (tFld K (bq 0) "loans") ip)) σ H R0:=by
 dsimp! only [R.r.self,h0]
 exact sorted_L R fun p hp=>⟨p,rfl,_,a9,h p hp⟩
theorem hw_S{H:Hp}{L:Lay}{hs:List Nat}{P0:List Vbnlai.Person}{w:Vbnlai.World}{σ : L2.St}(T:Txt K mg C)(h0 : σ[0]? = some (some (V.ref L.self)))(R:bM C H L hs P0 w){R0:It→Hp→Prop}(h:∀ p,H p=none→R0 (Itl K p) (upd H p (.lst ((bJ w).map V.int)))) :
  gh K (tCB fw (bI (tFld K (bq 0) "sheets") ip)) σ H R0:=by
 dsimp! only [R.r.self,h0]
 exact jW R fun p hp=>⟨p,rfl,_,a9,h p hp⟩
theorem o5(T:Txt K mg C):Can P w0 K mg base 2 "overdue" ["past", "day"] (ou C):=by
 refine ay T.f_overdue sc_overdue (fun vs H Q E h=>by obtain ⟨_,_,_,_,_,rfl,_⟩:=h;rfl) fun f cdv A outer s H vs Q E hr h=> ?_
 refine ⟨_,(a7 (aI (i:=2) (sc_overdue).nd rfl (by trivial) (bf ab))
   (a7 (bO PassesOwn.never rfl (aN (K:=K) rfl (aA (eK rfl) rfl T.b_sorted boot_sorted (a6 (ae (K:=K) rfl (pv 0) rfl) ab))) (aC (i:=3) (sc_overdue).nd rfl (by trivial)) (a7 (fS (cj (i:=4) rfl (sc_overdue).nd rfl rfl (cZ rfl rfl rfl (by decide +kernel)) (fN (ae (K:=K) rfl (pv 0) rfl)) (aX (N:=["past", "day", "rows", "key", "having", "sheet"]) (sc:=ah s_overdue) (own:=[("sheet",5)]) (by decide +kernel)) (fun _ _ _ _ _=>(aC (i:=5) (sc_overdue).nd rfl (by trivial))) (fun _ _ _ _ _=>(c7 (ak k8 (pv 3) (ae (K:=K) rfl (pv 5) rfl) (by with_unfolding_all rfl)))) (fun _ _ _ _ _=>(pv 5))))
   (a8 (aw (PW.pt (ff (ak fC (ae (K:=K) rfl (aP (aM hr) (ae (K:=K) rfl (pv 0) rfl) (pv 3) (fun _ _=>rfl)) rfl) (pv 1) (ap _)) (dl (ak dI (aA aV rfl T.b_len PySem.boot_len (a6 (pv 4) ab)) ag (ap _))))) (a8 (aY (cq PySem.F.plainAttrs_list PySem.F.slot_list_append PySem.F.type_list_append cD (pv 2) (a6 (bf (a6 (pv 3) (a6 (aA aV rfl T.b_len PySem.boot_len (a6 (pv 4) ab)) ab))) ab)))) aj))))
   (a8 (ai (am (cU T) (hr.mono (by decide)) rfl (a6 (pv 2) ab)))))),?_⟩
 obtain ⟨L,hs,P0,w,d,rfl,R,q⟩:=h
 obtain ⟨n,hn,inv⟩:=R.inv
 have h60:=inv.sN
 have h40:=inv.lN
 unfold Vbnlai.SHEETS at h60
 unfold Vbnlai.LOANS at h40
 simp! only []
 refine ⟨by rw [sizeLine_eq];decide,fun D hD=> ?_⟩
 have rw0:=Rws.start hD
 generalize upd H D (.lst [])=H1 at rw0 ⊢
 have R1:=R.mono rw0.1
 refine hw_L T rfl R1 fun p hp=> ?_
 have x1:Ext H1 (upd H1 p (.lst ((cR w).map V.int))):=Ext.upd hp rfl
 have hp1:upd H1 p (.lst ((cR w).map V.int)) p=some (.lst ((cR w).map V.int)):=a9
 have npD:p≠D:=fun z=>by subst z;obtain ⟨_,as,e,_⟩:=rw0;rw [e] at hp;cases hp
 have rw1:=rw0.mono x1
 generalize upd H1 p (.lst ((cR w).map V.int))=H2 at x1 hp1 rw1 ⊢
 have hlen:((cR w).map V.int).length=w.loans.length:=by unfold cR;rw [List.length_map,List.length_map]
 refine cM (J:=Itl K p) (n:=((cR w).map V.int).length) (P:=fun i x G G'=>G'=G∧((cR w).map V.int)[i]? = some x)
  (fun i σ2 G=>(∃ v3 v4 v5:Option V,σ2=[some (V.ref L.self),some (V.int d),some (V.ref D),v3,v4,v5])∧G p=some (.lst ((cR w).map V.int))∧Rws H D ((w.loans.take i).filterMap (gu w d)) G)
  (fun i σ2 G hi h=> ?_) ⟨⟨none,none,none,rfl⟩,hp1,rw1⟩ (fun i y σ2 G G' hi h hx=> ?_) (fun σ2 G h=> ?_)
 ·have hs:SqL K G p ((cR w).map V.int):=SqL.of h.2.1
  obtain ⟨w1,w2⟩:=cn hs G (Ext.refl G)
  refine ⟨fun hi'=>⟨(w1 i hi').1,fun x G' hy=> ?_⟩,fun e=>w2 i (Nat.le_of_eq e.symm)⟩
  obtain ⟨e1,e2⟩:=hy
  exact ⟨e1,e2 _ hs⟩
 ·obtain ⟨⟨v3,v4,v5,rfl⟩,hpG,rw2⟩:=h
  obtain ⟨rfl,hx⟩:=hx
  obtain ⟨l,hl,rfl⟩:=lkey_at hx
  obtain ⟨A',el,hlm⟩:=ln_of R (List.mem_of_getElem? hl)
  have R2:=R.mono rw2.1
  have hls:(kvS L.ss).length=L.ss.length:=by unfold kvS;rw [List.length_map]
  have h60':L.ss.length≤60:=by rw [R.r.nS];exact h60
  dsimp only [tSeq,kC,kY,tNot,tB,fE,kT,ms,bZ,tRet]
  refine ig L.sD (kvS L.ss) (fun i=>(L.ss[i]?).bind fun p'=>if p'.1.loans.contains l.key=true then some (V.ref p'.2.a) else none) R2.r.sD (by rw [hls,sizeLine_eq];omega) (fun od Q' hq=> ?_) (fun od i x H' N hi s hx hN=> ?_) (fun l' H' hl' s=> ?_)
  ·have h0:upd G' L.sD (.frz od (.dK (kvS L.ss))) L.self=some (.ins C.Ledger L.dx (bb L)):=(af (cu R2.r.self R2.r.sD (by intro z;cases z))).trans R2.r.self
   dsimp! only [h0]
   exact hq
  ·obtain ⟨k,hx⟩:=hx
   unfold kvS at hx
   rw [List.getElem?_map] at hx
   cases ei:L.ss[i]? with
   | none=>rw [ei] at hx;cases hx
   | some p'=>
    rw [ei] at hx
    cases hx
    have hp:=List.mem_of_getElem? ei
    have S:=kf R2.r.sD s (R2.r.sheet hp) (by intro z;cases z)
    have Rw:=kf R2.r.sD s (R2.r.row hp) (by intro z;cases z)
    have hN':=hN H' (Ext.refl _)
    rw [ei,Option.bind_some] at hN'
    dsimp! only [b7,S,Rw,ii,qi]
    by_cases hc:p'.1.loans.contains l.key=true
    ·rw [if_pos hc] at hN' ⊢
     exact hN'
    ·rw [if_neg hc] at hN' ⊢
     exact hN'
  ·rw [hls,cf,f9] at s
   have s0:=Ext.off hl' rfl s
   have hl2:=s.at_
   have R3:=R2.mono s0
   have rw3:=rw2.mono s0
   have hp3:=s0.1 _ _ hpG
   have hcnt:((L.ss.filter fun p'=>p'.1.loans.contains l.key).map fun p'=>V.ref p'.2.a).length=(Vbnlai.out w l.key).length:=by
    unfold Vbnlai.out
    rw [List.length_map,← SV.count_perm R.r.sP,List.filter_map,List.length_map];rfl
   have hv:bo (kvL L.ls) (Sum.inl (l.key:Int))=some (.ref A'.a):=by rw [g5,el];rfl
   dsimp! only [R3.r.self,R3.r.lD,hv,R3.r.loan hlm,hl2,hcnt]
   have stop:gu w d l=none→H' p=some (.lst ((cR w).map V.int))∧Rws H D ((w.loans.take (i + 1)).filterMap (gu w d)) H':=fun e=>by
    rw [jp _ hl,e]
    simp only [Option.toList_none,List.append_nil]
    exact ⟨hp3,rw3⟩
   by_cases c1:l.due < d
   ·rw [if_pos (by omega)]
    by_cases c2:Vbnlai.out w l.key=[]
    ·rw [if_neg (by rw [c2];decide)]
     exact stop (by unfold gu;rw [c2,if_neg (by simp)])
    ·rw [if_pos (by have:=List.length_pos_iff.mpr c2;omega)]
     have eo:gu w d l=some (VbnlaiNeutral.ints [l.key,(Vbnlai.out w l.key).length]):=by
      unfold gu
      rw [if_pos]
      rw [Bool.and_eq_true,decide_eq_true_eq,bne_iff_ne]
      exact ⟨c1,c2⟩
     obtain ⟨_,as,hD3,_⟩:=rw3
     refine ⟨_,hD3,by rw [sizeLine_eq];decide,fun p1 hp1=> ?_⟩
     obtain ⟨as2,a1,a2,a3⟩:=Rws.add (row:=VbnlaiNeutral.ints [l.key,(Vbnlai.out w l.key).length]) hD (rw2.mono s0) hp1 (Ext.refl _)
     refine ⟨_,a1,?_,?_,?_⟩
     ·rw [List.length_map,a2,sizeLine_eq]
      have:=List.length_filterMap_le (gu w d) (w.loans.take i)
      rw [List.length_take] at this
      omega
     ·rw [af npD,af (al hp3 hp1)];exact hp3
     ·rw [jp _ hl,eo];exact a3
   ·rw [if_neg (by omega)]
    exact stop (by unfold gu;rw [if_neg];rw [Bool.and_eq_true,decide_eq_true_eq];exact fun z=>c1 z.1)
 ·obtain ⟨⟨v3,v4,v5,rfl⟩,hpG,rw2⟩:=h
  rw [hlen,List.take_length] at rw2
  have e1:w.loans.filterMap (gu w d)=(Vbnlai.overdueOf w d).map VbnlaiNeutral.ints:=by
   unfold Vbnlai.overdueOf
   rw [List.map_map]
   exact f9 _ _ _
  rw [e1] at rw2
  obtain ⟨as,b1,b2⟩:=rw2.told
  refine ⟨_,rfl,D,as,_,rfl,b1,b2,?_,fun r hr=> ?_,?_⟩
  ·rw [List.length_map,Vbnlai.overdueOf,List.length_map]
   exact Nat.le_trans (List.length_filter_le _ _) (by omega)
  ·obtain ⟨r',hr',rfl⟩:=List.mem_map.mp hr
   unfold Vbnlai.overdueOf at hr'
   obtain ⟨l,_,rfl⟩:=List.mem_map.mp hr'
   exact Nat.le_add_left 2 3
  ·rw [List.length_map,← List.flatMap_def]
   exact q.to rw2.1
theorem ji{H:Hp}{L:Lay}{hs:List Nat}{P0:List Vbnlai.Person}{w:Vbnlai.World}(R:bM C H L hs P0 w){x:Vbnlai.Sheet}{A:SA}(hm:(x,A)∈L.ss):fj C H A.da x.dets:=by
 obtain ⟨n,hn,inv⟩:=R.inv
 have hx:=gB R.r hm
 exact ⟨⟨A.ds,R.r.dts hm,Paired.mapP (R.r.ds _ hm) fun _ _ z=>z.2⟩,Nat.le_trans (inv.few x hx).2 hn,R.rin.d x hx⟩
theorem pK{H:Hp}{da:Addr}{x:Vbnlai.Sheet}(D:fj C H da x.dets):Vbnlai.nameOf x=(SV.nm (SV.pr x.dets),SV.G (SV.pr x.dets)):=SV.name_eq fun d hd=>Nat.mul_pos (D.rk d hd).1.1 (Nat.succ_pos _)
theorem lK(T:Txt K mg C):Can P w0 K mg base 3 "gathering" ["past", "key"] (lL C):=by
 refine ay T.f_gathering sc_gathering (fun vs H Q E h=>by obtain ⟨_,_,_,_,_,rfl,_⟩:=h;rfl) fun f cdv A outer s H vs Q E hr h=> ?_
 refine ⟨_,(a7 (aw (br (aW (aM hr) (pv 1) (ae (K:=K) rfl (pv 0) rfl))) (a8 (ai (bf (a6 (aJ az ag) ab)))) aj)
   (a7 (aI (i:=2) (sc_gathering).nd rfl (by trivial) (bf ab))
   (a7 (bO PassesOwn.never rfl (aN (K:=K) rfl (aA (eK rfl) rfl T.b_sorted boot_sorted (a6 (ae (K:=K) rfl (pv 0) rfl) ab))) (aC (i:=3) (sc_gathering).nd rfl (by trivial)) (a7 (aI (i:=4) (sc_gathering).nd rfl (by trivial) (aP (aM hr) (ae (K:=K) rfl (pv 0) rfl) (pv 3) (fun _ _=>rfl)))
   (a8 (aw (PW.pt (ff (ak aL (ae (K:=K) rfl (pv 4) rfl) (pv 1) (ap _)) (dl (bG (b9 (am (gd T) (hr.mono (by decide)) rfl (a6 (pv 4) ab))))))) (a8 (aY (cq PySem.F.plainAttrs_list PySem.F.slot_list_append PySem.F.type_list_append cD (pv 2) (a6 (bf (a6 (pv 3) (a6 (aD aq (am (dh T) (hr.mono (by decide)) rfl (a6 (ae (K:=K) rfl (pv 4) rfl) ab)) ag (fun _ _=>rfl)) ab))) ab)))) aj))))
   (a8 (ai (am (cU T) (hr.mono (by decide)) rfl (a6 (pv 2) ab))))))),?_⟩
 obtain ⟨L,hs,P0,w,k,rfl,R,q⟩:=h
 obtain ⟨n,hn,inv⟩:=R.inv
 have h60:=inv.sN
 unfold Vbnlai.SHEETS at h60
 dsimp! only [R.r.self,R.r.gD,nQ,R.r.gather]
 by_cases c:(w.gatherings.any fun g=>(g:Int) == k)=false
 ·rw [if_pos c] at q ⊢
  exact ⟨by rw [sizeLine_eq];decide,fun p hp=>q.new hp⟩
 rw [if_neg c] at q ⊢
 refine ⟨by rw [sizeLine_eq];decide,fun D hD=> ?_⟩
 have rw0:=Rws.start hD
 generalize upd H D (.lst [])=H1 at rw0 ⊢
 have R1:=R.mono rw0.1
 refine hw_S T rfl R1 fun p hp=> ?_
 have x1:Ext H1 (upd H1 p (.lst ((bJ w).map V.int))):=Ext.upd hp rfl
 have hp1:upd H1 p (.lst ((bJ w).map V.int)) p=some (.lst ((bJ w).map V.int)):=a9
 have npD:p≠D:=fun z=>by subst z;obtain ⟨_,as,e,_⟩:=rw0;rw [e] at hp;cases hp
 have rw1:=rw0.mono x1
 generalize upd H1 p (.lst ((bJ w).map V.int))=H2 at x1 hp1 rw1 ⊢
 have hlen:((bJ w).map V.int).length=w.sheets.length:=by unfold bJ;rw [List.length_map,List.length_map]
 refine cM (J:=Itl K p) (n:=((bJ w).map V.int).length) (P:=fun i x G G'=>G'=G∧((bJ w).map V.int)[i]? = some x)
  (fun i σ2 G=>(∃ v3 v4:Option V,σ2=[some (V.ref L.self),some (V.int k),some (V.ref D),v3,v4])∧G p=some (.lst ((bJ w).map V.int))∧Rws H D ((w.sheets.take i).filterMap fun x=>if (Vbnlai.stands x && (x.gathering:Int) == k)=true then some (VbnlaiNeutral.ints [x.key,(Vbnlai.nameOf x).1]) else none) G)
  (fun i σ2 G hi h=> ?_) ⟨⟨none,none,rfl⟩,hp1,rw1⟩ (fun i y σ2 G G' hi h hx=> ?_) (fun σ2 G h=> ?_)
 ·have hs:SqL K G p ((bJ w).map V.int):=SqL.of h.2.1
  obtain ⟨w1,w2⟩:=cn hs G (Ext.refl G)
  refine ⟨fun hi'=>⟨(w1 i hi').1,fun x G' hy=> ?_⟩,fun e=>w2 i (Nat.le_of_eq e.symm)⟩
  obtain ⟨e1,e2⟩:=hy
  exact ⟨e1,e2 _ hs⟩
 ·obtain ⟨⟨v3,v4,rfl⟩,hpG,rw2⟩:=h
  obtain ⟨rfl,hx⟩:=hx
  obtain ⟨x,hx1,rfl⟩:=mi hx
  have hxm:=List.mem_of_getElem? hx1
  obtain ⟨A',el,hm⟩:=sh_of R hxm
  have R2:=R.mono rw2.1
  have hv:bo (kvS L.ss) (Sum.inl (x.key:Int))=some (.ref A'.a):=by rw [bL,el];rfl
  dsimp! only [R2.r.self,R2.r.sD,hv,R2.r.sheet hm]
  have stop:(Vbnlai.stands x && (x.gathering:Int) == k)=false→G' p=some (.lst ((bJ w).map V.int))∧Rws H D ((w.sheets.take (i + 1)).filterMap fun x=>if (Vbnlai.stands x && (x.gathering:Int) == k)=true then some (VbnlaiNeutral.ints [x.key,(Vbnlai.nameOf x).1]) else none) G':=fun e=>by
   rw [jp _ hx1,e]
   simp only [Bool.false_eq_true,if_false,Option.toList_none,List.append_nil]
   exact ⟨hpG,rw2⟩
  by_cases c1:(x.gathering:Int)=k
  ·rw [if_pos c1]
   refine ⟨_,⟨_,_,x,A',rfl,R2.r.sheet hm,R2.r.pl,rfl⟩,_,rfl,?_⟩
   cases c2:Vbnlai.stands x with
   | false=>
    rw [if_neg (by decide)]
    exact stop (by rw [c2];rfl)
   | true=>
    rw [if_pos (by rfl)]
    obtain ⟨_,as,hD2,_⟩:=id rw2
    have Dt:=ji R2 hm
    refine ⟨_,hD2,_,_,_,R2.r.sheet hm,T.cl_Sheet,T.na_Sheet_determinations,_,rfl,A'.da,x.dets,rfl,Dt,fun l G2 hl s2=>⟨l,rfl,_,s2.at_,_,at0,by rw [sizeLine_eq];decide,fun p2 hp2=> ?_⟩⟩
    have x2:=Ext.off hl rfl s2
    have en:=pK Dt
    obtain ⟨as2,a1,a2,a3⟩:=Rws.add (row:=VbnlaiNeutral.ints [x.key,(Vbnlai.nameOf x).1]) hD (rw2.mono x2) hp2 (Ext.refl _)
    rw [en] at a1 a3
    refine ⟨_,a1,?_,?_,?_⟩
    ·rw [List.length_map,a2,sizeLine_eq]
     refine Nat.lt_of_le_of_lt (List.length_filterMap_le _ _) ?_
     rw [List.length_take]
     omega
    ·rw [af npD,af (al (x2.1 _ _ hpG) hp2)];exact x2.1 _ _ hpG
    ·rw [jp _ hx1,if_pos (by rw [c2,Bool.true_and,beq_iff_eq];exact c1),en];exact a3
  ·rw [if_neg c1]
   exact stop (by rw [Bool.and_eq_false_iff];right;rw [beq_eq_false_iff_ne];exact c1)
 ·obtain ⟨⟨v3,v4,rfl⟩,hpG,rw2⟩:=h
  rw [hlen,List.take_length] at rw2
  have e1:(w.sheets.filterMap fun x=>if (Vbnlai.stands x && (x.gathering:Int) == k)=true then some (VbnlaiNeutral.ints [x.key,(Vbnlai.nameOf x).1]) else none)=((w.sheets.filter fun x=>Vbnlai.stands x && (x.gathering:Int) == k).map fun x=>[x.key,(Vbnlai.nameOf x).1]).map VbnlaiNeutral.ints:=by
   rw [List.map_map]
   exact f9 _ _ _
  rw [e1] at rw2
  obtain ⟨as,b1,b2⟩:=rw2.told
  refine ⟨_,rfl,D,as,_,rfl,b1,b2,?_,fun r hr=> ?_,?_⟩
  ·rw [List.length_map,List.length_map]
   exact Nat.le_trans (List.length_filter_le _ _) (by omega)
  ·obtain ⟨r',hr',rfl⟩:=List.mem_map.mp hr
   obtain ⟨l,_,rfl⟩:=List.mem_map.mp hr'
   exact Nat.le_add_left 2 3
  ·rw [List.length_map,← List.flatMap_def]
   exact q.to rw2.1
end
def jI(ps:List (Vbnlai.Sheet×SA)):List V:=ps.map fun p=>V.ref p.2.a
theorem gC{K:PySem.W.Frag}{g:TG}{tt:TT}{te:TE}{vs:List Nat}{σ : L2.St}{H:Hp}{Q:VK}{j:Nat}{a:Addr}(ps:List (Vbnlai.Sheet×SA))(c:Vbnlai.Sheet×SA→Bool)(f:Vbnlai.Sheet×SA→V)(hv : σ[j]? = some (some (.ref a)))(ha:H a=some (.lst (jI ps)))(hn:ps.length≤60)
  (turn:∀ p∈ps,∀ H' (N:Option V→Hp→Prop),Ext H H'→(∀ H'',Ext H' H''→N (if c p=true then some (f p) else none) H'') →
   g (.ref p.2.a) (b7 σ vs) H' fun σ2 H2=>b7 σ2 vs=b7 σ vs∧tt σ2 H2 fun b H3=>if b=true then te σ2 H3 fun y H4=>N (some y) H4 else N none H3)
  (q:∀ l H',H l=none→Ext (upd H l (.lst ((ps.filter c).map f))) H'→Q (.ref l) H'):tLc (gh K (bq j)) g tt te vs σ H Q:=by
 have hlen:(jI ps).length=ps.length:=by unfold jI;rw [List.length_map]
 refine eJ (jI ps).length _ (fun i=>(ps[i]?).bind fun p=>if c p=true then some (f p) else none) (by rw [hlen,sizeLine_eq];omega) (cN hv ha) (fun i x H' N hi s hx hN=> ?_) fun D H' hD s=>q D H' hD ?_
 ·unfold jI at hx
  rw [List.getElem?_map] at hx
  cases e:ps[i]? with
  | none=>rw [e] at hx;cases hx
  | some p=>
   rw [e] at hx
   cases hx
   refine turn p (List.mem_of_getElem? e) H' N s fun H'' s2=> ?_
   have:=hN H'' s2
   rw [e] at this
   exact this
 ·rw [hlen,cf,f9] at s
  exact s
theorem cnt{ss:List (Vbnlai.Sheet×SA)}{w:Vbnlai.World}(hP:(ss.map (·.1)).Perm w.sheets)(q:Vbnlai.Sheet→Bool):Vbnlai.count w.sheets q=ss.countP fun p=>q p.1:=by
 unfold Vbnlai.count
 rw [← SV.count_perm hP,List.filter_map,List.length_map,List.countP_eq_length_filter];rfl
theorem lG(s:Vbnlai.Status):(stI s == 0)=(s == .here)∧(stI s == 1)=(s == .way)∧(stI s == 2)=(s == .lost):=by cases s <;> exact ⟨rfl,rfl,rfl⟩
theorem books_eq{ss th ow:List (Vbnlai.Sheet×SA)}{w:Vbnlai.World}{h:Nat}(hP:(ss.map (·.1)).Perm w.sheets)(e1:ss.filter (fun p=>Vbnlai.stands p.1)=th)(e2:th.filter (fun p=>(p.1.owner:Int) == h)=ow) :
  VbnlaiNeutral.ints (Vbnlai.booksOf w h)=[((((ow.filter fun p=>p.1.loans == []).map fun p=>stI p.1.status).count 0:Nat):Int),((ow.filter fun p=>p.1.loans != []).length:Int) - ((((ow.filter fun p=>p.1.loans != []).map fun p=>stI p.1.status).count 2:Nat):Int),
   ((((ow.filter fun p=>p.1.loans == []).map fun p=>stI p.1.status).count 1:Nat):Int),((ow.filter fun p=>p.1.status == .lost).length:Int),((th.filter fun p=>p.1.loans != [] && (Vbnlai.here p.1 && ((Vbnlai.holder w p.1:Nat):Int) == h)).length:Int)]:=by
 subst e1
 subst e2
 unfold Vbnlai.booksOf VbnlaiNeutral.ints
 simp only [List.map_cons,List.map_nil,cnt hP]
 have hi:∀ a b:Nat,((a:Int) == (b:Int))=(a == b):=fun a b=>by rw [Bool.eq_iff_iff,beq_iff_eq,beq_iff_eq];omega
 have k1:∀ z:Int,∀ c:Vbnlai.Sheet×SA→Bool,((((ss.filter fun p=>Vbnlai.stands p.1).filter fun p=>(p.1.owner:Int) == h).filter c).map fun p=>stI p.1.status).count z=ss.countP fun p=>(stI p.1.status == z && c p) && ((p.1.owner == h) && Vbnlai.stands p.1):=fun z c=>by
  rw [List.count_eq_countP,List.countP_map,List.countP_filter,List.countP_filter,List.countP_filter]
  congr 1
  funext p
  simp only [Function.comp,hi,Bool.and_assoc]
 have k2:∀ c:Vbnlai.Sheet×SA→Bool,(((ss.filter fun p=>Vbnlai.stands p.1).filter fun p=>(p.1.owner:Int) == h).filter c).length=ss.countP fun p=>c p && ((p.1.owner == h) && Vbnlai.stands p.1):=fun c=>by
  rw [← List.countP_eq_length_filter,List.countP_filter,List.countP_filter]
  congr 1
  funext p
  simp only [hi,Bool.and_assoc]
 rw [k1,k1,k1,k2,k2,← List.countP_eq_length_filter,List.countP_filter]
 have a1:(ss.countP fun p=>(stI p.1.status == 0 && p.1.loans == []) && ((p.1.owner == h) && Vbnlai.stands p.1))=ss.countP fun p=>(Vbnlai.stands p.1 && p.1.owner == h) && (p.1.loans == [] && p.1.status == .here):=by
  congr 1;funext p;rw [(lG p.1.status).1];cases (p.1.status == .here) <;> cases (p.1.loans == []) <;> cases (p.1.owner == h) <;> cases Vbnlai.stands p.1 <;> rfl
 have a3:(ss.countP fun p=>(stI p.1.status == 1 && p.1.loans == []) && ((p.1.owner == h) && Vbnlai.stands p.1))=ss.countP fun p=>(Vbnlai.stands p.1 && p.1.owner == h) && (p.1.loans == [] && p.1.status == .way):=by
  congr 1;funext p;rw [(lG p.1.status).2.1];cases (p.1.status == .way) <;> cases (p.1.loans == []) <;> cases (p.1.owner == h) <;> cases Vbnlai.stands p.1 <;> rfl
 have a4:(ss.countP fun p=>p.1.status == .lost && ((p.1.owner == h) && Vbnlai.stands p.1))=ss.countP fun p=>(Vbnlai.stands p.1 && p.1.owner == h) && p.1.status == .lost:=by
  congr 1;funext p;cases (p.1.status == .lost) <;> cases (p.1.owner == h) <;> cases Vbnlai.stands p.1 <;> rfl
 have a5:(ss.countP fun p=>(p.1.loans != [] && (Vbnlai.here p.1 && ((Vbnlai.holder w p.1:Nat):Int) == h)) && Vbnlai.stands p.1)=ss.countP fun p=>Vbnlai.stands p.1 && (p.1.loans != [] && (Vbnlai.holder w p.1 == h && p.1.status == .here)):=by
  congr 1;funext p;rw [hi];unfold Vbnlai.here;cases (p.1.status == .here) <;> cases (p.1.loans != []) <;> cases (Vbnlai.holder w p.1 == h) <;> cases Vbnlai.stands p.1 <;> rfl
 have a2:∀ l:List (Vbnlai.Sheet×SA),(l.countP fun p=>p.1.loans != [] && ((p.1.owner == h) && Vbnlai.stands p.1))=(l.countP fun p=>(stI p.1.status == 2 && p.1.loans != []) && ((p.1.owner == h) && Vbnlai.stands p.1)) + l.countP fun p=>(Vbnlai.stands p.1 && p.1.owner == h) && (p.1.loans != [] && p.1.status != .lost):=fun l=>by
  induction l with
  | nil=>rfl
  | cons p r ih=>
   rw [List.countP_cons,List.countP_cons,List.countP_cons,ih,(lG p.1.status).2.2]
   unfold bne
   cases (p.1.status == .lost) <;> cases (p.1.loans == []) <;> cases (p.1.owner == h) <;> cases Vbnlai.stands p.1 <;> simp <;> omega
 rw [a1,a3,a4,a5,a2 ss]
 congr 2
 omega
section
variable(C:Cs)
def sp_books:Sp:=fun vs H Q _=>∃ L hs P0 w,∃ h:Nat,vs=[.ref L.self,.int h]∧bM C H L hs P0 w∧dj H Q (VbnlaiNeutral.ints (Vbnlai.booksOf w h))
end
section
variable{P:Program}{w0:World}{K:PySem.W.Frag}{mg:Str→Option Value}{base:Heap}{C:Cs}
theorem ok_books(T:Txt K mg C):Can P w0 K mg base 4 "books" ["past", "house"] (sp_books C):=by
 refine ay T.f_books sc_books (fun vs H Q E h=>by obtain ⟨_,_,_,_,_,rfl,_⟩:=h;rfl) fun f cdv A outer s H vs Q E hr h=> ?_
 refine ⟨_,(a7 (fS (cj (i:=2) rfl (sc_books).nd rfl rfl (cZ rfl rfl rfl (by decide +kernel)) (fN (ae (K:=K) rfl (pv 0) rfl)) (aX (N:=["past", "house", "there", "owned", "unlent", "lent", "lost", "borrowed", "sheet"]) (sc:=ah s_books) (own:=[("sheet",8)]) (by decide +kernel)) (fun _ _ _ _ _=>(aC (i:=8) (sc_books).nd rfl (by trivial))) (fun _ _ _ _ _=>(c7 (bG (b9 (am (gd T) (hr.mono (by decide)) rfl (a6 (pv 8) ab)))))) (fun _ _ _ _ _=>(pv 8))))
   (a7 (cj (i:=3) rfl (sc_books).nd rfl rfl (cZ rfl rfl rfl (by decide +kernel)) (aN (K:=K) rfl (pv 2)) (aX (N:=["past", "house", "there", "owned", "unlent", "lent", "lost", "borrowed", "sheet"]) (sc:=ah s_books) (own:=[("sheet",8)]) (by decide +kernel)) (fun _ _ _ _ _=>(aC (i:=8) (sc_books).nd rfl (by trivial))) (fun _ _ _ _ _=>(c7 (ak aL (ae (K:=K) rfl (pv 8) rfl) (pv 1) (ap _)))) (fun _ _ _ _ _=>(pv 8)))
   (a7 (cj (i:=4) rfl (sc_books).nd rfl rfl (cZ rfl rfl rfl (by decide +kernel)) (aN (K:=K) rfl (pv 3)) (aX (N:=["past", "house", "there", "owned", "unlent", "lent", "lost", "borrowed", "sheet"]) (sc:=ah s_books) (own:=[("sheet",8)]) (by decide +kernel)) (fun _ _ _ _ _=>(aC (i:=8) (sc_books).nd rfl (by trivial))) (fun _ _ _ _ _=>(c7 (ak aL (aA aV rfl T.b_len PySem.boot_len (a6 (ae (K:=K) rfl (pv 8) rfl) ab)) ag (ap _)))) (fun _ _ _ _ _=>(ae (K:=K) rfl (pv 8) rfl)))
   (a7 (cj (i:=5) rfl (sc_books).nd rfl rfl (cZ rfl rfl rfl (by decide +kernel)) (aN (K:=K) rfl (pv 3)) (aX (N:=["past", "house", "there", "owned", "unlent", "lent", "lost", "borrowed", "sheet"]) (sc:=ah s_books) (own:=[("sheet",8)]) (by decide +kernel)) (fun _ _ _ _ _=>(aC (i:=8) (sc_books).nd rfl (by trivial))) (fun _ _ _ _ _=>(c7 (ak dI (aA aV rfl T.b_len PySem.boot_len (a6 (ae (K:=K) rfl (pv 8) rfl) ab)) ag (ap _)))) (fun _ _ _ _ _=>(ae (K:=K) rfl (pv 8) rfl)))
   (a7 (cj (i:=6) rfl (sc_books).nd rfl rfl (cZ rfl rfl rfl (by decide +kernel)) (aN (K:=K) rfl (pv 3)) (aX (N:=["past", "house", "there", "owned", "unlent", "lent", "lost", "borrowed", "sheet"]) (sc:=ah s_books) (own:=[("sheet",8)]) (by decide +kernel)) (fun _ _ _ _ _=>(aC (i:=8) (sc_books).nd rfl (by trivial))) (fun _ _ _ _ _=>(c7 (ak aL (ae (K:=K) rfl (pv 8) rfl) (aB T.g_LOST rfl) (ap _)))) (fun _ _ _ _ _=>(pv 8)))
   (a7 (cj (i:=7) rfl (sc_books).nd rfl rfl (cZ rfl rfl rfl (by decide +kernel)) (aN (K:=K) rfl (pv 2)) (aX (N:=["past", "house", "there", "owned", "unlent", "lent", "lost", "borrowed", "sheet"]) (sc:=ah s_books) (own:=[("sheet",8)]) (by decide +kernel)) (fun _ _ _ _ _=>(aC (i:=8) (sc_books).nd rfl (by trivial))) (fun _ _ _ _ _=>(c7 (PW.pt (ff (ak dI (aA aV rfl T.b_len PySem.boot_len (a6 (ae (K:=K) rfl (pv 8) rfl) ab)) ag (ap _)) (dl (b9 (am (eS T) (hr.mono (by decide)) rfl (a6 (pv 0) (a6 (pv 8) (a6 (pv 1) ab)))))))))) (fun _ _ _ _ _=>(pv 8)))
   (a8 (ai (bf (a6 (cq PySem.F.plainAttrs_list PySem.F.slot_list_count PySem.F.type_list_count (hU (K:=K) rfl) (pv 4) (a6 (aB T.g_HERE rfl) ab)) (a6 (df o8 (aA aV rfl T.b_len PySem.boot_len (a6 (pv 5) ab)) (cq PySem.F.plainAttrs_list PySem.F.slot_list_count PySem.F.type_list_count (hU (K:=K) rfl) (pv 5) (a6 (aB T.g_LOST rfl) ab))) (a6 (cq PySem.F.plainAttrs_list PySem.F.slot_list_count PySem.F.type_list_count (hU (K:=K) rfl) (pv 4) (a6 (aB T.g_ON_THE_WAY rfl) ab)) (a6 (aA aV rfl T.b_len PySem.boot_len (a6 (pv 6) ab)) (a6 (aA aV rfl T.b_len PySem.boot_len (a6 (pv 7) ab)) ab)))))))))))))),?_⟩
 obtain ⟨L,hs,P0,w,hh,rfl,R,q⟩:=h
 obtain ⟨n,hn,inv⟩:=R.inv
 have h60:=inv.sN
 unfold Vbnlai.SHEETS at h60
 have hls:(kvS L.ss).length=L.ss.length:=by unfold kvS;rw [List.length_map]
 have h60':L.ss.length≤60:=by rw [R.r.nS];exact h60
 dsimp only [tSeq,kC,kY,tNot,tB,fE,kT,ms,bZ,tRet]
 refine ig L.sD (kvS L.ss) (fun i=>(L.ss[i]?).bind fun p'=>if Vbnlai.stands p'.1=true then some (V.ref p'.2.a) else none) R.r.sD (by rw [hls,sizeLine_eq];omega) (fun od Q' hq=> ?_) (fun od i x H' N hi s hx hN=> ?_) (fun l1 H1 hl1 s=> ?_)
 ·have h0:upd H L.sD (.frz od (.dK (kvS L.ss))) L.self=some (.ins C.Ledger L.dx (bb L)):=(af (cu R.r.self R.r.sD (by intro z;cases z))).trans R.r.self
  dsimp! only [h0]
  exact hq
 ·obtain ⟨k,hx⟩:=hx
  unfold kvS at hx
  rw [List.getElem?_map] at hx
  cases ei:L.ss[i]? with
  | none=>rw [ei] at hx;cases hx
  | some p'=>
   rw [ei] at hx
   cases hx
   have hp:=List.mem_of_getElem? ei
   have S:=kf R.r.sD s (R.r.sheet hp) (by intro z;cases z)
   have hN':=hN H' (Ext.refl _)
   rw [ei,Option.bind_some] at hN'
   dsimp! only [b7]
   refine ⟨_,⟨_,_,p'.1,p'.2,rfl,S,s.plain (oS R.r.pl R.r.sD),rfl⟩,_,rfl,?_⟩
   cases c:Vbnlai.stands p'.1 with
   | true=>
    rw [c,if_pos rfl] at hN'
    rw [if_pos (by rfl)]
    exact hN'
   | false=>
    rw [c,if_neg (by decide)] at hN'
    rw [if_neg (by decide)]
    exact hN'
 rw [hls,cf,f9] at s
 have x1:=Ext.off hl1 rfl s
 have h1:=s.at_
 have hth:(L.ss.filter fun p'=>Vbnlai.stands p'.1).length≤60:=Nat.le_trans (List.length_filter_le _ _) h60'
 have mth:∀ p∈L.ss.filter (fun p'=>Vbnlai.stands p'.1),p∈L.ss:=fun p hp=>(List.mem_filter.mp hp).1
 generalize eth:L.ss.filter (fun p'=>Vbnlai.stands p'.1)=th at *
 have R1:=R.mono x1
 dsimp only [tSeq,kC,kY,tNot,tB,fE,kT,ms,bZ,tRet]
 refine gC th (fun p=>(p.1.owner:Int) == hh) (fun p=>V.ref p.2.a) (by rfl) h1 hth (fun p hp H' N s hN=> ?_) (fun l2 H2 hl2 s2=> ?_)
 ·have R':=R1.mono s
  have hN':=hN H' (Ext.refl _)
  dsimp! only [b7,R'.r.sheet (mth p hp)]
  by_cases c:(p.1.owner:Int)=hh
  ·rw [if_pos (by rw [beq_iff_eq];exact c)] at hN'
   rw [if_pos c];exact hN'
  ·rw [if_neg (by rw [beq_iff_eq];exact c)] at hN'
   rw [if_neg c];exact hN'
 have x2:=Ext.off hl2 rfl s2
 have h2:=s2.at_
 have how:(th.filter fun p=>(p.1.owner:Int) == hh).length≤60:=Nat.le_trans (List.length_filter_le _ _) hth
 have mow:∀ p∈th.filter (fun p=>(p.1.owner:Int) == hh),p∈L.ss:=fun p hp=>mth p (List.mem_filter.mp hp).1
 generalize eow:th.filter (fun p=>(p.1.owner:Int) == hh)=ow at *
 have R2:=R1.mono x2
 have nl:∀ p:Vbnlai.Sheet×SA,(aT p.1.loans).length=p.1.loans.length:=fun p=>by unfold aT;rw [List.length_map]
 refine gC ow (fun p=>p.1.loans == []) (fun p=>V.int (stI p.1.status)) (by rfl) h2 how (fun p hp H' N s hN=> ?_) (fun l3 H3 hl3 s3=> ?_)
 ·have R':=R2.mono s
  have hN':=hN H' (Ext.refl _)
  dsimp! only [b7,R'.r.sheet (mow p hp),R'.r.row (mow p hp),nl]
  by_cases c:p.1.loans=[]
  ·rw [if_pos (by rw [beq_iff_eq];exact c)] at hN'
   rw [if_pos (by rw [c];rfl)];exact hN'
  ·rw [if_neg (by rw [beq_iff_eq];exact c)] at hN'
   rw [if_neg (by have:=List.length_pos_iff.mpr c;omega)];exact hN'
 have x3:=Ext.off hl3 rfl s3
 have h3:=s3.at_
 have R3:=R2.mono x3
 refine gC ow (fun p=>p.1.loans != []) (fun p=>V.int (stI p.1.status)) (by rfl) (x3.1 _ _ h2) how (fun p hp H' N s hN=> ?_) (fun l4 H4 hl4 s4=> ?_)
 ·have R':=R3.mono s
  have hN':=hN H' (Ext.refl _)
  dsimp! only [b7,R'.r.sheet (mow p hp),R'.r.row (mow p hp),nl]
  by_cases c:p.1.loans=[]
  ·rw [if_neg (by rw [bne_iff_ne];exact fun z=>z c)] at hN'
   rw [if_neg (by rw [c];decide)];exact hN'
  ·rw [if_pos (by rw [bne_iff_ne];exact c)] at hN'
   rw [if_pos (by have:=List.length_pos_iff.mpr c;omega)];exact hN'
 have x4:=Ext.off hl4 rfl s4
 have h4:=s4.at_
 have R4:=R3.mono x4
 refine gC ow (fun p=>p.1.status == .lost) (fun p=>V.ref p.2.a) (by rfl) (x4.1 _ _ (x3.1 _ _ h2)) how (fun p hp H' N s hN=> ?_) (fun l5 H5 hl5 s5=> ?_)
 ·have R':=R4.mono s
  have hN':=hN H' (Ext.refl _)
  dsimp! only [b7,R'.r.sheet (mow p hp)]
  have ed:=stI_lost p.1.status
  by_cases c:stI p.1.status=2
  ·rw [if_pos (by rw [← ed];exact decide_eq_true c)] at hN'
   rw [if_pos c];exact hN'
  ·rw [if_neg (by rw [← ed,decide_eq_true_eq];exact c)] at hN'
   rw [if_neg c];exact hN'
 have x5:=Ext.off hl5 rfl s5
 have h5:=s5.at_
 have R5:=R4.mono x5
 refine gC th (fun p=>p.1.loans != [] && (Vbnlai.here p.1 && ((Vbnlai.holder w p.1:Nat):Int) == hh)) (fun p=>V.ref p.2.a) (by rfl) (x5.1 _ _ (x4.1 _ _ (x3.1 _ _ (x2.1 _ _ h1)))) hth (fun p hp H' N s hN=> ?_) (fun l6 H6 hl6 s6=> ?_)
 ·have R':=R5.mono s
  have hN':=hN H' (Ext.refl _)
  dsimp! only [b7,R'.r.sheet (mth p hp),R'.r.row (mth p hp),nl]
  by_cases c:p.1.loans=[]
  ·rw [if_neg (by rw [Bool.and_eq_true,bne_iff_ne];exact fun z=>z.1 c)] at hN'
   rw [if_neg (by rw [c];decide)];exact hN'
  ·rw [if_pos (by have:=List.length_pos_iff.mpr c;omega)]
   have e9:(p.1.loans != [])=true:=by rw [bne_iff_ne];exact c
   rw [e9,Bool.true_and] at hN'
   refine ⟨L,hs,P0,w,p.1,p.2,hh,rfl,R',mth p hp,_,rfl,?_⟩
   by_cases c2:(Vbnlai.here p.1 && ((Vbnlai.holder w p.1:Nat):Int) == hh)=true
   ·rw [if_pos c2] at hN' ⊢
    exact hN'
   ·rw [if_neg c2] at hN' ⊢
    exact hN'
 have x6:=Ext.off hl6 rfl s6
 have h6:=s6.at_
 have x46:=x5.trans x6
 have x36:=x4.trans x46
 have k3:=x36.1 _ _ h3
 have k4:=x46.1 _ _ h4
 have k5:=x6.1 _ _ h5
 have q6:=q.to (((x1.trans x2).trans x3).trans x36)
 rw [books_eq R.r.sP eth eow] at q6
 have k3':H6 l3=some (.lst (((ow.filter fun p=>p.1.loans == []).map fun p=>stI p.1.status).map V.int)):=by rw [k3,List.map_map];rfl
 have k4':H6 l4=some (.lst (((ow.filter fun p=>p.1.loans != []).map fun p=>stI p.1.status).map V.int)):=by rw [k4,List.map_map];rfl
 simp! only [k3',k4',k5,h6,oM]
 refine ⟨_,SqL.of k3',_,SqL.of k4',_,SqL.of k3',by rw [sizeLine_eq];decide,fun p hp=> ?_⟩
 have q7:=q6.new hp
 simp only [List.length_map]
 exact q7
end
end Sl
namespace L2
open PySem PySem.Spec PyProof.Rows
theorem tc_start(x y:Value):checkTypeCall "enumerate" ⟨[x],[("start",y)]⟩=pure ():=by kernel_rfl
theorem nc_start(x y:Value):checkBuiltinCall "enumerate.__new__" ⟨[.type "enumerate",x],[("start",y)]⟩=pure ():=by kernel_rfl
theorem oi_start(o x y:Value):argsOk "object.__init__" ⟨[o,x],[("start",y)]⟩:=by kernel_rfl
theorem new_start(l:Addr)(its:Array Value)(n:Nat)(dct:Option Addr)(sl:Array (Option Value))(t:Tok) :
  Meets (Builtin.«enumerate.__new__» ⟨[.type "enumerate",.ref l],[("start",.int 1 t)]⟩) (fun _ R s=>s.heap.get? l=some ⟨.type "list",dct,.seq its n,sl⟩ ∧
   R (.ok (.ret (.ref (s.heap.push ⟨.type "list_iterator",none,.fields #[.ref l,.int 0 0],#[]⟩).objs.size)))
    { s with heap:=(s.heap.push ⟨.type "list_iterator",none,.fields #[.ref l,.int 0 0],#[]⟩).push ⟨.type "enumerate",none,.fields #[.none,.bool false,.ref s.heap.objs.size,rawInt 1,.none,.none],#[]⟩ }):=by
 refine Meets.of_wp fun prog w A R s h=> ?_
 obtain ⟨hp,g,d,tk,os⟩:=s
 obtain ⟨hl,h⟩:=h
 have hb:=sub_enumerate
 have hL:Heap.IsList (Shared.heap ⟨hp,g,d,tk,os⟩) l its:=⟨_,hl,rfl,n,rfl⟩
 wp_walk using AutoSeq1.wpAny_loadPart' hl
 refine wpAny_stack_any fun st=>wpAny_pure ?_
 have both:∀ b:Bool,∃ x,x=b:=fun b=>⟨b,rfl⟩
 split
 ·rename_i c _ _ _ _ _
  obtain ⟨b,eb⟩:=both (c == Value.type "enumerate")
  rw [← eb]
  cases b with
  | true=>
   wp_walk using AutoSeq1.wpAny_loadPart' hl,wpAny_pyIter_list hL
   exact ⟨_,rfl,h⟩
  | false=>
   wp_walk using AutoSeq1.wpAny_loadPart' hl,wpAny_pyIter_list hL
   exact ⟨_,rfl,h⟩
 ·wp_walk using AutoSeq1.wpAny_loadPart' hl,wpAny_pyIter_list hL
  exact ⟨_,rfl,h⟩
theorem oo{o x y:Value}:Meets (Builtin.«object.__init__» ⟨[o,x],[("start",y)]⟩) (fun _ R s=>s.TypeIs o "enumerate" ∧ R (.ok (.ret .none)) s):=by
 refine Meets.of_wp fun prog w A R s hs=> ?_
 have hl:=F.called_enumerate.init.lookup
 have hm:=F.called_enumerate.made
 obtain ⟨hT,hq⟩:=hs
 repeat' first | assumption | wp_step
 exact ⟨_,rfl,hq⟩
section
variable{prog:Program}{w:World}{A:Around}{E:Value→Shared→Prop}{s:Shared}
theorem oO{l:Addr}{its:Array Value}{t:Tok}{Q:Value→Shared→Prop}(hL:s.heap.IsList l its)
  (h:∀ h',IsEnum h' (s.heap.objs.size + 1) s.heap.objs.size 1 .none→h'.IsListIter s.heap.objs.size l 0→(∀ b o,s.heap.get? b=some o→h'.get? b=some o)→Q (.ref (s.heap.objs.size + 1)) { s with heap:=h' }) :
  wpAny (model prog w) A (call (.type "enumerate") [.ref l] [("start",.int 1 t)]) Q E s:=by
 obtain ⟨⟨c,dct,dt,sl⟩,hl,hc,n,hd⟩:=hL
 obtain rfl:c = .type "list" := hc
 obtain rfl:dt = .seq its n:=hd
 have ft:=F.called_enumerate
 obtain ⟨c,tl,hmro⟩:=ft.mro
 have hmade:=ft.made
 have hsub:=ft.sub
 have hct:=tc_start (.ref l) (.int 1 t)
 refine wpAny_call (codeAny_of_tree ?_)
 show wpAny _ _ (callAny (.type "enumerate") _) _ _ _
 refine wpAny_pure ⟨Code.quiet_builtin _ (by decide +kernel),codeAny_builtin F.entry_type_call ?_⟩
 rw [Around.under_plain (weight_type_call_type "enumerate" [.ref l] [("start",.int 1 t)]) (units_type_call_type "enumerate" [.ref l] [("start",.int 1 t)])]
 have n1:=ft.notType
 have n2:=ft.canCreate
 repeat' first | assumption | wp_step
 have hz:(s.heap.push ⟨.type "list_iterator",none,.fields #[.ref l,.int 0 0],#[]⟩).objs.size=s.heap.objs.size + 1:=Heap.size_push ..
 have made:=Heap.get?_push_size (s.heap.push ⟨.type "list_iterator",none,.fields #[.ref l,.int 0 0],#[]⟩) (o:=⟨.type "enumerate",none,.fields #[.none,.bool false,.ref s.heap.objs.size,rawInt 1,.none,.none],#[]⟩) rfl
 rw [hz] at made
 have fin:=h _ made ⟨_,Heap.get?_push_of_some _ (Heap.get?_push_size _ rfl),rfl,rfl⟩ fun b o x=>Heap.get?_push_of_some _ (Heap.get?_push_of_some _ x)
 have g:=new_start l its n dct sl t prog w A.in1 (wants (fun v s1=>s1.TypeIs v "enumerate" ∧ Q v s1) E) s ⟨hl,by rw [hz];exact ⟨⟨_,made,rfl⟩,fin⟩⟩
 refine codeAny_mono (codeAny_call_builtin ft.plain F.entry_enumerate_new (wpAny_of_eq (nc_start _ _) g)) fun r s1 hr=> ?_
 match r,hr with
 | .error e,hr=>exact hr
 | .ok (.ret v),hr=>
  obtain ⟨hT,hq⟩:=hr
  have hli:=ft.init.lookup
  have hbi:=ft.init.bind v
  repeat' first | assumption | wp_step
  refine codeAny_mono (codeAny_call_builtin ft.init.plain F.entry_object_init (ft.init.check _ _ _ _ _ _ _ _ hT (oi_start _ _ _) (oo prog w A.in1 (wants (fun r s2=>r = .none∧Q v s2) E) s1 ⟨hT,rfl,hq⟩))) fun r2 s2 hr2=> ?_
  match r2,hr2 with
  | .error e,hr2=>exact hr2
  | .ok (.ret r),hr2=>
   obtain ⟨rfl,hq2⟩:=hr2
   repeat' first | assumption | wp_step
  | .ok .next,hr2=>exact hr2.elim
  | .ok .brk,hr2=>exact hr2.elim
  | .ok .cont,hr2=>exact hr2.elim
 | .ok .next,hr=>exact hr.elim
 | .ok .brk,hr=>exact hr.elim
 | .ok .cont,hr=>exact hr.elim
end
theorem draws1{prog:Program}{w:World}{A:Around}{it:Addr}{fp:List Addr}{n:Nat}{P:Nat→Value→Prop}{St:Nat→Heap→Prop}(D:Draws prog w A it fp n P St):Draws prog w A it fp (n + 1) (fun j v=>∃ i,j=i + 1∧P i v) (fun j h=>∃ i,j=i + 1∧St i h) where
 live:=fun _ h ⟨i,_,st⟩=>D.live i h st
 frame:=fun _ h h' ⟨i,e,st⟩ k=>⟨i,e,D.frame i h h' st k⟩
 item:=fun j s Q E hj ⟨i,e,st⟩ hQ=>D.item i s Q E (by omega) st fun x h' tk p st' sb=>hQ x h' tk ⟨i,e,p⟩ ⟨i + 1,by omega,st'⟩ sb
 done:=fun s Q E ⟨i,e,st⟩ hE=>by
  obtain rfl:i=n:=by omega
  exact D.done s Q E st hE
def Itf(K:PySem.W.Frag)(a:Addr):It where
 go:=(Ite K a).go
 yld:=fun i H v H'=>∃ T x,v = .ref T∧H T=none∧H'=upd H T (.tup [.int ((i + 1:Nat):Int),x])∧∀ xs,SqL K H a xs→xs[i]? = some x
 stop:=(Ite K a).stop
theorem oN{P:Program}{w:World}{K:PySem.W.Frag}{elts:List Expr}{kk:Nat}{tpos:Pos}(a e it:Addr) :
  nP P w K (.Tuple elts kk tpos) (Itf K a) [e,it] e (fun i h=>(∃ old,IsEnum h e it ((i + 1:Nat):Int) old)∧h.IsListIter it a i∧e≠it) where
 mem:=List.mem_cons_self
 obj:=fun i h st b hb=>by
  obtain ⟨⟨old,he⟩,⟨o,ho,hc,hd⟩,_⟩:=st
  rcases List.mem_cons.mp hb with rfl | hb
  ·exact ⟨_,he,fun v q=>nomatch q⟩
  ·rw [List.mem_singleton.mp hb]
   exact ⟨o,ho,fun v q=>by rw [hd] at q;cases q⟩
 keep:=fun i h h' ⟨⟨old,he⟩,hi,hne⟩ k=>⟨⟨old,k e List.mem_cons_self _ he⟩,hi.at fun o q=>k it (List.mem_cons_of_mem _ List.mem_cons_self) o q,hne⟩
 item:=by
  intro X hP hw hK hc i pins s σ H E I hf ⟨⟨old,he⟩,hit,hne⟩ ⟨xs,x,hq,hx⟩
  subst hP hw hK
  obtain ⟨its,rv,p,hz⟩:=I.list hq
  obtain ⟨u,hu,ru⟩:=rv.get hx
  have hel:e < s.heap.objs.size:=Heap.lt_size he
  have hil:it < s.heap.objs.size:=by
   obtain ⟨_,q,_⟩:=hit
   exact Heap.lt_size q
  have nai:a≠it:=fun z=>by
   subst z
   obtain ⟨o1,g1,c1,_⟩:=hit
   obtain ⟨o2,g2,c2,_⟩:=p.isList
   rw [g1] at g2
   cases g2
   rw [c1] at c2
   exact absurd (Value.type.inj c2) (by decide)
  have hiN:i < its.toArray.size:=by
   rw [List.getElem?_eq_some_iff] at hu
   simpa using hu.1
  have D:=draws1 (Draws.list (prog:=X.prog) (w:=X.w) (A:=X.A.in1) (I.ok.hd hc) it a nai its.toArray)
  refine wpAny_pyNext_enum_itemD D he ⟨i,rfl,hit,p.isList⟩ (Nat.succ_lt_succ hiN) hne ?_ fun v h' tk hv ho hst hT hsz hk=> ?_
  ·intro z
   rcases List.mem_cons.mp z with z | z
   ·exact hne z
   ·rw [List.mem_singleton.mp z] at he
    obtain ⟨o2,g2,c2,_⟩:=p.isList
    rw [he] at g2
    cases g2
    exact absurd (Value.type.inj c2) (by decide)
  obtain ⟨i',ei,hv⟩:=hv
  obtain rfl:i=i':=by omega
  obtain rfl:v=u:=by
   have:its.toArray[i]? = some u:=by simpa using hu
   rw [this] at hv
   exact (Option.some.inj hv).symm
  obtain ⟨i2,e2,hit',_⟩:=hst
  obtain rfl:i + 1=i2:=by omega
  refine ⟨_,rfl,wpAny_letOwnedTupleGo_enum (s:={ s with heap:=h',toks:=tk + 1 }) ho fun h2 he2 sb=> ?_⟩
  have nT:s.heap.objs.size≠e:=Nat.ne_of_gt hel
  have hT2:=(sb.2 _ nT).trans hT
  have new:be X.prog X.w (upd H s.heap.objs.size (.tup [.int ((i + 1:Nat):Int),x])) h2 s.heap.objs.size (.tup [.int ((i + 1:Nat):Int),x]):=⟨jh (Nat.lt_of_lt_of_le (Nat.lt_succ_self 2) (by decide)),[_,v],.cons ⟨_,rfl⟩ (.cons ru .nil),⟨_,hT2,rfl,_,rfl⟩⟩
  have I1:=I.turnedNew (t':=tk + 1) (ch:=[e,it]) (h':=h2) (fun b ob hb q=>by
   have n1:b≠e:=fun z=>hb (by rw [z];exact List.mem_cons_self)
   have n2:b≠it:=fun z=>hb (by rw [z];exact List.mem_cons_of_mem _ List.mem_cons_self)
   exact (sb.2 b n1).trans (hk b ob n1 n2 q)) hf (Nat.le_refl _) new
  refine ⟨.ref s.heap.objs.size,_,I1,rfl,⟨_,x,rfl,I.hok.fresh (Nat.le_refl _),rfl,fun ys hy=>by rw [I.list_inj hy hq];exact hx⟩,⟨⟨v,?_⟩,hit'.at fun o q=>(sb.2 it (Ne.symm hne)).trans q,hne⟩,fun b hb=> ?_⟩
  ·rw [show ((i + 1 + 1:Nat):Int)=((i + 1:Nat):Int) + 1 by omega]
   exact he2
  ·have lt:b < s.heap.objs.size:=by
    rcases List.mem_cons.mp hb with z | z
    ·rw [z];exact hel
    ·rw [List.mem_singleton.mp z];exact hil
   rw [af (Nat.ne_of_lt lt)]
   exact (hf b hb).1
 done:=by
  intro X hP hw hK hc i pins s σ H E I hf ⟨⟨old,he⟩,hit,hne⟩ ⟨xs,hq,hx⟩
  subst hP hw hK
  obtain ⟨its,rv,p,hz⟩:=I.list hq
  have hl:=rv.length
  obtain ⟨f0,f1,f2,f3,f4,f5⟩:=hf it (List.mem_cons_of_mem _ List.mem_cons_self)
  have none:its.toArray[i]? = none:=by simp;omega
  have D:Draws X.prog X.w X.A.in1 it [it,a] i (fun _ _=>True) (fun j h=>j=i∧h.IsListIter it a i∧h.IsList a its.toArray):={
   live:=fun _ _ st=>by
    obtain ⟨_,⟨o,ho,_⟩,_⟩:=st
    exact ⟨o,ho⟩
   frame:=fun _ _ _ st k=>⟨st.1,st.2.1.at fun o q=>k it List.mem_cons_self o q,st.2.2.at fun o q=>k a (List.mem_cons_of_mem _ List.mem_cons_self) o q⟩
   item:=fun j s Q E hj st=>absurd st.1 (Nat.ne_of_lt hj)
   done:=fun s Q E st hE=>wpAny_nextOf_list_end (I.ok.hd hc) st.2.1 st.2.2 none hE }
  exact wpAny_pyNext_enum_endD D he ⟨rfl,hit,p.isList⟩ fun h' eb=>⟨rfl,I.turned (t':=s.toks) (fun b o hb q=>eb b o hb q) f0 f1 f3 f4 f5⟩
 self:=fun A i s Q E ⟨⟨_,he⟩,_⟩ h=>wpAny_pyIter_enum he h
theorem nh{M:Model}{A:Around}{E:Value→Shared→Prop}{s:Shared}{pos:Pos}{T:String}{args:List (Bool×Sem Value)}{kws:List (Option Str×Sem Value)}{Q:Value→Shared→Prop}(hp:(args.any (·.1) || kws.any (·.1.isNone))=false)
  (h:wpAny M A (evalArgs (.type T) true args kws) (fun a s1=>wpAny M A (call (.type T) a.pos a.kw) Q E s1) E s):wpAny M A (callWith pos (.type T) [] args kws) Q E s:=by
 unfold callWith
 refine wpAny_bind (wpAny_holding (wpAny_mono h (fun a s1 h1=>wpAny_bind (wpAny_standAt ?_)) fun _ _ x=>x))
 rw [hp]
 exact wpAny_bind (wpAny_pure (wpAny_bind (wpAny_mono h1 (fun r s2 h2=>wpAny_bind (wpAny_holding (wpAny_point (wpAny_pure h2)))) fun _ _ x=>x)))
def iEnum1(K:PySem.W.Frag)(ta:TA):TI:=fun σ H R=>ta σ H fun vs H1=>∃ a xs,vs=[.ref a]∧SqL K H1 a xs∧R (Itf K a) H1
theorem pk_start{X:Cx}{k:Nat}{cp kp:Pos}:PK X [⟨some "start",.Constant (.int 1) k cp,kp⟩] (bI (tC (.int 1)) ip):=pk_cons ag pk_nil
theorem pi_enum1{X:Cx}{K:PySem.W.Frag}{e:Expr}{ta:TA}{p pos tpos cp kp:Pos}{elts:List Expr}{kk k:Nat}(hK:X.K=K)(hg:Gl X "enumerate")(hm:X.mg "enumerate" = none)(ha:PA X [e] ta)(hkw:PK X [⟨some "start",.Constant (.int 1) k cp,kp⟩] (bI (tC (.int 1)) ip))
  (hs:starEach [e] X.env=[(false,eval e X.env)]:=by rfl) (hall:(backToKw pos (keywordEach [⟨some "start",.Constant (.int 1) k cp,kp⟩] X.env)).all (·.1.isSome)=true:=by rfl) (hks:(backToKw pos (keywordEach [⟨some "start",.Constant (.int 1) k cp,kp⟩] X.env)).filterMap (·.1)=[("start" : Str)]:=by rfl)
  (hpl:((backTo pos (starEach [e] X.env)).any (·.1) || (backToKw pos (keywordEach [⟨some "start",.Constant (.int 1) k cp,kp⟩] X.env)).any (·.1.isNone))=false:=by rfl) :
  PI X (.Tuple elts kk tpos) (.Call (.Name "enumerate" p) [e] [⟨some "start",.Constant (.int 1) k cp,kp⟩] pos) (iEnum1 K ta):=by
 subst hK
 intro pins s σ H R I h
 refine wpAny_Call_Name_kw (kh I hg hm boot_enumerate (nh hpl (evalArgs_kw2 hall (thn (ha pos pins s σ H _ I h) fun us s1 ⟨vs,H1,I1,r1,q1⟩=> ?_) hs)))
 obtain ⟨a,xs,rfl,hq,q⟩:=q1
 obtain ⟨u,rfl,r⟩:=r1.one
 cases r
 refine thn (hkw pos pins s1 σ H1 (fun zs H2=>zs=[.int 1]∧H2=H1) I1 ⟨rfl,rfl⟩) fun ws s2 ⟨zs,H2,I2,rz,e1,e2⟩=> ?_
 subst e1 e2
 obtain ⟨v,rfl,r⟩:=rz.one
 obtain ⟨t,rfl⟩:=r
 rw [hks]
 obtain ⟨its,rv,p',hz⟩:=I2.list hq
 refine oO p'.isList fun h' he hit hk=>wpAny_pyIter_enum he ?_
 have I3:Inv X pins σ H2 { s2 with heap:=h' }:=I2.kept (t':=s2.toks) hk
 refine ⟨s2.heap.objs.size + 1,[s2.heap.objs.size + 1,s2.heap.objs.size],_,_,H2,rfl,I3,oN a _ _,⟨⟨.none,he⟩,hit,Nat.succ_ne_self _⟩,fun b hb=> ?_,q⟩
 have le:s2.heap.objs.size≤b:=by
  rcases List.mem_cons.mp hb with z | z
  ·rw [z];exact Nat.le_succ _
  ·rw [List.mem_singleton.mp z];exact Nat.le_refl _
 exact I2.fpOk le (I2.hok.fresh le)
theorem oH{K:PySem.W.Frag}{a:Addr}{xs:List V}{H1:Hp}(ha:H1 a=some (.lst xs)) :
  ij (Itf K a) H1 xs.length (fun i x H'=>∃ T u,xs[i]? = some u∧x = .ref T∧H' T=some (.tup [.int ((i + 1:Nat):Int),u])):=fun H sm=>by
 have ha':SqL K H a xs:=SqL.of (sm.1 _ _ ha)
 refine ⟨fun i hi=>⟨⟨xs,xs[i],ha',List.getElem?_eq_getElem hi⟩,fun x H' hy=> ?_⟩,fun i hi=>⟨xs,ha',hi⟩⟩
 obtain ⟨T,u,rfl,hT,rfl,hu⟩:=hy
 exact ⟨Ext.upd hT rfl,T,u,hu xs ha',rfl,a9⟩
end L2
namespace Sl
open PySem PySem.Spec PyProof.Rows L2
section
variable(C:Cs)
def p6:Sp:=fun vs H Q _=>∃ L s k,vs=[.ref L.self,.int k]∧cY C H L s∧dj H Q (VbnlaiNeutral.shown (Vbnlai.step s (.history k)).2)
def iU:Sp:=fun vs H Q _=>∃ L hs P0 w k,∃ q:Int→Int→Vbnlai.Call,∃ s d,vs=[.ref L.self,.int (SV.qp (q k d)),.int k]∧bM C H L hs P0 w∧(q = .whereIs∨q = .custody∨q = .name∨q = .dets)∧Vbnlai.dayOk d=true∧Vbnlai.view s d.toNat=w∧dj H Q (VbnlaiNeutral.shown (Vbnlai.step s (q k d)).2)
def j3:Sp:=fun vs H Q _=>∃ L P0 w k,∃ q:Int→Int→Vbnlai.Call,∃ s d,vs=[.ref L.self,.int (SV.qp (q k d)),.int k]∧bM C H L s.houses P0 w∧(q = .inHouse∨q = .books)∧Vbnlai.dayOk d=true∧Vbnlai.view s d.toNat=w∧dj H Q (VbnlaiNeutral.shown (Vbnlai.step s (q k d)).2)
def sp_ask:Sp:=fun vs H Q _=>∃ L s q na,vs=[.ref L.self,.int (SV.qp q),.ref na]∧cY C H L s∧H na=some (.lst ((SV.qn q).map V.int))∧SV.isQ q=true∧dj H Q (VbnlaiNeutral.shown (Vbnlai.step s q).2)
end
section
variable{P:Program}{w0:World}{K:PySem.W.Frag}{mg:Str→Option Value}{base:Heap}{C:Cs}
theorem oK(T:Txt K mg C):Can P w0 K mg base 3 "history" ["ledger", "key"] (p6 C):=by
 refine ay T.f_history sc_history (fun vs H Q E h=>by obtain ⟨_,_,_,rfl,_⟩:=h;rfl) fun f cdv A outer s0 H vs Q E hr h=> ?_
 refine ⟨_,(a7 (aw (br (aW (aM hr) (pv 1) (ae (K:=K) rfl (pv 0) rfl))) (a8 (ai (bf (a6 (aJ az ag) ab)))) aj)
   (a8 (ai (am (cW T) (hr.mono (by decide)) rfl (a6 (cT rfl (sc_history).nd (pi_enum1 (K:=K) rfl rfl T.b_enumerate (a6 (ae (K:=K) rfl (pv 0) rfl) ab) pk_start) (aX (N:=["ledger", "key", "number", "entry"]) (sc:=ah s_history) (own:=[("number",2),("entry",3)]) (by decide +kernel)) (fun _ _ _ _ _=>(eE (n:=2) rfl (bw (aC (i:=2) (sc_history).nd rfl (by trivial)) (bw (aC (i:=3) (sc_history).nd rfl (by trivial)) eF)))) (fun _ _ _ _ _=>(c7 (b9 (am (jJ T) (hr.mono (by decide)) rfl (a6 (pv 3) (a6 (pv 1) ab)))))) (fun _ _ _ _ _=>(pv 2))) ab))))),?_⟩
 obtain ⟨L,s,k,rfl,M,q⟩:=h
 have R:=M.rep
 dsimp! only [R.self,R.sD,bL,Option.isSome_map]
 simp only [Vbnlai.step,R.sheetOf] at q
 cases e:L.sh k with
 | none=>
  rw [e] at q
  exact ⟨by rw [sizeLine_eq];decide,fun p hp=>dj.new q hp⟩
 | some p=>
  rw [e] at q
  simp only [Option.map_some,Option.isNone_some,Bool.false_eq_true,if_false] at q
  simp only [Option.isSome_some,Bool.true_eq_false,if_false]
  have h300:=M.fine.logN
  unfold Vbnlai.LOG at h300
  have hlen:s.log.length=L.log.length:=Paired.length M.log
  refine eJ (L.log.map V.ref).length (fun i x G=>∃ T' u,(L.log.map V.ref)[i]? = some u∧x = .ref T'∧G T'=some (.tup [.int ((i + 1:Nat):Int),u])) (fun i=>if ((s.log[i]?).any fun e=>(Vbnlai.speaks e.2).contains k)=true then some (V.int ((i + 1:Nat):Int)) else none) (by rw [List.length_map,sizeLine_eq];omega) (fun R0 h=> ?_) (fun i x G N hi x1 hx hN=> ?_) fun D G hD x1=> ?_
  ·dsimp! only [iEnum1,R.self]
   exact ⟨_,SqL.of R.lg,h _ _ (Ext.refl _) (oH R.lg)⟩
  ·obtain ⟨T',u,hu,rfl,hT⟩:=hx
   rw [List.getElem?_map] at hu
   cases ei:L.log[i]? with
   | none=>rw [ei] at hu;cases hu
   | some b=>
    rw [ei] at hu
    cases hu
    obtain ⟨en,hen,EA⟩:=bN M.log ei
    obtain ⟨dx,na,sa,g1,g2,g3,_⟩:=EA.ex
    have hN':=hN G (Ext.refl _)
    rw [hen] at hN'
    have pl:=x1.plain R.pl
    dsimp! only [b7,hT]
    refine ⟨_,⟨_,dx,na,sa,en.1,en.2,k,rfl,x1.1 _ _ g1,x1.1 _ _ g2,x1.1 _ _ g3,M.fine.toGood.spok (List.mem_of_getElem? hen),pl,rfl⟩,_,rfl,?_⟩
    have eo:Option.any (fun e:Nat×Vbnlai.Entry=>(Vbnlai.speaks e.2).contains k) (some en)=(Vbnlai.speaks en.2).contains k:=rfl
    rw [eo] at hN'
    by_cases c:(Vbnlai.speaks en.2).contains k=true
    ·rw [if_pos c] at hN' ⊢
     exact hN'
    ·rw [if_neg c] at hN' ⊢
     exact hN'
  ·rw [List.length_map,← hlen,f9] at x1
   have hl:=x1.at_
   have x2:=Ext.off hD rfl x1
   have hl2:(((List.range s.log.length).filter fun i=>(s.log[i]?).any fun e=>(Vbnlai.speaks e.2).contains k).map fun i=>i + 1).length≤300:=by
    rw [List.length_map]
    refine Nat.le_trans (List.length_filter_le _ _) ?_
    rw [List.length_range];exact h300
   generalize er:((List.range s.log.length).filter fun i=>(s.log[i]?).any fun e=>(Vbnlai.speaks e.2).contains k)=r at *
   refine ⟨D,VbnlaiNeutral.ints (r.map fun i=>i + 1),rfl,?_,?_,?_⟩
   ·rw [hl]
    unfold VbnlaiNeutral.ints
    rw [List.map_map,List.map_map];rfl
   ·unfold VbnlaiNeutral.ints
    rw [List.length_map];omega
   ·have q2:=q.to x2
    unfold VbnlaiNeutral.shown at q2
    rw [show (VbnlaiNeutral.ints (r.map fun i=>i + 1)).length=(r.map fun i=>i + 1).length by unfold VbnlaiNeutral.ints;rw [List.length_map]]
    exact q2
theorem iZ(T:Txt K mg C):Can P w0 K mg base 4 "ask_of_sheet" ["past", "place", "key"] (iU C):=by
 refine ay T.f_ask_of_sheet sc_ask_of_sheet (fun vs H Q E h=>by obtain ⟨_,_,_,_,_,_,_,_,rfl,_⟩:=h;rfl) fun f cdv A outer s0 H vs Q E hr h=> ?_
 refine ⟨_,(a7 (aw (br (aW (aM hr) (pv 2) (ae (K:=K) rfl (pv 0) rfl))) (a8 (ai (bf (a6 (aJ az ag) ab)))) aj)
   (a7 (aI (i:=3) (sc_ask_of_sheet).nd rfl (by trivial) (aP (aM hr) (ae (K:=K) rfl (pv 0) rfl) (pv 2) (fun _ _=>rfl)))
   (a7 (aw (ak aL (pv 1) (aB T.g_WHERE rfl) (ap _)) (a8 (ai (am (ok_where T) (hr.mono (by decide)) rfl (a6 (pv 0) (a6 (pv 3) ab))))) aj)
   (a7 (aw (ak aL (pv 1) (aB T.g_CUSTODY rfl) (ap _)) (a8 (ai (am (oU T) (hr.mono (by decide)) rfl (a6 (pv 0) (a6 (pv 3) ab))))) aj)
   (a7 (aw (ak aL (pv 1) (aB T.g_NAME rfl) (ap _)) (a8 (ai (am (dh T) (hr.mono (by decide)) rfl (a6 (ae (K:=K) rfl (pv 3) rfl) ab)))) aj)
   (a8 (ai (am (ok_dets T) (hr.mono (by decide)) rfl (a6 (pv 3) ab))))))))),?_⟩
 obtain ⟨L,hs,P0,w,k,qq,s,d,rfl,R,hq,hd,hw,q⟩:=h
 dsimp! only [R.r.self,R.r.sD,bL,Option.isSome_map]
 have hso:=R.r.sheetOf k
 cases e:L.sh k with
 | none=>
  rw [e] at hso
  refine ⟨by rw [sizeLine_eq];decide,fun p hp=>dj.new (ns:=[-2]) ?_ hp⟩
  rcases hq with rfl | rfl | rfl | rfl <;> (simp only [Vbnlai.step,Vbnlai.ofSheet,hd,hw,hso,Option.map_none,Bool.true_eq_false,if_false] at q;exact q)
 | some p=>
  rw [e] at hso
  obtain ⟨hm,hk⟩:=b5 e
  simp! only [Option.isSome_some,Option.map_some,Bool.true_eq_false,if_false]
  rcases hq with rfl | rfl | rfl | rfl <;> simp only [Vbnlai.step,Vbnlai.ofSheet,hd,hw,hso,Option.map_some,Bool.true_eq_false,if_false] at q
  ·simp only [SV.qp,Int.reduceEq,if_true,if_false]
   exact ⟨L,hs,P0,w,p.1,p.2,rfl,R,hm,q⟩
  ·simp only [SV.qp,Int.reduceEq,if_true,if_false]
   exact ⟨L,hs,P0,w,p.1,p.2,rfl,R,hm,q⟩
  ·simp only [SV.qp,Int.reduceEq,if_true,if_false,T.cl_Person,T.cl_Loan,T.cl_Determination,T.cl_Sheet,T.cl_Entry,T.cl_Ledger,T.na_Person_house,T.na_Person_rank,T.na_Person_first_house,T.na_Person_first_rank,T.na_Loan_lender,T.na_Loan_borrower,T.na_Loan_due,T.na_Loan_onward,T.na_Determination_day,T.na_Determination_person,T.na_Determination_rank,T.na_Determination_name,T.na_Determination_conf,T.na_Sheet_gathering,T.na_Sheet_owner,T.na_Sheet_loans,T.na_Sheet_status,T.na_Sheet_determinations,T.na_Sheet_typified,T.na_Entry_day,T.na_Entry_place,T.na_Entry_numbers,T.na_Entry_sheets,T.na_Ledger_houses,T.na_Ledger_persons,T.na_Ledger_gatherings,T.na_Ledger_sheets,T.na_Ledger_loans,T.na_Ledger_log,lk_houses,kn,kr,lk_sheets,lk_loans,lk_log,lk_house,lk_rank,lk_fhouse,lk_frank,lk_lender,mW,lk_due,lk_onward,mz,lk_owner,lk_row,qv,lk_det,lk_type,lk_dday,oQ,lk_drank,lk_dname,lk_dconf,R.r.sheet hm]
   have en:=pK (ji R hm)
   rw [en] at q
   exact ⟨_,_,_,rfl,T.cl_Sheet,T.na_Sheet_determinations,_,rfl,p.2.da,p.1.dets,rfl,ji R hm,fun l H' hl s2=>q l H' hl s2⟩
  ·simp only [SV.qp,Int.reduceEq,if_true,if_false]
   exact ⟨_,_,p.1,p.2,rfl,R.r.sheet hm,ji R hm,q⟩
theorem ja(T:Txt K mg C):Can P w0 K mg base 5 "ask_of_house" ["past", "place", "house"] (j3 C):=by
 refine ay T.f_ask_of_house sc_ask_of_house (fun vs H Q E h=>by obtain ⟨_,_,_,_,_,_,_,rfl,_⟩:=h;rfl) fun f cdv A outer s0 H vs Q E hr h=> ?_
 refine ⟨_,(a7 (aw (br (aW (aM hr) (pv 2) (ae (K:=K) rfl (pv 0) rfl))) (a8 (ai (bf (a6 (aJ az ag) ab)))) aj)
   (a7 (aw (ak aL (pv 1) (aB T.g_INSIDE rfl) (ap _)) (a8 (ai (am (cW T) (hr.mono (by decide)) rfl (a6 (am (js T) (hr.mono (by decide)) rfl (a6 (pv 0) (a6 (pv 2) ab))) ab)))) aj)
   (a8 (ai (am (cW T) (hr.mono (by decide)) rfl (a6 (am (ok_books T) (hr.mono (by decide)) rfl (a6 (pv 0) (a6 (pv 2) ab))) ab)))))),?_⟩
 obtain ⟨L,P0,w,k,qq,s,d,rfl,R,hq,hd,hw,q⟩:=h
 dsimp! only [R.r.self,R.r.hD,nQ,R.r.house]
 by_cases c:(s.houses.any fun h=>(h:Int) == k)=false
 ·rw [if_pos c]
  refine ⟨by rw [sizeLine_eq];decide,fun p hp=>dj.new (ns:=[-2]) ?_ hp⟩
  rcases hq with rfl | rfl <;> (simp only [Vbnlai.step,Vbnlai.ofHouse,hd,c,Bool.true_eq_false,if_false,if_true] at q;exact q)
 ·rw [if_neg c]
  have hk:=dG c
  rcases hq with rfl | rfl <;> (simp only [Vbnlai.step,Vbnlai.ofHouse,hd,Bool.true_eq_false,if_false] at q;rw [if_neg c,hw] at q;simp only [SV.qp,Int.reduceEq,if_true,if_false])
  ·obtain ⟨n,hn,inv⟩:=R.inv
   have h60:=inv.sN
   unfold Vbnlai.SHEETS at h60
   have ef:(w.sheets.filter fun x=>Vbnlai.here x && ((Vbnlai.holder w x:Nat):Int) == k)=w.sheets.filter fun x=>Vbnlai.here x && Vbnlai.holder w x == k.toNat:=by
    congr 1
    funext x
    congr 1
    rw [Bool.eq_iff_iff,beq_iff_eq,beq_iff_eq]
    omega
   refine ⟨L,_,P0,w,k,rfl,R,fun l H' hl s2=> ?_⟩
   rw [ef] at s2
   have hlen:=List.length_filter_le (fun x=>Vbnlai.here x && Vbnlai.holder w x == k.toNat) w.sheets
   generalize (w.sheets.filter fun x=>Vbnlai.here x && Vbnlai.holder w x == k.toNat)=xs at *
   refine ⟨l,_,rfl,s2.at_,?_,?_⟩
   ·unfold VbnlaiNeutral.ints
    rw [List.length_map,List.length_map];omega
   ·have q2:=q.to (Ext.off hl rfl s2)
    simp only [VbnlaiNeutral.shown] at q2
    rw [show (VbnlaiNeutral.ints (xs.map fun x=>x.key)).length=(xs.map fun x=>x.key).length by unfold VbnlaiNeutral.ints;rw [List.length_map]]
    exact q2
  ·refine ⟨L,_,P0,w,k.toNat,by rw [hk],R,fun l H' hl s2=>⟨l,_,rfl,s2.at_,?_,?_⟩⟩
   ·exact (by decide:5≤2000)
   ·have q2:=q.to (Ext.off hl rfl s2)
    simp only [VbnlaiNeutral.shown] at q2
    exact q2
theorem dz{a b:V}:atI [a,b] (-1)=some b:=gr (l:=[a,b]) rfl
theorem last_ix1{a:V}:atI [a] (-1)=some a:=gr (l:=[a]) rfl
theorem ok_ask(T:Txt K mg C):Can P w0 K mg base 7 "ask" ["ledger", "place", "numbers"] (sp_ask C):=by
 refine ay T.f_ask sc_ask (fun vs H Q E h=>by obtain ⟨_,_,_,_,rfl,_⟩:=h;rfl) fun f cdv A outer s0 H vs Q E hr h=> ?_
 refine ⟨_,(a7 (aw (ak aL (pv 1) (aB T.g_LOG rfl) (ap _)) (a8 (ai (bf (a6 (aA aV rfl T.b_len PySem.boot_len (a6 (ae (K:=K) rfl (pv 0) rfl) ab)) (a6 (pe_me0 (pv 0) T.cl_Ledger (dg T) (hr.mono (by decide))) ab))))) aj)
   (a7 (aw (ak aL (pv 1) (aB T.g_HISTORY rfl) (ap _)) (a8 (ai (am (oK T) (hr.mono (by decide)) rfl (a6 (pv 0) (a6 (aD aq (pv 2) ag (fun _ _=>rfl)) ab))))) aj)
   (a7 (aI (i:=3) (sc_ask).nd rfl (by trivial) (aD aq (pv 2) (aJ az ag) (fun _ _=>rfl)))
   (a7 (aw (bG (b9 (am (fT T) (hr.mono (by decide)) rfl (a6 (pv 3) ab)))) (a8 (ai (bf (a6 (aJ az ag) ab)))) aj)
   (a7 (aI (i:=4) (sc_ask).nd rfl (by trivial) (am (mn T) (hr.mono (by decide)) rfl (a6 (pv 0) (a6 (pv 3) ab))))
   (a7 (aw (ak aL (pv 1) (aB T.g_OVERDUE rfl) (ap _)) (a8 (ai (am (o5 T) (hr.mono (by decide)) rfl (a6 (pv 4) (a6 (pv 3) ab))))) aj)
   (a7 (aw (ak aL (pv 1) (aB T.g_GATHERING rfl) (ap _)) (a8 (ai (am (lK T) (hr.mono (by decide)) rfl (a6 (pv 4) (a6 (aD aq (pv 2) ag (fun _ _=>rfl)) ab))))) aj)
   (a7 (aw (ak aL (pv 1) (aB T.g_TYPIFIED rfl) (ap _)) (a8 (ai (am (cW T) (hr.mono (by decide)) rfl (a6 (am (io T) (hr.mono (by decide)) rfl (a6 (pv 4) (a6 (aD aq (pv 2) ag (fun _ _=>rfl)) ab))) ab)))) aj)
   (a7 (aw (ak jg (pv 1) (i0 (a6 (aB T.g_INSIDE rfl) (a6 (aB T.g_BOOKS rfl) ab))) (by with_unfolding_all rfl)) (a8 (ai (am (ja T) (hr.mono (by decide)) rfl (a6 (pv 4) (a6 (pv 1) (a6 (aD aq (pv 2) ag (fun _ _=>rfl)) ab)))))) aj)
   (a8 (ai (am (iZ T) (hr.mono (by decide)) rfl (a6 (pv 4) (a6 (pv 1) (a6 (aD aq (pv 2) ag (fun _ _=>rfl)) ab))))))))))))))),?_⟩
 obtain ⟨L,s,qq,na,rfl,M,hna,hq,q⟩:=h
 have R:=M.rep
 cases qq with
 | house _=>cases hq
 | person _ _ _=>cases hq
 | enter _ _=>cases hq
 | log=>
  simp only [SV.qp]
  dsimp! only [R.self,R.lg,Int.reduceEq]
  refine ⟨_,rfl,L.self,_,_,rfl,R.self,rfl,L,s.houses,s.persons,s.now,s.log,rfl,R,M.log,by rw [sizeLine_eq];decide,fun p hp=> ?_⟩
  have q2:=q.new hp
  simp only [Vbnlai.step,VbnlaiNeutral.shown,List.map_cons,List.map_nil,M.day] at q2
  rw [List.length_map,← show s.log.length=L.log.length from Paired.length M.log]
  exact q2
 | history k=>
  simp only [SV.qn] at hna
  simp only [SV.qp]
  dsimp! only [R.self,R.lg,hna,Int.reduceEq]
  exact ⟨L,s,k,rfl,M,q⟩
 | overdue d=>
  simp only [SV.qn] at hna
  simp only [SV.qp]
  dsimp! only [R.self,R.lg,hna,Int.reduceEq,last_ix1]
  simp only [Vbnlai.step] at q
  by_cases c:Vbnlai.dayOk d=false
  ·rw [if_pos c] at q ⊢
   exact ⟨by rw [sizeLine_eq];decide,fun p hp=>q.new hp⟩
  ·rw [if_neg c] at q ⊢
   have hd:=SV.bu c
   have hdc:=SV.qu.mp hd
   refine ⟨L,s,d,rfl,M,hd,fun H1 L1 x1 R1=> ?_⟩
   exact ⟨L1,_,_,_,d.toNat,by rw [show ((d.toNat:Nat):Int)=d by omega],R1,q.to x1⟩
 | gathering k d=>
  simp only [SV.qn] at hna
  simp only [SV.qp]
  dsimp! only [R.self,R.lg,hna,Int.reduceEq,dz]
  simp only [Vbnlai.step] at q
  by_cases c:Vbnlai.dayOk d=false
  ·rw [if_pos c] at q ⊢
   exact ⟨by rw [sizeLine_eq];decide,fun p hp=>q.new hp⟩
  ·rw [if_neg c] at q ⊢
   refine ⟨L,s,d,rfl,M,SV.bu c,fun H1 L1 x1 R1=>⟨_,x1.1 _ _ hna,_,at0,L1,_,_,_,k,rfl,R1,?_⟩⟩
   have q2:=q.to x1
   split at q2
   ·rename_i h;rw [if_pos h];exact q2
   ·rename_i h;rw [if_neg h];exact q2
 | types k d=>
  simp only [SV.qn] at hna
  simp only [SV.qp]
  dsimp! only [R.self,R.lg,hna,Int.reduceEq,dz]
  simp only [Vbnlai.step] at q
  by_cases c:Vbnlai.dayOk d=false
  ·rw [if_pos c] at q ⊢
   exact ⟨by rw [sizeLine_eq];decide,fun p hp=>q.new hp⟩
  ·rw [if_neg c] at q ⊢
   refine ⟨L,s,d,rfl,M,SV.bu c,fun H1 L1 x1 R1=>⟨_,x1.1 _ _ hna,_,at0,L1,_,_,_,k,rfl,R1,fun l H' hl s2=>⟨l,_,rfl,s2.at_,?_,?_⟩⟩⟩
   ·obtain ⟨n,hn,inv⟩:=R1.inv
    have h60:=inv.sN
    unfold Vbnlai.SHEETS at h60
    unfold VbnlaiNeutral.ints
    rw [List.length_map,List.length_map]
    exact Nat.le_trans (List.length_filter_le _ _) (by omega)
   ·have q2:=q.to (x1.trans (Ext.off hl rfl s2))
    simp only [VbnlaiNeutral.shown] at q2
    generalize (((Vbnlai.view s d.toNat).sheets.filter fun x=>x.type != 0 && (x.type:Int) == k).map fun x=>x.key)=ks at q2 ⊢
    rw [show (VbnlaiNeutral.ints ks).length=ks.length by unfold VbnlaiNeutral.ints;rw [List.length_map]]
    exact q2
 | whereIs k d=>
  simp only [SV.qn] at hna
  simp only [SV.qp]
  dsimp! only [R.self,R.lg,hna,Int.reduceEq,dz]
  by_cases c:Vbnlai.dayOk d=false
  ·simp only [Vbnlai.step,Vbnlai.ofSheet,c,if_true] at q
   rw [if_pos c]
   exact ⟨by rw [sizeLine_eq];decide,fun p hp=>q.new hp⟩
  ·rw [if_neg c]
   refine ⟨L,s,d,rfl,M,SV.bu c,fun H1 L1 x1 R1=>⟨by rw [sizeLine_eq];decide,fun p hp=>⟨_,a9,rfl,?_⟩⟩⟩
   have x2:Ext H1 (upd H1 p (.tup [.int 21,.int 22])):=Ext.upd hp rfl
   have hna2:=x2.1 _ _ (x1.1 _ _ hna)
   generalize upd H1 p (.tup [.int 21,.int 22])=H2 at x2 hna2 ⊢
   rw [if_neg (by intro z;cases z)]
   exact ⟨_,hna2,_,at0,L1,_,_,_,k,.whereIs,s,d,rfl,R1.mono x2,.inl rfl,SV.bu c,rfl,q.to (x1.trans x2)⟩
 | custody k d=>
  simp only [SV.qn] at hna
  simp only [SV.qp]
  dsimp! only [R.self,R.lg,hna,Int.reduceEq,dz]
  by_cases c:Vbnlai.dayOk d=false
  ·simp only [Vbnlai.step,Vbnlai.ofSheet,c,if_true] at q
   rw [if_pos c]
   exact ⟨by rw [sizeLine_eq];decide,fun p hp=>q.new hp⟩
  ·rw [if_neg c]
   refine ⟨L,s,d,rfl,M,SV.bu c,fun H1 L1 x1 R1=>⟨by rw [sizeLine_eq];decide,fun p hp=>⟨_,a9,rfl,?_⟩⟩⟩
   have x2:Ext H1 (upd H1 p (.tup [.int 21,.int 22])):=Ext.upd hp rfl
   have hna2:=x2.1 _ _ (x1.1 _ _ hna)
   generalize upd H1 p (.tup [.int 21,.int 22])=H2 at x2 hna2 ⊢
   rw [if_neg (by intro z;cases z)]
   exact ⟨_,hna2,_,at0,L1,_,_,_,k,.custody,s,d,rfl,R1.mono x2,.inr (.inl rfl),SV.bu c,rfl,q.to (x1.trans x2)⟩
 | name k d=>
  simp only [SV.qn] at hna
  simp only [SV.qp]
  dsimp! only [R.self,R.lg,hna,Int.reduceEq,dz]
  by_cases c:Vbnlai.dayOk d=false
  ·simp only [Vbnlai.step,Vbnlai.ofSheet,c,if_true] at q
   rw [if_pos c]
   exact ⟨by rw [sizeLine_eq];decide,fun p hp=>q.new hp⟩
  ·rw [if_neg c]
   refine ⟨L,s,d,rfl,M,SV.bu c,fun H1 L1 x1 R1=>⟨by rw [sizeLine_eq];decide,fun p hp=>⟨_,a9,rfl,?_⟩⟩⟩
   have x2:Ext H1 (upd H1 p (.tup [.int 21,.int 22])):=Ext.upd hp rfl
   have hna2:=x2.1 _ _ (x1.1 _ _ hna)
   generalize upd H1 p (.tup [.int 21,.int 22])=H2 at x2 hna2 ⊢
   rw [if_neg (by intro z;cases z)]
   exact ⟨_,hna2,_,at0,L1,_,_,_,k,.name,s,d,rfl,R1.mono x2,.inr (.inr (.inl rfl)),SV.bu c,rfl,q.to (x1.trans x2)⟩
 | dets k d=>
  simp only [SV.qn] at hna
  simp only [SV.qp]
  dsimp! only [R.self,R.lg,hna,Int.reduceEq,dz]
  by_cases c:Vbnlai.dayOk d=false
  ·simp only [Vbnlai.step,Vbnlai.ofSheet,c,if_true] at q
   rw [if_pos c]
   exact ⟨by rw [sizeLine_eq];decide,fun p hp=>q.new hp⟩
  ·rw [if_neg c]
   refine ⟨L,s,d,rfl,M,SV.bu c,fun H1 L1 x1 R1=>⟨by rw [sizeLine_eq];decide,fun p hp=>⟨_,a9,rfl,?_⟩⟩⟩
   have x2:Ext H1 (upd H1 p (.tup [.int 21,.int 22])):=Ext.upd hp rfl
   have hna2:=x2.1 _ _ (x1.1 _ _ hna)
   generalize upd H1 p (.tup [.int 21,.int 22])=H2 at x2 hna2 ⊢
   rw [if_neg (by intro z;cases z)]
   exact ⟨_,hna2,_,at0,L1,_,_,_,k,.dets,s,d,rfl,R1.mono x2,.inr (.inr (.inr rfl)),SV.bu c,rfl,q.to (x1.trans x2)⟩
 | inHouse k d=>
  simp only [SV.qn] at hna
  simp only [SV.qp]
  dsimp! only [R.self,R.lg,hna,Int.reduceEq,dz]
  by_cases c:Vbnlai.dayOk d=false
  ·simp only [Vbnlai.step,Vbnlai.ofHouse,c,if_true] at q
   rw [if_pos c]
   exact ⟨by rw [sizeLine_eq];decide,fun p hp=>q.new hp⟩
  ·rw [if_neg c]
   refine ⟨L,s,d,rfl,M,SV.bu c,fun H1 L1 x1 R1=>⟨by rw [sizeLine_eq];decide,fun p hp=>⟨_,a9,rfl,?_⟩⟩⟩
   have x2:Ext H1 (upd H1 p (.tup [.int 21,.int 22])):=Ext.upd hp rfl
   have hna2:=x2.1 _ _ (x1.1 _ _ hna)
   generalize upd H1 p (.tup [.int 21,.int 22])=H2 at x2 hna2 ⊢
   rw [if_pos (by rfl)]
   exact ⟨_,hna2,_,at0,L1,_,_,k,.inHouse,s,d,rfl,R1.mono x2,.inl rfl,SV.bu c,rfl,q.to (x1.trans x2)⟩
 | books k d=>
  simp only [SV.qn] at hna
  simp only [SV.qp]
  dsimp! only [R.self,R.lg,hna,Int.reduceEq,dz]
  by_cases c:Vbnlai.dayOk d=false
  ·simp only [Vbnlai.step,Vbnlai.ofHouse,c,if_true] at q
   rw [if_pos c]
   exact ⟨by rw [sizeLine_eq];decide,fun p hp=>q.new hp⟩
  ·rw [if_neg c]
   refine ⟨L,s,d,rfl,M,SV.bu c,fun H1 L1 x1 R1=>⟨by rw [sizeLine_eq];decide,fun p hp=>⟨_,a9,rfl,?_⟩⟩⟩
   have x2:Ext H1 (upd H1 p (.tup [.int 21,.int 22])):=Ext.upd hp rfl
   have hna2:=x2.1 _ _ (x1.1 _ _ hna)
   generalize upd H1 p (.tup [.int 21,.int 22])=H2 at x2 hna2 ⊢
   rw [if_pos (by rfl)]
   exact ⟨_,hna2,_,at0,L1,_,_,k,.books,s,d,rfl,R1.mono x2,.inr rfl,SV.bu c,rfl,q.to (x1.trans x2)⟩
end
section
variable(C:Cs)
def DidA(H:Hp)(L:Lay)(r:Vbnlai.State×List Int)(Q:VK):Prop:=∀ H' L' l,cY C H' L' r.1→Fr C H L H' L'→L'.self=L.self→H' l=some (.lst (r.2.map V.int))→(∀ b o,H b=some o→b∉aS C L→b≠l)→Q (.ref l) H'
def gX:Sp:=fun vs H Q _=>∃ L s p,∃ ns sh:List Int,∃ na sa c,vs=[.ref L.self,.int p,.ref na,.ref sa]∧cY C H L s∧H na=some (.lst (ns.map V.int))∧H sa=some (.lst (sh.map V.int))∧na∉aS C L∧sa∉aS C L ∧
 ((c=[p :: ns]∧sh=[])∨c=[p :: ns,sh])∧SV.Kd c∧DidA C H L (VbnlaiNeutral.step s c) Q
end
section
variable{P:Program}{w0:World}{K:PySem.W.Frag}{mg:Str→Option Value}{base:Heap}{C:Cs}
theorem lF{H:Hp}{L:Lay}{hs:List Nat}{P0:List Vbnlai.Person}{w:Vbnlai.World}(R:Rep C H L hs P0 w){l:Addr}(h:H l=none):l∉aS C L:=fun z=>by
 obtain ⟨c,hc,rfl⟩:=List.mem_map.mp z
 rw [R.cs.at_ c hc] at h
 cases h
theorem lM{H:Hp}{L:Lay}{r:Vbnlai.State×Vbnlai.Answer}{Q:VK}(q:DidA C H L (r.1,VbnlaiNeutral.shown r.2) Q):DidC C H L r fun v H1=>1≤sizeLine∧∀ p,H1 p=none→Q (.ref p) (upd H1 p (.lst [v])):=fun H' L' z M fr e hz=>by
 refine ⟨by rw [sizeLine_eq];decide,fun p hp=> ?_⟩
 have ex:Ext H' (upd H' p (.lst [.int z])):=Ext.upd hp rfl
 rw [hz] at q
 exact q _ L' p (M.mono ex) (fr.trans (Fr.ext ex)) e a9 fun b o hb hf ee=>by
  subst ee
  rw [fr.keep _ _ hb hf] at hp
  cases hp
theorem lS(T:Txt K mg C):Can P w0 K mg base 8 "answer_of" ["ledger", "place", "numbers", "sheets"] (gX C):=by
 refine ay T.f_answer_of sc_answer_of (fun vs H Q E h=>by obtain ⟨_,_,_,_,_,_,_,_,rfl,_⟩:=h;rfl) fun f cdv A outer s0 H vs Q E hr h=> ?_
 refine ⟨_,(a7 (aw (ak aL (pv 1) (aB T.g_HOUSE rfl) (ap _)) (a8 (ai (bf (a6 (am (mm T) (hr.mono (by decide)) rfl (a6 (pv 0) (a6 (aD aq (pv 2) ag (fun _ _=>rfl)) ab))) ab)))) aj)
   (a7 (aw (ak aL (pv 1) (aB T.g_PERSON rfl) (ap _)) (a8 (ai (bf (a6 (am (ku T) (hr.mono (by decide)) rfl (a6 (pv 0) (a6 (aD aq (pv 2) ag (fun _ _=>rfl)) (a6 (aD aq (pv 2) ag (fun _ _=>rfl)) (a6 (aD aq (pv 2) ag (fun _ _=>rfl)) ab))))) ab)))) aj)
   (a7 (aw (ak fC (pv 1) (aB T.g_WHERE rfl) (ap _)) (a8 (ai (bf (a6 (am (ok_enter T) (hr.mono (by decide)) rfl (a6 (pv 0) (a6 (pv 1) (a6 (pv 2) (a6 (pv 3) ab))))) ab)))) aj)
   (a8 (ai (am (ok_ask T) (hr.mono (by decide)) rfl (a6 (pv 0) (a6 (pv 1) (a6 (pv 2) ab))))))))),?_⟩
 obtain ⟨L,s,p,ns,sh,na,sa,c,rfl,M,hna,hsa,fna,fsa,hc,kd,q⟩:=h
 simp! only []
 cases kd with
 | house k ec=>
  subst ec
  obtain ⟨rfl,rfl⟩:p=0∧ns=[k]:=by
   rcases hc with ⟨hc,_⟩ | hc
   ·simp only [List.cons.injEq,and_true] at hc
    exact ⟨hc.1.symm,hc.2.symm⟩
   ·simp at hc
  rw [if_pos rfl]
  simp only [List.map_cons,List.map_nil] at hna
  refine ⟨_,hna,_,at0,L,s,k,rfl,M,lM q⟩
 | person a b d ec=>
  subst ec
  obtain ⟨rfl,rfl⟩:p=1∧ns=[a,b,d]:=by
   rcases hc with ⟨hc,_⟩ | hc
   ·simp only [List.cons.injEq,and_true] at hc
    exact ⟨hc.1.symm,hc.2.symm⟩
   ·simp at hc
  rw [if_neg (by decide),if_pos rfl]
  simp only [List.map_cons,List.map_nil] at hna
  simp! only [hna]
  exact ⟨L,s,a,b,d,rfl,M,lM q⟩
 | enter d e ec eo ok=>
  obtain ⟨e1,e2,e3⟩:p=SV.pl e∧ns=d :: SV.ar e∧sh=SV.sh e:=by
   subst ec
   cases e <;> simp only [SV.encC,SV.hasSh,if_true,if_false,Bool.false_eq_true,List.cons.injEq,and_true,true_and,reduceCtorEq,or_false,false_or,and_false,false_and,List.nil_eq,List.cons_ne_nil] at hc <;> (first | (obtain ⟨⟨h1,h2⟩,h3⟩:=hc;exact ⟨h1.symm,h2.symm,h3⟩) | (obtain ⟨⟨h1,h2⟩,h3⟩:=hc;exact ⟨h1.symm,h2.symm,h3.symm⟩) | trace_state)
  subst e1 e2 e3
  obtain ⟨h2,h16⟩:=SV.pl_range e
  rw [if_neg (by omega),if_neg (by omega),if_pos (by omega)]
  unfold VbnlaiNeutral.step at q
  rw [eo] at q
  exact ⟨L,s,d,e,na,sa,rfl,M,hna,hsa,fna,fsa,ok,lM q⟩
 | ask qq hq ec eo=>
  subst ec
  obtain ⟨rfl,rfl⟩:p=SV.qp qq∧ns=SV.qn qq:=by
   rcases hc with ⟨hc,_⟩ | hc
   ·simp only [List.cons.injEq,and_true] at hc
    exact ⟨hc.1.symm,hc.2.symm⟩
   ·simp at hc
  have h17:=SV.qp_range hq
  rw [if_neg (by omega),if_neg (by omega),if_neg (by omega)]
  unfold VbnlaiNeutral.step at q
  rw [eo] at q
  refine ⟨L,s,qq,na,rfl,M,hna,hq,fun l H' hl x1=> ?_⟩
  have x2:=Ext.off hl rfl x1
  refine q H' L l ?_ (Fr.ext x2) rfl x1.at_ fun b o hb _ e=>by subst e;rw [hb] at hl;cases hl
  show cY C H' L (Vbnlai.step s qq).1
  rw [SV.step_q hq]
  exact M.mono x2
end
def ki(K:PySem.W.Frag):Sp:=fun vs H Q _=>∃ a,∃ xs:List Int,vs=[.ref a]∧SqL K H a (xs.map V.int)∧bA H∧PyVbnlai.answers_asked xs=true∧∀ H' l,H' l=some (.lst ((PyVbnlai.answers xs).map V.int))→Q (.ref l) H'
theorem cut_eq(xs:List Int)(i n:Nat)(h:i + n≤xs.length):oE (xs.map V.int) (some (i:Int)) (some ((i + n:Nat):Int))=((xs.drop i).take n).map V.int:=by
 unfold oE
 rw [HT.sIx_nat,HT.sIx_nat,List.length_map,Nat.min_eq_left (show i≤xs.length by omega),Nat.min_eq_left h,Nat.add_sub_cancel_left,← List.map_drop,← List.map_take]
section
variable{P:Program}{w0:World}{K:PySem.W.Frag}{mg:Str→Option Value}{base:Heap}{C:Cs}
def LoopI(C:Cs)(H:Hp)(td led:Addr)(xs:List Int)(i:Nat)(G:Hp):Prop:=∃ (L:Lay) (s:Vbnlai.State) (cs:List (List (List Int))) (f:Nat) (acc:List Int),
 L.self=led∧Ext H G∧(∀ b,b∈aS C L→H b=none)∧(∀ o,ca o=true→cY C (upd G td o) L s)∧G td=some (.lst (acc.map V.int))∧td∉aS C L∧PyFlat.calls PyVbnlai.shape f (xs.drop i)=some cs∧i≤xs.length∧(∀ c∈cs,VbnlaiNeutral.asked1 c=true) ∧
 acc ++ PyFlat.told (PyFlat.played VbnlaiNeutral.step s cs)=PyVbnlai.answers xs∧acc.length + 2001 * cs.length≤2001 * 400
theorem main_upd{F:Hp}{L:Lay}{s:Vbnlai.State}{td:Addr}{od:Obj}{u o:HO}(M:cY C F L s)(h:F td=some (.frz od u))(hf:td∉aS C L)(no:ca o=true):cY C (upd F td o) L s:=by
 have ne:∀ {b v},F b=some v→(∀ x y,v ≠ .frz x y)→upd F td o b=some v:=fun {b v} hb hv=>by
  rw [af]
  ·exact hb
  ·intro z;subst z;rw [h] at hb;exact hv _ _ (Option.some.inj hb).symm
 refine ⟨{ M.rep with cs:=⟨M.rep.cs.nd,fun c hc=> ?_⟩,ds:=fun p hp=>Paired.mapP (M.rep.ds p hp) fun _ _ z=> ?_,pl:=M.rep.pl.upd no },Paired.mapP M.log fun _ _ z=> ?_,M.fine⟩
 ·rw [af]
  ·exact M.rep.cs.at_ c hc
  ·intro z;exact hf (by rw [← z];exact List.mem_map_of_mem hc)
 ·obtain ⟨z1,dx,z2⟩:=z
  exact ⟨z1,dx,ne z2 (by intro _ _ e;cases e)⟩
 ·obtain ⟨dx,na,sa,z1,z2,z3,z4⟩:=z.ex
  exact ⟨dx,na,sa,ne z1 (by intro _ _ e;cases e),ne z2 (by intro _ _ e;cases e),ne z3 (by intro _ _ e;cases e),z4⟩
theorem ll{H G3:Hp}{L:Lay}{s:Vbnlai.State}{td na sa:Addr}{p:Int}{ns sh:List Int}{c:VbnlaiNeutral.Call}{acc:List V}{D:i6}{σ : L2.St}(s1 : σ[1]? = some (some (.ref L.self)))(s4 : σ[4]? = some (some (.int p)))(s6 : σ[6]? = some (some (.ref na)))(s7 : σ[7]? = some (some (.ref sa)))
  (htd:G3 td=some (.lst acc)) (htdH:H td=none) (MG:∀ o,ca o=true→cY C (upd G3 td o) L s) (ntd:td∉aS C L) (ft:∀ b,b∈aS C L→H b=none) (exG:Ext H G3) (hna:G3 na=some (.lst (ns.map V.int))) (hsa:G3 sa=some (.lst (sh.map V.int))) (n1:na≠td) (n2:sa≠td) (fna:na∉aS C L) (fsa:sa∉aS C L)
  (hc:(c=[p :: ns]∧sh=[])∨c=[p :: ns,sh]) (kd:SV.Kd c)
  (q:∀ l G4 L',L'.self=L.self→Ext H G4→(∀ b,b∈aS C L'→H b=none)→(∀ o,ca o=true→cY C (upd G4 td o) L' (VbnlaiNeutral.step s c).1)→td∉aS C L'→G4 l=some (.lst ((VbnlaiNeutral.step s c).2.map V.int))→l≠td→D.nx (σ.set 8 (some (.ref l))) (upd G4 td (.lst acc))) :
  tLock (ms (nO (gX C) [] E0 (bI (bq 1) (bI (bq 4) (bI (bq 6) (bI (bq 7) ip))))) (bZ 8)) D σ G3:=by
 refine ⟨td,_,htd,trivial,fun od=> ?_⟩
 simp! only [s1,s4,s6,s7]
 refine ⟨L,s,p,ns,sh,na,sa,c,rfl,MG _ rfl,(af n1).trans hna,(af n2).trans hsa,fna,fsa,hc,kd,fun G4 L' l M4 fr e hl hne=> ?_⟩
 have htd4:=fr.keep td _ a9 ntd
 obtain ⟨ex4,ft4⟩:=nX (Ext.into htdH exG rfl) ft fr M4.rep.pl
 have ntd4:=fr.off (a:=td) a9 ntd
 exact ⟨htd4,q l G4 L' e ex4 ft4 (fun o no=>main_upd M4 htd4 ntd4 no) ntd4 hl (Ne.symm (hne td _ a9 ntd))⟩
theorem with_ints(p:Int):inV (.int p) [V.int 6,V.int 7,V.int 8,V.int 9,V.int 12,V.int 13] = SV.kZ.contains p:=jf p SV.kZ
theorem counts_at{p:Int}{n:Nat}(h0:0≤p)(h:SV.nums[p.toNat]? = some n):atI [V.int 1,V.int 3,V.int 3,V.int 3,V.int 5,V.int 4,V.int 6,V.int 1,V.int 2,V.int 3,V.int 2,V.int 3,V.int 1,V.int 1,V.int 2,V.int 5,V.int 3,V.int 2,V.int 2,V.int 2,V.int 2,V.int 2,V.int 2,V.int 1,V.int 2,V.int 2,V.int 1,V.int 0] p=some (.int (n:Int)):=by
 have e:([V.int 1,V.int 3,V.int 3,V.int 3,V.int 5,V.int 4,V.int 6,V.int 1,V.int 2,V.int 3,V.int 2,V.int 3,V.int 1,V.int 1,V.int 2,V.int 5,V.int 3,V.int 2,V.int 2,V.int 2,V.int 2,V.int 2,V.int 2,V.int 1,V.int 2,V.int 2,V.int 1,V.int 0]:List V)=SV.nums.map fun n:Nat=>V.int (n:Int):=rfl
 rw [e]
 exact pW (j:=p.toNat) (by omega) (by rw [List.getElem?_map,h];rfl)
theorem p8(T:Txt K mg C){f:Addr}{fd:FuncData}(F:Fun K "answers" "answers" s_answers f fd):eI P w0 K mg base CX0 9 f fd ["calls"] (ki K):=by
 refine F.ok sc_answers (fun vs H Q E h=>by obtain ⟨_,_,rfl,_⟩:=h;rfl) fun cdv A outer s0 H vs Q E hr h=> ?_
 refine ⟨_,(a7 (aI (i:=1) (sc_answers).nd rfl (by trivial) (pe_mk0 (fo T) (hr.mono (by decide)) rfl))
   (a7 (aI (i:=2) (sc_answers).nd rfl (by trivial) (bf ab))
   (a7 (aI (i:=3) (sc_answers).nd rfl (by trivial) ag)
   (a7 (ps_while PassesOwn.never (ak fC (pv 3) (aA (lq (K:=K) rfl) rfl T.b_len PySem.boot_len (a6 (pv 0) ab)) (ap _)) (a7 (aI (i:=4) (sc_answers).nd rfl (by trivial) (aD (nE (K:=K) rfl) (pv 0) (pv 3) (fun _ _=>rfl)))
   (a7 (aI (i:=5) (sc_answers).nd rfl (by trivial) (df eL (df eL (pv 3) ag) (aD (ix_tupK (K:=K) rfl) (pe_glT T.g_NUMBER_COUNTS rfl) (pv 4) (fun _ _=>rfl))))
   (a7 (aI (i:=6) (sc_answers).nd rfl (by trivial) (mX (nw (K:=K) rfl) (pv 0) (jm (df eL (pv 3) ag)) (jm (pv 5))))
   (a7 (aI (i:=7) (sc_answers).nd rfl (by trivial) (bf ab))
   (a7 (aw (ak (op_inK (K:=K) rfl) (pv 4) (pe_glT T.g_PLACES_WITH_SHEETS rfl) (by with_unfolding_all rfl)) (a7 (aI (i:=9) (sc_answers).nd rfl (by trivial) (df eL (pv 5) ag))
   (a7 (aI (i:=5) (sc_answers).nd rfl (by trivial) (df eL (pv 9) (aD (nE (K:=K) rfl) (pv 0) (pv 5) (fun _ _=>rfl))))
   (a8 (aI (i:=7) (sc_answers).nd rfl (by trivial) (mX (nw (K:=K) rfl) (pv 0) (jm (pv 9)) (jm (pv 5))))))) aj)
   (a7 (fS (aI (i:=8) (sc_answers).nd rfl (by trivial) (am (lS T) (hr.mono (by decide)) rfl (a6 (pv 1) (a6 (pv 4) (a6 (pv 6) (a6 (pv 7) ab)))))))
   (a7 (aY (cq PySem.F.plainAttrs_list PySem.F.slot_list_append PySem.F.type_list_append cD (pv 2) (a6 (aA (lq (K:=K) rfl) rfl T.b_len PySem.boot_len (a6 (pv 8) ab)) ab)))
   (a7 (aY (cq PySem.F.plainAttrs_list PySem.F.slot_list_extend PySem.F.type_list_extend li (pv 2) (a6 (pv 8) ab)))
   (a8 (aI (i:=3) (sc_answers).nd rfl (by trivial) (pv 5))))))))))))
   (a8 (ai (pv 2))))))),?_⟩
 obtain ⟨a,xs,rfl,hS,hPl,hask,q⟩:=h
 obtain ⟨cs0,hcs0,h400,hasked,hans⟩:=SV.answers_asked_of hask
 simp! only [dO]
 intro x dx hx hdx hne
 refine ⟨x,dx,rfl,a9,fun hD pD gD sD lD lg G g1 z1 z2 z3 z4 z5 z6 nd d1 d2 d3 d4 d5 d6 keep nodt=>⟨rfl,?_⟩⟩
 obtain ⟨ex,R0,ft0⟩:=gW hx hdx hne g1 z1 z2 z3 z4 z5 z6 nd d1 d2 d3 d4 d5 d6 keep nodt hPl
 refine ⟨by rw [sizeLine_eq];decide,fun td htd=> ?_⟩
 have ex1:Ext G (upd G td (.lst [])):=Ext.upd htd rfl
 have hT1:upd G td (.lst []) td=some (.lst []):=a9
 have ntd:td∉aS C ⟨x,dx,hD,pD,gD,sD,lD,lg,[],[],[],[],[],[]⟩:=lF R0 htd
 have M0:∀ o,ca o=true→cY C (upd (upd G td (.lst [])) td o) ⟨x,dx,hD,pD,gD,sD,lD,lg,[],[],[],[],[],[]⟩ Vbnlai.start:=fun o no=>by
  rw [bv]
  exact ⟨R0.mono (Ext.upd htd no),.nil,SV.fine_start⟩
 have htdH:H td=none:=ex.1.free htd
 have ex2:=ex.trans ex1
 generalize upd G td (.lst [])=G1 at ex1 hT1 M0 ex2 ⊢
 refine ⟨fun m σ2 G2=>∃ i:Nat,∃ v4 v5 v6 v7 v8 v9:Option V,m=xs.length - i∧σ2=[some (V.ref a),some (V.ref x),some (V.ref td),some (V.int i),v4,v5,v6,v7,v8,v9]∧LoopI C H td x xs i G2,⟨_,0,none,none,none,none,none,none,rfl,rfl,_,_,cs0,xs.length,[],rfl,ex2,ft0,M0,hT1,ntd,by simpa using hcs0,Nat.zero_le _,hasked,by rw [hans];rfl,by simp only [List.length_nil];omega⟩,fun m σ2 G2 h=> ?_⟩
 obtain ⟨i,v4,v5,v6,v7,v8,v9,rfl,rfl,L,s,cs,fu,acc,hself,exG,ftG,MG,hacc,ntdL,hcs,hi,hask2,hsum,hsize⟩:=h
 have hSG:=exG.1.seq hS
 simp! only [tGlT,rIxL,rIxT,rIn,tSl,tPart,rSlL]
 refine ⟨_,.inl hSG,?_⟩
 rw [List.length_map]
 by_cases c:(i:Int) < (xs.length:Int)
 ·rw [if_pos c]
  refine ⟨fun σ3 G3=>∃ j:Nat,∃ v4 v5 v6 v7 v8 v9:Option V,i < j∧σ3=[some (V.ref a),some (V.ref x),some (V.ref td),some (V.int j),v4,v5,v6,v7,v8,v9]∧LoopI C H td x xs j G3,fun σ3 G3 h=> ?_,?_⟩
  ·obtain ⟨j,v4,v5,v6,v7,v8,v9,hj,rfl,h⟩:=h
   exact ⟨xs.length - j,by omega,j,rfl,v4,v5,v6,v7,v8,v9,rfl,h⟩
  obtain ⟨c1,cs',f',j,rfl,cut,hcs'⟩:=SV.pi (by omega) hcs
  have kd:=cut.form.kd (hask2 c1 List.mem_cons_self)
  obtain ⟨p,n,hp,h0,h28,hn,hl,hcut⟩:=cut.ex
  have hns:((xs.drop (i + 1)).take n).length=n:=by rw [List.length_take,List.length_drop];omega
  refine ⟨_,hSG,.int p,pW rfl (by rw [List.getElem?_map,hp];rfl),fun ct hct=>⟨_,p,rfl,hct G2,_,counts_at h0 hn,(n:Int),rfl,_,hSG,fun na hna=>⟨Nat.zero_le _,fun sa hsa=>fun wt hwt=>⟨_,.inr (hwt _),rfl,rfl,?_⟩⟩⟩⟩
  have eCut:oE (xs.map V.int) (some ((i:Int) + 1)) (some ((i:Int) + 1 + (n:Int)))=((xs.drop (i + 1)).take n).map V.int:=by
   rw [show ((i:Int) + 1 + (n:Int))=((i + 1 + n:Nat):Int) by omega,show ((i:Int) + 1)=((i + 1:Nat):Int) by omega,cut_eq xs (i + 1) n hl]
  rw [eCut] at hsa ⊢
  rw [with_ints,show ((i:Int) + 1 + (n:Int))=((i + 1 + n:Nat):Int) by omega]
  have n1:na≠td:=fun z=>by subst z;rw [hacc] at hna;cases hna
  have n2:sa≠td:=fun z=>by
   subst z
   rw [af (Ne.symm n1),hacc] at hsa
   cases hsa
  have xa:Ext G2 (upd G2 na (.lst (((xs.drop (i + 1)).take n).map V.int))):=Ext.upd hna rfl
  have hna1:upd G2 na (.lst (((xs.drop (i + 1)).take n).map V.int)) na=some (.lst (((xs.drop (i + 1)).take n).map V.int)):=a9
  have fna:na∉aS C L:=lF (L:=L) (MG (.lst []) rfl).rep ((af n1).trans hna)
  have fsa:sa∉aS C L:=lF (L:=L) (MG (.lst []) rfl).rep ((af n2).trans (xa.1.free hsa))
  generalize upd G2 na (.lst (((xs.drop (i + 1)).take n).map V.int))=Ga at xa hna1 hsa ⊢
  have xb:Ext Ga (upd Ga sa (.lst [])):=Ext.upd hsa rfl
  have hsb:upd Ga sa (.lst []) sa=some (.lst []):=a9
  generalize upd Ga sa (.lst [])=Gb at xb hsb ⊢
  have xab:=xa.trans xb
  have good:=(MG (.lst []) rfl).fine.toGood
  have hans1:(VbnlaiNeutral.step s c1).2.length≤2000:=by
   unfold VbnlaiNeutral.step
   cases VbnlaiNeutral.callOf c1 with
   | none=>exact Nat.zero_le _
   | some qq=>exact SV.shown_len good qq
  have hsum1:acc ++ (((VbnlaiNeutral.step s c1).2.length:Int) :: (VbnlaiNeutral.step s c1).2) ++ PyFlat.told (PyFlat.played VbnlaiNeutral.step (VbnlaiNeutral.step s c1).1 cs')=PyVbnlai.answers xs:=by
   rw [← hsum]
   unfold PyFlat.told
   rw [PyFlat.played,List.flatMap_cons,List.append_assoc]
  have hsz:acc.length + 2001 + 2001 * cs'.length≤2001 * 400:=by rw [List.length_cons] at hsize;omega
  have fin:∀ (l:Addr) (G4:Hp) (L':Lay),i < j→j≤xs.length→L'.self=x→Ext H G4→(∀ b,b∈aS C L'→H b=none)→(∀ o,ca o=true→cY C (upd G4 td o) L' (VbnlaiNeutral.step s c1).1)→td∉aS C L' →
    LoopI C H td x xs j (upd G4 td (.lst ((acc ++ (((VbnlaiNeutral.step s c1).2.length:Int) :: (VbnlaiNeutral.step s c1).2)).map V.int))):=fun l G4 L' hij hj e ex4 ft4 M4 ntd4=>
   ⟨L',_,cs',f',_,e,Ext.into htdH ex4 rfl,ft4,fun o no=>by rw [bv];exact M4 o no,a9,ntd4,hcs',hj,fun c hc=>hask2 c (List.mem_cons_of_mem _ hc),hsum1,by rw [List.length_append,List.length_cons];omega⟩
  have e5:(acc ++ (((VbnlaiNeutral.step s c1).2.length:Int) :: (VbnlaiNeutral.step s c1).2)).map V.int=acc.map V.int ++ [V.int (((VbnlaiNeutral.step s c1).2.map V.int).length:Nat)] ++ (VbnlaiNeutral.step s c1).2.map V.int:=by
   rw [List.map_append,List.map_cons,List.length_map,List.append_assoc];rfl
  by_cases cw:SV.kZ.contains p=true
  ·rw [if_pos cw]
   rcases hcut with ⟨hw,_⟩ | ⟨hw,m,hm,hl2,ec,ej⟩
   ·exact absurd (by simpa using cw) hw
   have hSb:=(exG.trans xab).1.seq hS
   refine ⟨_,hSb,.int (m:Int),pW rfl (by rw [List.getElem?_map,hm];rfl),(m:Int),rfl,_,hSb,fun sc hsc=> ?_⟩
   rw [show (((i + 1 + n:Nat):Int) + 1 + (m:Int))=((i + 1 + n + 1 + m:Nat):Int) by omega,show (((i + 1 + n:Nat):Int) + 1)=((i + 1 + n + 1:Nat):Int) by omega,cut_eq xs (i + 1 + n + 1) m hl2]
   have n3:sc≠td:=fun z=>by subst z;rw [xab.1 _ _ hacc] at hsc;cases hsc
   have fsc:sc∉aS C L:=lF (L:=L) (MG (.lst []) rfl).rep ((af n3).trans (xab.1.free hsc))
   have xc:Ext Gb (upd Gb sc (.lst (((xs.drop (i + 1 + n + 1)).take m).map V.int))):=Ext.upd hsc rfl
   have hsc1:upd Gb sc (.lst (((xs.drop (i + 1 + n + 1)).take m).map V.int)) sc=some (.lst (((xs.drop (i + 1 + n + 1)).take m).map V.int)):=a9
   generalize upd Gb sc (.lst (((xs.drop (i + 1 + n + 1)).take m).map V.int))=Gc at xc hsc1 ⊢
   have xabc:=xab.trans xc
   refine ll (s:=s) (L:=L) (ns:=(xs.drop (i + 1)).take n) (sh:=(xs.drop (i + 1 + n + 1)).take m) (c:=c1) (by rw [hself];rfl) rfl rfl rfl (xabc.1 _ _ hacc) htdH (fun o no=>(MG o no).mono (Ext.both xabc)) ntdL ftG (exG.trans xabc) (xc.1 _ _ (xb.1 _ _ hna1)) hsc1 n1 n3 fna fsc (.inr ec) kd fun l G4 L' e ex4 ft4 M4 ntd4 hl hlt=> ?_
   have hl5:upd G4 td (.lst (acc.map V.int)) l=some (.lst ((VbnlaiNeutral.step s c1).2.map V.int)):=(af hlt).trans hl
   simp! only [a9,hl5]
   refine ⟨_,.inl (SqL.of hl5),by rw [List.length_map,sizeLine_eq];omega,_,(af hlt).trans hl5,by rw [List.length_append,List.length_map,List.length_map,sizeLine_eq];simp only [List.length_cons,List.length_nil];omega,j,by omega,by rw [ej],?_⟩
   rw [bv,bv,← e5]
   exact fin l G4 L' (by omega) (by omega) (e.trans hself) ex4 ft4 M4 ntd4
  ·rw [if_neg cw]
   rcases hcut with ⟨hw,ec,ej⟩ | ⟨hw,_⟩
   ·refine ll (s:=s) (L:=L) (ns:=(xs.drop (i + 1)).take n) (sh:=[]) (c:=c1) (by rw [hself];rfl) rfl rfl rfl (xab.1 _ _ hacc) htdH (fun o no=>(MG o no).mono (Ext.both xab)) ntdL ftG (exG.trans xab) (xb.1 _ _ hna1) hsb n1 n2 fna fsa (.inl ⟨ec,rfl⟩) kd fun l G4 L' e ex4 ft4 M4 ntd4 hl hlt=> ?_
    have hl5:upd G4 td (.lst (acc.map V.int)) l=some (.lst ((VbnlaiNeutral.step s c1).2.map V.int)):=(af hlt).trans hl
    simp! only [a9,hl5]
    refine ⟨_,.inl (SqL.of hl5),by rw [List.length_map,sizeLine_eq];omega,_,(af hlt).trans hl5,by rw [List.length_append,List.length_map,List.length_map,sizeLine_eq];simp only [List.length_cons,List.length_nil];omega,j,by omega,by rw [ej],?_⟩
    rw [bv,bv,← e5]
    exact fin l G4 L' (by omega) (by omega) (e.trans hself) ex4 ft4 M4 ntd4
   ·exact absurd (by simpa using hw) cw
 ·rw [if_neg c]
  have e:xs.drop i=[]:=List.drop_eq_nil_of_le (by omega)
  rw [e] at hcs
  obtain rfl:=SV.calls_nil hcs
  refine q G2 td ?_
  rw [hacc,← hsum]
  show _=some (HO.lst (((acc ++ []).map V.int)))
  rw [List.append_nil]
end
end Sl
end
namespace L2
open PySem PySem.Spec PyProof.Rows
open PySem.W (WData Codec OpenSpec Well WellAll ReadsW ReadsAllW)
def jA(H:Hp):Prop:=∀ b,H b=none∨∃ o u,H b=some (.frz o u)∧ca u=true
theorem jA.plain{H:Hp}(h:jA H):bA H:=fun a o e=>by
 rcases h a with z | ⟨o',u,z,n⟩
 ·rw [z] at e;cases e
 ·rw [z] at e;cases e;exact n
theorem ot{K:PySem.W.Frag}{h:Heap}{A:List Addr}(ar:∀ a∈A,eM h A a):jA (dZ K h A):=fun b=>by
 cases q:dZ K h A b with
 | none=>exact .inl rfl
 | some u=>
  obtain ⟨_,vs,_,_,⟨_,e⟩ | ⟨_,e⟩⟩:=jn ar q
  ·exact .inr ⟨_,_,by rw [e],rfl⟩
  ·exact .inr ⟨_,_,by rw [e],rfl⟩
theorem oy{P:Program}{w:World}{K:PySem.W.Frag}{mg mb:Str→Option Value}{CX:CXT}{k:Nat}{fa:Addr}{fd:FuncData}{ps:List Str}{sp:Sp}{s₁ : Shared}{vals:List Value}{ds:List WData}{R:PySem.W.WRecords}{cl:Str→Option Addr}{d0:WData}
  (KX:K.In s₁.heap) (hns:s₁.heap.Ns mainGlobals mg) (hb:s₁.heap.Ns builtinsNs mb) (hbb:∀ x:Str,x ≠ "__name__" → mb x=bootBuiltins x) (hlim:s₁.heap.NoLimit) (hg:s₁.gens = #[])
  (hwl:WellAll w.params s₁.heap vals ds) (hpl:iP ds=true) (hwt:∀ d∈ds,d.weight≤1048576) (hr:bW k callerA)
  (F:∀ base:Heap,K.In base→base.Ns mainGlobals mg→eI P w K mg base CX k fa fd ps sp) (hbind:∀ (s:Shared) (us:List Value),us.length=ps.length→BindsTo s fd ⟨us,[]⟩ (ps.zip us)) (hlen:ds.length=ps.length)
  (hsp:∀ (H:Hp) (xs:List V),jA H→eV K H xs ds→sp xs H (fun v H'=>Dw K H' v d0) fun _ _ _=>False)
  (hCX:∀ H e s',CX [] H s₁ (fun _ _ _=>False) e s'→False) :
  codeAny (model P w) callerA (.call (.ref fa) ⟨vals,[]⟩) (fun r s'=>∃ u as,r = .ok (.ret u)∧ReadsW R cl s'.heap u d0 as∧OldK s₁.heap s'.heap∧s'.os=s₁.os∧AllBare s'.gens) s₁ := by
 obtain ⟨A,ho,ar⟩:=gy ds vals hwl hpl hwt
 have hO:jA (dZ K s₁.heap A):=ot ar
 have hok:HOk P w (dZ K s₁.heap A) s₁.heap:=argH_ok ar
 have hS:=my KX ar ds vals hwl hpl ho
 have hV:=dU ho
 have hK:∀ b u,dZ K s₁.heap A b=some u→K.lookup b=none:=fun b u q=>(jn ar q).1
 have noA:∀ {b:Addr} {o:Obj} {es:Array DictEntry} {ep:Nat},s₁.heap.get? b=some o→o.data = .dict es ep→dZ K s₁.heap A b=none:=fun {b o es ep} e d=>by
  cases q:dZ K s₁.heap A b with
  | none=>rfl
  | some u=>
   obtain ⟨_,vs,_,_,⟨e2,_⟩ | ⟨e2,_⟩⟩:=jn ar q
   ·rw [e2] at e
    cases e
    have d':Data.seq vs.toArray _=Data.dict es ep:=d
    cases d'
   ·rw [e2] at e
    cases e
    have d':Data.seq vs.toArray _=Data.dict es ep:=d
    cases d'
 generalize dZ K s₁.heap A=H at hO hok hS hK noA
 have base_of:∀ {b:Addr} {o:Obj},s₁.heap.get? b=some o→H b=none→(lI s₁.heap H).get? b=some o:=fun e n=>hidT_get e n
 have nsK:∀ {b:Addr} {m:Str→Option Value},s₁.heap.Ns b m→(lI s₁.heap H).Ns b m:=fun {b m} ⟨o,es,ep,e,d,r⟩=>⟨o,es,ep,base_of e (noA e d),d,r⟩
 have nK:∀ b o,K.lookup b=some o→H b=none:=fun b o e=>by
  cases q:H b with
  | none=>rfl
  | some u=>
   rw [hK b u q] at e
   cases e
 have hKb:K.In (lI s₁.heap H):=fun b o e=>base_of (KX b o e) (nK b o e)
 have hM:Mod K mg (lI s₁.heap H):=⟨hKb,nsK hns,⟨mb,nsK hb,hbb⟩,let ⟨mc,h1,h2⟩:=hlim;⟨mc,nsK h1,h2⟩⟩
 have e0:pq P w K mg (lI s₁.heap H) callerA [] s₁ H:=⟨rfl,hM,fun b o e=>of_hidT e,Nat.le_of_eq (qk _ _),trivial,fun b hb=>absurd (show b∈([]:List Addr) from hb) (by simp),hok,.of_eq hg⟩
 have hl:vals.length=ps.length:=by rw [dB hwl];exact hlen
 refine codeAny_mono ((F _ hKb (nsK hns)).run callerA [] s₁ H ⟨vals,[]⟩ vals (vals.map toV) _ _ hr e0 (hbind s₁ vals hl) hV (hsp H _ hO hS)) fun r s' x=> ?_
 cases r with
 | error e=>exact (hCX H e s' x).elim
 | ok fl=>
  cases fl with
  | next=>exact False.elim x
  | brk=>exact False.elim x
  | cont=>exact False.elim x
  | ret u=>
   obtain ⟨v,H',os,bare,un,hok',r',q⟩:=x
   have kept:∀ b o,s₁.heap.get? b=some o→s'.heap.get? b=some o:=fun b o e=>by
    cases q2:H b with
    | none=>exact un.keep b o e q2 (by intro z;exact absurd (show b∈([]:List Addr) from z) (by simp)) (by simp)
    | some u2=>
     rcases hO b with z | ⟨ob,u3,z,_⟩
     ·rw [q2] at z
      cases z
     ·have z2:=un.frzs b ob _ z
      obtain ⟨e1,_⟩:=hok b _ z
      obtain ⟨e2,_⟩:=hok' b _ z2
      rw [e] at e1
      cases e1
      exact e2
   have KX':K.In s'.heap:=fun b o e=>kept b o (KX b o e)
   obtain ⟨as,hrd⟩:=Dw.reads (R:=R) (cl:=cl) hok' KX' d0 v u q r'
   exact ⟨u,as,rfl,hrd,OldK.of_keep kept,os,bare⟩
theorem pf{r:OpenSpec}{k:Nat}{q:Program}{loose:List Str}{XP:(Str→Option Value)→Heap→Prop}{YP:World→Heap→Prop}{d:DefRec}{K:Params→PySem.W.Frag}{CX:World→CXT}{ps:List Str}{sp:World→Sp}
  (hwell:r.wellSaid=true) (hdf:d.params.defaults=[]) (hlen:r.args.length=ps.length) (hr:bW k callerA)
  (hY:∀ (w:World) (h:Heap),YP w h→(K w.params).In h)
  (F:∀ (w:World) (mg:Str→Option Value) (fa:Addr) (h:Heap),YP w h→(K w.params).In h→h.Ns mainGlobals mg→mg d.name=some (.ref fa) →
   ∃ fd:FuncData,(∀ (s:Shared) (us:List Value),us.length=ps.length→BindsTo s fd ⟨us,[]⟩ (ps.zip us)) ∧
    ∀ base:Heap,(K w.params).In base→base.Ns mainGlobals mg→eI r.prog w (K w.params) mg base (CX w) k fa fd ps (sp w))
  (hsp:∀ (w:World) (H:Hp) (xs:List V) (a:Codec.denoteAll r.args),jA H→Codec.withinAll r.args a=true→Codec.app r.args r.asked a=true→eV (K w.params) H xs (Codec.encAll r.args a) →
   sp w xs H (fun v H'=>Dw (K w.params) H' v (r.ret.enc (Codec.app r.args r.f a))) fun _ _ _=>False)
  (hCX:∀ (w:World) (H:Hp) (s:Shared) (e:Value) (s':Shared),CX w [] H s (fun _ _ _=>False) e s'→False) :
  PySem.W.WalkOS q loose XP YP r d [] (fun f vs=>PySem.call f vs):=by
 intro w s_0 s₁ mg mb G Y fa o pm cd doc dV kV ho hd hcd hD hmg hg args vals as hpre hlay hrd hwl hlo
 obtain ⟨a,e1,e2⟩:=PySem.W.os_pre_some hpre
 obtain ⟨e3,hwi⟩:=Codec.encAll_of_decAll r.args args a e1
 subst e3
 have KX:=hY w _ Y
 obtain ⟨fd,hb,hF⟩:=F w mg fa _ Y KX G.T.g hmg
 refine PySem.W.enter_call (codeAny_mono (oy (R:=[]) (cl:=classAt s_0.heap) (d0:=r.ret.enc (Codec.app r.args r.f a)) KX G.T.g G.T.b G.T.builtins G.T.nolimit hg hwl (l7 _ _) (k6 hlay) hr hF hb (by rw [jZ];exact hlen)
  (fun H xs hO hS=>hsp w H xs a hO hwi e2 hS) fun H e s'=>hCX w H s₁ e s') fun r' s' hq=> ?_)
 obtain ⟨u,as',rfl,h1,h2,h3,h4⟩:=hq
 exact ⟨.inl ⟨u,_,as',rfl,fun _=>rfl,h1,(OpenSpec.post_iff hwell hwi _ _).mpr rfl,fun z=>Bool.noConfusion (show false=true from z)⟩,h2,h3,h4⟩
theorem walk_specPK{r:OpenSpec}{k:Nat}{q:Program}{loose:List Str}{XP:(Str→Option Value)→Heap→Prop}{YP:World→Heap→Prop}{d:DefRec}{K:Params→PySem.W.Frag}{CX:CXT}{ps:List Str}{sp:PySem.W.Frag→Sp}
  (hwell:r.wellSaid=true) (hdf:d.params.defaults=[]) (hlen:r.args.length=ps.length) (hr:bW k callerA)
  (hY:∀ (w:World) (h:Heap),YP w h→(K w.params).In h)
  (F:∀ (w:World) (mg:Str→Option Value) (fa:Addr) (h:Heap),YP w h→(K w.params).In h→h.Ns mainGlobals mg→mg d.name=some (.ref fa) →
   ∃ fd:FuncData,(∀ (s:Shared) (us:List Value),us.length=ps.length→BindsTo s fd ⟨us,[]⟩ (ps.zip us)) ∧
    ∀ base:Heap,(K w.params).In base→base.Ns mainGlobals mg→eI r.prog w (K w.params) mg base CX k fa fd ps (sp (K w.params)))
  (hsp:∀ (K:PySem.W.Frag) (H:Hp) (xs:List V) (a:Codec.denoteAll r.args),jA H→Codec.withinAll r.args a=true→Codec.app r.args r.asked a=true→eV K H xs (Codec.encAll r.args a) →
   sp K xs H (fun v H'=>Dw K H' v (r.ret.enc (Codec.app r.args r.f a))) fun _ _ _=>False)
  (hCX:∀ (H:Hp) (s:Shared) (e:Value) (s':Shared),CX [] H s (fun _ _ _=>False) e s'→False) :
  PySem.W.WalkOS q loose XP YP r d [] (fun f vs=>PySem.call f vs):=
 pf (K:=K) (CX:=fun _=>CX) (sp:=fun w=>sp (K w.params)) hwell hdf hlen hr hY F (fun w H xs a h1 h2 h3 h4=>hsp (K w.params) H xs a h1 h2 h3 h4) fun _ H s e s'=>hCX H s e s'
end L2
namespace Sl
open PySem PySem.Spec PyProof.Rows L2
def ao(x qual:Str)(st:Stmt)(ps:List Str):Prop:=∀ (kV doc pm:Value) (an:Option Addr) (cdv ct:Value) (us:List Value),us.length=ps.length →
 bindArgs (PySem.W.fnOf x qual (bH st) (bt st) (ah st) .none kV doc pm an cdv ct) ⟨us,[]⟩=pure (ps.zip us)
section
variable{K:PySem.W.Frag}{h:Heap}{mg:Str→Option Value}{x qual m:Str}{st:Stmt}{C f:Addr}{ps:List Str}{oc kV doc pm cdv ct:Value}{od an:Option Addr}{osl:Array (Option Value)}
theorem fn_mk(X:K.In h)(G:h.Ns mainGlobals mg)(b:ao x x st ps)(a:PySem.W.nsIn K mainGlobals x=some (some (.ref f)))
  (l:K.lookup f=some ⟨oc,od,.func (PySem.W.fnOf x x (bH st) (bt st) (ah st) .none kV doc pm an cdv ct),osl⟩) (c:PySem.W.codeIn K cdv x=true) (k:PySem.W.keepIn K (.ref f)=true):aF K mg x st ps:=
 have F:=nW (st:=st) l c k
 ⟨f,_,F,PySem.W.mg_of X G a,F.binds b⟩
theorem mk_mk(X:K.In h)(G:h.Ns mainGlobals mg)(b:ao "__init__" qual st ps)(a:PySem.W.nsIn K mainGlobals x=some (some (.ref C)))(i:PySem.W.findIn K (.ref C) "__init__" = some (some (.ref f)))
  (l:K.lookup f=some ⟨oc,od,.func (PySem.W.fnOf "__init__" qual (bH st) (bt st) (ah st) .none kV doc pm an cdv ct),osl⟩) (c:PySem.W.codeIn K cdv qual=true) (k:PySem.W.keepIn K (.ref f)=true)
  (mk:PySem.W.makesIn K C=true) (fn:PySem.W.isFn K (.ref f)=true) (kp:PySem.W.keepIn K (.ref C)=true):iK K mg x C qual st ps:=
 have F:=nW (st:=st) l c k
 ⟨f,_,⟨mk,i,fn,kp⟩,F,PySem.W.mg_of X G a,F.binds b⟩
theorem me_mk(_:PySem.W.nsIn K mainGlobals x=some (some (.ref C)))(b:ao m qual st ps)(i:PySem.W.findIn K (.ref C) m=some (some (.ref f)))
  (l:K.lookup f=some ⟨oc,od,.func (PySem.W.fnOf m qual (bH st) (bt st) (ah st) .none kV doc pm an cdv ct),osl⟩) (c:PySem.W.codeIn K cdv qual=true) (k:PySem.W.keepIn K (.ref f)=true)
  (fn:PySem.W.isFn K (.ref f)=true):MeTxt K C m qual st ps:=
 have F:=nW (st:=st) l c k
 ⟨f,_,⟨i,fn,k⟩,F,F.binds b⟩
theorem gi_mk(X:K.In h)(G:h.Ns mainGlobals mg){v:V}{u:Value}(a:PySem.W.nsIn K mainGlobals x=some (some u))(r:b6 v u):GlV mg x v:=⟨_,PySem.W.mg_of X G a,r⟩
theorem gt_mk(X:K.In h)(G:h.Ns mainGlobals mg){xs:List V}{its:Array Value}{n:Nat}(a:PySem.W.nsIn K mainGlobals x=some (some (.ref f)))(l:K.lookup f=some ⟨.type "tuple",od,.seq its n,osl⟩)
  (z:its.size≤sizeLine) (r:aR xs its.toList):GlT K mg x xs:=⟨f,PySem.W.mg_of X G a,fun _=>.inr ⟨_,its,n,l,rfl,rfl,z,r⟩⟩
theorem cl_at(_:K.In h)(x:Str)(a:PySem.W.nsIn K mainGlobals x=some (some (.ref C))):PySem.W.nsIn K mainGlobals x=some (some (.ref C)):=a
end
theorem fX{x qual:Str}{st:Stmt}{p0:Str}(h:∀ (kV doc pm:Value) (an:Option Addr) (cdv ct a0:Value),bindArgs (PySem.W.fnOf x qual (bH st) (bt st) (ah st) .none kV doc pm an cdv ct) ⟨[a0],[]⟩=pure ([p0].zip [a0])):ao x qual st [p0]:=
 fun kV doc pm an cdv ct us hl=>match us,hl with | [a0],_=>h kV doc pm an cdv ct a0
theorem cE{x qual:Str}{st:Stmt}{p0 p1:Str}(h:∀ (kV doc pm:Value) (an:Option Addr) (cdv ct a0 a1:Value),bindArgs (PySem.W.fnOf x qual (bH st) (bt st) (ah st) .none kV doc pm an cdv ct) ⟨[a0,a1],[]⟩=pure ([p0,p1].zip [a0,a1])):ao x qual st [p0,p1]:=
 fun kV doc pm an cdv ct us hl=>match us,hl with | [a0,a1],_=>h kV doc pm an cdv ct a0 a1
theorem dF{x qual:Str}{st:Stmt}{p0 p1 p2:Str}(h:∀ (kV doc pm:Value) (an:Option Addr) (cdv ct a0 a1 a2:Value),bindArgs (PySem.W.fnOf x qual (bH st) (bt st) (ah st) .none kV doc pm an cdv ct) ⟨[a0,a1,a2],[]⟩=pure ([p0,p1,p2].zip [a0,a1,a2])):ao x qual st [p0,p1,p2]:=
 fun kV doc pm an cdv ct us hl=>match us,hl with | [a0,a1,a2],_=>h kV doc pm an cdv ct a0 a1 a2
theorem jt{x qual:Str}{st:Stmt}{p0 p1 p2 p3:Str}(h:∀ (kV doc pm:Value) (an:Option Addr) (cdv ct a0 a1 a2 a3:Value),bindArgs (PySem.W.fnOf x qual (bH st) (bt st) (ah st) .none kV doc pm an cdv ct) ⟨[a0,a1,a2,a3],[]⟩=pure ([p0,p1,p2,p3].zip [a0,a1,a2,a3])):ao x qual st [p0,p1,p2,p3]:=
 fun kV doc pm an cdv ct us hl=>match us,hl with | [a0,a1,a2,a3],_=>h kV doc pm an cdv ct a0 a1 a2 a3
theorem bnd5{x qual:Str}{st:Stmt}{p0 p1 p2 p3 p4:Str}(h:∀ (kV doc pm:Value) (an:Option Addr) (cdv ct a0 a1 a2 a3 a4:Value),bindArgs (PySem.W.fnOf x qual (bH st) (bt st) (ah st) .none kV doc pm an cdv ct) ⟨[a0,a1,a2,a3,a4],[]⟩=pure ([p0,p1,p2,p3,p4].zip [a0,a1,a2,a3,a4])):ao x qual st [p0,p1,p2,p3,p4]:=
 fun kV doc pm an cdv ct us hl=>match us,hl with | [a0,a1,a2,a3,a4],_=>h kV doc pm an cdv ct a0 a1 a2 a3 a4
theorem bnd6{x qual:Str}{st:Stmt}{p0 p1 p2 p3 p4 p5:Str}(h:∀ (kV doc pm:Value) (an:Option Addr) (cdv ct a0 a1 a2 a3 a4 a5:Value),bindArgs (PySem.W.fnOf x qual (bH st) (bt st) (ah st) .none kV doc pm an cdv ct) ⟨[a0,a1,a2,a3,a4,a5],[]⟩=pure ([p0,p1,p2,p3,p4,p5].zip [a0,a1,a2,a3,a4,a5])):ao x qual st [p0,p1,p2,p3,p4,p5]:=
 fun kV doc pm an cdv ct us hl=>match us,hl with | [a0,a1,a2,a3,a4,a5],_=>h kV doc pm an cdv ct a0 a1 a2 a3 a4 a5
theorem bn_is_key:ao "is_key" "is_key" s_is_key ["number"]:=fX fun _ _ _ _ _ _ _=>rfl
theorem bn_is_day:ao "is_day" "is_day" s_is_day ["number"]:=fX fun _ _ _ _ _ _ _=>rfl
theorem bn_is_rank:ao "is_rank" "is_rank" s_is_rank ["number"]:=fX fun _ _ _ _ _ _ _=>rfl
theorem bn_is_right_list:ao "is_right_list" "is_right_list" s_is_right_list ["numbers"]:=fX fun _ _ _ _ _ _ _=>rfl
theorem bn_Person_init:ao "__init__" "Person.__init__" s_Person_init ["self", "house", "rank"]:=dF fun _ _ _ _ _ _ _ _ _=>rfl
theorem bn_Loan_init:ao "__init__" "Loan.__init__" s_Loan_init ["self", "lender", "borrower", "due", "onward"]:=bnd5 fun _ _ _ _ _ _ _ _ _ _ _=>rfl
theorem mK:ao "__init__" "Determination.__init__" s_Determination_init ["self", "day", "person", "rank", "name", "conf"]:=bnd6 fun _ _ _ _ _ _ _ _ _ _ _ _=>rfl
theorem bn_Sheet_init:ao "__init__" "Sheet.__init__" s_Sheet_init ["self", "gathering", "owner"]:=dF fun _ _ _ _ _ _ _ _ _=>rfl
theorem bn_Entry_init:ao "__init__" "Entry.__init__" s_Entry_init ["self", "day", "place", "numbers", "sheets"]:=bnd5 fun _ _ _ _ _ _ _ _ _ _ _=>rfl
theorem bn_Ledger_init:ao "__init__" "Ledger.__init__" s_Ledger_init ["self"]:=fX fun _ _ _ _ _ _ _=>rfl
theorem on:ao "last_day" "Ledger.last_day" s_Ledger_last_day ["self"]:=fX fun _ _ _ _ _ _ _=>rfl
theorem bn_holder_of:ao "holder_of" "holder_of" s_holder_of ["ledger", "sheet"]:=cE fun _ _ _ _ _ _ _ _=>rfl
theorem bn_last_loan_of:ao "last_loan_of" "last_loan_of" s_last_loan_of ["ledger", "sheet"]:=cE fun _ _ _ _ _ _ _ _=>rfl
theorem bn_is_gone:ao "is_gone" "is_gone" s_is_gone ["sheet"]:=fX fun _ _ _ _ _ _ _=>rfl
theorem bn_sheets_with:ao "sheets_with" "sheets_with" s_sheets_with ["ledger", "keys"]:=cE fun _ _ _ _ _ _ _ _=>rfl
theorem bn_list_refusal:ao "list_refusal" "list_refusal" s_list_refusal ["ledger", "keys", "wrong_list"]:=dF fun _ _ _ _ _ _ _ _ _=>rfl
theorem kS:ao "unlent_sheet_refusal" "unlent_sheet_refusal" s_unlent_sheet_refusal ["ledger", "key"]:=cE fun _ _ _ _ _ _ _ _=>rfl
theorem bn_lend_refusal:ao "lend_refusal" "lend_refusal" s_lend_refusal ["ledger", "day", "key", "loan", "keys"]:=bnd5 fun _ _ _ _ _ _ _ _ _ _ _=>rfl
theorem bn_loan_refusal:ao "loan_refusal" "loan_refusal" s_loan_refusal ["ledger", "day", "key", "loan"]:=jt fun _ _ _ _ _ _ _ _ _ _=>rfl
theorem mF:ao "lent_sheets_refusal" "lent_sheets_refusal" s_lent_sheets_refusal ["ledger", "loan", "sheets"]:=dF fun _ _ _ _ _ _ _ _ _=>rfl
theorem bn_do_lend:ao "do_lend" "do_lend" s_do_lend ["ledger", "key", "loan", "keys"]:=jt fun _ _ _ _ _ _ _ _ _ _=>rfl
theorem bn_back_refusal:ao "back_refusal" "back_refusal" s_back_refusal ["ledger", "loan", "keys"]:=dF fun _ _ _ _ _ _ _ _ _=>rfl
theorem bn_do_back:ao "do_back" "do_back" s_do_back ["ledger", "keys"]:=cE fun _ _ _ _ _ _ _ _=>rfl
theorem bn_cede_refusal:ao "cede_refusal" "cede_refusal" s_cede_refusal ["ledger", "key"]:=cE fun _ _ _ _ _ _ _ _=>rfl
theorem bn_do_cede:ao "do_cede" "do_cede" s_do_cede ["ledger", "key"]:=cE fun _ _ _ _ _ _ _ _=>rfl
theorem pP:ao "extend_refusal" "extend_refusal" s_extend_refusal ["ledger", "loan", "due"]:=dF fun _ _ _ _ _ _ _ _ _=>rfl
theorem bn_is_due_before:ao "is_due_before" "is_due_before" s_is_due_before ["ledger", "row", "loan", "due"]:=jt fun _ _ _ _ _ _ _ _ _ _=>rfl
theorem bn_do_extend:ao "do_extend" "do_extend" s_do_extend ["ledger", "loan", "due"]:=dF fun _ _ _ _ _ _ _ _ _=>rfl
theorem bn_new_keys:ao "new_keys" "new_keys" s_new_keys ["first", "n"]:=cE fun _ _ _ _ _ _ _ _=>rfl
theorem mJ:ao "new_sheets_refusal" "new_sheets_refusal" s_new_sheets_refusal ["ledger", "first", "n"]:=dF fun _ _ _ _ _ _ _ _ _=>rfl
theorem q5:ao "gather_refusal" "gather_refusal" s_gather_refusal ["ledger", "key", "person", "n", "first"]:=bnd5 fun _ _ _ _ _ _ _ _ _ _ _=>rfl
theorem bn_do_gather:ao "do_gather" "do_gather" s_do_gather ["ledger", "gathering", "person", "n", "first"]:=bnd5 fun _ _ _ _ _ _ _ _ _ _ _=>rfl
theorem qt:ao "split_refusal" "split_refusal" s_split_refusal ["ledger", "key", "first", "n"]:=jt fun _ _ _ _ _ _ _ _ _ _=>rfl
theorem bn_part_of:ao "part_of" "part_of" s_part_of ["sheet"]:=fX fun _ _ _ _ _ _ _=>rfl
theorem bn_do_split:ao "do_split" "do_split" s_do_split ["ledger", "key", "first", "n"]:=jt fun _ _ _ _ _ _ _ _ _ _=>rfl
theorem oW:ao "destroy_refusal" "destroy_refusal" s_destroy_refusal ["ledger", "key"]:=cE fun _ _ _ _ _ _ _ _=>rfl
theorem bn_do_destroy:ao "do_destroy" "do_destroy" s_do_destroy ["ledger", "key"]:=cE fun _ _ _ _ _ _ _ _=>rfl
theorem n6:ao "determine_refusal" "determine_refusal" s_determine_refusal ["ledger", "key", "person", "name", "conf"]:=bnd5 fun _ _ _ _ _ _ _ _ _ _ _=>rfl
theorem bn_do_determine:ao "do_determine" "do_determine" s_do_determine ["ledger", "day", "key", "person", "name", "conf"]:=bnd6 fun _ _ _ _ _ _ _ _ _ _ _ _=>rfl
theorem qd:ao "typify_refusal" "typify_refusal" s_typify_refusal ["ledger", "key", "name"]:=dF fun _ _ _ _ _ _ _ _ _=>rfl
theorem bn_do_typify:ao "do_typify" "do_typify" s_do_typify ["ledger", "key", "name"]:=dF fun _ _ _ _ _ _ _ _ _=>rfl
theorem nR:ao "counting_weights" "counting_weights" s_counting_weights ["determinations"]:=fX fun _ _ _ _ _ _ _=>rfl
theorem o7:ao "name_and_weight" "name_and_weight" s_name_and_weight ["determinations"]:=fX fun _ _ _ _ _ _ _=>rfl
theorem bn_add_house:ao "add_house" "add_house" s_add_house ["ledger", "key"]:=cE fun _ _ _ _ _ _ _ _=>rfl
theorem bn_add_person:ao "add_person" "add_person" s_add_person ["ledger", "key", "house", "rank"]:=jt fun _ _ _ _ _ _ _ _ _ _=>rfl
theorem bn_move_refusal:ao "move_refusal" "move_refusal" s_move_refusal ["ledger", "person", "house"]:=dF fun _ _ _ _ _ _ _ _ _=>rfl
theorem bn_do_move:ao "do_move" "do_move" s_do_move ["ledger", "person", "house"]:=dF fun _ _ _ _ _ _ _ _ _=>rfl
theorem bn_rank_refusal:ao "rank_refusal" "rank_refusal" s_rank_refusal ["ledger", "person", "rank"]:=dF fun _ _ _ _ _ _ _ _ _=>rfl
theorem bn_do_rank:ao "do_rank" "do_rank" s_do_rank ["ledger", "person", "rank"]:=dF fun _ _ _ _ _ _ _ _ _=>rfl
theorem qh:ao "status_refusal" "status_refusal" s_status_refusal ["ledger", "keys", "statuses"]:=dF fun _ _ _ _ _ _ _ _ _=>rfl
theorem bn_put_status:ao "put_status" "put_status" s_put_status ["ledger", "keys", "status"]:=dF fun _ _ _ _ _ _ _ _ _=>rfl
theorem pI:ao "arrive_refusal" "arrive_refusal" s_arrive_refusal ["ledger", "keys"]:=cE fun _ _ _ _ _ _ _ _=>rfl
theorem bn_do_arrive:ao "do_arrive" "do_arrive" s_do_arrive ["ledger", "keys"]:=cE fun _ _ _ _ _ _ _ _=>rfl
theorem bn_lose_refusal:ao "lose_refusal" "lose_refusal" s_lose_refusal ["ledger", "keys"]:=cE fun _ _ _ _ _ _ _ _=>rfl
theorem bn_do_lose:ao "do_lose" "do_lose" s_do_lose ["ledger", "keys"]:=cE fun _ _ _ _ _ _ _ _=>rfl
theorem bn_find_refusal:ao "find_refusal" "find_refusal" s_find_refusal ["ledger", "keys"]:=cE fun _ _ _ _ _ _ _ _=>rfl
theorem bn_do_find:ao "do_find" "do_find" s_do_find ["ledger", "keys"]:=cE fun _ _ _ _ _ _ _ _=>rfl
theorem bn_give_refusal:ao "give_refusal" "give_refusal" s_give_refusal ["ledger", "old", "new", "keys"]:=jt fun _ _ _ _ _ _ _ _ _ _=>rfl
theorem bn_do_give:ao "do_give" "do_give" s_do_give ["ledger", "new", "keys"]:=dF fun _ _ _ _ _ _ _ _ _=>rfl
theorem bn_enter:ao "enter" "enter" s_enter ["ledger", "place", "numbers", "sheets"]:=jt fun _ _ _ _ _ _ _ _ _ _=>rfl
theorem bn_own_refusal:ao "own_refusal" "own_refusal" s_own_refusal ["ledger", "place", "numbers", "sheets"]:=jt fun _ _ _ _ _ _ _ _ _ _=>rfl
theorem bn_carry_out:ao "carry_out" "carry_out" s_carry_out ["ledger", "place", "numbers", "sheets"]:=jt fun _ _ _ _ _ _ _ _ _ _=>rfl
theorem bn_loan_told:ao "loan_told" "loan_told" s_loan_told ["numbers"]:=fX fun _ _ _ _ _ _ _=>rfl
theorem nU:ao "persons_at_first" "persons_at_first" s_persons_at_first ["persons"]:=fX fun _ _ _ _ _ _ _=>rfl
theorem bn_ledger_at:ao "ledger_at" "ledger_at" s_ledger_at ["ledger", "day"]:=cE fun _ _ _ _ _ _ _ _=>rfl
theorem bn_names_sheet:ao "names_sheet" "names_sheet" s_names_sheet ["entry", "key"]:=cE fun _ _ _ _ _ _ _ _=>rfl
theorem bn_ask:ao "ask" "ask" s_ask ["ledger", "place", "numbers"]:=dF fun _ _ _ _ _ _ _ _ _=>rfl
theorem bn_ask_of_sheet:ao "ask_of_sheet" "ask_of_sheet" s_ask_of_sheet ["past", "place", "key"]:=dF fun _ _ _ _ _ _ _ _ _=>rfl
theorem bn_ask_of_house:ao "ask_of_house" "ask_of_house" s_ask_of_house ["past", "place", "house"]:=dF fun _ _ _ _ _ _ _ _ _=>rfl
theorem bn_told_list:ao "told_list" "told_list" s_told_list ["numbers"]:=fX fun _ _ _ _ _ _ _=>rfl
theorem bn_told_rows:ao "told_rows" "told_rows" s_told_rows ["rows"]:=fX fun _ _ _ _ _ _ _=>rfl
theorem bn_where:ao "where" "where" s_where ["past", "sheet"]:=cE fun _ _ _ _ _ _ _ _=>rfl
theorem bn_custody:ao "custody" "custody" s_custody ["past", "sheet"]:=cE fun _ _ _ _ _ _ _ _=>rfl
theorem bn_dets:ao "dets" "dets" s_dets ["sheet"]:=fX fun _ _ _ _ _ _ _=>rfl
theorem bn_is_held_here:ao "is_held_here" "is_held_here" s_is_held_here ["past", "sheet", "house"]:=dF fun _ _ _ _ _ _ _ _ _=>rfl
theorem bn_keys_inside:ao "keys_inside" "keys_inside" s_keys_inside ["past", "house"]:=cE fun _ _ _ _ _ _ _ _=>rfl
theorem bn_books:ao "books" "books" s_books ["past", "house"]:=cE fun _ _ _ _ _ _ _ _=>rfl
theorem bn_overdue:ao "overdue" "overdue" s_overdue ["past", "day"]:=cE fun _ _ _ _ _ _ _ _=>rfl
theorem bn_gathering:ao "gathering" "gathering" s_gathering ["past", "key"]:=cE fun _ _ _ _ _ _ _ _=>rfl
theorem bn_typified_keys:ao "typified_keys" "typified_keys" s_typified_keys ["past", "name"]:=cE fun _ _ _ _ _ _ _ _=>rfl
theorem bn_history:ao "history" "history" s_history ["ledger", "key"]:=cE fun _ _ _ _ _ _ _ _=>rfl
theorem oI:ao "answers" "answers" s_answers ["calls"]:=fX fun _ _ _ _ _ _ _=>rfl
theorem bn_answer_of:ao "answer_of" "answer_of" s_answer_of ["ledger", "place", "numbers", "sheets"]:=jt fun _ _ _ _ _ _ _ _ _ _=>rfl
theorem top_mk{P:Program}{w:World}{K:PySem.W.Frag}{mg:Str→Option Value}{fa:Addr}{C:Cs}(hfa:mg "answers" = some (.ref fa))(T:Txt K mg C) :
  ∃ fd:FuncData,(∀ (s:Shared) (us:List Value),us.length=(["calls"]:List Str).length→BindsTo s fd ⟨us,[]⟩ ((["calls"]:List Str).zip us)) ∧
   ∀ base:Heap,K.In base→base.Ns mainGlobals mg→eI P w K mg base CX0 9 fa fd ["calls"] (ki K):=by
 obtain ⟨f,fd,F,hm,_⟩:=T.f_answers
 have e:=hfa.symm.trans hm
 cases e
 refine ⟨fd,fun s us hu=> ?_,fun base _ _=>p8 T F⟩
 obtain ⟨oc,od,kV,doc,pm,an,cdv,ct,osl,rfl,_,_⟩:=F.ex
 exact .of_eq (oI kV doc pm an cdv ct us hu)
end Sl
section
namespace PySem.W.Fast
def tw15735404828657259792:=()
def tw2707273880168897639:=()
def tw3532607049408568050:=()
def tw14800801085441793722:=()
def tw2905029839131674370:=()
def tw5649740057664066101:=()
def tw12451314767095614235:=()
def tw11057030063627222543:=()
def tw6005516891254834067:=()
def tw8828768514257921874:=()
def tw3441158980539977612:=()
def tw14510911877933541307:=()
def tw1047984025550052200:=()
def tw1720451946485110410:=()
def tw10534697845313632872:=()
def tw11947872319864784940:=()
def tw9851886576333334347:=()
def tw6408893859033972237:=()
def tw17319818763241361206:=()
def tw11784082270102191006:=()
def tw7530733791851386543:=()
def tw3954497009229912582:=()
def tw5214236931884532305:=()
def tw15038228916660298570:=()
def tw11095450153052122348:=()
def tw13480591936235149050:=()
def tw3108096924902939679:=()
def tw1762803452403533035:=()
def tw5924565664286191031:=()
def tw10764976505642064525:=()
def tw2322248649257350614:=()
def tw1852741488691622374:=()
def tw17702003049399065563:=()
def tw18442918349359706971:=()
def tw5978006526150425594:=()
def tw12827638031931715584:=()
def tw5625521611658258789:=()
def tw1040846258727031533:=()
def tw12574500689999024140:=()
def tw15210733578718914552:=()
def tw14402752790853123858:=()
def tw16380539855655228123:=()
def tw6710404858158829799:=()
def tw12517064717686211925:=()
def tw17216399719532037803:=()
def tw8114096020859424218:=()
def tw994203412050688666:=()
def tw3756851149800634856:=()
def tw12635226353534103497:=()
def tw4704661838169796908:=()
def tw8877322846404432209:=()
def tw13389382108672861348:=()
def tw7102294153783271929:=()
def tw17852239860266029162:=()
def tw13028618170478298772:=()
def tw3001190753149220815:=()
def tw9702224671373084200:=()
def tw13579499253413666717:=()
def tw6478762232824608688:=()
def tw17373041368908620945:=()
def tw13513036050614640677:=()
def tw11017999836518112893:=()
def tw15430631581792874811:=()
def tw12970351832976163754:=()
def tw9204576263293454309:=()
def tw9897808929630770281:=()
def tw7917814583631174705:=()
def tw5147975150416933591:=()
def tw9080715076410844003:=()
def tw5148952912081267734:=()
def tw1601147391889995075:=()
def tw13714146503595415454:=()
def tw5285306141003503679:=()
def tw18115996889481182652:=()
def tw2538079275380706654:=()
def tw1425803201601877204:=()
def tw2385521817878143580:=()
def tw17640295138872167359:=()
def tw2009060385450128071:=()
def tw12947929898609773634:=()
def tw1716449420127885495:=()
def tw7038206666902394723:=()
def tw10295983064624643662:=()
def tw15336853842685214830:=()
def tw4605001386337807626:=()
def tw7880821549226049272:=()
def tw16367164334889540991:=()
def tw6609425055787619156:=()
def tw5222857286455316539:=()
def tw7283770821738781357:=()
def tw12135879952355644367:=()
def tw18182476353007245530:=()
def tw18029316537984127733:=()
def tw4883013312822685872:=()
def tw17180538829544514808:=()
def tw6585323281471031061:=()
def tw5364747966252477042:=()
def tw6871574625174972651:=()
def tw7870175537706940194:=()
def tw7452755831822259535:=()
def tw566681780105950256:=()
def tw4579323005532310002:=()
def tw15934741843086702180:=()
def tw6788825769937557956:=()
def tw4337736828831871204:=()
def tw5328851344264825742:=()
def tw15828839775848648942:=()
def tw2998117525576997593:=()
def tw1008901361515491662:=()
def tw7256511582909073861:=()
def tw6172318625588084638:=()
def tw9884208246263723348:=()
def tw1040043526140256692:=()
def tw15890892521848857754:=()
def tw6670148829545938092:=()
def tw1863868313075545926:=()
def tw9070811818985316448:=()
def tw15963856032948223527:=()
def tw2716454136919765877:=()
def tw14250268467769120620:=()
def tw2922384793610096009:=()
def tw11624823250065520707:=()
def tw409591248224959438:=()
def tw7387221291271995202:=()
def tw10470527396534091027:=()
def tw11654232952730621718:=()
def tw5400038142285671863:=()
def tw14037388196868302819:=()
def tw857763084701801669:=()
def tw4791908964157011203:=()
def tw15456615855397081213:=()
def tw17420346680478884398:=()
def tw9335782634941165769:=()
def tw12297226511332251478:=()
def tw9993356179459696852:=()
def tw13995967608105246736:=()
def tw7365527805998869093:=()
def tw7926574204369810130:=()
def tw12524401225681616398:=()
def tw16533249930745686485:=()
def tw6178204662899141871:=()
def tw226835776593207515:=()
def tw8665146137450304111:=()
def tw2463281586343188676:=()
def tw15907747566782970503:=()
def tw11532278112854041265:=()
def tw15662297195529172119:=()
def tw16565731517785295417:=()
def tw752395697017768558:=()
def tw18418249949423265297:=()
def tw5485339058437127909:=()
def tw14943014349607078408:=()
def tw1624655008025265118:=()
def tw2703457899582379322:=()
def tw13718170359944093255:=()
def tw13018796956330038324:=()
def tw980352909732857811:=()
def tw2459119237024124694:=()
def tw3109029086556366176:=()
def tw13141152458676649124:=()
def tw15489620541176217838:=()
def tw8566194596311612032:=()
def tw11039710944733370973:=()
def tw8909823844804109141:=()
def tw8615321055900262570:=()
def tw14511000387630774227:=()
def tw1478439812407656262:=()
def tw8918586386840753215:=()
def tw4380053595765466615:=()
def tw8451760488286068862:=()
def tw15923091826853410697:=()
def tw13113695608746829810:=()
def tw5083661062193725547:=()
def tw14072734844714823475:=()
def tw2078960188393864189:=()
def tw4413975464648040844:=()
def tw3535750864448697147:=()
def tw9203880011633318884:=()
def tw8888264343609865518:=()
def tw18056028982429428963:=()
def tw9994558036843474012:=()
def tw7525656041525569876:=()
def tw927144743687581226:=()
def tw616116230741944311:=()
def tw5716287993850855352:=()
def tw13899191905325664255:=()
def tw2296454268961426384:=()
def tw8014942949482340328:=()
def tw4360413973602700455:=()
def tw18324775412206579022:=()
def tw8947719992797815619:=()
def tw13536559569287669323:=()
def tw11238092474334441372:=()
def tw329306097716665825:=()
def tw3056923064867785622:=()
def tw16803094170457622870:=()
def tw2071592482321521087:=()
def tw14328637085739727547:=()
def tw17983908464643531769:=()
def tw5632606012795538368:=()
def tw7264608215104191644:=()
def tw8944253364118498022:=()
def tw15071547430939117405:=()
def tw17435885015471074364:=()
def tw1703403911452795827:=()
def tw15995794814681736306:=()
def tw14603768269367735435:=()
def tw4411299117358842850:=()
def tw2742043650106657680:=()
def tw5026761039763486385:=()
def tw18404513131068151521:=()
def tw7534053557512330442:=()
def tw16378473633240391032:=()
def tw1841889854894415012:=()
def tw308083666432241474:=()
def tw6676950255171719:=()
def tw16988287503768794423:=()
def tw9109825001206805670:=()
def tw3021527098505100312:=()
def tw932736691395150228:=()
def tw8251227360431240892:=()
def tw16237103823279299029:=()
def tw6048294936911673394:=()
def tw12398181546935319509:=()
def tw9680692637578844122:=()
def tw13154352358014014812:=()
def tw11239620566714491763:=()
def tw7314001289096303693:=()
def tw17784012377699380228:=()
def tw6864271190882283460:=()
def tw11643092919713717718:=()
def tw9263249763428434095:=()
def tw1021984570559949632:=()
def tw5913622303175974490:=()
def tw3541254141939274193:=()
def tw14163006201754340920:=()
def tw15656315843082581270:=()
def tw8537898909545619313:=()
def tw11794380525736797334:=()
def tw5388234292650826067:=()
end PySem.W.Fast
open PySem PySem.W PyProof.Rows
set_option maxRecDepth 100000 in
set_option maxHeartbeats 0 in
theorem PySem.Challenge.cw_sheetslent_s01_answers_holds : PySem.Challenge.rw_sheetslent_s01_answers.Holds := by
 w_on;k_headS;(case hw=>exact ⟨[.list [.int 27]],by decide +kernel,by decide +kernel⟩)
 k_fillS
 refine L2.walk_specPK (r:=PySem.Challenge.rw_sheetslent_s01_answers) (k:=9) (CX:=L2.CX0) (ps:=["calls"]) (sp:=Sl.ki) (by decide +kernel) rfl rfl ⟨rfl,by decide,by decide⟩ (fun w h Y=>PySem.W.kIn_of Y) ?F ?S (fun _ _ _ _ z=>z)
 case F=>
  intro w mg fa h Y KX G hmg
  have hc_Person:=Sl.cl_at KX "Person" (by k_is)
  have hc_Loan:=Sl.cl_at KX "Loan" (by k_is)
  have hc_Determination:=Sl.cl_at KX "Determination" (by k_is)
  have hc_Sheet:=Sl.cl_at KX "Sheet" (by k_is)
  have hc_Entry:=Sl.cl_at KX "Entry" (by k_is)
  have hc_Ledger:=Sl.cl_at KX "Ledger" (by k_is)
  have f_is_key:=Sl.fn_mk KX G Sl.bn_is_key (by k_is) (by k_is) (by k_is) (by k_is)
  have f_is_day:=Sl.fn_mk KX G Sl.bn_is_day (by k_is) (by k_is) (by k_is) (by k_is)
  have f_is_rank:=Sl.fn_mk KX G Sl.bn_is_rank (by k_is) (by k_is) (by k_is) (by k_is)
  have f_is_right_list:=Sl.fn_mk KX G Sl.bn_is_right_list (by k_is) (by k_is) (by k_is) (by k_is)
  have f_holder_of:=Sl.fn_mk KX G Sl.bn_holder_of (by k_is) (by k_is) (by k_is) (by k_is)
  have f_last_loan_of:=Sl.fn_mk KX G Sl.bn_last_loan_of (by k_is) (by k_is) (by k_is) (by k_is)
  have f_is_gone:=Sl.fn_mk KX G Sl.bn_is_gone (by k_is) (by k_is) (by k_is) (by k_is)
  have f_sheets_with:=Sl.fn_mk KX G Sl.bn_sheets_with (by k_is) (by k_is) (by k_is) (by k_is)
  have f_list_refusal:=Sl.fn_mk KX G Sl.bn_list_refusal (by k_is) (by k_is) (by k_is) (by k_is)
  have f_unlent_sheet_refusal:=Sl.fn_mk KX G Sl.kS (by k_is) (by k_is) (by k_is) (by k_is)
  have f_lend_refusal:=Sl.fn_mk KX G Sl.bn_lend_refusal (by k_is) (by k_is) (by k_is) (by k_is)
  have f_loan_refusal:=Sl.fn_mk KX G Sl.bn_loan_refusal (by k_is) (by k_is) (by k_is) (by k_is)
  have f_lent_sheets_refusal:=Sl.fn_mk KX G Sl.mF (by k_is) (by k_is) (by k_is) (by k_is)
  have f_do_lend:=Sl.fn_mk KX G Sl.bn_do_lend (by k_is) (by k_is) (by k_is) (by k_is)
  have f_back_refusal:=Sl.fn_mk KX G Sl.bn_back_refusal (by k_is) (by k_is) (by k_is) (by k_is)
  have f_do_back:=Sl.fn_mk KX G Sl.bn_do_back (by k_is) (by k_is) (by k_is) (by k_is)
  have f_cede_refusal:=Sl.fn_mk KX G Sl.bn_cede_refusal (by k_is) (by k_is) (by k_is) (by k_is)
  have f_do_cede:=Sl.fn_mk KX G Sl.bn_do_cede (by k_is) (by k_is) (by k_is) (by k_is)
  have f_extend_refusal:=Sl.fn_mk KX G Sl.pP (by k_is) (by k_is) (by k_is) (by k_is)
  have f_is_due_before:=Sl.fn_mk KX G Sl.bn_is_due_before (by k_is) (by k_is) (by k_is) (by k_is)
  have f_do_extend:=Sl.fn_mk KX G Sl.bn_do_extend (by k_is) (by k_is) (by k_is) (by k_is)
  have f_new_keys:=Sl.fn_mk KX G Sl.bn_new_keys (by k_is) (by k_is) (by k_is) (by k_is)
  have f_new_sheets_refusal:=Sl.fn_mk KX G Sl.mJ (by k_is) (by k_is) (by k_is) (by k_is)
  have f_gather_refusal:=Sl.fn_mk KX G Sl.q5 (by k_is) (by k_is) (by k_is) (by k_is)
  have f_do_gather:=Sl.fn_mk KX G Sl.bn_do_gather (by k_is) (by k_is) (by k_is) (by k_is)
  have f_split_refusal:=Sl.fn_mk KX G Sl.qt (by k_is) (by k_is) (by k_is) (by k_is)
  have f_part_of:=Sl.fn_mk KX G Sl.bn_part_of (by k_is) (by k_is) (by k_is) (by k_is)
  have f_do_split:=Sl.fn_mk KX G Sl.bn_do_split (by k_is) (by k_is) (by k_is) (by k_is)
  have f_destroy_refusal:=Sl.fn_mk KX G Sl.oW (by k_is) (by k_is) (by k_is) (by k_is)
  have f_do_destroy:=Sl.fn_mk KX G Sl.bn_do_destroy (by k_is) (by k_is) (by k_is) (by k_is)
  have f_determine_refusal:=Sl.fn_mk KX G Sl.n6 (by k_is) (by k_is) (by k_is) (by k_is)
  have f_do_determine:=Sl.fn_mk KX G Sl.bn_do_determine (by k_is) (by k_is) (by k_is) (by k_is)
  have f_typify_refusal:=Sl.fn_mk KX G Sl.qd (by k_is) (by k_is) (by k_is) (by k_is)
  have f_do_typify:=Sl.fn_mk KX G Sl.bn_do_typify (by k_is) (by k_is) (by k_is) (by k_is)
  have f_counting_weights:=Sl.fn_mk KX G Sl.nR (by k_is) (by k_is) (by k_is) (by k_is)
  have f_name_and_weight:=Sl.fn_mk KX G Sl.o7 (by k_is) (by k_is) (by k_is) (by k_is)
  have f_add_house:=Sl.fn_mk KX G Sl.bn_add_house (by k_is) (by k_is) (by k_is) (by k_is)
  have f_add_person:=Sl.fn_mk KX G Sl.bn_add_person (by k_is) (by k_is) (by k_is) (by k_is)
  have f_move_refusal:=Sl.fn_mk KX G Sl.bn_move_refusal (by k_is) (by k_is) (by k_is) (by k_is)
  have f_do_move:=Sl.fn_mk KX G Sl.bn_do_move (by k_is) (by k_is) (by k_is) (by k_is)
  have f_rank_refusal:=Sl.fn_mk KX G Sl.bn_rank_refusal (by k_is) (by k_is) (by k_is) (by k_is)
  have f_do_rank:=Sl.fn_mk KX G Sl.bn_do_rank (by k_is) (by k_is) (by k_is) (by k_is)
  have f_status_refusal:=Sl.fn_mk KX G Sl.qh (by k_is) (by k_is) (by k_is) (by k_is)
  have f_put_status:=Sl.fn_mk KX G Sl.bn_put_status (by k_is) (by k_is) (by k_is) (by k_is)
  have f_arrive_refusal:=Sl.fn_mk KX G Sl.pI (by k_is) (by k_is) (by k_is) (by k_is)
  have f_do_arrive:=Sl.fn_mk KX G Sl.bn_do_arrive (by k_is) (by k_is) (by k_is) (by k_is)
  have f_lose_refusal:=Sl.fn_mk KX G Sl.bn_lose_refusal (by k_is) (by k_is) (by k_is) (by k_is)
  have f_do_lose:=Sl.fn_mk KX G Sl.bn_do_lose (by k_is) (by k_is) (by k_is) (by k_is)
  have f_find_refusal:=Sl.fn_mk KX G Sl.bn_find_refusal (by k_is) (by k_is) (by k_is) (by k_is)
  have f_do_find:=Sl.fn_mk KX G Sl.bn_do_find (by k_is) (by k_is) (by k_is) (by k_is)
  have f_give_refusal:=Sl.fn_mk KX G Sl.bn_give_refusal (by k_is) (by k_is) (by k_is) (by k_is)
  have f_do_give:=Sl.fn_mk KX G Sl.bn_do_give (by k_is) (by k_is) (by k_is) (by k_is)
  have f_enter:=Sl.fn_mk KX G Sl.bn_enter (by k_is) (by k_is) (by k_is) (by k_is)
  have f_own_refusal:=Sl.fn_mk KX G Sl.bn_own_refusal (by k_is) (by k_is) (by k_is) (by k_is)
  have f_carry_out:=Sl.fn_mk KX G Sl.bn_carry_out (by k_is) (by k_is) (by k_is) (by k_is)
  have f_loan_told:=Sl.fn_mk KX G Sl.bn_loan_told (by k_is) (by k_is) (by k_is) (by k_is)
  have f_persons_at_first:=Sl.fn_mk KX G Sl.nU (by k_is) (by k_is) (by k_is) (by k_is)
  have f_ledger_at:=Sl.fn_mk KX G Sl.bn_ledger_at (by k_is) (by k_is) (by k_is) (by k_is)
  have f_names_sheet:=Sl.fn_mk KX G Sl.bn_names_sheet (by k_is) (by k_is) (by k_is) (by k_is)
  have f_ask:=Sl.fn_mk KX G Sl.bn_ask (by k_is) (by k_is) (by k_is) (by k_is)
  have f_ask_of_sheet:=Sl.fn_mk KX G Sl.bn_ask_of_sheet (by k_is) (by k_is) (by k_is) (by k_is)
  have f_ask_of_house:=Sl.fn_mk KX G Sl.bn_ask_of_house (by k_is) (by k_is) (by k_is) (by k_is)
  have f_told_list:=Sl.fn_mk KX G Sl.bn_told_list (by k_is) (by k_is) (by k_is) (by k_is)
  have f_told_rows:=Sl.fn_mk KX G Sl.bn_told_rows (by k_is) (by k_is) (by k_is) (by k_is)
  have f_where:=Sl.fn_mk KX G Sl.bn_where (by k_is) (by k_is) (by k_is) (by k_is)
  have f_custody:=Sl.fn_mk KX G Sl.bn_custody (by k_is) (by k_is) (by k_is) (by k_is)
  have f_dets:=Sl.fn_mk KX G Sl.bn_dets (by k_is) (by k_is) (by k_is) (by k_is)
  have f_is_held_here:=Sl.fn_mk KX G Sl.bn_is_held_here (by k_is) (by k_is) (by k_is) (by k_is)
  have f_keys_inside:=Sl.fn_mk KX G Sl.bn_keys_inside (by k_is) (by k_is) (by k_is) (by k_is)
  have f_books:=Sl.fn_mk KX G Sl.bn_books (by k_is) (by k_is) (by k_is) (by k_is)
  have f_overdue:=Sl.fn_mk KX G Sl.bn_overdue (by k_is) (by k_is) (by k_is) (by k_is)
  have f_gathering:=Sl.fn_mk KX G Sl.bn_gathering (by k_is) (by k_is) (by k_is) (by k_is)
  have f_typified_keys:=Sl.fn_mk KX G Sl.bn_typified_keys (by k_is) (by k_is) (by k_is) (by k_is)
  have f_history:=Sl.fn_mk KX G Sl.bn_history (by k_is) (by k_is) (by k_is) (by k_is)
  have f_answers:=Sl.fn_mk KX G Sl.oI (by k_is) (by k_is) (by k_is) (by k_is)
  have f_answer_of:=Sl.fn_mk KX G Sl.bn_answer_of (by k_is) (by k_is) (by k_is) (by k_is)
  have m_Person:=Sl.mk_mk KX G Sl.bn_Person_init hc_Person (by k_is) (by k_is) (by k_is) (by k_is) (by k_is) (by k_is) (by k_is)
  have m_Loan:=Sl.mk_mk KX G Sl.bn_Loan_init hc_Loan (by k_is) (by k_is) (by k_is) (by k_is) (by k_is) (by k_is) (by k_is)
  have m_Determination:=Sl.mk_mk KX G Sl.mK hc_Determination (by k_is) (by k_is) (by k_is) (by k_is) (by k_is) (by k_is) (by k_is)
  have m_Sheet:=Sl.mk_mk KX G Sl.bn_Sheet_init hc_Sheet (by k_is) (by k_is) (by k_is) (by k_is) (by k_is) (by k_is) (by k_is)
  have m_Entry:=Sl.mk_mk KX G Sl.bn_Entry_init hc_Entry (by k_is) (by k_is) (by k_is) (by k_is) (by k_is) (by k_is) (by k_is)
  have m_Ledger:=Sl.mk_mk KX G Sl.bn_Ledger_init hc_Ledger (by k_is) (by k_is) (by k_is) (by k_is) (by k_is) (by k_is) (by k_is)
  have me_Ledger_last_day:=Sl.me_mk hc_Ledger Sl.on (by k_is) (by k_is) (by k_is) (by k_is) (by k_is)
  have T:Sl.Txt _ mg ⟨_,_,_,_,_,_⟩:=⟨f_is_key,f_is_day,f_is_rank,f_is_right_list,f_holder_of,f_last_loan_of,f_is_gone,f_sheets_with,f_list_refusal,f_unlent_sheet_refusal,f_lend_refusal,f_loan_refusal,f_lent_sheets_refusal,f_do_lend,f_back_refusal,f_do_back,f_cede_refusal,f_do_cede,f_extend_refusal,f_is_due_before,f_do_extend,f_new_keys,f_new_sheets_refusal,f_gather_refusal,f_do_gather,f_split_refusal,f_part_of,f_do_split,f_destroy_refusal,f_do_destroy,f_determine_refusal,f_do_determine,f_typify_refusal,f_do_typify,f_counting_weights,f_name_and_weight,f_add_house,f_add_person,f_move_refusal,f_do_move,f_rank_refusal,f_do_rank,f_status_refusal,f_put_status,f_arrive_refusal,f_do_arrive,f_lose_refusal,f_do_lose,f_find_refusal,f_do_find,f_give_refusal,f_do_give,f_enter,f_own_refusal,f_carry_out,f_loan_told,f_persons_at_first,f_ledger_at,f_names_sheet,f_ask,f_ask_of_sheet,f_ask_of_house,f_told_list,f_told_rows,f_where,f_custody,f_dets,f_is_held_here,f_keys_inside,f_books,f_overdue,f_gathering,f_typified_keys,f_history,f_answers,f_answer_of,m_Person,⟨by k_is,by k_is,by k_is,by k_is⟩,(by unfold L2.aZ;k_is),(by unfold L2.aZ;k_is),(by unfold L2.aZ;k_is),(by unfold L2.aZ;k_is),m_Loan,⟨by k_is,by k_is,by k_is,by k_is⟩,(by unfold L2.aZ;k_is),(by unfold L2.aZ;k_is),(by unfold L2.aZ;k_is),(by unfold L2.aZ;k_is),m_Determination,⟨by k_is,by k_is,by k_is,by k_is⟩,(by unfold L2.aZ;k_is),(by unfold L2.aZ;k_is),(by unfold L2.aZ;k_is),(by unfold L2.aZ;k_is),(by unfold L2.aZ;k_is),m_Sheet,⟨by k_is,by k_is,by k_is,by k_is⟩,(by unfold L2.aZ;k_is),(by unfold L2.aZ;k_is),(by unfold L2.aZ;k_is),(by unfold L2.aZ;k_is),(by unfold L2.aZ;k_is),(by unfold L2.aZ;k_is),m_Entry,⟨by k_is,by k_is,by k_is,by k_is⟩,(by unfold L2.aZ;k_is),(by unfold L2.aZ;k_is),(by unfold L2.aZ;k_is),(by unfold L2.aZ;k_is),m_Ledger,⟨by k_is,by k_is,by k_is,by k_is⟩,(by unfold L2.aZ;k_is),(by unfold L2.aZ;k_is),(by unfold L2.aZ;k_is),(by unfold L2.aZ;k_is),(by unfold L2.aZ;k_is),(by unfold L2.aZ;k_is),me_Ledger_last_day,(PySem.W.mg_none_of KX G (by k_is)),(PySem.W.mg_none_of KX G (by k_is)),(PySem.W.mg_none_of KX G (by k_is)),(PySem.W.mg_none_of KX G (by k_is)),(PySem.W.mg_none_of KX G (by k_is)),(PySem.W.mg_none_of KX G (by k_is)),(PySem.W.mg_none_of KX G (by k_is)),(PySem.W.mg_none_of KX G (by k_is)),(PySem.W.mg_none_of KX G (by k_is)),(PySem.W.mg_none_of KX G (by k_is)),(PySem.W.mg_none_of KX G (by k_is)),(Sl.gi_mk KX G (by k_is) ⟨_,rfl⟩),(Sl.gi_mk KX G (by k_is) ⟨_,rfl⟩),(Sl.gi_mk KX G (by k_is) ⟨_,rfl⟩),(Sl.gi_mk KX G (by k_is) ⟨_,rfl⟩),(Sl.gi_mk KX G (by k_is) ⟨_,rfl⟩),(Sl.gi_mk KX G (by k_is) ⟨_,rfl⟩),(Sl.gi_mk KX G (by k_is) ⟨_,rfl⟩),(Sl.gi_mk KX G (by k_is) ⟨_,rfl⟩),(Sl.gi_mk KX G (by k_is) ⟨_,rfl⟩),(Sl.gi_mk KX G (by k_is) ⟨_,rfl⟩),(Sl.gi_mk KX G (by k_is) ⟨_,rfl⟩),(Sl.gi_mk KX G (by k_is) ⟨_,rfl⟩),(Sl.gi_mk KX G (by k_is) ⟨_,rfl⟩),(Sl.gi_mk KX G (by k_is) ⟨_,rfl⟩),(Sl.gi_mk KX G (by k_is) ⟨_,rfl⟩),(Sl.gi_mk KX G (by k_is) ⟨_,rfl⟩),(Sl.gi_mk KX G (by k_is) ⟨_,rfl⟩),(Sl.gi_mk KX G (by k_is) ⟨_,rfl⟩),(Sl.gi_mk KX G (by k_is) ⟨_,rfl⟩),(Sl.gi_mk KX G (by k_is) ⟨_,rfl⟩),(Sl.gi_mk KX G (by k_is) ⟨_,rfl⟩),(Sl.gi_mk KX G (by k_is) ⟨_,rfl⟩),(Sl.gi_mk KX G (by k_is) ⟨_,rfl⟩),(Sl.gi_mk KX G (by k_is) ⟨_,rfl⟩),(Sl.gi_mk KX G (by k_is) ⟨_,rfl⟩),(Sl.gi_mk KX G (by k_is) ⟨_,rfl⟩),(Sl.gi_mk KX G (by k_is) ⟨_,rfl⟩),(Sl.gi_mk KX G (by k_is) ⟨_,rfl⟩),(Sl.gi_mk KX G (by k_is) ⟨_,rfl⟩),(Sl.gi_mk KX G (by k_is) ⟨_,rfl⟩),(Sl.gi_mk KX G (by k_is) ⟨_,rfl⟩),(Sl.gi_mk KX G (by k_is) ⟨_,rfl⟩),(Sl.gi_mk KX G (by k_is) ⟨_,rfl⟩),(Sl.gi_mk KX G (by k_is) ⟨_,rfl⟩),(Sl.gi_mk KX G (by k_is) ⟨_,rfl⟩),(Sl.gi_mk KX G (by k_is) ⟨_,rfl⟩),(Sl.gi_mk KX G (by k_is) ⟨_,rfl⟩),(Sl.gi_mk KX G (by k_is) ⟨_,rfl⟩),(Sl.gi_mk KX G (by k_is) ⟨_,rfl⟩),(Sl.gi_mk KX G (by k_is) ⟨_,rfl⟩),(Sl.gi_mk KX G (by k_is) ⟨_,rfl⟩),(Sl.gi_mk KX G (by k_is) ⟨_,rfl⟩),(Sl.gt_mk KX G (by k_is) (by k_is) (by decide) (by repeat constructor)),(Sl.gt_mk KX G (by k_is) (by k_is) (by decide) (by repeat constructor))⟩
  exact Sl.top_mk hmg T
 case S=>
  intro K H xs a hO hwi hask hx
  cases hx with
  | cons h1 h2=>
   cases h2
   cases h1 with
   | lst hs ha=>
    have e:=L2.ints_dw a.1 _ ha
    subst e
    exact ⟨_,a.1,rfl,hs,hO.plain,hask,fun H' p hp=>.lst (L2.SqL.of hp) (L2.dw_ints _)⟩
end
