/- A token, all ways together. -/
import Derived.Test.YtgmlbjfgfmfliaaGreatDoorA13
import Derived.Deep.RegionHeld3
namespace Go.Proofs.YtgmlbjfgfmfliaaGreatDoor
open Go Go.RowKit
theorem lineF_suf : ∀ (n : Nat) (l t r : Bs),lineF n l = some (t,r) → r <:+ l
 | 0,_,_,_,h => by cases h
 | n + 1,l,t,r,h => by
  unfold lineF at h
  by_cases h1 : List.isPrefixOf [34] l = true
  ·rw [if_pos h1] at h
   cases h
   exact drop_suf 1 l
  ·rw [if_neg h1] at h
   by_cases h2 : List.isPrefixOf [92] l = true
   ·rw [if_pos h2] at h
    cases he : escS (l.drop 1) with
    | none => rw [he] at h;cases h
    | some p =>
     rw [he] at h
     cases hl : lineF n p.2 with
     | none => simp only [Option.bind_some,hl] at h;cases h
     | some q =>
      simp only [Option.bind_some,hl,Option.map_some,Option.some.injEq,Prod.mk.injEq] at h
      have:=lineF_suf n p.2 q.1 q.2 hl
      rw [← h.2]
      exact this.trans ((escS_facts (show escS (l.drop 1) = some (p.1,p.2) from he)).2.2.trans (drop_suf 1 l))
   ·rw [if_neg h2] at h
    cases l with
    | nil => cases h
    | cons c l =>
     simp only at h
     by_cases h3 : endL.contains c = true
     ·rw [if_pos h3] at h;cases h
     ·rw [if_neg h3] at h
      cases hl : lineF n l with
      | none => simp only [hl] at h;cases h
      | some q =>
       simp only [hl,Option.map_some,Option.some.injEq,Prod.mk.injEq] at h
       have:=lineF_suf n l q.1 q.2 hl
       rw [← h.2]
       exact this.trans (tail_suf c l)
theorem rawF_facts : ∀ (n : Nat) (l t r : Bs),rawF n l = some (t,r) → r <:+ l ∧ t.length ≤ l.length
 | 0,_,_,_,h => by cases h
 | n + 1,l,t,r,h => by
  unfold rawF at h
  by_cases h1 : List.isPrefixOf [34,34,34] l = true
  ·rw [if_pos h1] at h
   cases h
   exact ⟨drop_suf 3 l,Nat.zero_le _⟩
  ·rw [if_neg h1] at h
   by_cases h2 : List.isPrefixOf [92,34,34,34] l = true
   ·rw [if_pos h2] at h
    have hp:=prefix_le h2
    simp only [List.length_cons,List.length_nil] at hp
    cases hl : rawF n (l.drop 4) with
    | none => simp only [hl] at h;cases h
    | some q =>
     simp only [hl,Option.map_some,Option.some.injEq,Prod.mk.injEq] at h
     obtain ⟨g1,g2⟩:=rawF_facts n (l.drop 4) q.1 q.2 hl
     rw [List.length_drop] at g2
     rw [← h.2,← h.1]
     exact ⟨g1.trans (drop_suf 4 l),by simp only [List.length_cons];omega⟩
   ·rw [if_neg h2] at h
    cases l with
    | nil => cases h
    | cons c l =>
     simp only at h
     cases hl : rawF n l with
     | none => simp only [hl] at h;cases h
     | some q =>
      simp only [hl,Option.map_some,Option.some.injEq,Prod.mk.injEq] at h
      obtain ⟨g1,g2⟩:=rawF_facts n l q.1 q.2 hl
      rw [← h.2,← h.1]
      exact ⟨g1.trans (tail_suf c l),by simp only [List.length_cons];omega⟩
section
variable {R : Nat} {s : Bs}
/-- What is asked of all that was read. -/
theorem text_end (l m : Bs) (hl : l <:+ s) (hs : s.length ≤ 16384) (w : World) (A2 : Int) (hA : (sourceS ⟨(ahead l m).toArray⟩).2 = A2) : Calls Tryz.prog 179 #[.string ⟨(ahead l m).toArray⟩] w fun e w' => (∃ a,e = .returned (.tuple #[.int .i64 a,.int .i64 A2])) ∧ Below w.heap.size w w':=by
 have:=hl.length_le
 refine (source_any ⟨(ahead l m).toArray⟩ w (by rw [size_of];unfold ahead;rw [List.length_take];omega)).mono ?_
 rintro e w' ⟨rfl,hb⟩
 exact ⟨⟨_,by rw [hA]⟩,hb⟩
set_option maxHeartbeats 4000000 in
theorem text_line (l : Bs) (w : World) (h : Rd w R s (s.length - l.length) l) (hq : List.isPrefixOf [34] l = true) (hb : List.isPrefixOf [34,34,34] l = false) :
  Calls Tryz.prog 145 #[.pointer (some ⟨R,0,none⟩)] w (StrP R s (s.length - l.length) w ((lineS (l.drop 1)).bind fun p => if (srcB (ahead l p.2)).isSome then none else some p)):=by
 have T:=take_no (R:=R) (s:=s) (b:=s.length - l.length) [34,34,34] l hb w h
 have L:=fun w h => line_any (R:=R) (s:=s) (b:=s.length - l.length) l w h hq
 have hsuf:=h.suf
 have hsm:=h.small
 cases hn : lineS (l.drop 1) with
 | none =>
  rw [hn] at L
  clear hn hb hq h
  go_enter Tryz.func145,Tryz.ntmps145
  go_wp2_with (first
   | (go_at_call 184;refine (L _ hr1).mono ?_;rintro e w2 ⟨rfl,hk2⟩)
   | (go_at_call 138;refine T.mono ?_;rintro e w1 ⟨rfl,hr1,hk1⟩)
   | fail)
  exact ⟨rfl,rfl,hk1.trans hk2⟩
 | some p =>
  rw [hn] at L
  have hp2 : p.2 <:+ l:=(lineF_suf _ _ p.1 p.2 hn).trans (drop_suf 1 l)
  have hcut:=cut_ahead hsuf hp2
  have hle:=hp2.length_le
  have hle2:=hsuf.length_le
  have fin : ∀ w3,Rd w3 R s (s.length - l.length) p.2 → w3.cell? ⟨R,0,none⟩ = some (.string ⟨s.toArray⟩) ∧ w3.cell? ⟨R,1,none⟩ = some (.int .i64 ((s.length - l.length : Nat) : Int)) ∧ w3.cell? ⟨R,2,none⟩ = some (.int .i64 ((s.length - p.2.length : Nat) : Int)):=fun w3 h3 => ⟨h3.c0,h3.c1,h3.c2⟩
  have hsz:=size_of s
  have g1 : ((s.length - l.length : Nat) : Int) ≤ ((s.length - p.2.length : Nat) : Int):=by omega
  have g2 : ((s.length - p.2.length : Nat) : Int) ≤ (s.length : Int):=by omega
  have g3 : (0 : Int) ≤ ((s.length - l.length : Nat) : Int):=by omega
  show Calls _ _ _ _ (StrP R s (s.length - l.length) w (if (srcB (ahead l p.2)).isSome then none else some p))
  rcases sourceS_cases (ahead l p.2) with ⟨e1,e2⟩ | ⟨k,hk,e1,e2⟩
  ·rw [e1]
   have S:=fun w => text_end l p.2 hsuf hsm w 0 e2
   clear hn hb hq h e1 e2 hle hle2 hp2 hsuf hsm
   generalize (ByteArray.mk (ahead l p.2).toArray) = X at *
   generalize s.length - l.length = A at *
   generalize s.length - p.2.length = C at *
   obtain ⟨D,hD⟩ : ∃ D,ByteArray.mk s.toArray = D:=⟨_,rfl⟩
   rw [hD] at hcut hsz
   simp only [hD] at fin
   clear hD
   go_enter Tryz.func145,Tryz.ntmps145
   go_wp2_with (first
    | (go_at_call 184;refine (L _ hr1).mono ?_;rintro e w2 ⟨⟨rfl,hr2⟩,hk2⟩;obtain ⟨d0,d1,d2⟩:=fin _ hr2)
    | (go_at_call 138;refine T.mono ?_;rintro e w1 ⟨rfl,hr1,hk1⟩)
    | fail)
   go_region_held3 (fun w' => w'.cell? ⟨R,0,none⟩ = some (.string D) ∧ w'.cell? ⟨R,1,none⟩ = some (.int .i64 (A : Int)) ∧ w'.cell? ⟨R,2,none⟩ = some (.int .i64 (C : Int))) (go_keep)
    ((go_at_call 179;refine (S _).mono ?_;rintro e w4 ⟨⟨a,rfl⟩,hb4⟩;have hr4:=(hr2.drewN 1).below hb4 hr2.lt;obtain ⟨f0,f1,f2⟩:=fin _ hr4))
   all_goals
    go_wp2
    go_ret
    exact ⟨⟨rfl,hr4⟩,((hk1.trans hk2).drewN 1).then_below (hb4.mono (hk1.trans hk2).size)⟩
  ·rw [e1]
   have S:=fun w => text_end l p.2 hsuf hsm w 10 (by rw [e2])
   clear hn hb hq h e1 e2 hle hle2 hp2 hsuf hsm hk
   generalize (ByteArray.mk (ahead l p.2).toArray) = X at *
   generalize s.length - l.length = A at *
   generalize s.length - p.2.length = C at *
   obtain ⟨D,hD⟩ : ∃ D,ByteArray.mk s.toArray = D:=⟨_,rfl⟩
   rw [hD] at hcut hsz
   simp only [hD] at fin
   clear hD
   go_enter Tryz.func145,Tryz.ntmps145
   go_wp2_with (first
    | (go_at_call 184;refine (L _ hr1).mono ?_;rintro e w2 ⟨⟨rfl,hr2⟩,hk2⟩;obtain ⟨d0,d1,d2⟩:=fin _ hr2)
    | (go_at_call 138;refine T.mono ?_;rintro e w1 ⟨rfl,hr1,hk1⟩)
    | fail)
   go_region_held3 (fun w' => w'.cell? ⟨R,0,none⟩ = some (.string D) ∧ w'.cell? ⟨R,1,none⟩ = some (.int .i64 (A : Int)) ∧ w'.cell? ⟨R,2,none⟩ = some (.int .i64 (C : Int))) (go_keep)
    ((go_at_call 179;refine (S _).mono ?_;rintro e w4 ⟨⟨a,rfl⟩,hb4⟩;have hr4:=(hr2.drewN 1).below hb4 hr2.lt;obtain ⟨f0,f1,f2⟩:=fin _ hr4))
   all_goals
    go_wp2_with (go_at_call 100;refine (fail_any _ _ _ hr4).mono ?_;rintro e w5 ⟨rfl,rfl⟩)
    exact ⟨rfl,rfl,((hk1.trans hk2).drewN 1).then_below (hb4.mono (hk1.trans hk2).size)⟩
set_option maxHeartbeats 4000000 in
theorem text_raw (l : Bs) (w : World) (h : Rd w R s (s.length - l.length) l) (hb : List.isPrefixOf [34,34,34] l = true) :
  Calls Tryz.prog 145 #[.pointer (some ⟨R,0,none⟩)] w (StrP R s (s.length - l.length) w ((rawS (l.drop 3)).bind fun p => if (srcB (ahead l p.2)).isSome then none else some (blockS p.1,p.2))):=by
 have T : Calls Tryz.prog 138 #[.pointer (some ⟨R,0,none⟩),.string ⟨#[34,34,34]⟩] w fun e w' => e = .returned (.bool true) ∧ Rd w' R s (s.length - l.length) (l.drop 3) ∧ Kp (Own1 R) w w':=take_yes (R:=R) (s:=s) (b:=s.length - l.length) [34,34,34] l hb w h
 have L:=fun w h => raw_any (R:=R) (s:=s) (b:=s.length - l.length) (l.drop 3) w h
 have hsuf:=h.suf
 have hsm:=h.small
 cases hn : rawS (l.drop 3) with
 | none =>
  rw [hn] at L
  clear hn hb h
  go_enter Tryz.func145,Tryz.ntmps145
  go_wp2_with (first
   | (go_at_call 183;refine (L _ hr1).mono ?_;rintro e w2 ⟨rfl,hk2⟩)
   | (go_at_call 138;refine T.mono ?_;rintro e w1 ⟨rfl,hr1,hk1⟩)
   | fail)
  exact ⟨rfl,rfl,hk1.trans hk2⟩
 | some p =>
  rw [hn] at L
  obtain ⟨hp1,hpl⟩:=rawF_facts _ _ p.1 p.2 hn
  have hp2 : p.2 <:+ l:=hp1.trans (drop_suf 3 l)
  have hcut:=cut_ahead hsuf hp2
  have hle:=hp2.length_le
  have hle2:=hsuf.length_le
  have BK:=fun w g => block_any p.1 (by rw [List.length_drop] at hpl;omega) w g
  have fin : ∀ w3,Rd w3 R s (s.length - l.length) p.2 → w3.cell? ⟨R,0,none⟩ = some (.string ⟨s.toArray⟩) ∧ w3.cell? ⟨R,1,none⟩ = some (.int .i64 ((s.length - l.length : Nat) : Int)) ∧ w3.cell? ⟨R,2,none⟩ = some (.int .i64 ((s.length - p.2.length : Nat) : Int)):=fun w3 h3 => ⟨h3.c0,h3.c1,h3.c2⟩
  have hsz:=size_of s
  have g1 : ((s.length - l.length : Nat) : Int) ≤ ((s.length - p.2.length : Nat) : Int):=by omega
  have g2 : ((s.length - p.2.length : Nat) : Int) ≤ (s.length : Int):=by omega
  have g3 : (0 : Int) ≤ ((s.length - l.length : Nat) : Int):=by omega
  clear hp1 hpl
  show Calls _ _ _ _ (StrP R s (s.length - l.length) w (if (srcB (ahead l p.2)).isSome then none else some (blockS p.1,p.2)))
  rcases sourceS_cases (ahead l p.2) with ⟨e1,e2⟩ | ⟨k,hk,e1,e2⟩
  ·rw [e1]
   have S:=fun w => text_end l p.2 hsuf hsm w 0 e2
   clear hn hb h e1 e2 hle hle2 hp2 hsuf hsm
   generalize (ByteArray.mk (ahead l p.2).toArray) = X at *
   generalize s.length - l.length = A at *
   generalize s.length - p.2.length = C at *
   obtain ⟨D,hD⟩ : ∃ D,ByteArray.mk s.toArray = D:=⟨_,rfl⟩
   rw [hD] at hcut hsz
   simp only [hD] at fin
   clear hD
   go_enter Tryz.func145,Tryz.ntmps145
   go_wp2_with (first
    | (go_at_call 182;refine (BK _ hr0.gl).mono ?_;rintro e w2 ⟨rfl,hb2⟩;have hr2:=hr0.below hb2 hr0.lt;obtain ⟨d0,d1,d2⟩:=fin _ hr2)
    | (go_at_call 183;refine (L _ hr1).mono ?_;rintro e w0 ⟨⟨rfl,hr0⟩,hk0⟩)
    | (go_at_call 138;refine T.mono ?_;rintro e w1 ⟨rfl,hr1,hk1⟩)
    | fail)
   go_region_held3 (fun w' => w'.cell? ⟨R,0,none⟩ = some (.string D) ∧ w'.cell? ⟨R,1,none⟩ = some (.int .i64 (A : Int)) ∧ w'.cell? ⟨R,2,none⟩ = some (.int .i64 (C : Int))) (go_keep)
    ((go_at_call 179;refine (S _).mono ?_;rintro e w4 ⟨⟨a,rfl⟩,hb4⟩;have hr4:=(hr2.drewN 1).below hb4 hr2.lt;obtain ⟨f0,f1,f2⟩:=fin _ hr4))
   all_goals
    go_wp2
    go_ret
    exact ⟨⟨rfl,hr4⟩,(((hk1.trans hk0).trans (Kp.of_below hb2)).drewN 1).then_below (hb4.mono ((hk1.trans hk0).trans (Kp.of_below hb2)).size)⟩
  ·rw [e1]
   have S:=fun w => text_end l p.2 hsuf hsm w 10 (by rw [e2])
   clear hn hb h e1 e2 hle hle2 hp2 hsuf hsm hk
   generalize (ByteArray.mk (ahead l p.2).toArray) = X at *
   generalize s.length - l.length = A at *
   generalize s.length - p.2.length = C at *
   obtain ⟨D,hD⟩ : ∃ D,ByteArray.mk s.toArray = D:=⟨_,rfl⟩
   rw [hD] at hcut hsz
   simp only [hD] at fin
   clear hD
   go_enter Tryz.func145,Tryz.ntmps145
   go_wp2_with (first
    | (go_at_call 182;refine (BK _ hr0.gl).mono ?_;rintro e w2 ⟨rfl,hb2⟩;have hr2:=hr0.below hb2 hr0.lt;obtain ⟨d0,d1,d2⟩:=fin _ hr2)
    | (go_at_call 183;refine (L _ hr1).mono ?_;rintro e w0 ⟨⟨rfl,hr0⟩,hk0⟩)
    | (go_at_call 138;refine T.mono ?_;rintro e w1 ⟨rfl,hr1,hk1⟩)
    | fail)
   go_region_held3 (fun w' => w'.cell? ⟨R,0,none⟩ = some (.string D) ∧ w'.cell? ⟨R,1,none⟩ = some (.int .i64 (A : Int)) ∧ w'.cell? ⟨R,2,none⟩ = some (.int .i64 (C : Int))) (go_keep)
    ((go_at_call 179;refine (S _).mono ?_;rintro e w4 ⟨⟨a,rfl⟩,hb4⟩;have hr4:=(hr2.drewN 1).below hb4 hr2.lt;obtain ⟨f0,f1,f2⟩:=fin _ hr4))
   all_goals
    go_wp2_with (go_at_call 100;refine (fail_any _ _ _ hr4).mono ?_;rintro e w5 ⟨rfl,rfl⟩)
    exact ⟨rfl,rfl,(((hk1.trans hk0).trans (Kp.of_below hb2)).drewN 1).then_below (hb4.mono ((hk1.trans hk0).trans (Kp.of_below hb2)).size)⟩
theorem text_any (l : Bs) (w : World) (h : Rd w R s (s.length - l.length) l) (hq : headIn [34] l = true) : Calls Tryz.prog 145 #[.pointer (some ⟨R,0,none⟩)] w (StrP R s (s.length - l.length) w (textS l)):=by
 have hq' : List.isPrefixOf [34] l = true:=by
  cases l with
  | nil => cases hq
  | cons c l =>
   have : c = 34:=by simpa [headIn] using hq
   subst this
   simp [List.isPrefixOf]
 by_cases hb : List.isPrefixOf [34,34,34] l = true
 ·have e : textS l = ((rawS (l.drop 3)).bind fun p => if (srcB (ahead l p.2)).isSome then none else some (blockS p.1,p.2)):=by
   unfold textS textR
   rw [if_pos hb,rawF_fuel (l.length + 1) ((l.drop 3).length + 1) (l.drop 3) (by rw [List.length_drop];omega) (by omega)]
   show ((rawS (l.drop 3)).map _).bind _ = _
   cases rawS (l.drop 3) <;> rfl
  rw [e]
  exact text_raw l w h hb
 ·have e : textS l = ((lineS (l.drop 1)).bind fun p => if (srcB (ahead l p.2)).isSome then none else some p):=by
   unfold textS textR
   rw [if_neg hb,lineF_fuel (l.length + 1) ((l.drop 1).length + 1) (l.drop 1) (by rw [List.length_drop];omega) (by omega)]
   rfl
  rw [e]
  exact text_line l w h hq' (Bool.eq_false_iff.2 hb)
end
end Go.Proofs.YtgmlbjfgfmfliaaGreatDoor
namespace Go.Proofs.YtgmlbjfgfmfliaaGreatDoor
open Go Go.RowKit
section
variable {R : Nat} {s : Bs}
/-- What a token comes to. -/
def TokP (R : Nat) (s : Bs) (l : Bs) (w : World) (r : TR) (e : Ending) (w' : World) : Prop:=(match r with
  | .ok k t m => e = .returned (tokV k t (s.length - l.length) (s.length - m.length)) ∧ Rd w' R s (s.length - l.length) m
  | .bad x => e = Dies (s.length - l.length) x) ∧ Kp (Own1 R) w w'
/-- The result's cells, as they are laid. -/
abbrev tok0 : Obj:=.cells #[.int .i64 0,.string ⟨#[]⟩,.int .i64 0,.int .i64 0] 78
/-- Four stores into the result. -/
def put4 (w : World) (B : Nat) (a b c d : Value) : World:=(((w.setCell ⟨B,0,none⟩ a).setCell ⟨B,1,none⟩ b).setCell ⟨B,2,none⟩ c).setCell ⟨B,3,none⟩ d
theorem res_blk {w w' : World} (hk : Kp (Own1 R) (w.alloc tok0) w') (hR : R < w.heap.size) : w'.heap[w.heap.size]? = some (.cells #[.int .i64 0,.string ⟨#[]⟩,.int .i64 0,.int .i64 0] 78 (0,0)) :=
 (hk.block w.heap.size (by simp) (fun e => by have e' : w.heap.size = R:=e;omega)).trans (heap_alloc_new _ _)
theorem res_cells {w w' : World} (hk : Kp (Own1 R) (w.alloc tok0) w') (hR : R < w.heap.size) : (w'.cell? ⟨w.heap.size,0,none⟩ = some (.int .i64 0) ∧ w'.cell? ⟨w.heap.size,1,none⟩ = some (.string ⟨#[]⟩) ∧ w'.cell? ⟨w.heap.size,2,none⟩ = some (.int .i64 0) ∧ w'.cell? ⟨w.heap.size,3,none⟩ = some (.int .i64 0)) ∧ ∀ i,w'.frozen? ⟨w.heap.size,i,none⟩ = false:=by
 have h:=res_blk hk hR
 exact ⟨⟨by simp [World.cell?,h],by simp [World.cell?,h],by simp [World.cell?,h],by simp [World.cell?,h]⟩,fun i => frozen_of_row w' _ i _ _ h⟩
theorem Rd.other {w : World} {b B : Nat} {l : Bs} (h : Rd w R s b l) (i : Nat) (v : Value) (hB : R < B) : Rd (w.setCell ⟨B,i,none⟩ v) R s b l:=by
 have hk : Kp (Own1 B) w (w.setCell ⟨B,i,none⟩ v):=Kp.own B i v
 have h1:=h.hi
 exact ⟨(hk.block R h.lt (fun e => by have e' : R = B:=e;omega)).trans h.row,h.suf,h.small,h.gl.kp hk (fun e => by have e' : gM = B:=e;omega) (fun e => by have e' : gE = B:=e;omega),h.hi⟩
theorem put4_facts {w w' : World} {b : Nat} {l : Bs} (hr : Rd w' R s b l) (hk : Kp (Own1 R) (w.alloc tok0) w') (hR : R < w.heap.size) (k : Int) (t : Bs) (x y : Nat) :
  Rd (put4 w' w.heap.size (.int .i64 k) (.string ⟨t.toArray⟩) (.int .i64 (x : Int)) (.int .i64 (y : Int))) R s b l ∧ Kp (Own1 R) w (put4 w' w.heap.size (.int .i64 k) (.string ⟨t.toArray⟩) (.int .i64 (x : Int)) (.int .i64 (y : Int))) ∧
  (put4 w' w.heap.size (.int .i64 k) (.string ⟨t.toArray⟩) (.int .i64 (x : Int)) (.int .i64 (y : Int))).heap[w.heap.size]? = some (.cells #[.int .i64 k,.string ⟨t.toArray⟩,.int .i64 (x : Int),.int .i64 (y : Int)] 78 (0,0)):=by
 unfold put4
 refine ⟨(((hr.other _ _ hR).other _ _ hR).other _ _ hR).other _ _ hR,(((((((Kp.refl (Own1 R) w).alloc tok0).trans hk).set _ _ _ (Or.inl (Nat.le_refl _))).set _ _ _ (Or.inl (Nat.le_refl _))).set _ _ _ (Or.inl (Nat.le_refl _))).set _ _ _ (Or.inl (Nat.le_refl _))),?_⟩
 have h0:=res_blk hk hR
 have h1:=heap_setCell_same _ _ 0 _ _ (.int .i64 k) h0
 have h2:=heap_setCell_same _ _ 1 _ _ (.string ⟨t.toArray⟩) h1
 have h3:=heap_setCell_same _ _ 2 _ _ (.int .i64 (x : Int)) h2
 exact heap_setCell_same _ _ 3 _ _ (.int .i64 (y : Int)) h3
theorem tok_ret {fn : Func} {B : Nat} {W : World} {tmps : Array Value} {k : Int} {t : Bs} {x y : Nat} (h : W.heap[B]? = some (.cells #[.int .i64 k,.string ⟨t.toArray⟩,.int .i64 (x : Int),.int .i64 (y : Int)] 78 (0,0))) (hf : fn.results = #[.cell 2 78]) (ht : tmps[2]? = some (.pointer (some ⟨B,0,none⟩))) :
  (results fn tmps).run Tryz.prog W = .ok (tokV k t x y) W:=by
 have c0 : W.cell? ⟨B,0,none⟩ = some (.int .i64 k):=by simp [World.cell?,h]
 have c1 : W.cell? ⟨B,1,none⟩ = some (.string ⟨t.toArray⟩):=by simp [World.cell?,h]
 have c2 : W.cell? ⟨B,2,none⟩ = some (.int .i64 (x : Int)):=by simp [World.cell?,h]
 have c3 : W.cell? ⟨B,3,none⟩ = some (.int .i64 (y : Int)):=by simp [World.cell?,h]
 simp [results,hf,go_sem,ht,c0,c1,c2,c3]
theorem written_is (k : Int) (l m : Bs) (hm : m <:+ l) : ∀ w,Rd w R s (s.length - l.length) m → l <:+ s → Calls Tryz.prog 142 #[.pointer (some ⟨R,0,none⟩),.int .i64 k] w fun e w' => e = .returned (tokV k (ahead l m) (s.length - l.length) (s.length - m.length)) ∧ Rd w' R s (s.length - l.length) m ∧ Kp (Own1 R) w w':=fun w h hl => written_any k l m w h hl hm
/-- A step of the reader, in whatever world. -/
abbrev Stp (f : FuncId) (R : Nat) (s : Bs) (b : Nat) (l : Bs) (more : Array Value) (v : Value) (m : Bs) : Prop:=∀ w,Rd w R s b l → Calls Tryz.prog f (#[.pointer (some ⟨R,0,none⟩)] ++ more) w fun e w' => e = .returned v ∧ Rd w' R s b m ∧ Kp (Own1 R) w w'
/-- What a token comes to, said of letters. -/
def TokQ (R : Nat) (s : Bs) (b : Nat) (w : World) (k : Int) (t : Bs) (y : Nat) (m : Bs) (e : Ending) (w' : World) : Prop:=(e = .returned (tokV k t b y) ∧ Rd w' R s b m) ∧ Kp (Own1 R) w w'
set_option maxHeartbeats 4000000 in
theorem tokw_pun (b y : Nat) (l m : Bs) (t : Bs) (O1 : ∀ w,Rd w R s b l → Calls Tryz.prog 141 #[.pointer (some ⟨R,0,none⟩),.string ⟨punL.toArray⟩] w fun e w' => e = .returned (.bool true) ∧ Rd w' R s b m ∧ Kp (Own1 R) w w') (W : ∀ w,Rd w R s b m → Calls Tryz.prog 142 #[.pointer (some ⟨R,0,none⟩),.int .i64 0] w fun e w' => e = .returned (tokV 0 t b y) ∧ Rd w' R s b m ∧ Kp (Own1 R) w w') (w : World) (h : Rd w R s b l) : Calls Tryz.prog 101 #[.pointer (some ⟨R,0,none⟩)] w (TokQ R s b w 0 t y m):=by
 have hR:=h.lt
 have h0:=h.alloc tok0
 have PF:=fun (w' : World) (hr : Rd w' R s b m) (hk : Kp (Own1 R) (w.alloc tok0) w') => put4_facts hr hk hR 0 t b y
 have RC:=fun (w' : World) (hk : Kp (Own1 R) (w.alloc tok0) w') => res_cells hk hR
 clear h
 go_enter Tryz.func101,Tryz.ntmps101
 go_wp2_with (first
  | (go_at_call 142;refine (W _ hr1).mono ?_;rintro e w2 ⟨rfl,hr2,hk2⟩;obtain ⟨⟨q0,q1,q2,q3⟩,qf⟩:=RC _ (hk1.trans hk2))
  | (go_at_call 141;refine (O1 _ h0).mono ?_;rintro e w1 ⟨rfl,hr1,hk1⟩)
  | fail)
 obtain ⟨p1,p2,p3⟩:=PF _ hr2 (hk1.trans hk2)
 exact bodyPost_ret (tok_ret p3 rfl rfl) rfl ⟨⟨rfl,p1⟩,p2⟩
set_option maxHeartbeats 4000000 in
theorem tokw_dot (b y : Nat) (l m : Bs) (t : Bs) (O1 : ∀ w,Rd w R s b l → Calls Tryz.prog 141 #[.pointer (some ⟨R,0,none⟩),.string ⟨punL.toArray⟩] w fun e w' => e = .returned (.bool false) ∧ Rd w' R s b l ∧ Kp (Own1 R) w w') (T2 : ∀ w,Rd w R s b l → Calls Tryz.prog 138 #[.pointer (some ⟨R,0,none⟩),.string ⟨#[46,46,46]⟩] w fun e w' => e = .returned (.bool true) ∧ Rd w' R s b m ∧ Kp (Own1 R) w w') (W : ∀ w,Rd w R s b m → Calls Tryz.prog 142 #[.pointer (some ⟨R,0,none⟩),.int .i64 0] w fun e w' => e = .returned (tokV 0 t b y) ∧ Rd w' R s b m ∧ Kp (Own1 R) w w') (w : World) (h : Rd w R s b l) : Calls Tryz.prog 101 #[.pointer (some ⟨R,0,none⟩)] w (TokQ R s b w 0 t y m):=by
 have hR:=h.lt
 have h0:=h.alloc tok0
 have PF:=fun (w' : World) (hr : Rd w' R s b m) (hk : Kp (Own1 R) (w.alloc tok0) w') => put4_facts hr hk hR 0 t b y
 have RC:=fun (w' : World) (hk : Kp (Own1 R) (w.alloc tok0) w') => res_cells hk hR
 clear h
 go_enter Tryz.func101,Tryz.ntmps101
 go_wp2_with (first
  | (go_at_call 142;refine (W _ hr2).mono ?_;rintro e w3 ⟨rfl,hr3,hk3⟩;obtain ⟨⟨q0,q1,q2,q3⟩,qf⟩:=RC _ ((hk1.trans hk2).trans hk3))
  | (go_at_call 138;refine (T2 _ hr1).mono ?_;rintro e w2 ⟨rfl,hr2,hk2⟩)
  | (go_at_call 141;refine (O1 _ h0).mono ?_;rintro e w1 ⟨rfl,hr1,hk1⟩)
  | fail)
 obtain ⟨p1,p2,p3⟩:=PF _ hr3 ((hk1.trans hk2).trans hk3)
 exact bodyPost_ret (tok_ret p3 rfl rfl) rfl ⟨⟨rfl,p1⟩,p2⟩
set_option maxHeartbeats 4000000 in
theorem tokw_let (b y : Nat) (l m : Bs) (t : Bs) (m1 : Bs) (B4 : Bool) (O1 : ∀ w,Rd w R s b l → Calls Tryz.prog 141 #[.pointer (some ⟨R,0,none⟩),.string ⟨punL.toArray⟩] w fun e w' => e = .returned (.bool false) ∧ Rd w' R s b l ∧ Kp (Own1 R) w w') (T2 : ∀ w,Rd w R s b l → Calls Tryz.prog 138 #[.pointer (some ⟨R,0,none⟩),.string ⟨#[46,46,46]⟩] w fun e w' => e = .returned (.bool false) ∧ Rd w' R s b l ∧ Kp (Own1 R) w w') (O3 : ∀ w,Rd w R s b l → Calls Tryz.prog 141 #[.pointer (some ⟨R,0,none⟩),.string ⟨letL.toArray⟩] w fun e w' => e = .returned (.bool true) ∧ Rd w' R s b m1 ∧ Kp (Own1 R) w w') (R4 : ∀ w,Rd w R s b m1 → Calls Tryz.prog 137 #[.pointer (some ⟨R,0,none⟩),.string ⟨(letL ++ digL).toArray⟩] w fun e w' => e = .returned (.bool B4) ∧ Rd w' R s b m ∧ Kp (Own1 R) w w') (W : ∀ w,Rd w R s b m → Calls Tryz.prog 142 #[.pointer (some ⟨R,0,none⟩),.int .i64 1] w fun e w' => e = .returned (tokV 1 t b y) ∧ Rd w' R s b m ∧ Kp (Own1 R) w w') (w : World) (h : Rd w R s b l) : Calls Tryz.prog 101 #[.pointer (some ⟨R,0,none⟩)] w (TokQ R s b w 1 t y m):=by
 have hR:=h.lt
 have h0:=h.alloc tok0
 have PF:=fun (w' : World) (hr : Rd w' R s b m) (hk : Kp (Own1 R) (w.alloc tok0) w') => put4_facts hr hk hR 1 t b y
 have RC:=fun (w' : World) (hk : Kp (Own1 R) (w.alloc tok0) w') => res_cells hk hR
 clear h
 go_enter Tryz.func101,Tryz.ntmps101
 go_wp2_with (first
  | (go_at_call 142;refine (W _ hr4).mono ?_;rintro e w5 ⟨rfl,hr5,hk5⟩;obtain ⟨⟨q0,q1,q2,q3⟩,qf⟩:=RC _ ((((hk1.trans hk2).trans hk3).trans hk4).trans hk5))
  | (go_at_call 137;refine (R4 _ hr3).mono ?_;rintro e w4 ⟨rfl,hr4,hk4⟩)
  | (go_at_call 141;refine (O3 _ hr2).mono ?_;rintro e w3 ⟨rfl,hr3,hk3⟩)
  | (go_at_call 138;refine (T2 _ hr1).mono ?_;rintro e w2 ⟨rfl,hr2,hk2⟩)
  | (go_at_call 141;refine (O1 _ h0).mono ?_;rintro e w1 ⟨rfl,hr1,hk1⟩)
  | fail)
 obtain ⟨p1,p2,p3⟩:=PF _ hr5 ((((hk1.trans hk2).trans hk3).trans hk4).trans hk5)
 exact bodyPost_ret (tok_ret p3 rfl rfl) rfl ⟨⟨rfl,p1⟩,p2⟩
set_option maxHeartbeats 4000000 in
theorem tokw_num (b y : Nat) (l m : Bs) (t : Bs) (k : Int) (O1 : ∀ w,Rd w R s b l → Calls Tryz.prog 141 #[.pointer (some ⟨R,0,none⟩),.string ⟨punL.toArray⟩] w fun e w' => e = .returned (.bool false) ∧ Rd w' R s b l ∧ Kp (Own1 R) w w') (T2 : ∀ w,Rd w R s b l → Calls Tryz.prog 138 #[.pointer (some ⟨R,0,none⟩),.string ⟨#[46,46,46]⟩] w fun e w' => e = .returned (.bool false) ∧ Rd w' R s b l ∧ Kp (Own1 R) w w') (O3 : ∀ w,Rd w R s b l → Calls Tryz.prog 141 #[.pointer (some ⟨R,0,none⟩),.string ⟨letL.toArray⟩] w fun e w' => e = .returned (.bool false) ∧ Rd w' R s b l ∧ Kp (Own1 R) w w') (S4 : ∀ w,Rd w R s b l → Calls Tryz.prog 143 #[.pointer (some ⟨R,0,none⟩),.string ⟨(45 :: digL).toArray⟩] w fun e w' => e = .returned (.bool true) ∧ Rd w' R s b l ∧ Kp (Own1 R) w w') (N5 : ∀ w,Rd w R s b l → Calls Tryz.prog 144 #[.pointer (some ⟨R,0,none⟩)] w fun e w' => e = .returned (.int .i64 k) ∧ Rd w' R s b m ∧ Kp (Own1 R) w w') (W : ∀ w,Rd w R s b m → Calls Tryz.prog 142 #[.pointer (some ⟨R,0,none⟩),.int .i64 k] w fun e w' => e = .returned (tokV k t b y) ∧ Rd w' R s b m ∧ Kp (Own1 R) w w') (w : World) (h : Rd w R s b l) : Calls Tryz.prog 101 #[.pointer (some ⟨R,0,none⟩)] w (TokQ R s b w k t y m):=by
 have hR:=h.lt
 have h0:=h.alloc tok0
 have PF:=fun (w' : World) (hr : Rd w' R s b m) (hk : Kp (Own1 R) (w.alloc tok0) w') => put4_facts hr hk hR k t b y
 have RC:=fun (w' : World) (hk : Kp (Own1 R) (w.alloc tok0) w') => res_cells hk hR
 clear h
 go_enter Tryz.func101,Tryz.ntmps101
 go_wp2_with (first
  | (go_at_call 142;refine (W _ hr5).mono ?_;rintro e w6 ⟨rfl,hr6,hk6⟩;obtain ⟨⟨q0,q1,q2,q3⟩,qf⟩:=RC _ (((((hk1.trans hk2).trans hk3).trans hk4).trans hk5).trans hk6))
  | (go_at_call 144;refine (N5 _ hr4).mono ?_;rintro e w5 ⟨rfl,hr5,hk5⟩)
  | (go_at_call 143;refine (S4 _ hr3).mono ?_;rintro e w4 ⟨rfl,hr4,hk4⟩)
  | (go_at_call 141;refine (O3 _ hr2).mono ?_;rintro e w3 ⟨rfl,hr3,hk3⟩)
  | (go_at_call 138;refine (T2 _ hr1).mono ?_;rintro e w2 ⟨rfl,hr2,hk2⟩)
  | (go_at_call 141;refine (O1 _ h0).mono ?_;rintro e w1 ⟨rfl,hr1,hk1⟩)
  | fail)
 obtain ⟨p1,p2,p3⟩:=PF _ hr6 (((((hk1.trans hk2).trans hk3).trans hk4).trans hk5).trans hk6)
 exact bodyPost_ret (tok_ret p3 rfl rfl) rfl ⟨⟨rfl,p1⟩,p2⟩
set_option maxHeartbeats 4000000 in
theorem tokw_numx (b : Nat) (l : Bs) (O1 : ∀ w,Rd w R s b l → Calls Tryz.prog 141 #[.pointer (some ⟨R,0,none⟩),.string ⟨punL.toArray⟩] w fun e w' => e = .returned (.bool false) ∧ Rd w' R s b l ∧ Kp (Own1 R) w w') (T2 : ∀ w,Rd w R s b l → Calls Tryz.prog 138 #[.pointer (some ⟨R,0,none⟩),.string ⟨#[46,46,46]⟩] w fun e w' => e = .returned (.bool false) ∧ Rd w' R s b l ∧ Kp (Own1 R) w w') (O3 : ∀ w,Rd w R s b l → Calls Tryz.prog 141 #[.pointer (some ⟨R,0,none⟩),.string ⟨letL.toArray⟩] w fun e w' => e = .returned (.bool false) ∧ Rd w' R s b l ∧ Kp (Own1 R) w w') (S4 : ∀ w,Rd w R s b l → Calls Tryz.prog 143 #[.pointer (some ⟨R,0,none⟩),.string ⟨(45 :: digL).toArray⟩] w fun e w' => e = .returned (.bool true) ∧ Rd w' R s b l ∧ Kp (Own1 R) w w') (N5 : ∀ w,Rd w R s b l → Calls Tryz.prog 144 #[.pointer (some ⟨R,0,none⟩)] w fun e w' => e = Dies b 51 ∧ Kp (Own1 R) w w') (w : World) (h : Rd w R s b l) : Calls Tryz.prog 101 #[.pointer (some ⟨R,0,none⟩)] w fun e w' => e = Dies b 51 ∧ Kp (Own1 R) w w':=by
 have h0:=h.alloc tok0
 have K0 : Kp (Own1 R) w (w.alloc tok0):=(Kp.refl _ w).alloc _
 have C1:=fun (w' : World) (hr : Rd w' R s b l) => hr.c1
 clear h
 go_enter Tryz.func101,Tryz.ntmps101
 go_wp2_with (first
  | (go_at_call 144;refine (N5 _ hr4).mono ?_;rintro e w5 ⟨rfl,hk5⟩)
  | (go_at_call 143;refine (S4 _ hr3).mono ?_;rintro e w4 ⟨rfl,hr4,hk4⟩)
  | (go_at_call 141;refine (O3 _ hr2).mono ?_;rintro e w3 ⟨rfl,hr3,hk3⟩)
  | (go_at_call 138;refine (T2 _ hr1).mono ?_;rintro e w2 ⟨rfl,hr2,hk2⟩)
  | (go_at_call 141;refine (O1 _ h0).mono ?_;rintro e w1 ⟨rfl,hr1,hk1⟩)
  | fail)
 exact ⟨rfl,rfl,K0.trans ((((hk1.trans hk2).trans hk3).trans hk4).trans hk5)⟩
set_option maxHeartbeats 4000000 in
theorem tokw_textx (b : Nat) (l : Bs) (O1 : ∀ w,Rd w R s b l → Calls Tryz.prog 141 #[.pointer (some ⟨R,0,none⟩),.string ⟨punL.toArray⟩] w fun e w' => e = .returned (.bool false) ∧ Rd w' R s b l ∧ Kp (Own1 R) w w') (T2 : ∀ w,Rd w R s b l → Calls Tryz.prog 138 #[.pointer (some ⟨R,0,none⟩),.string ⟨#[46,46,46]⟩] w fun e w' => e = .returned (.bool false) ∧ Rd w' R s b l ∧ Kp (Own1 R) w w') (O3 : ∀ w,Rd w R s b l → Calls Tryz.prog 141 #[.pointer (some ⟨R,0,none⟩),.string ⟨letL.toArray⟩] w fun e w' => e = .returned (.bool false) ∧ Rd w' R s b l ∧ Kp (Own1 R) w w') (S4 : ∀ w,Rd w R s b l → Calls Tryz.prog 143 #[.pointer (some ⟨R,0,none⟩),.string ⟨(45 :: digL).toArray⟩] w fun e w' => e = .returned (.bool false) ∧ Rd w' R s b l ∧ Kp (Own1 R) w w') (S5 : ∀ w,Rd w R s b l → Calls Tryz.prog 143 #[.pointer (some ⟨R,0,none⟩),.string ⟨#[34]⟩] w fun e w' => e = .returned (.bool true) ∧ Rd w' R s b l ∧ Kp (Own1 R) w w') (N6 : ∀ w,Rd w R s b l → Calls Tryz.prog 145 #[.pointer (some ⟨R,0,none⟩)] w fun e w' => e = Dies b 52 ∧ Kp (Own1 R) w w') (w : World) (h : Rd w R s b l) : Calls Tryz.prog 101 #[.pointer (some ⟨R,0,none⟩)] w fun e w' => e = Dies b 52 ∧ Kp (Own1 R) w w':=by
 have h0:=h.alloc tok0
 have K0 : Kp (Own1 R) w (w.alloc tok0):=(Kp.refl _ w).alloc _
 have C1:=fun (w' : World) (hr : Rd w' R s b l) => hr.c1
 clear h
 go_enter Tryz.func101,Tryz.ntmps101
 go_wp2_with (first
  | (go_at_call 145;refine (N6 _ hr5).mono ?_;rintro e w6 ⟨rfl,hk6⟩)
  | (go_at_call 143;refine (S5 _ hr4).mono ?_;rintro e w5 ⟨rfl,hr5,hk5⟩)
  | (go_at_call 143;refine (S4 _ hr3).mono ?_;rintro e w4 ⟨rfl,hr4,hk4⟩)
  | (go_at_call 141;refine (O3 _ hr2).mono ?_;rintro e w3 ⟨rfl,hr3,hk3⟩)
  | (go_at_call 138;refine (T2 _ hr1).mono ?_;rintro e w2 ⟨rfl,hr2,hk2⟩)
  | (go_at_call 141;refine (O1 _ h0).mono ?_;rintro e w1 ⟨rfl,hr1,hk1⟩)
  | fail)
 exact ⟨rfl,rfl,K0.trans (((((hk1.trans hk2).trans hk3).trans hk4).trans hk5).trans hk6)⟩
set_option maxHeartbeats 4000000 in
theorem tokw_none (b : Nat) (l : Bs) (O1 : ∀ w,Rd w R s b l → Calls Tryz.prog 141 #[.pointer (some ⟨R,0,none⟩),.string ⟨punL.toArray⟩] w fun e w' => e = .returned (.bool false) ∧ Rd w' R s b l ∧ Kp (Own1 R) w w') (T2 : ∀ w,Rd w R s b l → Calls Tryz.prog 138 #[.pointer (some ⟨R,0,none⟩),.string ⟨#[46,46,46]⟩] w fun e w' => e = .returned (.bool false) ∧ Rd w' R s b l ∧ Kp (Own1 R) w w') (O3 : ∀ w,Rd w R s b l → Calls Tryz.prog 141 #[.pointer (some ⟨R,0,none⟩),.string ⟨letL.toArray⟩] w fun e w' => e = .returned (.bool false) ∧ Rd w' R s b l ∧ Kp (Own1 R) w w') (S4 : ∀ w,Rd w R s b l → Calls Tryz.prog 143 #[.pointer (some ⟨R,0,none⟩),.string ⟨(45 :: digL).toArray⟩] w fun e w' => e = .returned (.bool false) ∧ Rd w' R s b l ∧ Kp (Own1 R) w w') (S5 : ∀ w,Rd w R s b l → Calls Tryz.prog 143 #[.pointer (some ⟨R,0,none⟩),.string ⟨#[34]⟩] w fun e w' => e = .returned (.bool false) ∧ Rd w' R s b l ∧ Kp (Own1 R) w w') (w : World) (h : Rd w R s b l) : Calls Tryz.prog 101 #[.pointer (some ⟨R,0,none⟩)] w fun e w' => e = Dies b 50 ∧ Kp (Own1 R) w w':=by
 have h0:=h.alloc tok0
 have K0 : Kp (Own1 R) w (w.alloc tok0):=(Kp.refl _ w).alloc _
 have C1:=fun (w' : World) (hr : Rd w' R s b l) => hr.c1
 clear h
 go_enter Tryz.func101,Tryz.ntmps101
 go_wp2_with (first
  | (go_at_call 143;refine (S5 _ hr4).mono ?_;rintro e w5 ⟨rfl,hr5,hk5⟩;have c1:=C1 _ hr5)
  | (go_at_call 143;refine (S4 _ hr3).mono ?_;rintro e w4 ⟨rfl,hr4,hk4⟩)
  | (go_at_call 141;refine (O3 _ hr2).mono ?_;rintro e w3 ⟨rfl,hr3,hk3⟩)
  | (go_at_call 138;refine (T2 _ hr1).mono ?_;rintro e w2 ⟨rfl,hr2,hk2⟩)
  | (go_at_call 141;refine (O1 _ h0).mono ?_;rintro e w1 ⟨rfl,hr1,hk1⟩)
  | fail)
 exact ⟨rfl,rfl,K0.trans ((((hk1.trans hk2).trans hk3).trans hk4).trans hk5)⟩
set_option maxHeartbeats 4000000 in
theorem tokw_text (b y : Nat) (l m : Bs) (t : Bs) (O1 : ∀ w,Rd w R s b l → Calls Tryz.prog 141 #[.pointer (some ⟨R,0,none⟩),.string ⟨punL.toArray⟩] w fun e w' => e = .returned (.bool false) ∧ Rd w' R s b l ∧ Kp (Own1 R) w w') (T2 : ∀ w,Rd w R s b l → Calls Tryz.prog 138 #[.pointer (some ⟨R,0,none⟩),.string ⟨#[46,46,46]⟩] w fun e w' => e = .returned (.bool false) ∧ Rd w' R s b l ∧ Kp (Own1 R) w w') (O3 : ∀ w,Rd w R s b l → Calls Tryz.prog 141 #[.pointer (some ⟨R,0,none⟩),.string ⟨letL.toArray⟩] w fun e w' => e = .returned (.bool false) ∧ Rd w' R s b l ∧ Kp (Own1 R) w w') (S4 : ∀ w,Rd w R s b l → Calls Tryz.prog 143 #[.pointer (some ⟨R,0,none⟩),.string ⟨(45 :: digL).toArray⟩] w fun e w' => e = .returned (.bool false) ∧ Rd w' R s b l ∧ Kp (Own1 R) w w') (S5 : ∀ w,Rd w R s b l → Calls Tryz.prog 143 #[.pointer (some ⟨R,0,none⟩),.string ⟨#[34]⟩] w fun e w' => e = .returned (.bool true) ∧ Rd w' R s b l ∧ Kp (Own1 R) w w') (N6 : ∀ w,Rd w R s b l → Calls Tryz.prog 145 #[.pointer (some ⟨R,0,none⟩)] w fun e w' => e = .returned (.string ⟨t.toArray⟩) ∧ Rd w' R s b m ∧ Kp (Own1 R) w w') (hy : y = s.length - m.length) (w : World) (h : Rd w R s b l) : Calls Tryz.prog 101 #[.pointer (some ⟨R,0,none⟩)] w (TokQ R s b w 4 t y m):=by
 have hR:=h.lt
 have h0:=h.alloc tok0
 have PF:=fun (w' : World) (hr : Rd w' R s b m) (hk : Kp (Own1 R) (w.alloc tok0) w') => put4_facts hr hk hR 4 t b y
 have RC:=fun (w' : World) (hk : Kp (Own1 R) (w.alloc tok0) w') => res_cells hk hR
 have FC:=fun (w' : World) (hr : Rd w' R s b m) => And.intro hr.c1 hr.c2
 rw [← hy] at FC
 clear h hy
 go_enter Tryz.func101,Tryz.ntmps101
 go_wp2_with (first
  | (go_at_call 145;refine (N6 _ hr5).mono ?_;rintro e w6 ⟨rfl,hr6,hk6⟩;obtain ⟨d1,d2⟩:=FC _ hr6;obtain ⟨⟨q0,q1,q2,q3⟩,qf⟩:=RC _ (((((hk1.trans hk2).trans hk3).trans hk4).trans hk5).trans hk6))
  | (go_at_call 143;refine (S5 _ hr4).mono ?_;rintro e w5 ⟨rfl,hr5,hk5⟩)
  | (go_at_call 143;refine (S4 _ hr3).mono ?_;rintro e w4 ⟨rfl,hr4,hk4⟩)
  | (go_at_call 141;refine (O3 _ hr2).mono ?_;rintro e w3 ⟨rfl,hr3,hk3⟩)
  | (go_at_call 138;refine (T2 _ hr1).mono ?_;rintro e w2 ⟨rfl,hr2,hk2⟩)
  | (go_at_call 141;refine (O1 _ h0).mono ?_;rintro e w1 ⟨rfl,hr1,hk1⟩)
  | fail)
 go_region
 all_goals
  go_wp2
  obtain ⟨p1,p2,p3⟩:=PF _ hr6 (((((hk1.trans hk2).trans hk3).trans hk4).trans hk5).trans hk6)
  exact bodyPost_ret (tok_ret p3 rfl rfl) rfl ⟨⟨rfl,p1.drewN 1⟩,p2.drew⟩
end
end Go.Proofs.YtgmlbjfgfmfliaaGreatDoor
namespace Go.Proofs.YtgmlbjfgfmfliaaGreatDoor
open Go Go.RowKit
theorem needD_facts {l r : Bs} (h : needD l = some r) : r <:+ l ∧ r.length < l.length:=by
 unfold needD at h
 by_cases hh : headIn digL l = true
 ·rw [if_pos hh] at h
  cases h
  exact ⟨spanR_suf _ _,spanR_lt _ _ hh⟩
 ·rw [if_neg hh] at h;cases h
theorem numA_facts {l r : Bs} (h : numA l = some r) : r <:+ l ∧ r.length < l.length:=by
 unfold numA at h
 by_cases hh : List.isPrefixOf [48] l = true
 ·rw [if_pos hh] at h
  cases h
  have:=prefix_le hh
  simp only [List.length_cons,List.length_nil] at this
  exact ⟨drop_suf 1 l,by rw [List.length_drop];omega⟩
 ·rw [if_neg hh] at h
  exact needD_facts h
theorem numB_facts {l : Bs} {p : Int × Bs} (h : numB l = some p) : p.2 <:+ l:=by
 unfold numB at h
 by_cases hh : List.isPrefixOf [46] l = true
 ·rw [if_pos hh] at h
  cases hd : needD (l.drop 1) with
  | none => rw [hd] at h;cases h
  | some r => rw [hd] at h;cases h;exact (needD_facts hd).1.trans (drop_suf 1 l)
 ·rw [if_neg hh] at h
  cases h
  exact List.suffix_refl _
theorem numC_facts {k : Int} {l : Bs} {p : Int × Bs} (h : numC k l = some p) : p.2 <:+ l:=by
 unfold numC at h
 by_cases hh : headIn [101,69] l = true
 ·rw [if_pos hh] at h
  cases hd : needD (optO [43,45] (l.drop 1)) with
  | none => rw [hd] at h;cases h
  | some r => rw [hd] at h;cases h;exact (needD_facts hd).1.trans ((optO_suf _ _).trans (drop_suf 1 l))
 ·rw [if_neg hh] at h
  cases h
  exact List.suffix_refl _
theorem numS_facts {l : Bs} {p : Int × Bs} (h : numS l = some p) : p.2 <:+ l ∧ p.2.length < l.length:=by
 unfold numS at h
 cases h1 : numA (optT [45] l) with
 | none => rw [h1] at h;cases h
 | some l1 =>
  rw [h1,Option.bind_some] at h
  cases h2 : numB l1 with
  | none => rw [h2] at h;cases h
  | some q =>
   rw [h2,Option.bind_some] at h
   cases h3 : numC q.1 q.2 with
   | none => rw [h3] at h;cases h
   | some u =>
    rw [h3,Option.bind_some] at h
    unfold numD at h
    by_cases hh : headIn (digL ++ 46 :: letL) u.2 = true
    ·rw [if_pos hh] at h;cases h
    ·rw [if_neg hh] at h
     have h' : u = p:=by injection h
     subst h'
     have e1:=numA_facts h1
     have e2:=numB_facts h2
     have e3:=numC_facts h3
     have e0:=optT_suf [45] l
     refine ⟨e3.trans (e2.trans (e1.1.trans e0)),?_⟩
     have a3:=e3.length_le
     have a2:=e2.length_le
     have a0:=e0.length_le
     have a1:=e1.2
     omega
theorem textS_facts {l : Bs} {p : Bs × Bs} (h : textS l = some p) (hq : headIn [34] l = true) : p.2 <:+ l ∧ p.2.length < l.length:=by
 have hl : 0 < l.length:=by
  cases l with
  | nil => cases hq
  | cons c l => simp
 unfold textS textR at h
 by_cases hb : List.isPrefixOf [34,34,34] l = true
 ·rw [if_pos hb] at h
  have hp:=prefix_le hb
  simp only [List.length_cons,List.length_nil] at hp
  cases hr : rawF (l.length + 1) (l.drop 3) with
  | none => rw [hr] at h;cases h
  | some q =>
   rw [hr,Option.map_some,Option.bind_some] at h
   by_cases hs : (srcB (ahead l q.2)).isSome = true
   ·rw [if_pos hs] at h;cases h
   ·rw [if_neg hs] at h
    have h' : (blockS q.1,q.2) = p:=by injection h
    subst h'
    have h1:=(rawF_facts _ _ q.1 q.2 hr).1
    have h2:=h1.length_le
    rw [List.length_drop] at h2
    refine ⟨h1.trans (drop_suf 3 l),?_⟩
    show q.2.length < l.length
    omega
 ·rw [if_neg hb] at h
  cases hr : lineF (l.length + 1) (l.drop 1) with
  | none => rw [hr] at h;cases h
  | some q =>
   rw [hr,Option.bind_some] at h
   by_cases hs : (srcB (ahead l q.2)).isSome = true
   ·rw [if_pos hs] at h;cases h
   ·rw [if_neg hs] at h
    have h' : q = p:=by injection h
    subst h'
    have h1:=lineF_suf _ _ q.1 q.2 hr
    have h2:=h1.length_le
    rw [List.length_drop] at h2
    exact ⟨h1.trans (drop_suf 1 l),by omega⟩
theorem head_lt {S l : Bs} (h : headIn S l = true) : 0 < l.length:=by
 cases l with
 | nil => cases h
 | cons c l => simp
theorem tokS_facts {l t r : Bs} {k : Int} (h : tokS l = .ok k t r) : r <:+ l ∧ r.length < l.length:=by
 unfold tokS at h
 by_cases h1 : headIn punL l = true
 ·rw [if_pos h1] at h
  cases h
  have:=head_lt h1
  exact ⟨drop_suf 1 l,by rw [List.length_drop];omega⟩
 ·rw [if_neg h1] at h
  by_cases h2 : List.isPrefixOf [46,46,46] l = true
  ·rw [if_pos h2] at h
   cases h
   have:=prefix_le h2
   simp only [List.length_cons,List.length_nil] at this
   exact ⟨drop_suf 3 l,by rw [List.length_drop];omega⟩
  ·rw [if_neg h2] at h
   by_cases h3 : headIn letL l = true
   ·rw [if_pos h3] at h
    cases h
    have:=head_lt h3
    have h4:=(spanR_suf (letL ++ digL) (l.drop 1))
    exact ⟨h4.trans (drop_suf 1 l),by have:=h4.length_le;rw [List.length_drop] at this;omega⟩
   ·rw [if_neg h3] at h
    by_cases h4 : headIn (45 :: digL) l = true
    ·rw [if_pos h4] at h
     cases hn : numS l with
     | none => rw [hn] at h;cases h
     | some p => rw [hn] at h;cases h;exact numS_facts hn
    ·rw [if_neg h4] at h
     by_cases h5 : headIn [34] l = true
     ·rw [if_pos h5] at h
      cases hn : textS l with
      | none => rw [hn] at h;cases h
      | some p => rw [hn] at h;cases h;exact textS_facts hn h5
     ·rw [if_neg h5] at h;cases h
section
variable {R : Nat} {s : Bs}
theorem tok_any (l : Bs) (w : World) (h : Rd w R s (s.length - l.length) l) : Calls Tryz.prog 101 #[.pointer (some ⟨R,0,none⟩)] w (TokP R s l w (tokS l)):=by
 have hsuf:=h.suf
 unfold tokS
 by_cases h1 : headIn punL l = true
 ·rw [if_pos h1]
  exact tokw_pun _ _ l (l.drop 1) _ (one_yes _ _ h1) (fun w h => written_is 0 l (l.drop 1) (drop_suf 1 l) w h hsuf) w h
 ·rw [if_neg h1]
  have O1:=one_no (R:=R) (s:=s) (b:=s.length - l.length) punL l (Bool.eq_false_iff.2 h1)
  by_cases h2 : List.isPrefixOf [46,46,46] l = true
  ·rw [if_pos h2]
   exact tokw_dot _ _ l (l.drop 3) _ O1 (take_yes _ _ h2) (fun w h => written_is 0 l (l.drop 3) (drop_suf 3 l) w h hsuf) w h
  ·rw [if_neg h2]
   have T2:=take_no (R:=R) (s:=s) (b:=s.length - l.length) [46,46,46] l (Bool.eq_false_iff.2 h2)
   by_cases h3 : headIn letL l = true
   ·rw [if_pos h3]
    exact tokw_let _ _ l _ _ (l.drop 1) (headIn (letL ++ digL) (l.drop 1)) O1 T2 (one_yes _ _ h3) (fun w h => row_any _ _ w h) (fun w h => written_is 1 l _ ((spanR_suf _ _).trans (drop_suf 1 l)) w h hsuf) w h
   ·rw [if_neg h3]
    have O3:=one_no (R:=R) (s:=s) (b:=s.length - l.length) letL l (Bool.eq_false_iff.2 h3)
    by_cases h4 : headIn (45 :: digL) l = true
    ·rw [if_pos h4]
     have S4:=sees_is (R:=R) (s:=s) (b:=s.length - l.length) (45 :: digL) l true h4
     have N:=fun w h => number_any (R:=R) (s:=s) (b:=s.length - l.length) l w h
     cases hn : numS l with
     | none =>
      rw [hn] at N
      exact tokw_numx _ l O1 T2 O3 S4 N w h
     | some p =>
      rw [hn] at N
      exact tokw_num _ _ l p.2 _ p.1 O1 T2 O3 S4 (fun w h => (N w h).mono fun e w' ⟨⟨a,b⟩,c⟩ => ⟨a,b,c⟩) (fun w h => written_is p.1 l p.2 (numS_facts hn).1 w h hsuf) w h
    ·rw [if_neg h4]
     have S4:=sees_is (R:=R) (s:=s) (b:=s.length - l.length) (45 :: digL) l false (Bool.eq_false_iff.2 h4)
     by_cases h5 : headIn [34] l = true
     ·rw [if_pos h5]
      have S5:=sees_is (R:=R) (s:=s) (b:=s.length - l.length) [34] l true h5
      have N:=fun w h => text_any (R:=R) (s:=s) l w h h5
      cases hn : textS l with
      | none =>
       rw [hn] at N
       exact tokw_textx _ l O1 T2 O3 S4 S5 N w h
      | some p =>
       rw [hn] at N
       exact tokw_text _ _ l p.2 p.1 O1 T2 O3 S4 S5 (fun w h => (N w h).mono fun e w' ⟨⟨a,b⟩,c⟩ => ⟨a,b,c⟩) rfl w h
     ·rw [if_neg h5]
      exact tokw_none _ l O1 T2 O3 S4 (sees_is _ _ false (Bool.eq_false_iff.2 h5)) w h
end
end Go.Proofs.YtgmlbjfgfmfliaaGreatDoor
