/-
  Package walk: what Walk answers, errors and faults too; it turns nothing that was there.
-/
import Derived.Test.YtemnklppplgcoabFind
import Derived.Test.YtemnklppplgcoabKeepsWalk
namespace Go.Proofs.Ytemnklppplgcoab
open Go.RowKit

/-- What Walk answers of right memory and pages in range: the entry, the fault. -/
def wkF (zs : List Int) (root page : Int) (wr : Bool) : Five × Int :=
  if (fnd zs root page).2 = 0 then (if ((fnd zs root page).1.2.1 && ((fnd zs root page).1.2.2.1 || !wr)) = true then ((fnd zs root page).1, 0) else (E0, 5)) else (E0, (fnd zs root page).2)
/-- What Walk answers: the entry, the fault, the error. -/
def wkd (zs : List Int) (root page : Int) (wr : Bool) : Five × Int × Int :=
  if chk zs = 0 then
    (if pageB root = true ∧ pageB page = true then ((wkF zs root page wr).1, (wkF zs root page wr).2, 0) else (E0, 0, 4))
  else (E0, 0, chk zs)

theorem five_eq {a b : Five × Int} (h1 : a.1 = b.1) (h2 : a.2 = b.2) : a = b := Prod.ext h1 h2

set_option maxHeartbeats 2000000 in
theorem walk_any (v : Value) (zs : List Int) (root page : Int) (wr : Bool) (w : World) (h : Sl w v zs) :
    Calls Try.prog 77 #[.agg #[v], .int .i64 root, .int .i64 page, .bool wr] w fun e w' => (∃ b r x l p f c, e = .returned (.tuple #[.agg #[.bool b, .bool r, .bool x, .bool l, .int .i64 p], .int .i64 f, .int .i64 c]) ∧ wkd zs root page wr = ((b, r, x, l, p), f, c)) ∧ Below w.heap.size w w' := by
  have HS : Hid (Sl w v zs) := h
  obtain ⟨a0, c0, rfl⟩ := h.shape
  clear h
  go_enter Try.func77, Try.ntmps77
  go_wp2_with fail
  refine (check_any _ zs _ (HS.out.keep (bel_alloc (bel_alloc (Below.refl _ _) _) _))).mono ?_
  rintro e w1 ⟨rfl, b1⟩
  have B1 : Hid _ := b1
  have BB : Hid (Below w.heap.size w w1) := bel_trans (bel_alloc (bel_alloc (Below.refl _ _) _) _) b1
  obtain ⟨c1, f1⟩ := bcell b1
  have s1 : w.heap.size + 1 < w1.heap.size := by have := b1.size; simp at this; omega
  clear b1
  by_cases hk : chk zs = 0
  rotate_left
  · have hq : (chk zs != 0) = true := by simpa using hk
    go_wp2
    refine bodyPost_ret (v := .tuple #[.agg #[.bool false, .bool false, .bool false, .bool false, .int .i64 0], .int .i64 0, .int .i64 (chk zs)]) (by simp [results, Try.results77, go_sem, *]) rfl ⟨⟨_, _, _, _, _, _, _, rfl, by rw [wkd, if_neg hk]; rfl⟩, ?_⟩
    exact bel_set5 (by omega) BB.out _ _ _ _ _
  have hq : (chk zs != 0) = false := by simpa using hk
  have HN : Hid (zs.length = 512) := (chk_ok hk).1
  have HK : Hid (chk zs = 0) := hk
  clear hk
  cases hr : pageB root
  · have hd : ¬ (pageB root = true ∧ pageB page = true) := by rw [hr]; simp
    have HD : Hid _ := hd
    clear hd
    go_wp2_with fail
    refine (wPage_any _ _).mono ?_
    rintro e w2 ⟨rfl, rfl⟩
    rw [hr]
    go_wp2
    refine bodyPost_ret (v := .tuple #[.agg #[.bool false, .bool false, .bool false, .bool false, .int .i64 0], .int .i64 0, .int .i64 4]) (by simp [results, Try.results77, go_sem, *]) rfl ⟨⟨_, _, _, _, _, _, _, rfl, by rw [wkd, if_pos HK.out, if_neg HD.out]; rfl⟩, ?_⟩
    exact bel_set5 (by omega) BB.out _ _ _ _ _
  cases hp : pageB page
  · have hd : ¬ (pageB root = true ∧ pageB page = true) := by rw [hp]; simp
    have HD : Hid _ := hd
    clear hd
    go_wp2_with fail
    refine (wPage_any _ _).mono ?_
    rintro e w2 ⟨rfl, rfl⟩
    rw [hr]
    go_wp2_with fail
    refine (wPage_any _ _).mono ?_
    rintro e w2 ⟨rfl, rfl⟩
    rw [hp]
    go_wp2
    refine bodyPost_ret (v := .tuple #[.agg #[.bool false, .bool false, .bool false, .bool false, .int .i64 0], .int .i64 0, .int .i64 4]) (by simp [results, Try.results77, go_sem, *]) rfl ⟨⟨_, _, _, _, _, _, _, rfl, by rw [wkd, if_pos HK.out, if_neg HD.out]; rfl⟩, ?_⟩
    exact bel_set5 (by omega) BB.out _ _ _ _ _
  have hd : pageB root = true ∧ pageB page = true := ⟨hr, hp⟩
  have HD : Hid _ := hd
  clear hd
  obtain ⟨r0, r1⟩ : 0 ≤ root ∧ root < 64 := by simpa [pageB] using hr
  obtain ⟨g0, g1⟩ : 0 ≤ page ∧ page < 64 := by simpa [pageB] using hp
  go_wp2_with fail
  refine (wPage_any _ _).mono ?_
  rintro e w2 ⟨rfl, rfl⟩
  rw [hr]
  go_wp2_with fail
  refine (wPage_any _ _).mono ?_
  rintro e w2 ⟨rfl, rfl⟩
  rw [hp]
  clear hr hp
  go_wp2_with fail
  refine (find_any _ zs _ _ _ (HS.out.keep BB.out) HN.out r0 r1 g0 g1).mono ?_
  rintro e w2 ⟨⟨b, r, x, l, p, f, rfl, hfn⟩, b2⟩
  have HF : Hid (fnd zs root page = ((b, r, x, l, p), f)) := hfn
  have B2 : Hid _ := bel_trans B1.out b2
  have BB2 : Hid (Below w.heap.size w w2) := bel_trans BB.out b2
  have s2 : w.heap.size + 1 < w2.heap.size := by have := b2.size; omega
  clear c1 f1 b2 BB B1 s1 hfn
  obtain ⟨c2, f2⟩ := bcell B2.out
  by_cases hf : f = 0
  rotate_left
  · have hq1 : (f == 0) = false := by simpa using hf
    have hq2 : (f != 0) = true := by simpa using hf
    go_wp2
    refine bodyPost_ret (v := .tuple #[.agg #[.bool false, .bool false, .bool false, .bool false, .int .i64 0], .int .i64 f, .int .i64 0]) (by simp [results, Try.results77, go_sem, *]) rfl ⟨⟨_, _, _, _, _, _, _, rfl, by rw [wkd, if_pos HK.out, if_pos HD.out, wkF, HF.out, if_neg hf]; rfl⟩, ?_⟩
    exact bel_alloc (bel_set5 (by omega) BB2.out _ _ _ _ _) _
  subst hf
  go_wp2_with fail
  refine (may_any _ _ _ _ _ _ _).mono ?_
  rintro e w3 ⟨rfl, o3, hw3⟩
  have B3 : Hid (Below _ _ w3) := hw3 ▸ bel_alloc (bel_alloc B2.out _) o3
  have BB3 : Hid (Below w.heap.size w w3) := hw3 ▸ bel_alloc (bel_alloc BB2.out _) o3
  have K3 : Blk w3 w2.heap.size #[.bool b, .bool r, .bool x, .bool l, .int .i64 p] := hw3 ▸ (Blk.new w2 _ _ _).past o3
  have s3 : w.heap.size + 1 < w3.heap.size := by rw [hw3]; simp; omega
  obtain ⟨d0, d1, d2, d3, d4⟩ := K3.five
  clear c2 f2 hw3 K3
  obtain ⟨c3, f3⟩ := bcell B3.out
  cases hm : (r && (x || !wr))
  · have hm' : ¬ (r && (x || !wr)) = true := by rw [hm]; decide
    have HM : Hid _ := hm'
    clear hm hm'
    go_wp2
    refine bodyPost_ret (v := .tuple #[.agg #[.bool false, .bool false, .bool false, .bool false, .int .i64 0], .int .i64 5, .int .i64 0]) (by simp [results, Try.results77, go_sem, *]) rfl ⟨⟨_, _, _, _, _, _, _, rfl, by rw [wkd, if_pos HK.out, if_pos HD.out, wkF, HF.out, if_pos rfl, if_neg HM.out]; rfl⟩, ?_⟩
    exact bel_set5 (by omega) BB3.out _ _ _ _ _
  · have HM : Hid ((r && (x || !wr)) = true) := hm
    clear hm
    go_wp2
    refine bodyPost_ret (v := .tuple #[.agg #[.bool b, .bool r, .bool x, .bool l, .int .i64 p], .int .i64 0, .int .i64 0]) (by simp [results, Try.results77, go_sem, *]) rfl ⟨⟨_, _, _, _, _, _, _, rfl, by rw [wkd, if_pos HK.out, if_pos HD.out, wkF, HF.out, if_pos rfl, if_pos HM.out]⟩, ?_⟩
    exact bel_set5 (by omega) BB3.out _ _ _ _ _
end Go.Proofs.Ytemnklppplgcoab
