/-
  Stores: the walk of the reference's Sweep.
-/
import Derived.Test.YtdjknefbaclleaaGreatDoorSweB
import Derived.Test.YtdjknefbaclleaaGreatDoorGy
namespace Go.Proofs.YtdjknefbaclleaaGreatDoor
open Go.RowKit Go.Sort

theorem nodup_sub {α : Type} [DecidableEq α] : ∀ {a b : List α}, a.Nodup → (∀ x ∈ a, x ∈ b) → a.length ≤ b.length
  | [], _, _, _ => Nat.zero_le _
  | x :: a, b, hn, hs => by
    obtain ⟨h1, h2⟩ := List.nodup_cons.1 hn
    have hx := hs x (by simp)
    have h3 := nodup_sub (b := b.erase x) h2 (fun y hy => (List.mem_erase_of_ne (fun (e : y = x) => h1 (by rw [← e]; exact hy))).2 (hs y (by simp [hy])))
    rw [List.length_erase_of_mem hx] at h3
    have := List.length_pos_of_mem hx
    rw [List.length_cons]; omega
theorem srt_nodupS {P : List (List Int)} (h : srtD (P.map pr0)) : P.Nodup := by
  unfold srtD at h
  rw [List.pairwise_map] at h
  exact h.imp (fun {a b} hab e => by subst e; have : dls a a = true := hab; rw [dls_irrefl] at this; cases this)
theorem CloD.few {l : List Bl} {R P M : List (List Int)} (h : CloD l R P M) : P.length ≤ l.length := by
  have h1 := nodup_sub (b := l.map (·.d)) (srt_nodupS h.srtP) (fun d hd => by
    obtain ⟨_, x, hx⟩ := (h.memP d).1 hd
    obtain ⟨h1, h2⟩ := fnd_some hx
    exact List.mem_map.2 ⟨x, h1, h2⟩)
  rwa [List.length_map] at h1
end Go.Proofs.YtdjknefbaclleaaGreatDoor
