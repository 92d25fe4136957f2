/- What is read of what is printed; what stands ahead. Nothing of the program's text. -/
import Derived.Test.YtpjdfogieiokkaaDoorP5
import Derived.Test.YtpjdfogieiokkaaDoorHB
namespace Go.Proofs.YtpjdfogieiokkaaDoor

theorem Reads.says {z : Int} {l : List ITok} {M : List Sx} (h : Reads l M) : Sx.deeps M ≤ 64 → Says z l (M.map fun X => ⟨X, 0, X.at_⟩) := by
  induction h with
  | nil => intro _; exact .nil
  | atom t l L h1 h2 _ ih =>
    intro hd
    rw [Sx.deeps] at hd
    exact .atom t l _ h1 h2 (ih (by omega))
  | list o c m l M L h1 h2 h3 _ _ i2 =>
    intro hd
    rw [Sx.deeps, Sx.deep_list (x := Sx.node o.2.2 M) rfl] at hd
    change max (Sx.deeps M + 1) (Sx.deeps L) ≤ 64 at hd
    exact .list o c m l M _ h1 h2 h3 (by omega) (i2 (by omega))
theorem iSays_pure (s : ByteArray) (x : MTok) : iSays (toI x) = Lx.says (pureTok s x) := rfl
/-- what is read of what is printed is what was printed -/
theorem Sx.back {x : Sx} {V : ByteArray} {R : List SItem} (hd : ¬ 64 < Sx.dep 65 x) (hp : x.text = some V.data.toList) (hz : x.size ≤ 2000) (hV : V.size ≤ 16384) (h : ReadOf V R) :
    ∃ X a, R = [⟨X, 0, a⟩] ∧ X.key false = x.key false := by
  obtain ⟨l, E, p, I, h1, h2, rfl⟩ := h
  rw [Sx.dep_deep] at hd
  obtain ⟨T, t1, t2, t3⟩ := Sx.lexed x.size x _ [] (Nat.le_refl _) hp (.inl rfl)
  simp only [Sx.sizes] at t1
  obtain ⟨Q, q1, q2⟩ := t2 (4000 - T.length)
  rw [Lx.lex_nil (l := []) (4000 - T.length) rfl, show 4000 - T.length + T.length = 4000 by omega, List.append_nil, List.append_nil] at q2
  obtain ⟨e1, e2, _⟩ := h1.toks hV
  rw [q2] at e1 e2
  have e1' : l.map (pureTok V) = Q := e1
  have hm : (l.map toI).map iSays = T := by
    rw [← q1, ← e1', List.map_map, List.map_map]
    rfl
  obtain ⟨M, m1, m2, m3⟩ := t3 _ hm
  have hM : Sx.deeps M ≤ 64 := by
    rw [m3]
    simp only [Sx.deeps]
    omega
  rw [Says.uniq _ _ _ _ (Nat.le_refl _) h2 (m1.says hM)]
  have hl : M.length = 1 := by have := congrArg List.length m2; simpa using this
  match M, hl, m2 with
  | [X], _, m2 =>
    refine ⟨X, X.at_, ?_, by simpa using m2⟩
    have hE : E = 0 := e2
    unfold readOf
    rw [if_pos hE]
    rfl
end Go.Proofs.YtpjdfogieiokkaaDoor
