/- end: a channel is made and closed. -/
import Derived.Test.YtfgefamippjelaaQ1
namespace Go.Proofs.Ytfgefamippjelaa
open Go.Conc Go.RowKit

/-- what end leaves -/
abbrev mended (w : World) (g : Nat) : World := (((w.setCell ⟨g, 2, none⟩ (.chan (some w.heap.size))).alloc (.chan 0 #[] false 0 0 false))).setChan w.heap.size 0 #[] true 0 0 false

theorem Met.end_ {w : World} {g : Nat} {b s : Int} (h : Met w g b s none) : Met (mended w g) g b s (some w.heap.size) ∧ Turn (fun i => i = g) w (mended w g) := by
  have hlt := h.lies.lt
  have l1 := h.lies.put 2 (.chan (some w.heap.size))
  have hs : (w.setCell ⟨g, 2, none⟩ (.chan (some w.heap.size))).heap.size = w.heap.size := by simp [World.setCell]
  have l2 : Lies ((w.setCell ⟨g, 2, none⟩ (.chan (some w.heap.size))).alloc (.chan 0 #[] false 0 0 false)) g 36 #[.int .i64 b, .int .i64 s, .chan (some w.heap.size)] :=
    (Below.heap_alloc _ _ g (by rw [hs]; exact hlt)).trans (show Lies _ g _ _ by simpa using l1)
  have t2 := ((Turn.refl (fun i => i = g) w).put (p := ⟨g, 2, none⟩) (.inl rfl) (.chan (some w.heap.size))).alloc (.chan 0 #[] false 0 0 false)
  have e3 : ∀ k, k < w.heap.size → (mended w g).heap[k]? = ((w.setCell ⟨g, 2, none⟩ (.chan (some w.heap.size))).alloc (.chan 0 #[] false 0 0 false)).heap[k]? := fun k hk => by
    simp only [World.setChan]
    rw [Array.getElem?_setIfInBounds_ne (by omega)]
  have hz : w.heap.size < ((w.setCell ⟨g, 2, none⟩ (.chan (some w.heap.size))).alloc (.chan 0 #[] false 0 0 false)).heap.size := by simp [World.setCell]
  refine ⟨⟨(e3 g hlt).trans l2, fun c hc => ?_⟩, ⟨t2.os, t2.tape, t2.output, by rw [size_setChan]; exact t2.size, fun k hk hn => (e3 k hk).trans (t2.block k hk hn)⟩⟩
  obtain rfl := Option.some.inj hc
  exact heap_setChan _ _ _ _ _ _ _ _ hz

set_option maxRecDepth 100000 in
theorem end_walk (w : World) (g : Nat) (b s : Int) (h : Met w g b s none) :
    Calls Try.prog 14 #[.pointer (some ⟨g, 0, none⟩)] w fun e w' => e = .returned (.tuple #[]) ∧ w' = mended w g := by
  have hlt := h.lies.lt
  have c0 := h.lies.cell 2
  simp at c0
  have hfr := h.lies.free 2
  have l1 := h.lies.put 2 (.chan (some w.heap.size))
  have c1 := l1.cell 2
  simp at c1
  have hs : (w.setCell ⟨g, 2, none⟩ (.chan (some w.heap.size))).heap.size = w.heap.size := by simp [World.setCell]
  have hch : ((w.setCell ⟨g, 2, none⟩ (.chan (some w.heap.size))).alloc (.chan 0 #[] false 0 0 false)).heap[w.heap.size]? = some (.chan 0 #[] false 0 0 false) := by
    have := heap_alloc_new (w.setCell ⟨g, 2, none⟩ (.chan (some w.heap.size))) (.chan 0 #[] false 0 0 false)
    rwa [hs] at this
  clear h l1 hs
  refine calls_of_loneTo fun cs => ?_
  have e : Frame.enter Try.prog 14 #[.pointer (some ⟨g, 0, none⟩)] .normal = (base 14).at ⟨#[.pointer (some ⟨g, 0, none⟩), undef, undef, undef, undef, undef, undef, undef, undef, undef], []⟩ [.code (Try.f14.body.getD .skip)] := by
    simp [Frame.enter, Frame.at, Try.func14, base, Try.f14]
  rw [e]
  have hmc := mkOver
  refine LoneTo.goes (n := 19) ?_
  simp only [Try.f14, Option.getD_some]
  s_c stepG_seq
  s_reg
  s_op
  s_op
  s_op
  s_op
  s_op
  s_c stepG_region_end
  s_reg
  s_op
  s_op
  s_op
  s_op
  s_in
  refine goes_oper_k rfl rfl (by decide) (fun K hK => ?_)
  have hcl := fun ats ty => run_close_open (P := Try.prog) (w := (w.setCell ⟨g, 2, none⟩ (.chan (some w.heap.size))).alloc (.chan 0 #[] false 0 0 false)) ats ty hch
  go_simp
  refine hK _ _ ⟨trivial, ?_⟩
  clear hK K hcl
  s_c stepG_region_end
  s_c stepG_end
  s_stop
  exact LoneTo.done ⟨.returned (.tuple #[]), _, rfl, ⟨rfl, rfl⟩, rfl, rfl, rfl, rfl, _, Try.func14, by simp [results, Try.f14, Frame.at]⟩

theorem end_any (w : World) (g : Nat) (b s : Int) (h : Met w g b s none) :
    Calls Try.prog 14 #[.pointer (some ⟨g, 0, none⟩)] w fun e w' => e = .returned (.tuple #[]) ∧ Met w' g b s (some w.heap.size) ∧ Turn (fun i => i = g) w w' :=
  (end_walk w g b s h).mono fun _ _ ⟨e, hw⟩ => ⟨e, by rw [hw]; exact h.end_⟩
end Go.Proofs.Ytfgefamippjelaa
