/- ChainOrder, walked: whichever order versions are put in, the chain is the same. -/
import Derived.Test.YtfkeeehfpbnibaaGC24
import Derived.Test.YtfkeeehfpbnibaaChOrdMath
import Derived.Deep.RegionHeld3
import Derived.Deep.DeepCutAuto
namespace Go.Proofs.Ytfkeeehfpbnibaa
open Go.RowKit Go.Shelf
set_option linter.unusedVariables false
set_option linter.unusedSimpArgs false

/-- What is built so far, one way and the other. -/
structure OrdS (l : List (Int × Int)) (N k : Nat) (A B : List Vw) (g : Int × Int) : Prop where
  ma : MemO l (fun i => i < k) A
  mb : MemO l (fun i => i < N ∧ N ≤ i + k) B
  ca : Chn A
  cb : Chn B
  la : A.length ≤ k
  lb : B.length ≤ k
  gr : Grt l k g
theorem OrdS.zero (l : List (Int × Int)) (N : Nat) : OrdS l N 0 [] [] (0, 0) :=
  ⟨fun x => ⟨fun h => by simp at h, fun ⟨i, h, _⟩ => absurd h (by omega)⟩, fun x => ⟨fun h => by simp at h, fun ⟨i, ⟨h1, h2⟩, _⟩ => absurd h2 (by omega)⟩, Chn.nil, Chn.nil, by simp, by simp, Grt.zero l⟩
theorem OrdS.step {l : List (Int × Int)} {N k : Nat} {A B : List Vw} {g : Int × Int} (h : OrdS l N k A B g) (hk : k < N) :
    OrdS l N (k + 1) (putC A (mk0 (fS l k))) (putC B (mk0 (fS l (N - 1 - k)))) (if (Sm.ok (fS l k).1 (fS l k).2 && Sm.less g (fS l k)) = true then fS l k else g) := by
  obtain ⟨a1, a2⟩ := memO_put (Q := fun i => i < k + 1) (k := k) h.ca h.ma (fun i => by omega)
  obtain ⟨b1, b2⟩ := memO_put (Q := fun i => i < N ∧ N ≤ i + (k + 1)) (k := N - 1 - k) h.cb h.mb (fun i => by omega)
  have l1 := putC_len A (mk0 (fS l k))
  have l2 := putC_len B (mk0 (fS l (N - 1 - k)))
  have h1 := h.la
  have h2 := h.lb
  exact ⟨a2, b2, a1, b1, by omega, by omega, h.gr.step⟩
theorem OrdS.same {l : List (Int × Int)} {N : Nat} {A B : List Vw} {g : Int × Int} (h : OrdS l N N A B g) : A = B :=
  chn_uniq h.ca.rise h.cb.rise (fun y => by
    rw [h.ma y, h.mb y]
    constructor
    · rintro ⟨i, h1, h2⟩
      exact ⟨i, ⟨h1, by omega⟩, h2⟩
    · rintro ⟨i, ⟨h1, _⟩, h2⟩
      exact ⟨i, h1, h2⟩)
theorem memO_bd {l : List (Int × Int)} {P : Nat → Prop} {A : List Vw} (h : MemO l P A) (h64 : ∀ r ∈ l, In64 r) {w : World} : ∀ x ∈ A, VwB w x := by
  intro x hx
  obtain ⟨i, _, rfl, _⟩ := (h x).1 hx
  exact mkA_bd (by decide) (fS_i64 h64 i)
theorem Var2.block {w w' : World} {b : Nat} {p : Int × Int} (h : Var2 w b p) (hb : w'.heap[b]? = w.heap[b]?) : Var2 w' b p :=
  ⟨by rw [World.cell?_of_block hb]; exact h.c0, by rw [World.cell?_of_block hb]; exact h.c1, by rw [World.frozen?_of_block hb]; exact h.f0, by rw [World.frozen?_of_block hb]; exact h.f1⟩

theorem Var2.new12 (w : World) : Var2 (w.alloc (.cells #[.int .i64 0, .int .i64 0] 25)) w.heap.size (0, 0) := ⟨by simp, by simp, by simp, by simp⟩

set_option maxRecDepth 100000 in
set_option maxHeartbeats 4000000 in
theorem walkChainOrder (w : World) (a : Option Addr) (l : List (Int × Int)) (cap : Nat) (h1 : l.length ≤ cap) (h2 : cap ≤ maxLen) (h3 : a = none → cap = 0) (h64 : ∀ r ∈ l, In64 r) (hst : StIn w a l) :
    Calls Try.prog 4 #[.slice a l.length cap] w fun e w' => e = .returned (.bool true) ∧ Below w.heap.size w w' := by
  have hrow : RowIn KT w a l := hst.rowT
  have hlm : l.length ≤ 9223372036854775807 := by unfold maxLen at h2; omega
  have HROW := Lib.hid hrow
  have H64 := Lib.hid h64
  clear hrow h1 h2 h3 h64 hst
  go_enter Try.func4, Try.ntmps4
  go_wp2_with fail
  refine (awake12_any _).mono ?_
  rintro e w1 ⟨rfl, hb1⟩
  have hG := Var2.new12 w1
  have hb2 : Below w1.heap.size w1 (w1.alloc (.cells #[.int .i64 0, .int .i64 0] 25)) := balloc (Below.refl _ w1) _
  have hz2 : (w1.alloc (.cells #[.int .i64 0, .int .i64 0] 25)).heap.size = w1.heap.size + 1 := by simp
  go_upto_if 22 with (fail)
  generalize w1.alloc (.cells #[.int .i64 0, .int .i64 0] 25) = w2 at *
  have HB2 := Lib.hid (bstep hb1 hb2)
  have HS1 : Hid (w.heap.size ≤ w1.heap.size) := Lib.hid hb1.size
  have HG := Lib.hid hG
  have HZ2 := Lib.hid hz2
  clear hb1 hb2 hG hz2
  go_cut [7] (fun s7 wx => ∃ N : Nat, s7 = .int .i64 N ∧ N ≤ l.length ∧ N ≤ 10 ∧ wx = w2)
  case first =>
    by_cases h10 : 10 < l.length
    · have h10i : (10 : Int) < (l.length : Int) := by omega
      go_wp2
      go_meet
      exact ⟨10, rfl, by omega, by omega, rfl⟩
    · have h10i : ¬ (10 : Int) < (l.length : Int) := by omega
      go_wp2
      go_meet
      exact ⟨l.length, rfl, by omega, by omega, rfl⟩
  case rest =>
    obtain ⟨N, rfl, hNl, hN10, rfl⟩ := hcut
    go_wp2
    go_loopw [4, 5, 8] (fun va vb i wr => ∃ (k : Nat) (A B : List Vw) (g : Int × Int), k ≤ N ∧ i = .int .i64 k ∧ OwnR KW wr (w1.heap.size + 1) va A ∧ OwnR KW wr (w1.heap.size + 1) vb B ∧ OrdS l N k A B g ∧ Var2 wr w1.heap.size g ∧ w1.heap.size + 1 ≤ wr.heap.size ∧ Below w.heap.size w wr) (fun _ _ i _ => N - (intOf i).toNat)
    case atStart => exact ⟨0, [], [], (0, 0), by omega, rfl, OwnR.nil _ _ _, OwnR.nil _ _ _, OrdS.zero l N, HG.out, by have := HZ2.out; omega, HB2.out⟩
    case round =>
      obtain ⟨k, A, B, g, hk, rfl, hoA, hoB, hS, hg, hlow, hbel⟩ := hrel
      obtain ⟨aa, ac, rfl⟩ := hoA.shape
      obtain ⟨ba, bc, rfl⟩ := hoB.shape
      have HOA := Lib.hid hoA
      have HOB := Lib.hid hoB
      have HS := Lib.hid hS
      have HGR := Lib.hid hg
      have HBL := Lib.hid hbel
      clear hoA hoB hg
      have hAl : A.length ≤ 10 := by have := hS.la; omega
      have hBl : B.length ≤ 10 := by have := hS.lb; omega
      clear hS
      by_cases hlt : k < N
      · have hkl : k < l.length := by omega
        have hq : N - 1 - k < l.length := by omega
        obtain ⟨q, hqe⟩ : ∃ q, q = N - 1 - k := ⟨_, rfl⟩
        have HSTEP := Lib.hid (HS.out.step hlt)
        have hrowW := HROW.out.below hbel
        obtain ⟨b, off, rfl, hbl, d0, d1⟩ := RowIn.st hrowW k hkl
        obtain ⟨b', off', e', _, e0, e1⟩ := RowIn.st hrowW q (by omega)
        cases e'
        have i64k := fS_i64 H64.out k
        have i64q := fS_i64 H64.out q
        have hfk := fS_get hkl
        have hfq := fS_get (l := l) (i := q) (by omega)
        rw [← hfk] at d0 d1
        rw [← hfq] at e0 e1
        rw [← hqe] at HSTEP
        have hql : q < l.length := by omega
        have hputA := fun W (hr : WRow W (.slice aa A.length ac) A) => cput_any (.slice aa A.length ac) A (mk0 (fS l k)) W (by omega) hr (mkA_bd (by decide) i64k)
        have hputB := fun W (hr : WRow W (.slice ba B.length bc) B) => cput_any (.slice ba B.length bc) B (mk0 (fS l q)) W (by omega) hr (mkA_bd (by decide) i64q)
        have hbdA : ∀ W, ∀ x ∈ A, VwB W x := fun W => memO_bd HS.out.ma H64.out
        have hbdB : ∀ W, ∀ x ∈ B, VwB W x := fun W => memO_bd HS.out.mb H64.out
        have HPOK : Hid (putOk A (mk0 (fS l k)) = true → Sm.ok (fS l k).1 (fS l k).2 = true) := Lib.hid (fun h => by rw [← mk0_ok]; exact putOk_ok h)
        generalize putOk A (mk0 (fS l k)) = is1 at hputA HPOK
        generalize putOk B (mk0 (fS l q)) = is2 at hputB
        generalize putC A (mk0 (fS l k)) = A2 at hputA HSTEP
        generalize putC B (mk0 (fS l q)) = B2 at hputB HSTEP
        clear hfk hfq
        have hckk := fun W => refSCheck_any (fS l k).1 (fS l k).2 W
        have hls := fun W => refLess_any g.1 g.2 (fS l k).1 (fS l k).2 W
        have hgp : ((g.1, g.2) : Int × Int) = g := rfl
        unfold mk0 mkA kA at hputA hputB
        generalize fS l k = s at d0 d1 hputA HPOK HSTEP i64k hckk hls
        generalize fS l q = s' at e0 e1 hputB i64q
        obtain ⟨y, z⟩ := s
        obtain ⟨y', z'⟩ := s'
        dsimp only [wV, wcs, wvs, pw, List.length_nil] at d0 d1 e0 e1 hputA hputB hckk hls HPOK HSTEP
        obtain ⟨g0, g1⟩ := g
        dsimp only at hls
        generalize Sm.ok y z = good at hckk HPOK HSTEP
        generalize Sm.less (g0, g1) (y, z) = ls at hls HSTEP
        have HBDA := Lib.hid hbdA
        have HBDB := Lib.hid hbdB
        have hw1 : IntKind.i64.wrap ((N : Int) - 1) = (N : Int) - 1 := IntWalk.i64_in _ (by omega)
        have hqi : (N : Int) - 1 - (k : Int) = (q : Int) := by omega
        have hw2 : IntKind.i64.wrap ((N : Int) - 1 - (k : Int)) = (q : Int) := by rw [IntWalk.i64_in _ (by omega)]; exact hqi
        have hki : (k : Int) < (l.length : Int) := by omega
        have hkN : (k : Int) < (N : Int) := by omega
        have hq0 : (0 : Int) ≤ (q : Int) := by omega
        have hq1 : (q : Int) < (l.length : Int) := by omega
        have HQI := Lib.hid hqi
        clear hqi hqe hbdA hbdB hgp i64k i64q hbel hrowW
        go_upto_region 12 with fail
        obtain ⟨w3, hw3⟩ : ∃ w3, wr.alloc (.cells #[.string ⟨#[97]⟩, .string ⟨#[]⟩, .bool false, .int .i64 y, .int .i64 z, .slice none 0 0] 28) = w3 := ⟨_, rfl⟩
        have hb3 : Below wr.heap.size wr w3 := by rw [← hw3]; exact balloc (Below.refl _ wr) _
        have hV3 : VwP w3 wr.heap.size ⟨⟨#[97]⟩, ⟨#[]⟩, false, (y, z), []⟩ (.slice none 0 0) := by rw [← hw3]; exact VwP.new wr ⟨⟨#[97]⟩, ⟨#[]⟩, false, (y, z), []⟩ (.slice none 0 0) 28
        try rw [hw3]
        clear hw3
        have hp3 := hputA w3 (WRow.of_own (HOA.out.below hb3) (HBDA.out _))
        have d0 := kc hb3 d0
        have d1 := kc hb3 d1
        have e0 := kc hb3 e0
        have e1 := kc hb3 e1
        obtain ⟨x0, x1, x2, x3, x4, x5, _⟩ := hV3
        dsimp only at x0 x1 x2 x3 x4 x5
        clear hputA
        go_wp2_with fail
        refine hp3.mono ?_
        rintro e w4 ⟨v4, rfl, ho4, hb4⟩
        obtain ⟨ca, cc, rfl⟩ := ho4.shape
        have hb34 := bstep hb3 hb4
        have HO4 := Lib.hid (ho4.mono (base' := w1.heap.size + 1) (by have := hb3.size; omega))
        have d0 := kc hb4 d0
        have d1 := kc hb4 d1
        have e0 := kc hb4 e0
        have e1 := kc hb4 e1
        clear x0 x1 x2 x3 x4 x5 ho4 hb3 hb4 hp3 HBDA HOA
        go_wp2_with fail
        refine (hckk _).mono ?_
        rintro e w5 ⟨rfl, hb5⟩
        have hb35 := bstep hb34 hb5
        have HO5 := Lib.hid (HO4.out.below hb5)
        have d0 := kc hb5 d0
        have d1 := kc hb5 d1
        have e0 := kc hb5 e0
        have e1 := kc hb5 e1
        clear hb34 hb5 hckk HO4
        go_upto_region 14 with fail
        go_cut [48] (fun s48 wx => s48 = .bool false ∧ wx = w5)
        case first =>
          cases is1 with
          | false =>
            go_wp2
            go_meet
            exact ⟨rfl, rfl⟩
          | true =>
            have := HPOK.out rfl
            subst this
            go_wp2
            go_meet
            exact ⟨rfl, rfl⟩
        case rest =>
          obtain ⟨rfl, hwx⟩ := hcut
          subst hwx
          go_upto_region 18 with fail
          obtain ⟨w6, hw6⟩ : ∃ w6, wc.alloc (.cells #[.string ⟨#[97]⟩, .string ⟨#[]⟩, .bool false, .int .i64 y', .int .i64 z', .slice none 0 0] 28) = w6 := ⟨_, rfl⟩
          have hb6 : Below wc.heap.size wc w6 := by rw [← hw6]; exact balloc (Below.refl _ wc) _
          have hV6 : VwP w6 wc.heap.size ⟨⟨#[97]⟩, ⟨#[]⟩, false, (y', z'), []⟩ (.slice none 0 0) := by rw [← hw6]; exact VwP.new wc ⟨⟨#[97]⟩, ⟨#[]⟩, false, (y', z'), []⟩ (.slice none 0 0) 28
          try rw [hw6]
          clear hw6
          have hb36 := bstep hb35 hb6
          have HO6 := Lib.hid (HO5.out.below hb6)
          have hp6 := hputB w6 (WRow.of_own (HOB.out.below hb36) (HBDB.out _))
          have d0 := kc hb6 d0
          have d1 := kc hb6 d1
          obtain ⟨x0, x1, x2, x3, x4, x5, _⟩ := hV6
          dsimp only at x0 x1 x2 x3 x4 x5
          clear hputB HO5 hb35 e0 e1
          go_wp2_with fail
          refine hp6.mono ?_
          rintro e w7 ⟨v7, rfl, ho7, hb7⟩
          obtain ⟨da, dc, rfl⟩ := ho7.shape
          have hb37 := bstep hb36 hb7
          have HA7 := Lib.hid (HO6.out.below hb7)
          have HB7 := Lib.hid (ho7.mono (base' := w1.heap.size + 1) (by have := hb36.size; omega))
          have HG7 := Lib.hid (HGR.out.keep hb37)
          have d0 := kc hb7 d0
          have d1 := kc hb7 d1
          have hlow7 : w1.heap.size + 1 ≤ w7.heap.size := by have := hb37.size; omega
          have HBW7 := Lib.hid (bstep HBL.out hb37)
          clear x0 x1 x2 x3 x4 x5 ho7 hb36 hb6 hb7 hb37 hp6 HO6 HOB HGR HBL HBDB hlow
          have gg : (w7.drew.cell? ⟨w1.heap.size, 0, none⟩ = some (.int .i64 g0) ∧ w7.drew.cell? ⟨w1.heap.size, 1, none⟩ = some (.int .i64 g1)) ∧ w7.drew.cell? ⟨b, off + k * 2, none⟩ = some (.int .i64 y) ∧ w7.drew.cell? ⟨b, off + k * 2 + 1, none⟩ = some (.int .i64 z) := ⟨⟨HG7.out.c0, HG7.out.c1⟩, d0, d1⟩
          go_upto_region 19 with fail
          obtain ⟨t, ht⟩ : ∃ t : Bool, t = (good && ls) := ⟨_, rfl⟩
          rw [← ht] at HSTEP
          have HT := Lib.hid ht
          clear ht
          go_cut [72] (fun s72 wx => s72 = .bool t ∧ Below w7.heap.size w7 wx)
          case first =>
            cases good with
            | false =>
              have := HT.out
              rw [Bool.false_and] at this
              subst this
              refine wp_region_held_drew (S := fun w' => True) (by kernel_rfl) (trivial) (fun hHeld => ?_)
              refine wpAnyH_take (i := 0) (v := ?va0) rfl (by kernel_rfl) (by kernel_rfl) (by kernel_rfl) (fun _ _ _ h => h) (Or.inl ⟨by rfl, ?ya0⟩) (by assumption) ?ra0
              case ya0 => (intro w hSw; (try dsimp only at hSw); go_simp; try with_reducible rfl)
              try simp only [Act.put, List.setIfInBounds_toArray, List.set_cons_zero, List.set_cons_succ, List.getElem_toArray, List.getElem_cons_zero, List.getElem_cons_succ]
              refine wpAnyH_take (i := 1) (v := ?va1) rfl (by kernel_rfl) (by kernel_rfl) (by kernel_rfl) (fun _ _ _ h => h) (Or.inl ⟨by rfl, ?ya1⟩) (by assumption) ?ra1
              case ya1 => (intro w hSw; (try dsimp only at hSw); go_simp; try with_reducible rfl)
              try simp only [Act.put, List.setIfInBounds_toArray, List.set_cons_zero, List.set_cons_succ, List.getElem_toArray, List.getElem_cons_zero, List.getElem_cons_succ]
              refine wpAnyH_take (i := 2) (v := undef) rfl (by kernel_rfl) (by kernel_rfl) (by kernel_rfl) (fun _ _ _ h => h) (Or.inr ⟨by rfl, rfl⟩) (by assumption) ?_
              try simp only [Act.put, List.setIfInBounds_toArray, List.set_cons_zero, List.set_cons_succ, List.getElem_toArray, List.getElem_cons_zero, List.getElem_cons_succ]
              refine wpAnyH_take (i := 3) (v := undef) rfl (by kernel_rfl) (by kernel_rfl) (by kernel_rfl) (fun _ _ _ h => h) (Or.inr ⟨by rfl, rfl⟩) (by assumption) ?_
              try simp only [Act.put, List.setIfInBounds_toArray, List.set_cons_zero, List.set_cons_succ, List.getElem_toArray, List.getElem_cons_zero, List.getElem_cons_succ]
              refine wpAnyH_take (i := 4) (v := undef) rfl (by kernel_rfl) (by kernel_rfl) (by kernel_rfl) (fun _ _ _ h => h) (Or.inr ⟨by rfl, rfl⟩) (by assumption) ?_
              try simp only [Act.put, List.setIfInBounds_toArray, List.set_cons_zero, List.set_cons_succ, List.getElem_toArray, List.getElem_cons_zero, List.getElem_cons_succ]
              refine wpAnyH_take (i := 5) (v := undef) rfl (by kernel_rfl) (by kernel_rfl) (by kernel_rfl) (fun _ _ _ h => h) (Or.inr ⟨by rfl, rfl⟩) (by assumption) ?_
              try simp only [Act.put, List.setIfInBounds_toArray, List.set_cons_zero, List.set_cons_succ, List.getElem_toArray, List.getElem_cons_zero, List.getElem_cons_succ]
              refine wpAnyH_take (i := 6) (v := undef) rfl (by kernel_rfl) (by kernel_rfl) (by kernel_rfl) (fun _ _ _ h => h) (Or.inr ⟨by rfl, rfl⟩) (by assumption) ?_
              try simp only [Act.put, List.setIfInBounds_toArray, List.set_cons_zero, List.set_cons_succ, List.getElem_toArray, List.getElem_cons_zero, List.getElem_cons_succ]
              refine wpAnyH_take (i := 7) (v := undef) rfl (by kernel_rfl) (by kernel_rfl) (by kernel_rfl) (fun _ _ _ h => h) (Or.inr ⟨by rfl, rfl⟩) (by assumption) ?_
              try simp only [Act.put, List.setIfInBounds_toArray, List.set_cons_zero, List.set_cons_succ, List.getElem_toArray, List.getElem_cons_zero, List.getElem_cons_succ]
              refine wpAnyH_take (i := 8) (v := ?va8) rfl (by kernel_rfl) (by kernel_rfl) (by kernel_rfl) (fun _ _ _ h => h) (Or.inl ⟨by rfl, ?ya8⟩) (by assumption) ?ra8
              case ya8 => (intro w hSw; (try dsimp only at hSw); go_simp; try with_reducible rfl)
              try simp only [Act.put, List.setIfInBounds_toArray, List.set_cons_zero, List.set_cons_succ, List.getElem_toArray, List.getElem_cons_zero, List.getElem_cons_succ]
              refine wpAnyH_done (by kernel_rfl) ?_ _
              go_wp2
              go_meet
              exact ⟨rfl, (Below.refl _ w7).drew⟩
            | true =>
              have := HT.out
              rw [Bool.true_and] at this
              subst this
              refine wp_region_held_drew (S := fun w' => (w'.cell? ⟨w1.heap.size, 0, none⟩ = some (.int .i64 g0) ∧ w'.cell? ⟨w1.heap.size, 1, none⟩ = some (.int .i64 g1)) ∧ w'.cell? ⟨b, off + k * 2, none⟩ = some (.int .i64 y) ∧ w'.cell? ⟨b, off + k * 2 + 1, none⟩ = some (.int .i64 z)) (by kernel_rfl) (gg) (fun hHeld => ?_)
              refine wpAnyH_take (i := 0) (v := ?vb0) rfl (by kernel_rfl) (by kernel_rfl) (by kernel_rfl) (fun _ _ _ h => h) (Or.inl ⟨by rfl, ?yb0⟩) (by assumption) ?rb0
              case yb0 => (intro w hSw; (try dsimp only at hSw); go_simp; try with_reducible rfl)
              try simp only [Act.put, List.setIfInBounds_toArray, List.set_cons_zero, List.set_cons_succ, List.getElem_toArray, List.getElem_cons_zero, List.getElem_cons_succ]
              refine wpAnyH_take (i := 1) (v := ?vb1) rfl (by kernel_rfl) (by kernel_rfl) (by kernel_rfl) (fun _ _ _ h => h) (Or.inl ⟨by rfl, ?yb1⟩) (by assumption) ?rb1
              case yb1 => (intro w hSw; (try dsimp only at hSw); go_simp; try with_reducible rfl)
              try simp only [Act.put, List.setIfInBounds_toArray, List.set_cons_zero, List.set_cons_succ, List.getElem_toArray, List.getElem_cons_zero, List.getElem_cons_succ]
              refine wpAnyH_take (i := 2) (v := ?vb2) rfl (by kernel_rfl) (by kernel_rfl) (by kernel_rfl) (fun _ _ _ h => h) (Or.inl ⟨by rfl, ?yb2⟩) (by assumption) ?rb2
              case yb2 => (intro w hSw; (try dsimp only at hSw); go_simp; try with_reducible rfl)
              try simp only [Act.put, List.setIfInBounds_toArray, List.set_cons_zero, List.set_cons_succ, List.getElem_toArray, List.getElem_cons_zero, List.getElem_cons_succ]
              refine wpAnyH_take (i := 3) (v := ?vb3) rfl (by kernel_rfl) (by kernel_rfl) (by kernel_rfl) (fun _ _ _ h => h) (Or.inl ⟨by rfl, ?yb3⟩) (by assumption) ?rb3
              case yb3 => (intro w hSw; (try dsimp only at hSw); go_simp; try with_reducible rfl)
              try simp only [Act.put, List.setIfInBounds_toArray, List.set_cons_zero, List.set_cons_succ, List.getElem_toArray, List.getElem_cons_zero, List.getElem_cons_succ]
              refine wpAnyH_take (i := 4) (v := ?vb4) rfl (by kernel_rfl) (by kernel_rfl) (by kernel_rfl) (fun _ _ _ h => h) (Or.inl ⟨by rfl, ?yb4⟩) (by assumption) ?rb4
              case yb4 => (intro w hSw; (try dsimp only at hSw); go_simp; try with_reducible rfl)
              try simp only [Act.put, List.setIfInBounds_toArray, List.set_cons_zero, List.set_cons_succ, List.getElem_toArray, List.getElem_cons_zero, List.getElem_cons_succ]
              refine wpAnyH_take (i := 5) (v := ?vb5) rfl (by kernel_rfl) (by kernel_rfl) (by kernel_rfl) (fun _ _ _ h => h) (Or.inl ⟨by rfl, ?yb5⟩) (by assumption) ?rb5
              case yb5 => (intro w hSw; (try dsimp only at hSw); go_simp; try with_reducible rfl)
              try simp only [Act.put, List.setIfInBounds_toArray, List.set_cons_zero, List.set_cons_succ, List.getElem_toArray, List.getElem_cons_zero, List.getElem_cons_succ]
              refine wpAnyH_take (i := 6) (v := ?vb6) rfl (by kernel_rfl) (by kernel_rfl) (by kernel_rfl) (fun _ _ _ h => h) (Or.inl ⟨by rfl, ?yb6⟩) (by assumption) ?rb6
              case yb6 => (intro w hSw; (try dsimp only at hSw); go_simp; try with_reducible rfl)
              try simp only [Act.put, List.setIfInBounds_toArray, List.set_cons_zero, List.set_cons_succ, List.getElem_toArray, List.getElem_cons_zero, List.getElem_cons_succ]
              refine wpAnyH_ready (rs := [7]) (by kernel_rfl) (by simp) ?_
              refine AllReadyH.cons rfl (fun K hK => ?_) AllReadyH.nil
              go_simp
              go_at_call 13
              refine (hls _).mono ?_
              rintro e w8 ⟨rfl, hb8⟩
              have gh := And.intro (keepK2 hb8 gg.1) (keepK2 hb8 gg.2)
              go_wp2_with fail
              refine hK.out _ _ (gh) (fun hHeld => ?_)
              clear hK K
              try simp only [Act.put, List.setIfInBounds_toArray, List.set_cons_zero, List.set_cons_succ, List.getElem_toArray, List.getElem_cons_zero, List.getElem_cons_succ]
              refine wpAnyH_take (i := 8) (v := ?vb8) rfl (by kernel_rfl) (by kernel_rfl) (by kernel_rfl) (fun _ _ _ h => h) (Or.inl ⟨by rfl, ?yb8⟩) (by assumption) ?rb8
              case yb8 => (intro w hSw; (try dsimp only at hSw); go_simp; try with_reducible rfl)
              try simp only [Act.put, List.setIfInBounds_toArray, List.set_cons_zero, List.set_cons_succ, List.getElem_toArray, List.getElem_cons_zero, List.getElem_cons_succ]
              refine wpAnyH_done (by kernel_rfl) ?_ _
              go_wp2
              go_meet
              exact ⟨rfl, ((Below.refl _ w7).drew).trans hb8⟩
          case rest =>
            obtain ⟨rfl, hbx⟩ := hcut
            obtain ⟨w8, hw8⟩ : ∃ w8, w8 = wc := ⟨_, rfl⟩
            subst hw8
            have HA8 := Lib.hid (HA7.out.below hbx)
            have HB8 := Lib.hid (HB7.out.below hbx)
            have HG8 := Lib.hid (HG7.out.keep hbx)
            have HBW8 := Lib.hid (bstep HBW7.out hbx)
            have hlow8 : w1.heap.size + 1 ≤ w8.heap.size := by have := hbx.size; omega
            have d0 := kc hbx d0
            have d1 := kc hbx d1
            clear gg hbx HA7 HB7 HG7 HBW7 hlow7 hls
            cases t with
            | false =>
              go_wp2
              go_roundw
              case rel => exact ⟨k + 1, A2, B2, (g0, g1), by omega, by go_num, HA8.out, HB8.out, HSTEP.out, HG8.out, hlow8, HBW8.out⟩
              case measure => simp [intOf]; omega
            | true =>
              obtain ⟨c0, c1, f0, f1⟩ := id HG8.out
              dsimp only at c0 c1
              go_wp2
              go_roundw
              case rel =>
                refine ⟨k + 1, A2, B2, (y, z), by omega, by go_num, HA8.out.block (fun j hj => ?_), HB8.out.block (fun j hj => ?_), HSTEP.out, HG8.out.put y z, by simp; omega, below_put HBW8.out HS1.out _ _⟩
                · have hne : j ≠ w1.heap.size := fun e => HA8.out.lo (k := w1.heap.size) (by omega) (by rw [hj, e])
                  rw [Below.heap_setCell _ _ _ _ hne, Below.heap_setCell _ _ _ _ hne]
                · have hne : j ≠ w1.heap.size := fun e => HB8.out.lo (k := w1.heap.size) (by omega) (by rw [hj, e])
                  rw [Below.heap_setCell _ _ _ _ hne, Below.heap_setCell _ _ _ _ hne]
              case measure => simp [intOf]; omega
      · obtain rfl : k = N := by omega
        have hAB := HS.out.same
        subst hAB
        obtain ⟨hh1, hh2⟩ := grt_head HS.out.gr HS.out.ca HS.out.ma
        have hrA := WRow.of_own HOA.out (memO_bd HS.out.ma H64.out)
        have hrB := WRow.of_own HOB.out (memO_bd HS.out.mb H64.out)
        have hhd := chead_any (.slice aa A.length ac) A wr (by omega) hrA
        have hsm := fun W (h : Below wr.heap.size wr W) => rsame_any (.slice aa A.length ac) (.slice ba A.length bc) A A W (by omega) (by omega) (hrA.below h) (hrB.below h)
        rw [sameL_self] at hsm
        have hck := fun W (h : Below wr.heap.size wr W) => ccheck_any (.slice aa A.length ac) A W (by omega) (hrA.below h)
        rw [HS.out.ca.chk] at hck
        rw [hh1] at hhd
        generalize A.getLast?.getD vw0 = h at hhd hh2
        obtain ⟨⟨key, val, gone, st, past⟩, pa, pc⟩ := h
        dsimp only at hh2
        subst hh2
        obtain ⟨g0, g1⟩ := st
        dsimp only [wV, wcs, wvs, pw] at hhd
        have heq : ∀ w', (binOp .eql 25 (.agg #[.int .i64 g0, .int .i64 g1]) (.agg #[.int .i64 g0, .int .i64 g1])).run Try.prog w' = .ok (.bool true) w' := fun w' => by rw [eq_stamp]; simp
        obtain ⟨c0, c1, _, _⟩ := id HGR.out
        dsimp only at c0 c1
        clear hh1 hrA hrB hbel
        go_wp2_with fail
        refine hhd.mono ?_
        rintro e w3 ⟨rfl, hb3⟩
        go_upto_region 22 with fail
        obtain ⟨w4, hw4⟩ : ∃ w4, w3.alloc (.cells #[.string key, .string val, .bool gone, .int .i64 g0, .int .i64 g1, .slice pa past.length pc] 28) = w4 := ⟨_, rfl⟩
        have hb4 : Below w3.heap.size w3 w4 := by rw [← hw4]; exact balloc (Below.refl _ w3) _
        have r3 : w4.cell? ⟨w3.heap.size, 3, none⟩ = some (.int .i64 g0) := by rw [← hw4]; simp
        have r4 : w4.cell? ⟨w3.heap.size, 4, none⟩ = some (.int .i64 g1) := by rw [← hw4]; simp
        try rw [hw4]
        clear hw4
        have c0 := kc hb4 (kc hb3 c0)
        have c1 := kc hb4 (kc hb3 c1)
        have hb34 := bstep hb3 hb4
        clear hb3 hb4 hhd
        go_wp2_with fail
        refine (hsm _ hb34).mono ?_
        rintro e w5 ⟨rfl, hb5⟩
        have c0 := kc hb5 c0
        have c1 := kc hb5 c1
        have r3 := kc hb5 r3
        have r4 := kc hb5 r4
        have hb35 := bstep hb34 hb5
        clear hb34 hb5 hsm
        go_wp2_with fail
        refine (hck _ hb35).mono ?_
        rintro e w6 ⟨rfl, hb6⟩
        have c0 := kc hb6 c0
        have c1 := kc hb6 c1
        have r3 := kc hb6 r3
        have r4 := kc hb6 r4
        have HBE := Lib.hid (bstep HBL.out (bstep hb35 hb6))
        clear hb35 hb6 hck
        by_cases hg0 : 0 < g0
        · go_wp2
          go_ret
          exact ⟨ret_bool (by simp), HBE.out⟩
        · go_wp2
          go_ret
          exact ⟨ret_bool (by simp), HBE.out⟩
end Go.Proofs.Ytfkeeehfpbnibaa
