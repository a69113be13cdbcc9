/- The law Built, walked. -/
import Derived.Test.YtnbbfjbndachgaaKeep
import Derived.Test.YtnbbfjbndachgaaDig
namespace Go.Proofs.Ytnbbfjbndachgaa
open Go.RowKit

theorem has_cast {l l' : List UInt8} {is is' : Bool} {h h' : Int} (H : Fm.Has l is h) (e1 : l' = l) (e2 : is' = is) (e3 : h' = h) : Fm.Has l' is' h' := by
  subst e1 e2 e3; exact H

theorem horizon_of {x : ByteArray} {t : Fm.Tree} (w : World) (h : Fm.pars x.data.toList = some t) (hs : x.size ≤ 140737488351232) :
    Calls Try.prog 6 #[.string x] w fun e w' => e = .returned (.tuple #[.int .i64 (Fm.hz t : Nat), .int .i64 0]) ∧ Below w.heap.size w w' := by
  have hs' : x.size ≤ maxLen := by unfold maxLen; omega
  have h1 : horA x.data.toList = Fm.hz t := by unfold horA; rw [parsed_pars, h]
  have h2 : errA x.data.toList = 0 := by unfold errA; rw [parsed_pars, h]
  have := horizon_any x w hs'
  rw [h1, h2] at this
  exact this

theorem size_of {x : ByteArray} {t : Fm.Tree} (w : World) (h : Fm.pars x.data.toList = some t) (hs : x.size ≤ 140737488351232) :
    Calls Try.prog 7 #[.string x] w fun e w' => e = .returned (.int .i64 (Fm.signs t : Nat)) ∧ w' = w := by
  have h1 : (Fm.szf 0 false x.data.toList).1 = Fm.signs t := by rw [Fm.txt_size (Fm.pars_txt h).1]; simp
  have := size_any x w hs
  rw [h1] at this
  exact this

theorem one_size (c : UInt8) : (ByteArray.mk #[c]).size = 1 := rfl
theorem one_list (c : UInt8) : (ByteArray.mk #[c]).data.toList = [c] := rfl
theorem two_size (c d : UInt8) : (ByteArray.mk #[c, d]).size = 2 := rfl
theorem two_list (c d : UInt8) : (ByteArray.mk #[c, d]).data.toList = [c, d] := rfl
theorem three_size (c d e : UInt8) : (ByteArray.mk #[c, d, e]).size = 3 := rfl
theorem three_list (c d e : UInt8) : (ByteArray.mk #[c, d, e]).data.toList = [c, d, e] := rfl

set_option maxHeartbeats 8000000 in
set_option maxRecDepth 100000 in
theorem built_any (f g : ByteArray) (a b : Int) (w : World) (hf : f.size ≤ 140737488351232) (hg : g.size ≤ 140737488351232)
    (ha1 : -9223372036854775808 ≤ a) (ha2 : a ≤ 9223372036854775807) (hb1 : -9223372036854775808 ≤ b) (hb2 : b ≤ 9223372036854775807) :
    Calls Try.prog 3 #[.string f, .string g, .int .i64 a, .int .i64 b] w fun e w' => e = .returned (.bool true) ∧ Below w.heap.size w w' := by
  have hC0 : Below w.heap.size w w := Below.refl _ _
  go_enter Try.func3, Try.ntmps3
  go_wp2_with fail
  refine (has_any _ _ _ _ (by decide) Fm.ex1).mono ?_
  rintro e w1 ⟨rfl, hB1⟩
  have hC1 := hC0.trans (hB1.mono hC0.size)
  clear hB1 hC0
  go_wp2_with fail
  refine (has_any _ _ _ _ (by decide) Fm.ex2).mono ?_
  rintro e w2 ⟨rfl, hB2⟩
  have hC2 := hC1.trans (hB2.mono hC1.size)
  clear hB2 hC1
  go_wp2_with fail
  refine (has_any _ _ _ _ (by decide) Fm.ex3).mono ?_
  rintro e w3 ⟨rfl, hB3⟩
  have hC3 := hC2.trans (hB3.mono hC2.size)
  clear hB3 hC2
  go_wp2_with fail
  refine (has_any _ _ _ _ (by decide) Fm.ex4).mono ?_
  rintro e w4 ⟨rfl, hB4⟩
  have hC4 := hC3.trans (hB4.mono hC3.size)
  clear hB4 hC3
  go_wp2_with fail
  refine (has_any _ _ _ _ (by decide) Fm.ex5).mono ?_
  rintro e w5 ⟨rfl, hB5⟩
  have hC5 := hC4.trans (hB5.mono hC4.size)
  clear hB5 hC4
  go_wp2_with fail
  refine (plain_any f _ hf).mono ?_
  rintro e w6 ⟨⟨x, tx, rfl, hpx, hzx, hsx⟩, hB6⟩
  have hC6 := hC5.trans (hB6.mono hC5.size)
  clear hB6 hC5
  have Hpx := hide hpx
  clear hpx
  go_wp2_with fail
  refine (plain_any g _ hg).mono ?_
  rintro e w7 ⟨⟨y, ty, rfl, hpy, hzy, hsy⟩, hB7⟩
  have hC7 := hC6.trans (hB7.mono hC6.size)
  clear hB7 hC6
  have Hpy := hide hpy
  clear hpy
  go_wp2_with fail
  refine (horizon_of _ (unhide Hpx) hsx).mono ?_
  rintro e w8 ⟨rfl, hB8⟩
  have hC8 := hC7.trans (hB8.mono hC7.size)
  clear hB8 hC7
  go_wp2_with fail
  refine (horizon_of _ (unhide Hpy) hsy).mono ?_
  rintro e w9 ⟨rfl, hB9⟩
  have hC9 := hC8.trans (hB9.mono hC8.size)
  clear hB9 hC8
  go_wp2_with fail
  refine (size_of _ (unhide Hpx) hsx).mono ?_
  rintro e w' ⟨rfl, hw⟩
  subst hw
  go_wp2_with fail
  refine (size_of _ (unhide Hpy) hsy).mono ?_
  rintro e w'' ⟨rfl, hw⟩
  subst hw
  have hgx := (Fm.pars_txt (unhide Hpx)).2.1
  have hgy := (Fm.pars_txt (unhide Hpy)).2.1
  have tX := (Fm.pars_txt (unhide Hpx)).1
  have tY := (Fm.pars_txt (unhide Hpy)).1
  by_cases hmost : (Fm.hz tx : Int) < (Fm.hz ty : Int)
  all_goals
    go_wp2_with fail
    refine (pick_any a 900 _ (by omega) (by omega) ha1 ha2).mono ?_
    rintro e wp ⟨⟨A, rfl, hA⟩, hw⟩
    subst hw
    go_wp2_with fail
    refine (pick_any b 99 _ (by omega) (by omega) hb1 hb2).mono ?_
    rintro e wq ⟨⟨L, rfl, hL⟩, hw⟩
    subst hw
    go_wp2_with fail
    refine (between_any (a := A) (b := A + L) (by omega) (by omega) _ _ _ rfl (by omega)).mono ?_
    rintro e w10 ⟨⟨v, rfl, ev, sv⟩, hB10⟩
    have hC10 := hC9.trans (hB10.mono hC9.size)
    clear hB10 hC9
    have Ev := hide ev
    clear ev
    go_wp2_with fail
    refine (has_any _ _ _ _ (by simp only [size_app, one_size]; unfold maxLen; omega) (has_cast (Fm.has_not tX rfl) (by simp) (decide_eq_decide.2 (by omega)) rfl)).mono ?_
    rintro e w11 ⟨rfl, hB11⟩
    have hC11 := hC10.trans (hB11.mono hC10.size)
    clear hB11 hC10
    go_wp2_with fail
    refine (has_any _ _ _ _ (by simp only [size_app, one_size]; unfold maxLen; omega) (has_cast (Fm.has_once tX (a := A) (b := A + L) (by omega) (by omega) rfl) (by simp [unhide Ev]) (decide_eq_decide.2 (by omega)) rfl)).mono ?_
    rintro e w12 ⟨rfl, hB12⟩
    have hC12 := hC11.trans (hB12.mono hC11.size)
    clear hB12 hC11
    go_wp2_with fail
    refine (has_any _ _ _ _ (by simp only [size_app, one_size]; unfold maxLen; omega) (has_cast (Fm.has_glob tX (a := A) (b := A + L) (by omega) (by omega) rfl) (by simp [unhide Ev]) (decide_eq_decide.2 (by omega)) (by omega))).mono ?_
    rintro e w13 ⟨rfl, hB13⟩
    have hC13 := hC12.trans (hB13.mono hC12.size)
    clear hB13 hC12
    go_wp2_with fail
    refine (dig_any (n := A) (by omega) _ _ rfl).mono ?_
    rintro e w14 ⟨⟨d, rfl, ed, sd⟩, hB14⟩
    have hC14 := hC13.trans (hB14.mono hC13.size)
    clear hB14 hC13
    have Ed := hide ed
    clear ed
    go_wp2_with fail
    refine (has_any _ _ _ _ (by simp only [size_app, two_size, three_size]; unfold maxLen; omega) (has_cast (Fm.has_hist tX (a := A) (by omega) rfl) (by simp [unhide Ed, Fm.ivi]) (decide_eq_decide.2 (by omega)) rfl)).mono ?_
    rintro e w15 ⟨rfl, hB15⟩
    have hC15 := hC14.trans (hB15.mono hC14.size)
    clear hB15 hC14
    go_wp2_with fail
    refine (has_any _ _ _ _ (by simp only [size_app, one_size]; unfold maxLen; omega) (has_cast (Fm.has_and tX tY rfl) (by simp) (decide_eq_decide.2 (by omega)) (by omega))).mono ?_
    rintro e w16 ⟨rfl, hB16⟩
    have hC16 := hC15.trans (hB16.mono hC15.size)
    clear hB16 hC15
    go_wp2_with fail
    refine (has_any _ _ _ _ (by simp only [size_app, one_size]; unfold maxLen; omega) (has_cast (Fm.has_or tX tY rfl) (by simp) (decide_eq_decide.2 (by omega)) (by omega))).mono ?_
    rintro e w17 ⟨rfl, hB17⟩
    have hC17 := hC16.trans (hB17.mono hC16.size)
    clear hB17 hC16
    go_wp2_with fail
    refine (has_any _ _ _ _ (by simp only [size_app, one_size]; unfold maxLen; omega) (has_cast (Fm.has_since tX tY (a := A) (b := A + L) (by omega) (by omega) rfl) (by simp [unhide Ev]) (decide_eq_decide.2 (by omega)) (by omega))).mono ?_
    rintro e w18 ⟨rfl, hB18⟩
    have hC18 := hC17.trans (hB18.mono hC17.size)
    clear hB18 hC17
    go_wp2_with fail
    refine (has_any _ _ _ _ (by simp only [size_app, one_size]; unfold maxLen; omega) (has_cast (Fm.has_until tX tY (a := A) (b := A + L) (by omega) (by omega) rfl) (by simp [unhide Ev]) (decide_eq_decide.2 (by omega)) (by omega))).mono ?_
    rintro e w19 ⟨rfl, hB19⟩
    have hC19 := hC18.trans (hB19.mono hC18.size)
    clear hB19 hC18
    go_wp2_with fail
    refine (has_any _ _ _ _ (by simp only [size_app]; unfold maxLen; omega) (has_cast (Fm.no_two tX tY) (by simp) rfl rfl)).mono ?_
    rintro e w20 ⟨rfl, hB20⟩
    have hC20 := hC19.trans (hB20.mono hC19.size)
    clear hB20 hC19
    go_wp2_with fail
    refine (has_any _ _ _ _ (by simp only [size_app, one_size]; unfold maxLen; omega) (has_cast (Fm.no_brackets tX) (by simp) rfl rfl)).mono ?_
    rintro e w21 ⟨rfl, hB21⟩
    have hC21 := hC20.trans (hB21.mono hC20.size)
    clear hB21 hC20
    go_wp2_with fail
    refine (has_any _ _ _ _ (by simp only [size_app, one_size]; unfold maxLen; omega) (has_cast (Fm.no_close tX tY) (by simp) rfl rfl)).mono ?_
    rintro e w22 ⟨rfl, hB22⟩
    have hC22 := hC21.trans (hB22.mono hC21.size)
    clear hB22 hC21
    clear Ed
    go_wp2_with fail
    refine (dig_any (n := A) (by omega) _ _ rfl).mono ?_
    rintro e w23 ⟨⟨d2, rfl, ed2, sd2⟩, hB23⟩
    have hC23 := hC22.trans (hB23.mono hC22.size)
    clear hB23 hC22
    have Ed := hide ed2
    clear ed2
    go_wp2_with fail
    refine (has_any _ _ _ _ (by simp only [size_app, two_size, three_size]; unfold maxLen; omega) (has_cast (Fm.no_endless tX (a := A) (by omega)) (by simp [unhide Ed, Fm.ivi]) rfl rfl)).mono ?_
    rintro e w24 ⟨rfl, hB24⟩
    have hC24 := hC23.trans (hB24.mono hC23.size)
    clear hB24 hC23
    go_wp2_with fail
    refine (has_any _ _ _ _ (by simp only [size_app, one_size]; unfold maxLen; omega) (has_cast (Fm.no_blank x.data.toList) (by simp) rfl rfl)).mono ?_
    rintro e w25 ⟨rfl, hB25⟩
    have hC25 := hC24.trans (hB25.mono hC24.size)
    clear hB25 hC24
    go_wp2_with fail
    go_ret
    exact ⟨rfl, hC25⟩

end Go.Proofs.Ytnbbfjbndachgaa
