import Derived.Test.YtdomhmajoclpeaaU
set_option linter.unusedVariables false
set_option linter.unusedSimpArgs false
namespace Go.Proofs.Ytdomhmajoclpeaa
open Go Go.Proofs Go.Proofs.Ytdomhmajoclpeaa.Ev Go.Proofs.Ytdomhmajoclpeaa.Ev.Ho Go.IntKind
set_option maxRecDepth 100000
def DT (l : List C) (line : Int) (a : List Int) : Prop := ∀ x : Int, 0 ≤ x → x < 240 → selI a x = halfF (bR l 98304) 98304 (2 * (240 * line + x)) % 32768
theorem dot_dir {s : Sc} {m x : Int} {t t' : List Int} (hc : s.ctl = 1027) (hb : selI s.bg 2 / 64 % 2 = 0) (hpa : s.pa = 256 :: 0 :: 0 :: 256 :: t) (hrf : s.rf = 0 :: (256 * m) :: t') (h0 : 0 ≤ m) (h1 : m < 160) (hx0 : 0 ≤ x) (hx1 : x < 240) : dotF s 2 x m = halfF s.v s.vn (2 * (240 * m + x)) % 32768 := by
  have sh : shP s.ctl 2 := by
    rw [hc]
    exact ⟨by decide, by decide, by rw [show (8 + (2 : Int)).toNat = 10 by decide, show (2 : Int) ^ 10 = 1024 by decide]; decide, .inr (.inr (.inr (by decide)))⟩
  have w : wdF s 2 = 1 := by unfold wdF; rw [if_neg (by omega)]
  have g : hgF s 2 = 1 := by unfold hgF; rw [if_neg (by omega)]
  rw [dotU_eq sh h0 h1 w g, pix3 (by rw [hc]; decide)]
  rw [Int.ediv_one, Int.mul_one, Int.emod_one]
  have ex : pxF s 2 x 0 = x := by
    unfold pxF pF
    rw [if_pos rfl, hpa, hrf]
    show IntKind.i32.wrap (IntKind.i32.wrap (0 + IntKind.i32.wrap (IntKind.i32.wrap x * IntKind.i32.wrap 256)) - IntKind.i32.wrap (IntKind.i32.wrap 0 * IntKind.i32.wrap 0)) / 256 = x
    rw [show IntKind.i32.wrap 256 = 256 by decide, show IntKind.i32.wrap (IntKind.i32.wrap 0 * IntKind.i32.wrap 0) = 0 by decide]
    rw [wi32_in x (by omega) (by omega), wi32_in (x * 256) (by omega) (by omega), wi32_in (0 + x * 256) (by omega) (by omega), wi32_in (0 + x * 256 - 0) (by omega) (by omega)]
    omega
  have ey : pyF s 2 x 0 = m := by
    unfold pyF pF
    rw [if_pos rfl, hpa, hrf]
    show IntKind.i32.wrap (IntKind.i32.wrap (256 * m + IntKind.i32.wrap (IntKind.i32.wrap x * IntKind.i32.wrap 0)) - IntKind.i32.wrap (IntKind.i32.wrap 0 * IntKind.i32.wrap 256)) / 256 = m
    rw [show IntKind.i32.wrap 0 = 0 by decide, Int.mul_zero, show IntKind.i32.wrap 0 = 0 by decide, Int.zero_mul, show IntKind.i32.wrap 0 = 0 by decide]
    rw [wi32_in (256 * m + 0) (by omega) (by omega), wi32_in (256 * m + 0 - 0) (by omega) (by omega)]
    omega
  rw [ex, ey]
  unfold dirF
  rw [if_pos ⟨hx0, hx1, h0, h1⟩, show 2 * (m * 240 + x) = 2 * (240 * m + x) by omega]
theorem sel2 (a b c d : Int) : selI [a, b, c, d] 2 = c := rfl
theorem a15_ (x : Int) : bits .and .u16 x 32767 = x % 32768 := and_mask .u16 x 15 (.inl (by decide))
noncomputable def lawD_h0 (E : World) (a1 a2 a3 a4 : Option Addr) (n1 m1 n2 m2 n3 m3 n4 m4 : Nat) (c : Nat → Int) (line : Int) (z : PX) : Hd := ⟨4, anyH, (tdF Try.f7 0), [(1, .r .i64 (0) (159)), (5, .c (.p 0 0)), (45, .ai 240 .u16), (46, .r .i64 (0) (240))], [mS 1, rowB, rowB, rowB], fun y => ROk (y.l 1) (y.n 26).toNat ∧ y.n 26 = 98304 ∧ DT (y.l 1) (y.n 91001) ((clS y 100000 91045 60) ++ ((clS y 100000 6091045 60) ++ ((clS y 100000 12091045 60) ++ ((clS y 100000 18091045 60))))), fun y => (240 - y.n 91046).toNat⟩
noncomputable def lawD_hs (E : World) (a1 a2 a3 a4 : Option Addr) (n1 m1 n2 m2 n3 m3 n4 m4 : Nat) (c : Nat → Int) (line : Int) (z : PX) : List Hd := [lawD_h0 E a1 a2 a3 a4 n1 m1 n2 m2 n3 m3 n4 m4 c line z]
end Go.Proofs.Ytdomhmajoclpeaa

