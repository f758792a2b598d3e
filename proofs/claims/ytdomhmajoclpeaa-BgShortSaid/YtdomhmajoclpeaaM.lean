import Derived.Test.YtdomhmajoclpeaaKE
set_option linter.unusedVariables false
set_option linter.unusedSimpArgs false
namespace Go.Proofs.Ytdomhmajoclpeaa
open Go Go.Proofs Go.Proofs.Ytdomhmajoclpeaa.Ev Go.Proofs.Ytdomhmajoclpeaa.Ev.Ho Go.IntKind
set_option maxRecDepth 100000
theorem drawHE_c (E : World) (a1 : Option Addr) (n1 m1 : Nat) (a2 : Option Addr) (n2 m2 : Nat) (a3 : Option Addr) (n3 m3 : Nat) (i line : Int) (z : PX) (hz : rgM z [mE a1 n1 m1 a2 n2 m2 a3 n3 m3] 0) (hp : (fun z => (EOk E a1 n1 ∧ EOk E a2 n2) ∧ True) z) : HR (pe E) 11 [.c (.p 0 0), .c (.i false .i64 i), .c (.i false .i64 line)] [mE a1 n1 m1 a2 n2 m2 a3 n3 m3] [] (.a (List.replicate 240 (.i .u16))) (fun z y => AllF 240 (fun x => dotF (Sc.mk (z.n 0) [(z.n 1), (z.n 2), (z.n 3), (z.n 4)] [(z.n 5), (z.n 6), (z.n 7), (z.n 8)] [(z.n 9), (z.n 10), (z.n 11), (z.n 12)] [(z.n 13), (z.n 14), (z.n 15), (z.n 16), (z.n 17), (z.n 18), (z.n 19), (z.n 20)] [(z.n 21), (z.n 22), (z.n 23), (z.n 24)] (z.n 25) (bE E a1 n1) n1 (bE E a2 n2) n2) i x line) (y.n 90000 :: y.n 90001 :: y.n 90002 :: y.n 90003 :: y.n 90004 :: y.n 90005 :: y.n 90006 :: y.n 90007 :: y.n 90008 :: y.n 90009 :: y.n 90010 :: y.n 90011 :: y.n 90012 :: y.n 90013 :: y.n 90014 :: y.n 90015 :: y.n 90016 :: y.n 90017 :: y.n 90018 :: y.n 90019 :: y.n 90020 :: y.n 90021 :: y.n 90022 :: y.n 90023 :: y.n 90024 :: y.n 90025 :: y.n 90026 :: y.n 90027 :: y.n 90028 :: y.n 90029 :: y.n 90030 :: y.n 90031 :: y.n 90032 :: y.n 90033 :: y.n 90034 :: y.n 90035 :: y.n 90036 :: y.n 90037 :: y.n 90038 :: y.n 90039 :: y.n 90040 :: y.n 90041 :: y.n 90042 :: y.n 90043 :: y.n 90044 :: y.n 90045 :: y.n 90046 :: y.n 90047 :: y.n 90048 :: y.n 90049 :: y.n 90050 :: y.n 90051 :: y.n 90052 :: y.n 90053 :: y.n 90054 :: y.n 90055 :: y.n 90056 :: y.n 90057 :: y.n 90058 :: y.n 90059 :: []) (y.n 90060 :: y.n 90061 :: y.n 90062 :: y.n 90063 :: y.n 90064 :: y.n 90065 :: y.n 90066 :: y.n 90067 :: y.n 90068 :: y.n 90069 :: y.n 90070 :: y.n 90071 :: y.n 90072 :: y.n 90073 :: y.n 90074 :: y.n 90075 :: y.n 90076 :: y.n 90077 :: y.n 90078 :: y.n 90079 :: y.n 90080 :: y.n 90081 :: y.n 90082 :: y.n 90083 :: y.n 90084 :: y.n 90085 :: y.n 90086 :: y.n 90087 :: y.n 90088 :: y.n 90089 :: y.n 90090 :: y.n 90091 :: y.n 90092 :: y.n 90093 :: y.n 90094 :: y.n 90095 :: y.n
      90096 :: y.n 90097 :: y.n 90098 :: y.n 90099 :: y.n 90100 :: y.n 90101 :: y.n 90102 :: y.n 90103 :: y.n 90104 :: y.n 90105 :: y.n 90106 :: y.n 90107 :: y.n 90108 :: y.n 90109 :: y.n 90110 :: y.n 90111 :: y.n 90112 :: y.n 90113 :: y.n 90114 :: y.n 90115 :: y.n 90116 :: y.n 90117 :: y.n 90118 :: y.n 90119 :: []) (y.n 90120 :: y.n 90121 :: y.n 90122 :: y.n 90123 :: y.n 90124 :: y.n 90125 :: y.n 90126 :: y.n 90127 :: y.n 90128 :: y.n 90129 :: y.n 90130 :: y.n 90131 :: y.n 90132 :: y.n 90133 :: y.n 90134 :: y.n 90135 :: y.n 90136 :: y.n 90137 :: y.n 90138 :: y.n 90139 :: y.n 90140 :: y.n 90141 :: y.n 90142 :: y.n 90143 :: y.n 90144 :: y.n 90145 :: y.n 90146 :: y.n 90147 :: y.n 90148 :: y.n 90149 :: y.n 90150 :: y.n 90151 :: y.n 90152 :: y.n 90153 :: y.n 90154 :: y.n 90155 :: y.n 90156 :: y.n 90157 :: y.n 90158 :: y.n 90159 :: y.n 90160 :: y.n 90161 :: y.n 90162 :: y.n 90163 :: y.n 90164 :: y.n 90165 :: y.n 90166 :: y.n 90167 :: y.n 90168 :: y.n 90169 :: y.n 90170 :: y.n 90171 :: y.n 90172 :: y.n 90173 :: y.n 90174 :: y.n 90175 :: y.n 90176 :: y.n 90177 :: y.n 90178 :: y.n 90179 :: []) (y.n 90180 :: y.n 90181 :: y.n 90182 :: y.n 90183 :: y.n 90184 :: y.n 90185 :: y.n 90186 :: y.n 90187 :: y.n 90188 :: y.n 90189 :: y.n 90190 :: y.n 90191 :: y.n 90192 :: y.n 90193 :: y.n 90194 :: y.n 90195 :: y.n 90196 :: y.n 90197 :: y.n 90198 :: y.n 90199 :: y.n 90200 :: y.n 90201 :: y.n 90202 :: y.n 90203 :: y.n 90204 :: y.n 90205 :: y.n 90206 :: y.n 90207 :: y.n 90208 :: y.n 90209 :: y.n 90210 :: y.n 90211 :: y.n 90212 :: y.n 90213 :: y.n 90214 :: y.n 90215 :: y.n 90216 :: y.n 90217 :: y.n 90218 :: y.n 90219 :: y.n 90220 :: y.n 90221 :: y.n 90222 :: y.n 90223 :: y.n 90224 :: y.n 90225 :: y.n 90226 :: y.n 90227 :: y.n 90228 :: y.n 90229 :: y.n 90230 :: y.n 90231 :: y.n 90232 :: y.n 90233 :: y.n 90234 :: y.n 90235 :: y.n 90236 :: y.n 90237 :: y.n 90238 :: y.n 90239 :: [])) z := by
  refine HR.ofHD (drawE_c E a1 n1 m1 a2 n2 m2 a3 n3 m3 i line z hz hp) (fun y hq => ?_) (fun y _ hq => hq.1)
  obtain ⟨_, ⟨hn⟩⟩ := hq
  simp only [List.cons.injEq, and_true] at hn
  obtain ⟨e0, e1, e2, e3, e4, e5, e6, e7, e8, e9, e10, e11, e12, e13, e14, e15, e16, e17, e18, e19, e20, e21, e22, e23, e24, e25⟩ := hn
  simp only [mkM, mE, spC, Nat.mul_zero, Nat.zero_add, Nat.reduceAdd, e0, e1, e2, e3, e4, e5, e6, e7, e8, e9, e10, e11, e12, e13, e14, e15, e16, e17, e18, e19, e20, e21, e22, e23, e24, e25]
noncomputable def orcDE (E : World) (a1 : Option Addr) (n1 m1 : Nat) (a2 : Option Addr) (n2 m2 : Nat) (a3 : Option Addr) (n3 m3 : Nat) : Orc := fun g vs s => match g with
  | 11 => (match frGo [mE a1 n1 m1 a2 n2 m2 a3 n3 m3] vs s (fun vs0 π s1 s0 => match vs0 with
      | [.c (.p 0 0), .c (.i l2 .i64 i), .c (.i l3 .i64 line)] => some (hrG (pre := fun z => (EOk E a1 n1 ∧ EOk E a2 n2) ∧ True) (fun z hz hp => HR.args (vs := [.c (.p 0 0), .c (.i l2 .i64 i), .c (.i l3 .i64 line)]) (by simp [simL, SV.sim, C.sim]) (drawHE_c E a1 n1 m1 a2 n2 m2 a3 n3 m3 i line z hz hp)) (by rfl) π s1 s0)
      | _ => none) with
    | some t => some t
    | none => (orcXE E a1 n1 m1 a2 n2 m2 a3 n3 m3) g vs s)
  | g => (orcXE E a1 n1 m1 a2 n2 m2 a3 n3 m3) g vs s
theorem orcDE_ok {E : World} {a1 : Option Addr} {n1 m1 : Nat} {a2 : Option Addr} {n2 m2 : Nat} {a3 : Option Addr} {n3 m3 : Nat} : OrcOK (pe E) (orcDE E a1 n1 m1 a2 n2 m2 a3 n3 m3) := by
  intro g vs s t h
  unfold orcDE at h
  split at h
  · split at h
    · rename_i hfr; cases h
      obtain ⟨π, s1, hq, hK, hv, hok, hpd⟩ := frGo_spec (P := pe E) hfr
      split at hK
      · rename_i heq; cases hK
        rw [heq] at hv hok
        exact hpd _ _ (hrG_ok _ _ (by rfl) π s1 hq hv hok)
      · cases hK
    · exact orcXE_ok _ _ _ _ h
  · exact orcXE_ok _ _ _ _ h
end Go.Proofs.Ytdomhmajoclpeaa

