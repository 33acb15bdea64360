/- Library functions of strconv and strings, at this program's numbers. -/
import Derived.Test.YtobolipjgkabhaaDoorSa
import Derived.Shelf.Strconv.AppendUint10
import Derived.Shelf.Strconv.AppendIntPublic10
import Derived.Shelf.Strings.Count
import Derived.Shelf.Strings.Search3
import Derived.KernelRfl
namespace Go.Proofs.YtobolipjgkabhaaDoor
open Go.Shelf Go.RowKit
set_option linter.unusedVariables false
set_option linter.unusedSimpArgs false

def renU : Ren := ⟨fun | 129 => 81 | 283 => 68 | 284 => 69 | 285 => 70 | 286 => 71 | 288 => 62 | 317 => 80 | 318 => 82 | 319 => 83 | 320 => 84 | 337 => 89 | 338 => 90 | n => n, fun | 0 => 0 | 3 => 3 | 4 => 4 | 5 => 5 | 9 => 9 | 20 => 20 | 37 => 42 | 46 => 93 | 51 => 96 | 53 => 63 | 171 => 88 | 173 => 91 | 212 => 95 | 213 => 97 | 232 => 102 | 233 => 103 | n => n, fun | 17 => 3 | 18 => 4 | 19 => 5 | n => n⟩
theorem laysU : LaysM.n288 Tryd.prog renU :=
  { mixed := by kernel_rfl
    f129 := by kernel_rfl
    f283 := by kernel_rfl
    f284 := by kernel_rfl
    f285 := by kernel_rfl
    f286 := by kernel_rfl
    f288 := by kernel_rfl
    f317 := by kernel_rfl
    f318 := by kernel_rfl
    f319 := by kernel_rfl
    f320 := by kernel_rfl
    f337 := by kernel_rfl
    f338 := by kernel_rfl
    t0 := by kernel_rfl
    a0 := fun _ => by kernel_rfl
    z0 := fun _ => by kernel_rfl
    v0 := fun _ => by kernel_rfl
    t3 := by kernel_rfl
    a3 := fun _ => by kernel_rfl
    z3 := fun _ => by kernel_rfl
    v3 := fun _ => by kernel_rfl
    t4 := by kernel_rfl
    a4 := fun _ => by kernel_rfl
    z4 := fun _ => by kernel_rfl
    v4 := fun _ => by kernel_rfl
    t5 := by kernel_rfl
    a5 := fun _ => by kernel_rfl
    z5 := fun _ => by kernel_rfl
    v5 := fun _ => by kernel_rfl
    t9 := by kernel_rfl
    a9 := fun _ => by kernel_rfl
    z9 := fun _ => by kernel_rfl
    v9 := fun _ => by kernel_rfl
    t20 := by kernel_rfl
    a20 := fun _ => by kernel_rfl
    z20 := fun _ => by kernel_rfl
    v20 := fun _ => by kernel_rfl
    t37 := by kernel_rfl
    a37 := fun _ => by kernel_rfl
    z37 := fun _ => by kernel_rfl
    v37 := fun _ => by kernel_rfl
    t46 := by kernel_rfl
    a46 := fun _ => by kernel_rfl
    z46 := fun _ => by kernel_rfl
    v46 := fun _ => by kernel_rfl
    t51 := by kernel_rfl
    a51 := fun _ => by kernel_rfl
    z51 := fun _ => by kernel_rfl
    v51 := fun _ => by kernel_rfl
    t53 := by kernel_rfl
    a53 := fun _ => by kernel_rfl
    z53 := fun _ => by kernel_rfl
    v53 := fun _ => by kernel_rfl
    t171 := by kernel_rfl
    a171 := fun _ => by kernel_rfl
    z171 := fun _ => by kernel_rfl
    v171 := fun _ => by kernel_rfl
    t173 := by kernel_rfl
    a173 := fun _ => by kernel_rfl
    z173 := fun _ => by kernel_rfl
    v173 := fun _ => by kernel_rfl
    t212 := by kernel_rfl
    a212 := fun _ => by kernel_rfl
    z212 := fun _ => by kernel_rfl
    v212 := fun _ => by kernel_rfl
    t213 := by kernel_rfl
    a213 := fun _ => by kernel_rfl
    z213 := fun _ => by kernel_rfl
    t232 := by kernel_rfl
    a232 := fun _ => by kernel_rfl
    z232 := fun _ => by kernel_rfl
    v232 := fun _ => by kernel_rfl
    t233 := by kernel_rfl
    a233 := fun _ => by kernel_rfl
    z233 := fun _ => by kernel_rfl
    v233 := fun _ => by kernel_rfl
    g17 := by kernel_rfl
    g18 := by kernel_rfl
    g19 := by kernel_rfl
    i0 := by kernel_rfl
    i3 := by kernel_rfl
    i4 := by kernel_rfl
    i5 := by kernel_rfl
    i9 := by kernel_rfl
    i20 := by kernel_rfl
    i37 := by kernel_rfl
    i46 := by kernel_rfl
    i51 := by kernel_rfl
    i53 := by kernel_rfl
    i171 := by kernel_rfl
    i173 := by kernel_rfl
    i212 := by kernel_rfl
    i232 := by kernel_rfl
    i233 := by kernel_rfl
    m17 := by kernel_rfl
    m18 := by kernel_rfl
    m19 := by kernel_rfl }
def renI : Ren := ⟨fun | 129 => 81 | 176 => 35 | 249 => 50 | 283 => 68 | 284 => 69 | 285 => 70 | 286 => 71 | 288 => 62 | 317 => 80 | 318 => 82 | 319 => 83 | 320 => 84 | 337 => 89 | 338 => 90 | n => n, fun | 0 => 0 | 2 => 2 | 3 => 3 | 4 => 4 | 5 => 5 | 9 => 9 | 20 => 20 | 37 => 42 | 46 => 93 | 51 => 96 | 53 => 63 | 171 => 88 | 173 => 91 | 212 => 95 | 213 => 97 | 232 => 102 | 233 => 103 | n => n, fun | 17 => 3 | 18 => 4 | 19 => 5 | n => n⟩
theorem laysI : LaysM.n176 Tryd.prog renI :=
  { mixed := by kernel_rfl
    f129 := by kernel_rfl
    f176 := by kernel_rfl
    f249 := by kernel_rfl
    f283 := by kernel_rfl
    f284 := by kernel_rfl
    f285 := by kernel_rfl
    f286 := by kernel_rfl
    f288 := by kernel_rfl
    f317 := by kernel_rfl
    f318 := by kernel_rfl
    f319 := by kernel_rfl
    f320 := by kernel_rfl
    f337 := by kernel_rfl
    f338 := by kernel_rfl
    t0 := by kernel_rfl
    a0 := fun _ => by kernel_rfl
    z0 := fun _ => by kernel_rfl
    v0 := fun _ => by kernel_rfl
    t2 := by kernel_rfl
    a2 := fun _ => by kernel_rfl
    z2 := fun _ => by kernel_rfl
    v2 := fun _ => by kernel_rfl
    t3 := by kernel_rfl
    a3 := fun _ => by kernel_rfl
    z3 := fun _ => by kernel_rfl
    v3 := fun _ => by kernel_rfl
    t4 := by kernel_rfl
    a4 := fun _ => by kernel_rfl
    z4 := fun _ => by kernel_rfl
    v4 := fun _ => by kernel_rfl
    t5 := by kernel_rfl
    a5 := fun _ => by kernel_rfl
    z5 := fun _ => by kernel_rfl
    v5 := fun _ => by kernel_rfl
    t9 := by kernel_rfl
    a9 := fun _ => by kernel_rfl
    z9 := fun _ => by kernel_rfl
    v9 := fun _ => by kernel_rfl
    t20 := by kernel_rfl
    a20 := fun _ => by kernel_rfl
    z20 := fun _ => by kernel_rfl
    v20 := fun _ => by kernel_rfl
    t37 := by kernel_rfl
    a37 := fun _ => by kernel_rfl
    z37 := fun _ => by kernel_rfl
    v37 := fun _ => by kernel_rfl
    t46 := by kernel_rfl
    a46 := fun _ => by kernel_rfl
    z46 := fun _ => by kernel_rfl
    v46 := fun _ => by kernel_rfl
    t51 := by kernel_rfl
    a51 := fun _ => by kernel_rfl
    z51 := fun _ => by kernel_rfl
    v51 := fun _ => by kernel_rfl
    t53 := by kernel_rfl
    a53 := fun _ => by kernel_rfl
    z53 := fun _ => by kernel_rfl
    v53 := fun _ => by kernel_rfl
    t171 := by kernel_rfl
    a171 := fun _ => by kernel_rfl
    z171 := fun _ => by kernel_rfl
    v171 := fun _ => by kernel_rfl
    t173 := by kernel_rfl
    a173 := fun _ => by kernel_rfl
    z173 := fun _ => by kernel_rfl
    v173 := fun _ => by kernel_rfl
    t212 := by kernel_rfl
    a212 := fun _ => by kernel_rfl
    z212 := fun _ => by kernel_rfl
    v212 := fun _ => by kernel_rfl
    t213 := by kernel_rfl
    a213 := fun _ => by kernel_rfl
    z213 := fun _ => by kernel_rfl
    t232 := by kernel_rfl
    a232 := fun _ => by kernel_rfl
    z232 := fun _ => by kernel_rfl
    v232 := fun _ => by kernel_rfl
    t233 := by kernel_rfl
    a233 := fun _ => by kernel_rfl
    z233 := fun _ => by kernel_rfl
    v233 := fun _ => by kernel_rfl
    g17 := by kernel_rfl
    g18 := by kernel_rfl
    g19 := by kernel_rfl
    i0 := by kernel_rfl
    i2 := by kernel_rfl
    i3 := by kernel_rfl
    i4 := by kernel_rfl
    i5 := by kernel_rfl
    i9 := by kernel_rfl
    i20 := by kernel_rfl
    i37 := by kernel_rfl
    i46 := by kernel_rfl
    i51 := by kernel_rfl
    i53 := by kernel_rfl
    i171 := by kernel_rfl
    i173 := by kernel_rfl
    i212 := by kernel_rfl
    i232 := by kernel_rfl
    i233 := by kernel_rfl
    m17 := by kernel_rfl
    m18 := by kernel_rfl
    m19 := by kernel_rfl }
def renC : Ren := ⟨fun | 138 => 39 | 143 => 56 | 195 => 54 | 217 => 74 | 218 => 55 | 219 => 66 | 224 => 76 | 225 => 75 | 266 => 85 | 267 => 77 | 314 => 86 | n => n, fun | 0 => 0 | 3 => 3 | 4 => 4 | 5 => 5 | 9 => 9 | 46 => 93 | 51 => 96 | 146 => 99 | n => n, fun | 1 => 2 | n => n⟩
theorem laysC : Lays.n138 Tryd.prog renC :=
  { mixed := by kernel_rfl
    f138 := by kernel_rfl
    f143 := by kernel_rfl
    f195 := by kernel_rfl
    f217 := by kernel_rfl
    f218 := by kernel_rfl
    f219 := by kernel_rfl
    f224 := by kernel_rfl
    f225 := by kernel_rfl
    f266 := by kernel_rfl
    f267 := by kernel_rfl
    f314 := by kernel_rfl
    t0 := by kernel_rfl
    a0 := fun _ => by kernel_rfl
    z0 := fun _ => by kernel_rfl
    v0 := fun _ => by kernel_rfl
    t3 := by kernel_rfl
    a3 := fun _ => by kernel_rfl
    z3 := fun _ => by kernel_rfl
    v3 := fun _ => by kernel_rfl
    t4 := by kernel_rfl
    a4 := fun _ => by kernel_rfl
    z4 := fun _ => by kernel_rfl
    v4 := fun _ => by kernel_rfl
    t5 := by kernel_rfl
    a5 := fun _ => by kernel_rfl
    z5 := fun _ => by kernel_rfl
    v5 := fun _ => by kernel_rfl
    t9 := by kernel_rfl
    a9 := fun _ => by kernel_rfl
    z9 := fun _ => by kernel_rfl
    v9 := fun _ => by kernel_rfl
    t46 := by kernel_rfl
    a46 := fun _ => by kernel_rfl
    z46 := fun _ => by kernel_rfl
    v46 := fun _ => by kernel_rfl
    t51 := by kernel_rfl
    a51 := fun _ => by kernel_rfl
    z51 := fun _ => by kernel_rfl
    v51 := fun _ => by kernel_rfl
    t146 := by kernel_rfl
    a146 := fun _ => by kernel_rfl
    z146 := fun _ => by kernel_rfl
    v146 := fun _ => by kernel_rfl
    g1 := by kernel_rfl }
def renT : Ren := ⟨fun | 143 => 56 | 144 => 40 | 217 => 74 | 219 => 66 | 224 => 76 | 225 => 75 | 266 => 85 | 267 => 77 | 314 => 86 | n => n, fun | 3 => 3 | 4 => 4 | 5 => 5 | 9 => 9 | 46 => 93 | 51 => 96 | 146 => 99 | n => n, fun | 1 => 2 | n => n⟩
theorem laysT : Lays.n144 Tryd.prog renT :=
  { mixed := by kernel_rfl
    f143 := by kernel_rfl
    f144 := by kernel_rfl
    f217 := by kernel_rfl
    f219 := by kernel_rfl
    f224 := by kernel_rfl
    f225 := by kernel_rfl
    f266 := by kernel_rfl
    f267 := by kernel_rfl
    f314 := by kernel_rfl
    t3 := by kernel_rfl
    a3 := fun _ => by kernel_rfl
    z3 := fun _ => by kernel_rfl
    v3 := fun _ => by kernel_rfl
    t4 := by kernel_rfl
    a4 := fun _ => by kernel_rfl
    z4 := fun _ => by kernel_rfl
    v4 := fun _ => by kernel_rfl
    t5 := by kernel_rfl
    a5 := fun _ => by kernel_rfl
    z5 := fun _ => by kernel_rfl
    v5 := fun _ => by kernel_rfl
    t9 := by kernel_rfl
    a9 := fun _ => by kernel_rfl
    z9 := fun _ => by kernel_rfl
    v9 := fun _ => by kernel_rfl
    t46 := by kernel_rfl
    a46 := fun _ => by kernel_rfl
    z46 := fun _ => by kernel_rfl
    v46 := fun _ => by kernel_rfl
    t51 := by kernel_rfl
    a51 := fun _ => by kernel_rfl
    z51 := fun _ => by kernel_rfl
    v51 := fun _ => by kernel_rfl
    t146 := by kernel_rfl
    a146 := fun _ => by kernel_rfl
    z146 := fun _ => by kernel_rfl
    v146 := fun _ => by kernel_rfl
    g1 := by kernel_rfl }
end Go.Proofs.YtobolipjgkabhaaDoor
