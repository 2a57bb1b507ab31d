import Derived.Test.YtoaaklhpmhjhkabGreatSk
import Derived.Test.YtoaaklhpmhjhkabGreatRows
namespace Go.Proofs.YtoaaklhpmhjhkabGreat
abbrev Cp := Calls Tryz.prog
abbrev u_a := @Tryz.underlying156
abbrev u_b := @Tryz.underlying59
abbrev u_c := @Tryz.underlying142
abbrev u_d := @Tryz.underlying146
abbrev u_e := @Tryz.underlying62
abbrev u_f := @Tryz.underlying39
abbrev u_g := @Tryz.underlying45
abbrev u_h := @Tryz.underlying68
abbrev u_i := @Tryz.underlying9
abbrev u_j := @Tryz.underlying78
abbrev u_k := @Tryz.underlying103
abbrev u_l := @Tryz.underlying64
abbrev u_m := @Tryz.underlying41
abbrev u_n := @Tryz.underlying22
abbrev u_o := @Tryz.underlying5
abbrev u_p := @Tryz.underlying74
abbrev u_q := @Tryz.underlying37
end Go.Proofs.YtoaaklhpmhjhkabGreat
