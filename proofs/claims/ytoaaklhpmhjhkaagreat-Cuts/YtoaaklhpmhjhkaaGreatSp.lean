import Derived.Test.YtoaaklhpmhjhkaaGreatSk
import Derived.Test.YtoaaklhpmhjhkaaGreatRows
namespace Go.Proofs.YtoaaklhpmhjhkaaGreat
abbrev Cp := Calls Tryz.prog
abbrev u_a := @Tryz.underlying132
abbrev u_b := @Tryz.underlying247
abbrev u_c := @Tryz.underlying251
abbrev u_d := @Tryz.underlying135
abbrev u_e := @Tryz.underlying23
abbrev u_f := @Tryz.underlying83
abbrev u_g := @Tryz.underlying99
abbrev u_h := @Tryz.underlying9
abbrev u_i := @Tryz.underlying25
abbrev u_j := @Tryz.underlying150
abbrev u_k := @Tryz.underlying118
abbrev u_l := @Tryz.underlying5
abbrev u_m := @Tryz.underlying97
abbrev u_n := @Tryz.underlying194
abbrev u_o := @Tryz.underlying137
abbrev u_p := @Tryz.underlying22
abbrev u_q := @Tryz.underlying78
abbrev u_r := @Tryz.underlying74
abbrev u_s := @Tryz.underlying146
abbrev u_t := @Tryz.underlying53
end Go.Proofs.YtoaaklhpmhjhkaaGreat
