/-
  The walk of the law ItemKinds: it returns true.
-/
import Derived.Test.YtmddabemnjlniaaDoorItKindsOut
namespace Go.Proofs.YtmddabemnjlniaaDoor
open Go.RowKit

theorem itemKinds_walk (k : Int) (nm : ByteArray) (ci : Int) (W : World) (_wk : (Lit.int .i64 k).wf = true) (hm : nm.size ≤ maxLen) (wc : (Lit.int .u8 ci).wf = true) (hE : Env W) :
    Calls Tryd.prog 6 #[.int .i64 k, .string nm, .int .u8 ci] W fun e w' => e = .returned (.bool true) ∧ Below W.heap.size W w' := by
  obtain ⟨c, rfl⟩ := u8_of wc
  by_cases hl : 50 < nm.size
  · exact ik_long k nm c W hm hE hl
  · cases h2 : It.tipOk (nm.data.toList ++ [c]) <;> cases hn : Fig.nameB nm.data.toList <;> by_cases hk : 1 ≤ k ∧ k ≤ 9
    · exact ik_in_f_noname k nm c W hm hE hl hk.1 hk.2 h2 hn
    · exact ik_out_f_noname k nm c W hm hE hl hk h2 hn
    · exact ik_in_f_name k nm c W hm hE hl hk.1 hk.2 h2 hn
    · exact ik_out_f_name k nm c W hm hE hl hk h2 hn
    · exact ik_in_t_noname k nm c W hm hE hl hk.1 hk.2 h2 hn
    · exact ik_out_t_noname k nm c W hm hE hl hk h2 hn
    · exact ik_in_t_name k nm c W hm hE hl hk.1 hk.2 h2 hn
    · exact ik_out_t_name k nm c W hm hE hl hk h2 hn
end Go.Proofs.YtmddabemnjlniaaDoor

