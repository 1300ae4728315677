import Derived.Test.YtaalbaiglkadlaaGreatBCb
import Derived.Test.YtaalbaiglkadlaaGreatWC
import Derived.Test.YtaalbaiglkadlaaGreatSA
/- How many bits tokens take, plainly: by how often symbols stand. -/
namespace Go.Proofs.YtaalbaiglkadlaaGreat
open Go.RowKit Go.Lib

def dotN (f g : Nat → Nat) : Nat → Nat
  | 0 => 0
  | j + 1 => dotN f g j + f j * g j
theorem dot_add (f f' g : Nat → Nat) : ∀ n, dotN (fun s => f s + f' s) g n = dotN f g n + dotN f' g n
  | 0 => rfl
  | n + 1 => by
    unfold dotN
    rw [dot_add f f' g n, Nat.add_mul]
    omega
theorem dot_zero (g : Nat → Nat) : ∀ n, dotN (fun _ => 0) g n = 0
  | 0 => rfl
  | n + 1 => by unfold dotN; rw [dot_zero g n, Nat.zero_mul]
theorem dot_congr (f f' g g' : Nat → Nat) : ∀ n, (∀ i, i < n → f i * g i = f' i * g' i) → dotN f g n = dotN f' g' n
  | 0, _ => rfl
  | n + 1, h => by
    unfold dotN
    rw [dot_congr f f' g g' n (fun i hi => h i (by omega)), h n (by omega)]
theorem dot_one (a : Nat) (g : Nat → Nat) : ∀ n, dotN (fun s => if a = s then 1 else 0) g n = if a < n then g a else 0
  | 0 => by rw [if_neg (Nat.not_lt_zero _)]; rfl
  | n + 1 => by
    unfold dotN
    rw [dot_one a g n]
    by_cases e : a = n
    · subst e
      rw [if_pos rfl, if_neg (Nat.lt_irrefl _), if_pos (Nat.lt_succ_self _)]
      omega
    · rw [if_neg e]
      by_cases h : a < n
      · rw [if_pos h, if_pos (by omega)]; omega
      · rw [if_neg h, if_neg (by omega)]; omega
theorem dot_le (f g : Nat → Nat) (F G : Nat) (hf : ∀ i, f i ≤ F) (hg : ∀ i, g i ≤ G) : ∀ n, dotN f g n ≤ n * (F * G)
  | 0 => by rw [Nat.zero_mul]; exact Nat.le_refl _
  | n + 1 => by
    unfold dotN
    have h1 := dot_le f g F G hf hg n
    have h2 := Nat.mul_le_mul (hf n) (hg n)
    rw [Nat.add_mul, Nat.one_mul]
    omega
/-- Counted by symbols, or token by token. -/
theorem dot_count (c : Nat × Int × Int → Bool) (h : Nat × Int × Int → Nat) (g : Nat → Nat) (n : Nat) : ∀ l : List (Nat × Int × Int), (∀ t ∈ l, c t = true → h t < n) → dotN (fun s => l.countP (fun t => c t && (h t == s))) g n = (l.map fun t => if c t = true then g (h t) else 0).sum
  | [], _ => by
    simp only [List.countP_nil, List.map_nil, List.sum_nil]
    exact dot_zero g n
  | t :: l, hh => by
    have ih := dot_count c h g n l (fun u hu => hh u (List.mem_cons_of_mem _ hu))
    rw [List.map_cons, List.sum_cons, ← ih]
    have e : (fun s => (t :: l).countP (fun t => c t && (h t == s))) = fun s => l.countP (fun t => c t && (h t == s)) + (if (c t && (h t == s)) = true then 1 else 0) := by
      funext s
      rw [List.countP_cons]
    rw [e, dot_add, Nat.add_comm]
    congr 1
    cases hc : c t with
    | false => simp only [Bool.false_and, Bool.false_eq_true, if_false]; exact dot_zero g n
    | true =>
      have hlt := hh t (List.mem_cons_self ..) hc
      have e2 : (fun s => if (true && (h t == s)) = true then 1 else 0) = fun s => if h t = s then 1 else 0 := by
        funext s
        simp
      rw [e2, dot_one, if_pos hlt, if_pos rfl]

/-- A symbol's extra bits. -/
def xlF (i : Nat) : Nat := if 257 ≤ i then lenBits (i - 257) else 0
theorem xl_lit (i : Nat) (h : i < 257) : xlF i = 0 := by unfold xlF; rw [if_neg (by omega)]
theorem xl_mat (k : Nat) : xlF (257 + k) = lenBits k := by unfold xlF; rw [if_pos (by omega), show 257 + k - 257 = k by omega]
theorem sum_add2 (u v : Nat × Int × Int → Nat) : ∀ l : List (Nat × Int × Int), (l.map fun t => u t + v t).sum = (l.map u).sum + (l.map v).sum
  | [] => rfl
  | t :: l => by
    have := sum_add2 u v l
    simp only [List.map_cons, List.sum_cons]
    omega
theorem dot_wL (l : List (Nat × Int × Int)) (g : Nat → Nat) (h : ∀ t ∈ l, symT t < 286) : dotN (wL l) g 286 = g 256 + (l.map fun t => g (symT t)).sum := by
  have e : wL l = fun s => (if 256 = s then 1 else 0) + l.countP (fun t => true && (symT t == s)) := by
    funext s
    unfold wL
    simp only [Bool.true_and]
    congr 1
    by_cases e : s = 256
    · rw [if_pos e, if_pos e.symm]
    · rw [if_neg e, if_neg (fun h => e h.symm)]
  rw [e, dot_add, dot_one, if_pos (by omega), dot_count (fun _ => true) symT g 286 l (fun t ht _ => h t ht)]
  simp only [if_true]
theorem dot_wD (l : List (Nat × Int × Int)) (g : Nat → Nat) : dotN (wD l) g 30 = (l.map fun t => if isM t = true then g (farT t) else 0).sum :=
  dot_count isM farT g 30 l (fun t _ _ => farT_lt t)
theorem tok_bits (la lb : List Nat) (t : Nat × Int × Int) (hr : RightT t) : la.getD (symT t) 0 + xlF (symT t) + ((if isM t = true then lb.getD (farT t) 0 else 0) + (if isM t = true then distBits (farT t) else 0)) = (tokBits la lb t).length := by
  obtain ⟨b, ln, d⟩ := t
  unfold tokBits symT isM farT
  by_cases h : ln ≤ 0
  · have hb : b < 256 := hr.1
    simp only [if_pos h]
    rw [decide_eq_false (show ¬ 0 < ln by omega)]
    rw [high_len, xl_lit _ (by omega)]
    simp
  · simp only [if_neg h]
    rw [decide_eq_true (show 0 < ln by omega), if_pos rfl, if_pos rfl, xl_mat]
    simp only [List.length_append, high_len, lowBits_length]
    omega
theorem body_len (la lb : List Nat) (l : List (Nat × Int × Int)) (hr : ∀ t ∈ l, RightT t) : dotN (wL l) (fun i => la.getD i 0) 286 + dotN (wD l) (fun i => lb.getD i 0) 30 + dotN (wL l) xlF 286 + dotN (wD l) distBits 30 = (bodyBits la lb l).length := by
  have h9 : ∀ t ∈ l, symT t < 286 := fun t ht => symT_lt (hr t ht)
  rw [dot_wL l _ h9, dot_wL l _ h9, dot_wD, dot_wD, xl_lit 256 (by omega)]
  have key : (l.map fun t => la.getD (symT t) 0 + xlF (symT t) + ((if isM t = true then lb.getD (farT t) 0 else 0) + (if isM t = true then distBits (farT t) else 0))).sum = (toksBits la lb l).length := by
    clear h9
    induction l with
    | nil => rfl
    | cons t l ih =>
      rw [List.map_cons, List.sum_cons, ih (fun u hu => hr u (List.mem_cons_of_mem _ hu)), tok_bits la lb t (hr t (List.mem_cons_self ..))]
      show _ = (tokBits la lb t ++ toksBits la lb l).length
      rw [List.length_append]
  rw [sum_add2, sum_add2, sum_add2] at key
  unfold bodyBits
  rw [List.length_append, high_len]
  omega
/-- Beyond a list's end nothing is counted. -/
theorem dot_cut (f : Nat → Nat) (b : List Nat) : ∀ n, dotN f (fun i => b.getD i 0) (min n b.length) = dotN f (fun i => b.getD i 0) n
  | 0 => by rw [Nat.zero_min]
  | n + 1 => by
    by_cases h : n + 1 ≤ b.length
    · rw [Nat.min_eq_left h]
    · have e : b.getD n 0 = 0 := by rw [List.getD_eq_getElem?_getD, List.getElem?_eq_none (by omega)]; rfl
      have ih := dot_cut f b n
      rw [show min (n + 1) b.length = min n b.length by omega, ih]
      show _ = dotN f (fun i => b.getD i 0) n + f n * b.getD n 0
      rw [e, Nat.mul_zero, Nat.add_zero]
theorem cast_getD (l : List Nat) (i : Nat) : (l.map fun (x : Nat) => (x : Int)).getD i 0 = ((l.getD i 0 : Nat) : Int) := by
  rw [List.getD_eq_getElem?_getD, List.getD_eq_getElem?_getD, List.getElem?_map]
  cases l[i]? <;> rfl
theorem cost_dot (a b : List Nat) (ha : ∀ i, a.getD i 0 ≤ 2001) (hb : ∀ i, b.getD i 0 ≤ 15) : ∀ k, k ≤ 300 → costW (a.map fun (x : Nat) => (x : Int)) (b.map fun (x : Nat) => (x : Int)) k = ((dotN (fun i => a.getD i 0) (fun i => b.getD i 0) k : Nat) : Int)
  | 0, _ => rfl
  | k + 1, h => by
    unfold costW dotN
    rw [cost_dot a b ha hb k (by omega), cast_getD, cast_getD]
    have h1 := dot_le (fun i => a.getD i 0) (fun i => b.getD i 0) 2001 15 ha hb k
    have h2 := Nat.mul_le_mul (ha k) (hb k)
    rw [← Int.natCast_mul]
    generalize a.getD k 0 * b.getD k 0 = P at *
    generalize dotN (fun i => a.getD i 0) (fun i => b.getD i 0) k = D at *
    have h3 : D ≤ 300 * (2001 * 15) := Nat.le_trans h1 (Nat.mul_le_mul_right _ (by omega))
    unfold wrap64
    omega

end Go.Proofs.YtaalbaiglkadlaaGreat

/- Contracts of the code of layer 9: sizes. -/
namespace Go.Proofs.YtaalbaiglkadlaaGreat
open Go.RowKit Go.Lib

theorem ordBits_len (hl : List Nat) : ∀ k, k ≤ 19 → (ordBits hl k).length = 3 * k
  | 0, _ => rfl
  | k + 1, h => by
    rw [ordBits_succ hl k (by omega), List.length_append, ordBits_len hl k (by omega), lowBits_length]
    omega
theorem headBits_len (n m : Nat) (rs : List (Int × Int)) (hl : List Nat) : (headBits n m rs hl).length = 14 + 3 * ordN hl 19 + (runsBits hl rs).length := by
  unfold headBits
  simp only [List.length_append, lowBits_length, ordBits_len hl (ordN hl 19) (ordN_le hl 19)]
  omega
theorem runBits_len (hl : List Nat) (s : Nat) (e : Int) : (runBits hl ((s : Int), e)).length = hl.getD s 0 + xBits (s : Int) := by
  unfold runBits
  rw [List.length_append, high_len, lowBits_length, Int.toNat_natCast]

set_option maxRecDepth 20000 in
set_option maxHeartbeats 4000000 in
theorem headsize9 (n m t ct j cf cl : Nat) (rs : List (Int × Int)) (hl : List Nat) (gt gf gl : Option Addr) (W : World) (kf : ArgR W gf rs) (kl : ArgN W gl hl) (ht : ordN hl 19 = t) (hj : rs.length = j) (hro : ∀ r ∈ rs, 0 ≤ r.1 ∧ r.1 ≤ 18) (hj2 : j ≤ 400) (hll : hl.length = 19) (h15 : ∀ z ∈ hl, z ≤ 15) :
    Calls Tryz.prog 62 #[.agg #[.int .i64 (n : Nat), .int .i64 (m : Nat), .slice gt t ct, .slice gf j cf, .slice gl 19 cl]] W fun e w' => e = .returned (.int .i64 ((headBits n m rs hl).length : Nat)) ∧ Below W.heap.size W w' := by
  have HJ := hide hj
  have HRO := hide hro
  have HG7 := hide h15
  have HLL := hide hll
  have h19 := ordN_le hl 19
  have HLEN := hide (headBits_len n m rs hl)
  rw [ht] at h19 HLEN
  have hb := new_box W (.cells #[.int .i64 (n : Nat), .int .i64 (m : Nat), .slice gt t ct, .slice gf j cf, .slice gl 19 cl] 96)
  have B0 := hide ((Below.refl W.heap.size W).alloc (Nat.le_refl _) (.cells #[.int .i64 (n : Nat), .int .i64 (m : Nat), .slice gt t ct, .slice gf j cf, .slice gl 19 cl] 96))
  have KF := hide (kf.below B0.out (Nat.le_refl _))
  have KL := hide (kl.below B0.out (Nat.le_refl _))
  have HBX := hide hb
  have hlt := (Array.getElem?_eq_some_iff.1 hb).1
  have HLT0 := hide hlt
  clear kf kl ht hj hro h15 hb hlt hll
  go_enter Tryz.func62, Tryz.ntmps62
  go_wp2
  generalize (W.alloc (.cells #[.int .i64 (n : Nat), .int .i64 (m : Nat), .slice gt t ct, .slice gf j cf, .slice gl 19 cl] 96)) = w0 at *
  go_loopw [3, 14] (fun nv c wr => ∃ q : Nat, q ≤ j ∧ c = .int .i64 (q : Nat) ∧ ∃ S : Nat, nv = .int .i64 (S : Nat) ∧ Hid (S = 14 + 3 * t + (runsBits hl (rs.take q)).length) ∧ Hid (Below w0.heap.size w0 wr)) (fun _ c _ => j - (intOf c).toNat)
  case atStart => exact ⟨0, Nat.zero_le _, rfl, 14 + 3 * t, by go_num, rfl, hide (Below.refl _ _)⟩
  case round =>
    obtain ⟨q, hq, rfl, S, rfl, HS, HB⟩ := hrel
    have hlb := runsBits_le hl (fun z hz => HG7.out z hz) (rs.take q)
    have hti : (rs.take q).length ≤ q := by rw [List.length_take]; omega
    have hS9 : S ≤ 20000 := by have := HS.out; omega
    by_cases hlt : q < j
    · obtain ⟨⟨s, ex⟩, hs⟩ : ∃ t, rs[q]? = some t := ⟨_, List.getElem?_eq_getElem (by rw [HJ.out]; exact hlt)⟩
      obtain ⟨g, off, rfl, hg, hc1, hc2⟩ := KF.out q s ex hs
      have hso := HRO.out _ (List.mem_of_getElem? hs)
      obtain ⟨s, rfl⟩ := Int.eq_ofNat_of_zero_le hso.1
      have hs19 : s < 19 := by have := hso.2; dsimp only at this; omega
      obtain ⟨x, ox, rfl, hx, hcx⟩ := KL.out s _ (getD_some hl s (by rw [HLL.out]; exact hs19))
      have HSN := hide (runsBits_snoc hl (rs.take q) ((s : Int), ex))
      rw [show rs.take q ++ [((s : Int), ex)] = rs.take (q + 1) by rw [List.take_add_one, hs]; rfl] at HSN
      have HRL := hide (runBits_len hl s ex)
      have hx7 := xBits_le (s : Int)
      have hg15 := getD_le HG7.out s
      have HBT := hide (bits7_same (s : Int))
      have B1 := hide (HB.out.alloc HB.out.size (.cells #[.int .i64 (s : Int), .int .i64 ex] 122))
      have hb7 := new_box wr (.cells #[.int .i64 (s : Int), .int .i64 ex] 122)
      have _c1 := (HB.out.cell (p := ⟨g, off + q * 2, none⟩) hg).trans hc1
      have _c2 := (HB.out.cell (p := ⟨g, off + q * 2 + 1, none⟩) hg).trans hc2
      have hE := HBX.out
      rw [← B1.out.block _ HLT0.out] at hE
      obtain ⟨_, _, _, _e3, _e4⟩ := five_cells hE
      have _x := (B1.out.cell (p := ⟨x, ox + s, none⟩) hx).trans hcx
      have _r0 : (wr.alloc (.cells #[.int .i64 (s : Int), .int .i64 ex] 122)).cell? ⟨wr.heap.size, 0, none⟩ = some (.int .i64 (s : Int)) := by rw [cell_of_row _ _ 0 _ _ (0, 0) hb7]; rfl
      generalize xBits (s : Int) = xb at *
      generalize hl.getD s 0 = lv at *
      have zi : (q : Int) < j := by omega
      have zs : (s : Int) < 19 := by omega
      have HLT := hide hlt
      clear hso hs hg hc1 hc2 hx hcx hb7 hlb hti hE hlt
      go_wp2
      generalize (wr.alloc (.cells #[.int .i64 (s : Int), .int .i64 ex] 122)) = w7 at *
      go_quiet ((go_at_call 72; exact Calls.quiet_of_same (HBT.out _)))
      go_wp2
      go_roundw
      case rel => exact ⟨q + 1, HLT.out, by go_num, S + (lv + xb), by go_num, hide (by rw [HSN.out, List.length_append, HRL.out, HS.out]; omega), hide (below_drewN B1.out _)⟩
      case measure => exact meas_oneW q j HLT.out
    · have hqe : q = j := by omega
      subst hqe
      have HF := hide (show S = (headBits n m rs hl).length by rw [HLEN.out, HS.out, ← HJ.out, List.take_length])
      have HBF := hide (B0.out.trans (HB.out.mono B0.out.size))
      go_wp2
      go_ret
      exact ⟨by rw [← HF.out]; rfl, HBF.out⟩

/-- Where the walk's product is no more than it may be. -/
theorem prod_wrap (a b : Nat) (ha : a ≤ 2001) (hb : b ≤ 13) : IntKind.i64.wrap ((a : Int) * (b : Int)) = ((a * b : Nat) : Int) ∧ wrap64 ((a : Int) * (b : Int)) = ((a * b : Nat) : Int) ∧ a * b ≤ 26013 := by
  have h := Nat.mul_le_mul ha hb
  rw [← Int.natCast_mul]
  generalize a * b = P at *
  refine ⟨?_, ?_, h⟩
  · rw [IntKind.wrap_i64]; omega
  · unfold wrap64; omega
theorem lb_xl (i : Nat) (h : i < 286) : lbV (i : Int) = .tuple #[.int .i64 (lbI (i : Int)), .int .i64 (xlF i : Nat), .bool (lbOk (i : Int))] := by
  unfold lbV
  congr 3
  by_cases h1 : i < 257
  · rw [(lb_no (n := (i : Int)) (.inl (by omega))).2.2, xl_lit i h1]; rfl
  · obtain ⟨k, rfl⟩ : ∃ k, i = 257 + k := ⟨i - 257, by omega⟩
    have e := (lb_yes k (by omega)).2.2
    rw [xl_mat, show ((257 + k : Nat) : Int) = 257 + (k : Int) by omega, e]
theorem db_xl (i : Nat) (h : i < 30) : dbV (i : Int) = .tuple #[.int .i64 (dbI (i : Int)), .int .i64 (distBits i : Nat), .bool (dbOk (i : Int))] := by
  unfold dbV
  rw [(db_yes i (by omega)).2.2]
theorem xl_le (i : Nat) (h : i < 286) : xlF i ≤ 13 := by
  by_cases h1 : i < 257
  · rw [xl_lit i h1]; omega
  · obtain ⟨k, rfl⟩ : ∃ k, i = 257 + k := ⟨i - 257, by omega⟩
    rw [xl_mat]
    have := (len_small k (by omega)).2.2
    omega

end Go.Proofs.YtaalbaiglkadlaaGreat

/- Contracts of the code of layer 9: tokensSize, storedSize. -/
namespace Go.Proofs.YtaalbaiglkadlaaGreat
open Go.RowKit Go.Lib

theorem litWs_getD (l : List (Nat × Int × Int)) (hl : l.length ≤ 2000) (i : Nat) : (litWs l).getD i 0 ≤ 2001 := by
  rw [List.getD_eq_getElem?_getD]
  by_cases h : i < 286
  · rw [litWs_get l i h]
    have := wL_le l i
    show wL l i ≤ 2001
    omega
  · rw [List.getElem?_eq_none (by rw [litWs_length]; omega)]
    exact Nat.zero_le _
theorem distWs_getD (l : List (Nat × Int × Int)) (hl : l.length ≤ 2000) (i : Nat) : (distWs l).getD i 0 ≤ 2001 := by
  rw [List.getD_eq_getElem?_getD]
  by_cases h : i < 30
  · rw [distWs_get l i h]
    have := wD_le l i
    show wD l i ≤ 2001
    omega
  · rw [List.getElem?_eq_none (by rw [distWs_length]; omega)]
    exact Nat.zero_le _
theorem cost_lit (l : List (Nat × Int × Int)) (la : List Nat) (hl : l.length ≤ 2000) (ha : ∀ z ∈ la, z ≤ 15) : costW ((litWs l).map fun (x : Nat) => (x : Int)) (la.map fun (x : Nat) => (x : Int)) (min 286 la.length) = ((dotN (wL l) (fun i => la.getD i 0) 286 : Nat) : Int) := by
  have h : dotN (fun i => (litWs l).getD i 0) (fun i => la.getD i 0) 286 = dotN (wL l) (fun i => la.getD i 0) 286 := dot_congr _ _ _ _ 286 (fun i hi => by rw [List.getD_eq_getElem?_getD (l := litWs l), litWs_get l i hi]; rfl)
  rw [cost_dot (litWs l) la (litWs_getD l hl) (getD_le ha) _ (by omega), dot_cut, h]
theorem cost_dist (l : List (Nat × Int × Int)) (lb : List Nat) (hl : l.length ≤ 2000) (hb : ∀ z ∈ lb, z ≤ 15) : costW ((distWs l).map fun (x : Nat) => (x : Int)) (lb.map fun (x : Nat) => (x : Int)) (min 30 lb.length) = ((dotN (wD l) (fun i => lb.getD i 0) 30 : Nat) : Int) := by
  have h : dotN (fun i => (distWs l).getD i 0) (fun i => lb.getD i 0) 30 = dotN (wD l) (fun i => lb.getD i 0) 30 := dot_congr _ _ _ _ 30 (fun i hi => by rw [List.getD_eq_getElem?_getD (l := distWs l), distWs_get l i hi]; rfl)
  rw [cost_dot (distWs l) lb (distWs_getD l hl) (getD_le hb) _ (by omega), dot_cut, h]

set_option maxRecDepth 20000 in
set_option maxHeartbeats 400000 in
theorem toksize9 (l : List (Nat × Int × Int)) (la lb : List Nat) (a1 b1 a2 b2 : Option Addr) (c1 d1 c2 d2 na nb : Nat) (W : World) (hA : ArgN W a1 (litWs l)) (hB : ArgN W b1 (distWs l)) (kA : ArgN W a2 la) (kB : ArgN W b2 lb) (hna : la.length = na) (hnb : lb.length = nb) (h15 : ∀ z ∈ la, z ≤ 15) (k15 : ∀ z ∈ lb, z ≤ 15) (hl : l.length ≤ 2000) (hr : ∀ t ∈ l, RightT t) (hna2 : na ≤ 300) (hnb2 : nb ≤ 300) :
    Calls Tryz.prog 60 #[.slice a1 286 c1, .slice b1 30 d1, .slice a2 na c2, .slice b2 nb d2] W fun e w' => e = .returned (.int .i64 ((bodyBits la lb l).length : Nat)) ∧ Below W.heap.size W w' := by
  have HA := hide hA
  have HB := hide hB
  have HC1 := hide (cost_any (((litWs l).map fun (x : Nat) => (x : Int))) (la.map fun (x : Nat) => (x : Int)) a1 a2 c1 c2 W hA.toZ kA.toZ (by rw [List.length_map, litWs_length]; omega) (by rw [List.length_map]; omega))
  rw [List.length_map, List.length_map, litWs_length, cost_lit l la hl h15, hna] at HC1
  have HC2 := hide (fun w' (b : Below W.heap.size W w') => cost_any (((distWs l).map fun (x : Nat) => (x : Int))) (lb.map fun (x : Nat) => (x : Int)) b1 b2 d1 d2 w' (hB.below b (Nat.le_refl _)).toZ (kB.below b (Nat.le_refl _)).toZ (by rw [List.length_map, distWs_length]; omega) (by rw [List.length_map]; omega))
  have hcd := cost_dist l lb hl k15
  rw [hnb] at hcd
  simp only [List.length_map, distWs_length, hnb, hcd] at HC2
  clear hcd
  have HBL := hide (body_len la lb l hr)
  have hd1 := dot_le (wL l) (fun i => la.getD i 0) 2001 15 (fun i => by have := wL_le l i; omega) (getD_le h15) 286
  have hd2 := dot_le (wD l) (fun i => lb.getD i 0) 2001 15 (fun i => by have := wD_le l i; omega) (getD_le k15) 30
  have HW1 := hide (fun i => (show wL l i ≤ 2001 by have := wL_le l i; omega))
  have HW2 := hide (fun i => (show wD l i ≤ 2001 by have := wD_le l i; omega))
  have HG1 := hide (fun i (h : i < 286) => litWs_get l i h)
  have HG2 := hide (fun i (h : i < 30) => distWs_get l i h)
  generalize dotN (wL l) (fun i => la.getD i 0) 286 = D1 at *
  generalize dotN (wD l) (fun i => lb.getD i 0) 30 = D2 at *
  have HZ0 := hide (show D1 + D2 = D1 + D2 + dotN (wL l) xlF 0 by rw [show dotN (wL l) xlF 0 = 0 from rfl, Nat.add_zero])
  have HZ1 := hide (show dotN (wD l) distBits 0 = 0 from rfl)
  have HSB := hide (show D1 + D2 ≤ 20000000 + 26013 * 0 by omega)
  have HEW := hide (show Value.int .i64 (wrap64 ((D1 : Int) + (D2 : Int))) = Value.int .i64 ((D1 + D2 : Nat) : Int) by rw [show wrap64 ((D1 : Int) + (D2 : Int)) = (D1 : Int) + (D2 : Int) by unfold wrap64; omega, Int.natCast_add])
  clear hd1 hd2
  clear hA hB kA kB h15 k15 hr hna hnb
  go_enter Tryz.func60, Tryz.ntmps60
  go_wp2_with fail
  refine HC1.out.mono ?_
  rintro e w1 ⟨rfl, b1'⟩
  have HB1 := hide b1'
  have HC2b := hide (HC2.out w1 b1')
  clear b1' HC1 HC2
  go_wp2_with fail
  refine HC2b.out.mono ?_
  rintro e w2 ⟨rfl, b2'⟩
  have HB2 := hide (HB1.out.trans (b2'.mono HB1.out.size))
  clear b2' HC2b HB1
  go_wp2
  go_loopw [9, 29] (fun nv c wr => ∃ i : Nat, i ≤ 286 ∧ c = .int .i64 (i : Nat) ∧ ∃ S : Nat, nv = .int .i64 (S : Nat) ∧ S ≤ 20000000 + 26013 * i ∧ Hid (S = D1 + D2 + dotN (wL l) xlF i) ∧ Hid (Below W.heap.size W wr)) (fun _ c _ => 286 - (intOf c).toNat)
  case atStart => exact ⟨0, Nat.zero_le _, rfl, D1 + D2, HEW.out, HSB.out, HZ0.out, HB2⟩
  case round =>
    clear HB2
    obtain ⟨i, hi, rfl, S, rfl, hS, HS, HBR⟩ := hrel
    by_cases hlt : i < 286
    · obtain ⟨g, off, rfl, hg, hc⟩ := HA.out i _ (HG1.out i hlt)
      have _c := (HBR.out.cell (p := ⟨g, off + i, none⟩) hg).trans hc
      have HLB := hide (lenbase_any (i : Int))
      rw [lb_xl i hlt] at HLB
      have hw := HW1.out i
      have hx := xl_le i hlt
      have HST := hide (show dotN (wL l) xlF (i + 1) = dotN (wL l) xlF i + wL l i * xlF i from rfl)
      obtain ⟨p1, p2, p3⟩ := prod_wrap (wL l i) (xlF i) hw hx
      generalize wL l i * xlF i = P at *
      generalize wL l i = wv at *
      generalize xlF i = xv at *
      generalize lbI (i : Int) = q1 at *
      generalize lbOk (i : Int) = q2 at *
      have zi : (i : Int) < 286 := by omega
      clear hg hc
      go_wp2_with fail
      refine (HLB.out _).mono ?_
      rintro e w3 ⟨rfl, b3⟩
      have HB3 := hide (HBR.out.trans (b3.mono HBR.out.size))
      clear b3
      go_wp2
      go_roundw
      case rel => exact ⟨i + 1, hlt, by go_num, S + P, by go_num, by omega, hide (by rw [HST.out, HS.out]; omega), HB3⟩
      case measure => exact meas_oneW i 286 hlt
    · have hie : i = 286 := by omega
      subst hie
      generalize dotN (wL l) xlF 286 = E1 at *
      go_wp2
      go_loopw [9, 48] (fun nv c wt => ∃ i : Nat, i ≤ 30 ∧ c = .int .i64 (i : Nat) ∧ ∃ S : Nat, nv = .int .i64 (S : Nat) ∧ S ≤ 40000000 + 26013 * i ∧ Hid (S = D1 + D2 + E1 + dotN (wD l) distBits i) ∧ Hid (Below W.heap.size W wt)) (fun _ c _ => 30 - (intOf c).toNat)
      case atStart => exact ⟨0, Nat.zero_le _, rfl, S, rfl, by omega, hide (by rw [HZ1.out, Nat.add_zero]; exact HS.out), HBR⟩
      case round =>
        clear HS HBR hS
        obtain ⟨i, hi, rfl, S, rfl, hS, HS, HBR⟩ := hrel
        by_cases hlt : i < 30
        · obtain ⟨g, off, rfl, hg, hc⟩ := HB.out i _ (HG2.out i hlt)
          have _c := (HBR.out.cell (p := ⟨g, off + i, none⟩) hg).trans hc
          have HLB := hide (distbase_any (i : Int))
          rw [db_xl i hlt] at HLB
          have hw := HW2.out i
          have hx := (dist_small i (by omega)).2.2
          have HST := hide (show dotN (wD l) distBits (i + 1) = dotN (wD l) distBits i + wD l i * distBits i from rfl)
          obtain ⟨p1, p2, p3⟩ := prod_wrap (wD l i) (distBits i) hw hx
          generalize wD l i * distBits i = P at *
          generalize wD l i = wv at *
          generalize distBits i = xv at *
          generalize dbI (i : Int) = q1 at *
          generalize dbOk (i : Int) = q2 at *
          have zi : (i : Int) < 30 := by omega
          clear hg hc
          go_wp2_with fail
          refine (HLB.out _).mono ?_
          rintro e w3 ⟨rfl, b3⟩
          have HB3 := hide (HBR.out.trans (b3.mono HBR.out.size))
          clear b3
          go_wp2
          go_roundw
          case rel => first | exact ⟨i + 1, hlt, by go_num, S + P, by go_num, by omega, hide (by rw [HST.out, HS.out]; omega), HB3⟩ | exact ⟨_, _, _, _, _, _, _, _, _, _, _, _, _, _, _, _, _, _, _, _, _, _, _, ⟨i + 1, hlt, by go_num, S + P, by go_num, by omega, hide (by rw [HST.out, HS.out]; omega), HB3⟩, rfl⟩
          case measure => exact meas_oneW i 30 hlt
        · have hie : i = 30 := by omega
          subst hie
          have HF := hide (show S = (bodyBits la lb l).length by rw [← HBL.out, HS.out])
          go_wp2
          go_ret
          exact ⟨by rw [← HF.out]; rfl, HBR.out⟩

theorem and7 (k : Int) : bits .and .i64 (-(k + 3)) 7 = (8 - (k + 3) % 8) % 8 := by
  rw [and7_i64]
  omega
set_option maxHeartbeats 1000000 in
theorem stored9 (raw k : Int) (w : World) (h1 : 0 ≤ k) (h2 : k ≤ 1099511627776) :
    Calls Tryz.prog 58 #[.int .i64 raw, .int .i64 k] w fun e w' => e = .returned (.int .i64 (rawSize raw k)) ∧ w = w' := by
  by_cases c1 : raw < 0
  · have e : rawSize raw k = -1 := by unfold rawSize; rw [if_pos (.inl c1)]
    rw [e]
    go_enter Tryz.func58, Tryz.ntmps58
    go_wp2
    go_ret
    exact ⟨rfl, rfl⟩
  · have d1 : decide (raw < 0) = false := decide_eq_false c1
    by_cases c2 : 65535 < raw
    · have e : rawSize raw k = -1 := by unfold rawSize; rw [if_pos (.inr c2)]
      have d2 : decide (65535 < raw) = true := decide_eq_true c2
      rw [e]
      clear e c2
      go_enter Tryz.func58, Tryz.ntmps58
      go_wp2
      go_ret
      exact ⟨rfl, rfl⟩
    · have d2 : decide (65535 < raw) = false := decide_eq_false c2
      have HE := hide (show rawSize raw k = 3 + (8 - (k + 3) % 8) % 8 + 32 + 8 * raw by unfold rawSize; rw [if_neg (by omega)])
      have h7 := and7 k
      rw [HE.out]
      obtain ⟨z, hz⟩ : ∃ z, (8 - (k + 3) % 8) % 8 = z := ⟨_, rfl⟩
      have hz8 : 0 ≤ z ∧ z ≤ 7 := by omega
      rw [hz] at h7 ⊢
      obtain ⟨hz1, hz2⟩ := hz8
      clear hz
      go_enter Tryz.func58, Tryz.ntmps58
      go_wp2
      go_ret
      exact ⟨rfl, rfl⟩

end Go.Proofs.YtaalbaiglkadlaaGreat

/- Contracts of the code of layer 9: Write, Store. -/
namespace Go.Proofs.YtaalbaiglkadlaaGreat
open Go.RowKit Go.Lib

theorem codeK_made {p : Nat} {v : Value} {w w' : World} {la : List Nat} {x o c g k B n : Nat} (kn : KN p v w (some ⟨x, o, none⟩) la) (s : Step p v v w w') (hp : p < B) (hv : ∀ q, v.ownBlock = some q → q < B) (ho : w'.ownsRow B 3 1 (.slice (some ⟨g, 0, none⟩) n k) n (natCs (codesL la))) (hn : la.length = n) : CodeK p v w' la x o c g k := by
  have hkn := kn.step s
  have hl := ho.lt g rfl
  refine ⟨hkn.free x o rfl, ⟨hl.2, by have := hl.1; omega, fun e => by have := hv g e; have := hl.1; omega⟩, fun i hi => ?_, fun i hi => ?_⟩
  · obtain ⟨b', o', e1, _, h3⟩ := hkn.arg i _ (getD_some la i hi)
    injection e1 with e1
    injection e1 with e1 e2
    subst e1 e2
    exact h3
  · have h := (own_nat (l := codesL la) (by rw [codesL_length, hn]; exact ho) (codesL_get la i hi)).1
    rw [Nat.zero_add]
    exact h
theorem kn_new {p : Nat} {v : Value} {W w : World} {a : Option Addr} {l : List Nat} (h : ArgN w a l) (h1 : 1 ≤ l.length) (hp : p < W.heap.size) (hv : ∀ q, v.ownBlock = some q → q < W.heap.size) (hn : NewA W a) : KN p v w a l :=
  ⟨h, fun b off e => free_new hp hv (hn b off e) (by obtain ⟨b', off', h1, h2, _⟩ := h 0 _ (getD_some l 0 (by omega)); rw [e] at h1; injection h1 with h1; injection h1 with h1; subst h1; exact h2)⟩
theorem kr_new {p : Nat} {v : Value} {W w : World} {a : Option Addr} {l : List (Int × Int)} (h : ArgR w a l) (h1 : 1 ≤ l.length) (hp : p < W.heap.size) (hv : ∀ q, v.ownBlock = some q → q < W.heap.size) (hn : NewA W a) : KR p v w a l :=
  ⟨h, fun b off e => free_new hp hv (hn b off e) (by
    obtain ⟨⟨s, x⟩, hs⟩ : ∃ t, l[0]? = some t := ⟨_, List.getElem?_eq_getElem (by omega)⟩
    obtain ⟨b', off', h1, h2, _⟩ := h 0 s x hs
    rw [e] at h1
    injection h1 with h1
    injection h1 with h1
    subst h1
    exact h2)⟩
theorem body_le {la lb : List Nat} {l : List (Nat × Int × Int)} (ok : CodesOk la lb l) (hl : l.length ≤ 2000) : (bodyBits la lb l).length ≤ 100000 := by
  have h := toksBits_le ok.ma.each ok.mb.each l
  have h2 := getD_le ok.ma.each 256
  unfold bodyBits
  rw [List.length_append, high_len]
  omega

set_option maxRecDepth 20000 in
set_option maxHeartbeats 8000000 in
theorem write9_plain (l : List (Nat × Int × Int)) (a : Option Addr) (n cap : Nat) (kind : Int) (last : Bool) (p : Nat) (v : Value) (bs : List Bool) (W : World) (hn : l.length = n) (hk : kind ≠ 2) (hw : Wr W p v bs) (hbs : bs.length ≤ 500000) (kt : KT p v W a l) (hr : ∀ t ∈ l, RightT t) (hl : n ≤ 2000) :
    Calls Tryz.prog 35 #[.pointer (some ⟨p, 0, none⟩), .slice a n cap, .int .i64 kind, .bool last] W fun e w' => WriteRPost W l kind last p v bs e w' := by
  have HN := hide hn
  have HK := hide hk
  have HR := hide hr
  have HKT := hide kt
  have HOK := hide (plain_ok l hr)
  have bk : (kind != 2) = true := by simp [hk]
  have H1 := hide (begin9 p v bs 1 last W hw (by omega))
  clear hn hk hr kt hw
  go_enter Tryz.func35, Tryz.ntmps35
  go_wp2_with fail
  refine H1.out.mono ?_
  rintro e w1 ⟨rfl, v1, hr1, hs1⟩
  have HR1 := hide hr1
  have HS1 := hide hs1
  have HPL := hide (plain9 w1)
  clear hr1 hs1 H1
  go_wp2_with fail
  refine HPL.out.mono ?_
  rintro e w2 ⟨a1, c1, b1, d1, rfl, hA, hB, _, _, hb2, hn1, hn2⟩
  obtain ⟨hp, hv⟩ := HR1.out.old
  have KA := hide (kn_new (p := p) (v := v1) hA (by rw [plainL_length]; omega) hp hv hn1)
  have KB := hide (kn_new (p := p) (v := v1) hB (by rw [plainD_length]; omega) hp hv hn2)
  have HS2 := hide (Step.ofBelow (p := p) (v := v1) hb2)
  have HBL := hide hb2
  have HP2 := hide (show p < w2.heap.size ∧ ∀ q, v1.ownBlock = some q → q < w2.heap.size from ⟨Nat.lt_of_lt_of_le hp hb2.size, fun q hq => Nat.lt_of_lt_of_le (hv q hq) hb2.size⟩)
  simp only [plainL_length, plainD_length]
  obtain ⟨xa, oa, rfl, _, _⟩ := hA 0 _ (getD_some plainL 0 (by rw [plainL_length]; omega))
  obtain ⟨xb, ob, rfl, _, _⟩ := hB 0 _ (getD_some plainD 0 (by rw [plainD_length]; omega))
  have HC1 := hide (coded9 plainL _ 288 c1 w2 plainL_length hA makes_plainL (by omega) (by omega))
  clear hA hB hb2 hn1 hn2 hp hv HPL
  go_wp2_with fail
  refine HC1.out.mono ?_
  rintro e w3 ⟨g3, k3, rfl, ho3, b3⟩
  have HB3 := hide b3
  have HO3 := hide ho3
  have HC2 := hide (coded9 plainD _ 32 d1 w3 plainD_length (KB.out.step (Step.ofBelow b3)).arg makes_plainD (by omega) (by omega))
  clear ho3 b3 HC1
  go_wp2_with fail
  refine HC2.out.mono ?_
  rintro e w4 ⟨g4, k4, rfl, ho4, b4⟩
  have HS24 := hide ((Step.ofBelow (p := p) (v := v1) HB3.out).trans (Step.ofBelow b4))
  have hz3 := HB3.out.size
  have CA := hide (codeK_made (c := c1) KA.out HS24.out HP2.out.1 HP2.out.2 (own_below HO3.out b4 (Nat.le_refl _)) plainL_length)
  have CB := hide (codeK_made (c := d1) KB.out HS24.out (Nat.lt_of_lt_of_le HP2.out.1 hz3) (fun q hq => Nat.lt_of_lt_of_le (HP2.out.2 q hq) hz3) ho4 plainD_length)
  have HS14 := hide (HS2.out.trans HS24.out)
  have HW4 := hide (show Wr w4 p v1 (bs ++ [last] ++ lowBits 1 2) from by
    exact ((HR1.out.below HBL.out).below HB3.out).below b4)
  have HT := hide (tokens9 l a n cap p v1 (bs ++ [last] ++ lowBits 1 2) w4 plainL plainD xa oa c1 g3 k3 xb ob d1 g4 k4 HN.out HW4.out (by rw [List.length_append, List.length_append, lowBits_length, List.length_singleton]; omega) (HKT.out.step (HS1.out.trans HS14.out)) CA.out CB.out HOK.out HR.out hl)
  rw [plainL_length, plainD_length] at HT
  clear ho4 b4 HC2
  go_wp2_with fail
  refine HT.out.mono ?_
  rintro e w5 ⟨rfl, v5, hr5, hs5⟩
  have HG := hide (show WriteRPost W l kind last p v bs (.returned (.tuple #[])) w5 from by
    refine ⟨rfl, [last] ++ (lowBits 1 2 ++ bodyBits plainL plainD l), v5, .inr ⟨HK.out, rfl⟩, ?_, ?_, HS1.out.trans (HS14.out.trans hs5)⟩
    · have h := body_le HOK.out (by rw [HN.out]; exact hl)
      rw [List.length_append, List.length_append, lowBits_length, List.length_singleton]
      omega
    · have hf := hr5
      simp only [List.append_assoc] at hf ⊢
      exact hf)
  clear hr5 hs5 HT
  go_wp2
  go_end0
  exact HG.out

theorem fold_some {l : List Int} {rs : List (Int × Int)} (h : FoldRes l rs) (h1 : 1 ≤ l.length) (h2 : ∀ x ∈ l, 0 ≤ x ∧ x ≤ 15) : 1 ≤ rs.length := by
  refine Classical.byContradiction fun hn => ?_
  have e : rs = [] := List.length_eq_zero_iff.1 (by omega)
  subst e
  rcases h with ⟨_, h3⟩ | ⟨h3, _⟩
  · have h4 : l = [] := h3
    rw [h4] at h1
    exact absurd h1 (by decide)
  · rw [(lenB_iff l).2 h2] at h3
    cases h3

set_option maxRecDepth 20000 in
set_option maxHeartbeats 8000000 in
theorem write9_own (l : List (Nat × Int × Int)) (a : Option Addr) (n cap : Nat) (last : Bool) (p : Nat) (v : Value) (bs : List Bool) (W : World) (hn : l.length = n) (hw : Wr W p v bs) (hbs : bs.length ≤ 500000) (kt : KT p v W a l) (hr : ∀ t ∈ l, RightT t) (hl : n ≤ 2000) :
    Calls Tryz.prog 35 #[.pointer (some ⟨p, 0, none⟩), .slice a n cap, .int .i64 2, .bool last] W fun e w' => WriteRPost W l 2 last p v bs e w' := by
  have HN := hide hn
  have HR := hide hr
  have HKT := hide kt
  have HOK := hide (own_ok l hr (by omega))
  have hlo := ownLit_len l
  have hdo := ownDist_len l
  have H1 := hide (begin9 p v bs 2 last W hw (by omega))
  clear hn hr kt hw
  obtain ⟨nl, hnl⟩ : ∃ nl, (ownLit l).length = nl := ⟨_, rfl⟩
  obtain ⟨nd, hnd⟩ : ∃ nd, (ownDist l).length = nd := ⟨_, rfl⟩
  have HNL := hide hnl
  have HND := hide hnd
  rw [hnl] at hlo
  rw [hnd] at hdo
  obtain ⟨hlo1, hlo2⟩ := hlo
  obtain ⟨hdo1, hdo2⟩ := hdo
  clear hnl hnd
  go_enter Tryz.func35, Tryz.ntmps35
  go_wp2_with fail
  refine H1.out.mono ?_
  rintro e w1 ⟨rfl, v1, hr1, hs1⟩
  have HR1 := hide hr1
  have HS1 := hide hs1
  have HPL := hide (own9 l a cap w1 (HKT.out.step hs1).arg HR.out (by rw [HN.out]; exact hl))
  rw [HN.out] at HPL
  clear hr1 hs1 H1
  go_wp2_with fail
  refine HPL.out.mono ?_
  rintro e w2 ⟨a1, c1, b1, d1, rfl, hA, hB, _, _, hb2, hn1, hn2⟩
  obtain ⟨hp, hv⟩ := HR1.out.old
  have KA := hide (kn_new (p := p) (v := v1) hA (by rw [HNL.out]; omega) hp hv hn1)
  have KB := hide (kn_new (p := p) (v := v1) hB (by rw [HND.out]; omega) hp hv hn2)
  have HBL := hide hb2
  have HP2 := hide (show p < w2.heap.size ∧ ∀ q, v1.ownBlock = some q → q < w2.heap.size from ⟨Nat.lt_of_lt_of_le hp hb2.size, fun q hq => Nat.lt_of_lt_of_le (hv q hq) hb2.size⟩)
  simp only [HNL.out, HND.out]
  obtain ⟨xa, oa, rfl, _, _⟩ := hA 0 _ (getD_some (ownLit l) 0 (by rw [HNL.out]; omega))
  obtain ⟨xb, ob, rfl, _, _⟩ := hB 0 _ (getD_some (ownDist l) 0 (by rw [HND.out]; omega))
  have HHD := hide (headed9 (ownLit l) (ownDist l) _ _ nl nd c1 d1 w2 HNL.out HND.out hA hB hlo1 hlo2 hdo1 hdo2)
  clear hA hB hb2 hn1 hn2 hp hv HPL
  go_wp2_with fail
  refine HHD.out.mono ?_
  rintro e w3 ⟨rs, hl9, gt, ct, gf, cf, gl, cl, rfl, hrs, hlim, hgt, ngt, hgf, ngf, hgl, ngl, b3⟩
  obtain ⟨hmk7, hll, hl7⟩ := halfJ_short15 hlim (by omega)
  rw [runWs_length] at hll
  have hrl := hrs.length
  rw [List.length_map, List.length_append, HNL.out, HND.out] at hrl
  have hr1 := fold_some hrs (by rw [List.length_map, List.length_append, HNL.out]; omega) (fun z hz => by
    obtain ⟨y, hy, rfl⟩ := List.mem_map.1 hz
    rcases List.mem_append.1 hy with h | h
    · have := HOK.out.ma.each y h; omega
    · have := HOK.out.mb.each y h; omega)
  have h4 := ordN_four hl9 19 (by omega)
  have HRW := hide (show Wr w3 p v1 (bs ++ [last] ++ lowBits 2 2) from (HR1.out.below HBL.out).below b3)
  have HHW := hide (headw9 nl nd (ordN hl9 19) ct rs.length cf cl rs hl9 gt gf gl p v1 (bs ++ [last] ++ lowBits 2 2) w3 HRW.out (by rw [List.length_append, List.length_append, lowBits_length, List.length_singleton]; omega) (kn_new hgt (by rw [told_len]; omega) HP2.out.1 HP2.out.2 ngt) (kr_new hgf hr1 HP2.out.1 HP2.out.2 ngf) (kn_new hgl (by rw [hll]; omega) HP2.out.1 HP2.out.2 ngl) rfl rfl (foldRes_ok hrs) (by omega) hll hmk7 hlo1 hlo2 hdo1 hdo2)
  have HREL := hide (show HeadRel (ownLit l) (ownDist l) (headBits nl nd rs hl9) from ⟨rs, hl9, hrs, hlim, by rw [HNL.out, HND.out]⟩)
  have HHL := hide (headRel_le HREL.out (by rw [List.length_append, HNL.out, HND.out]; omega))
  have HS3 := hide ((Step.ofBelow (p := p) (v := v1) HBL.out).trans (Step.ofBelow b3))
  have HS23 := hide (Step.ofBelow (p := p) (v := v1) b3)
  clear hrs hlim hgt ngt hgf ngf hgl ngl b3 hmk7 hll hl7 hrl hr1 h4 HHD
  go_wp2_with fail
  refine HHW.out.mono ?_
  rintro e w4 ⟨rfl, v4, hr4, hs4⟩
  have HR4 := hide hr4
  have HS24 := hide (HS23.out.trans hs4)
  have KA4 := hide (KA.out.step HS24.out)
  have KB4 := hide (KB.out.step HS24.out)
  have HS14 := hide (HS3.out.trans hs4)
  have HC1 := hide (coded9 (ownLit l) _ nl c1 w4 HNL.out KA4.out.arg HOK.out.ma (by omega) (by omega))
  obtain ⟨hp4, hv4⟩ := hr4.old
  have HP4 := hide (And.intro hp4 hv4)
  clear hr4 hs4 hp4 hv4 HHW KA KB HP2
  go_wp2_with fail
  refine HC1.out.mono ?_
  rintro e w5 ⟨g5, k5, rfl, ho5, b5⟩
  have HB5 := hide b5
  have HO5 := hide ho5
  have HC2 := hide (coded9 (ownDist l) _ nd d1 w5 HND.out (KB4.out.step (Step.ofBelow b5)).arg HOK.out.mb (by omega) (by omega))
  clear ho5 b5 HC1
  go_wp2_with fail
  refine HC2.out.mono ?_
  rintro e w6 ⟨g6, k6, rfl, ho6, b6⟩
  have HS46 := hide ((Step.ofBelow (p := p) (v := v4) HB5.out).trans (Step.ofBelow b6))
  have hz5 := HB5.out.size
  have CA := hide (codeK_made (c := c1) KA4.out HS46.out HP4.out.1 HP4.out.2 (own_below HO5.out b6 (Nat.le_refl _)) HNL.out)
  have CB := hide (codeK_made (c := d1) KB4.out HS46.out (Nat.lt_of_lt_of_le HP4.out.1 hz5) (fun q hq => Nat.lt_of_lt_of_le (HP4.out.2 q hq) hz5) ho6 HND.out)
  have HS16 := hide (HS14.out.trans HS46.out)
  have HW6 := hide ((HR4.out.below HB5.out).below b6)
  have HT := hide (tokens9 l a n cap p v4 _ w6 (ownLit l) (ownDist l) xa oa c1 g5 k5 xb ob d1 g6 k6 HN.out HW6.out (by rw [List.length_append, List.length_append, List.length_append, lowBits_length, List.length_singleton]; have := HHL.out; omega) (HKT.out.step (HS1.out.trans HS16.out)) CA.out CB.out HOK.out HR.out hl)
  rw [HNL.out, HND.out] at HT
  clear ho6 b6 HC2 hz5
  go_wp2_with fail
  refine HT.out.mono ?_
  rintro e w7 ⟨rfl, v7, hr7, hs7⟩
  have HG := hide (show WriteRPost W l 2 last p v bs (.returned (.tuple #[])) w7 from by
    refine ⟨rfl, [last] ++ (lowBits 2 2 ++ (headBits nl nd rs hl9 ++ bodyBits (ownLit l) (ownDist l) l)), v7, .inl ⟨rfl, _, HREL.out, rfl⟩, ?_, ?_, HS1.out.trans (HS16.out.trans hs7)⟩
    · have h := body_le HOK.out (by rw [HN.out]; exact hl)
      have h2 := HHL.out
      rw [List.length_append, List.length_append, List.length_append, lowBits_length, List.length_singleton]
      omega
    · have hf := hr7
      simp only [List.append_assoc] at hf ⊢
      exact hf)
  clear hr7 hs7 HT
  go_wp2
  go_end0
  exact HG.out

theorem write9 (l : List (Nat × Int × Int)) (a : Option Addr) (cap : Nat) (kind : Int) (last : Bool) (p : Nat) (v : Value) (bs : List Bool) (W : World) (hw : Wr W p v bs) (hbs : bs.length ≤ 500000) (kt : KT p v W a l) (hr : ∀ t ∈ l, RightT t) (hl : l.length ≤ 2000) :
    Calls Tryz.prog 35 #[.pointer (some ⟨p, 0, none⟩), .slice a l.length cap, .int .i64 kind, .bool last] W fun e w' => WriteRPost W l kind last p v bs e w' := by
  by_cases hk : kind = 2
  · subst hk
    exact write9_own l a l.length cap last p v bs W rfl hw hbs kt hr hl
  · exact write9_plain l a l.length cap kind last p v bs W rfl hk hw hbs kt hr hl

end Go.Proofs.YtaalbaiglkadlaaGreat

/- Contracts of the code of layer 9: Store, Size, Choose; all of them in one. -/
namespace Go.Proofs.YtaalbaiglkadlaaGreat
open Go.RowKit Go.Lib

set_option maxHeartbeats 2000000 in
theorem store9 (p : Nat) (v : Value) (bs : List Bool) (s : ByteArray) (last : Bool) (W : World) (h : Wr W p v bs) (hbs : bs.length ≤ 500000) (hs : s.size ≤ 65535) :
    Calls Tryz.prog 16 #[.pointer (some ⟨p, 0, none⟩), .string s, .bool last] W fun e w' => e = .returned (.tuple #[]) ∧ ∃ v', Wr w' p v' (storeAll bs s last) ∧ Step p v v' W w' := by
  obtain ⟨n, hn⟩ : ∃ n, s.size = n := ⟨_, rfl⟩
  have HN := hide hn
  have zn : ((s.size : Nat) : Int) = (n : Int) := by omega
  have H1 := hide (begin9 p v bs 0 last W h (by omega))
  rw [hn] at hs
  clear h hn
  go_enter Tryz.func16, Tryz.ntmps16
  go_wp2_with fail
  refine H1.out.mono ?_
  rintro e w2 ⟨rfl, v2, hr2, hs2⟩
  have HS2 := hide hs2
  have H3 := hide (walign_any p v2 _ w2 hr2 (by rw [List.length_append, List.length_append, List.length_singleton, lowBits_length]; omega))
  clear hr2 hs2 H1
  go_wp2_with fail
  refine H3.out.mono ?_
  rintro e w3 ⟨rfl, hr3, ho3⟩
  have HS3 := hide (HS2.out.trans (Step.ofOnly (v := v2) ho3))
  have hl3 : (alignBits (bs ++ [last] ++ lowBits 0 2)).length ≤ 1000100 := by rw [alignBits_length, List.length_append, List.length_append, List.length_singleton, lowBits_length]; omega
  have H4 := hide (wput_any p v2 _ (n : Int) 16 w3 16 rfl hr3 (by omega))
  clear hr3 ho3 H3 HS2
  go_wp2_with fail
  refine H4.out.mono ?_
  rintro e w4 ⟨rfl, v4, hr4, hs4⟩
  have HS4 := hide (HS3.out.trans hs4)
  have H5 := hide (wput_any p v4 _ (65535 - (n : Int)) 16 w4 16 rfl hr4 (by rw [List.length_append, lowBits_length]; omega))
  clear hr4 hs4 H4 HS3
  go_wp2_with fail
  refine H5.out.mono ?_
  rintro e w5 ⟨rfl, v5, hr5, hs5⟩
  have HS5 := hide (HS4.out.trans hs5)
  have H6 := hide (wtext_any p v5 _ s w5 hr5 (by rw [List.length_append, List.length_append, lowBits_length, lowBits_length]; omega) (by rw [HN.out]; omega))
  clear hr5 hs5 H5 HS4
  go_wp2_with fail
  refine H6.out.mono ?_
  rintro e w6 ⟨rfl, v6, hr6, hs6⟩
  have HR6 := hide hr6
  have HS6 := hide (HS5.out.trans hs6)
  clear hr6 hs6 H6 HS5
  go_wp2
  go_end0
  refine ⟨rfl, v6, ?_, HS6.out⟩
  unfold storeAll
  rw [HN.out]
  exact HR6.out

/-- What Size gives. -/
def SizePost (W : World) (l : List (Nat × Int × Int)) (raw kind k : Int) (e : Ending) (w' : World) : Prop := ∃ z, e = .returned (.int .i64 z) ∧ SizeRel l raw kind k z ∧ Below W.heap.size W w'

set_option maxHeartbeats 4000000 in
theorem size9_raw (l : List (Nat × Int × Int)) (a : Option Addr) (n cap : Nat) (raw k : Int) (W : World) (h1 : 0 ≤ k) (h2 : k ≤ 1099511627776) :
    Calls Tryz.prog 44 #[.slice a n cap, .int .i64 raw, .int .i64 0, .int .i64 k] W fun e w' => SizePost W l raw 0 k e w' := by
  have H1 := hide (stored9 raw k W h1 h2)
  have HG := hide (show SizePost W l raw 0 k (.returned (.int .i64 (rawSize raw k))) W from ⟨_, rfl, .inl ⟨rfl, rfl⟩, Below.refl _ _⟩)
  generalize rawSize raw k = z at *
  clear h1 h2
  go_enter Tryz.func44, Tryz.ntmps44
  go_wp2_with fail
  refine H1.out.mono ?_
  rintro e w2 ⟨rfl, rfl⟩
  go_wp2
  go_ret
  exact HG.out

set_option maxHeartbeats 4000000 in
theorem size9_plain (l : List (Nat × Int × Int)) (a : Option Addr) (n cap : Nat) (raw k : Int) (W : World) (hn : l.length = n) (harg : ArgT W a l) (hr : ∀ t ∈ l, RightT t) (hl : n ≤ 2000) :
    Calls Tryz.prog 44 #[.slice a n cap, .int .i64 raw, .int .i64 1, .int .i64 k] W fun e w' => SizePost W l raw 1 k e w' := by
  have HN := hide hn
  have HR := hide hr
  have HOK := hide (plain_ok l hr)
  have H1 := hide (weights9 l a cap W harg hr (by omega))
  rw [hn] at H1
  clear hn hr harg
  go_enter Tryz.func44, Tryz.ntmps44
  go_wp2_with fail
  refine H1.out.mono ?_
  rintro e w1 ⟨a1, c1, b1, d1, rfl, hA, hB, _, _, hb1, _, _⟩
  have HA := hide hA
  have HB := hide hB
  have HB1 := hide hb1
  have H2 := hide (plain9 w1)
  simp only [litWs_length, distWs_length]
  clear hA hB hb1 H1
  go_wp2_with fail
  refine H2.out.mono ?_
  rintro e w2 ⟨a2, c2, b2, d2, rfl, hA2, hB2, _, _, hb2, _, _⟩
  have HB2 := hide (HB1.out.trans (hb2.mono HB1.out.size))
  have H3 := hide (toksize9 l plainL plainD a1 b1 a2 b2 c1 d1 c2 d2 288 32 w2 (HA.out.below hb2 (Nat.le_refl _)) (HB.out.below hb2 (Nat.le_refl _)) hA2 hB2 plainL_length plainD_length HOK.out.ma.each HOK.out.mb.each (by rw [HN.out]; exact hl) HR.out (by omega) (by omega))
  have hbl := body_le HOK.out (by rw [HN.out]; exact hl)
  have HG := hide (fun w' (b : Below W.heap.size W w') => (show SizePost W l raw 1 k (.returned (.int .i64 (3 + ((bodyBits plainL plainD l).length : Nat)))) w' from
    ⟨_, rfl, .inr ⟨by decide, [false] ++ (lowBits 1 2 ++ bodyBits plainL plainD l), .inr ⟨by decide, rfl⟩, by rw [List.length_append, List.length_append, lowBits_length, List.length_singleton]; omega, by rw [List.length_append, List.length_append, lowBits_length, List.length_singleton]; omega⟩, b⟩))
  simp only [plainL_length, plainD_length]
  generalize (bodyBits plainL plainD l).length = Z at *
  clear hA2 hB2 hb2 H2
  go_wp2_with fail
  refine H3.out.mono ?_
  rintro e w3 ⟨rfl, b3⟩
  have HB3 := hide (HB2.out.trans (b3.mono HB2.out.size))
  clear b3
  go_wp2
  go_ret
  exact HG.out _ HB3.out

set_option maxHeartbeats 4000000 in
theorem size9_own (l : List (Nat × Int × Int)) (a : Option Addr) (n cap : Nat) (raw k : Int) (W : World) (hn : l.length = n) (harg : ArgT W a l) (hr : ∀ t ∈ l, RightT t) (hl : n ≤ 2000) :
    Calls Tryz.prog 44 #[.slice a n cap, .int .i64 raw, .int .i64 2, .int .i64 k] W fun e w' => SizePost W l raw 2 k e w' := by
  have HN := hide hn
  have HR := hide hr
  have HOK := hide (own_ok l hr (by omega))
  have hlo := ownLit_len l
  have hdo := ownDist_len l
  have H1 := hide (weights9 l a cap W harg hr (by omega))
  rw [hn] at H1
  clear hn hr harg
  obtain ⟨nl, hnl⟩ : ∃ nl, (ownLit l).length = nl := ⟨_, rfl⟩
  obtain ⟨nd, hnd⟩ : ∃ nd, (ownDist l).length = nd := ⟨_, rfl⟩
  have HNL := hide hnl
  have HND := hide hnd
  rw [hnl] at hlo
  rw [hnd] at hdo
  obtain ⟨hlo1, hlo2⟩ := hlo
  obtain ⟨hdo1, hdo2⟩ := hdo
  clear hnl hnd
  go_enter Tryz.func44, Tryz.ntmps44
  go_wp2_with fail
  refine H1.out.mono ?_
  rintro e w1 ⟨a1, c1, b1, d1, rfl, hA, hB, hz1, hz2, hb1, _, _⟩
  have HA := hide hA
  have HB := hide hB
  have HB1 := hide hb1
  have H2 := hide (fitted9 l a1 b1 c1 d1 w1 hA hB hz1 hz2 (by rw [HN.out]; exact hl))
  simp only [litWs_length, distWs_length]
  clear hA hB hb1 H1 hz1 hz2
  go_wp2_with fail
  refine H2.out.mono ?_
  rintro e w2 ⟨a2, c2, b2, d2, rfl, hA2, hB2, _, _, hb2, _, _⟩
  have HB2 := hide (HB1.out.trans (hb2.mono HB1.out.size))
  have HA2 := hide hA2
  have HBB2 := hide hB2
  have HA12 := hide (HA.out.below hb2 (Nat.le_refl _))
  have HB12 := hide (HB.out.below hb2 (Nat.le_refl _))
  simp only [HNL.out, HND.out]
  have HHD := hide (headed9 (ownLit l) (ownDist l) a2 b2 nl nd c2 d2 w2 HNL.out HND.out hA2 hB2 hlo1 hlo2 hdo1 hdo2)
  clear hA2 hB2 hb2 H2 HA HB
  go_wp2_with fail
  refine HHD.out.mono ?_
  rintro e w3 ⟨rs, hl9, gt, ct, gf, cf, gl, cl, rfl, hrs, hlim, hgt, ngt, hgf, ngf, hgl, ngl, b3⟩
  obtain ⟨hmk7, hll, hl7⟩ := halfJ_short15 hlim (by omega)
  rw [runWs_length] at hll
  have hrl := hrs.length
  rw [List.length_map, List.length_append, HNL.out, HND.out] at hrl
  have HHS := hide (headsize9 nl nd (ordN hl9 19) ct rs.length cf cl rs hl9 gt gf gl w3 hgf hgl rfl rfl (foldRes_ok hrs) (by omega) hll (fun z hz => hmk7.each z hz))
  have HREL := hide (show HeadRel (ownLit l) (ownDist l) (headBits nl nd rs hl9) from ⟨rs, hl9, hrs, hlim, by rw [HNL.out, HND.out]⟩)
  have hhl := headRel_le HREL.out (by rw [List.length_append, HNL.out, HND.out]; omega)
  have hbl := body_le HOK.out (by rw [HN.out]; exact hl)
  have HG := hide (fun w' (b : Below W.heap.size W w') => (show SizePost W l raw 2 k (.returned (.int .i64 (3 + ((headBits nl nd rs hl9).length : Nat) + ((bodyBits (ownLit l) (ownDist l) l).length : Nat)))) w' from
    ⟨_, rfl, .inr ⟨by decide, [false] ++ (lowBits 2 2 ++ (headBits nl nd rs hl9 ++ bodyBits (ownLit l) (ownDist l) l)), .inl ⟨rfl, _, HREL.out, rfl⟩, by rw [List.length_append, List.length_append, List.length_append, lowBits_length, List.length_singleton]; omega, by rw [List.length_append, List.length_append, List.length_append, lowBits_length, List.length_singleton]; omega⟩, b⟩))
  have HB3 := hide (HB2.out.trans (b3.mono HB2.out.size))
  have HT := hide (fun w' (b : Below w2.heap.size w2 w') => toksize9 l (ownLit l) (ownDist l) a1 b1 a2 b2 c1 d1 c2 d2 nl nd w' (HA12.out.below b (Nat.le_refl _)) (HB12.out.below b (Nat.le_refl _)) (HA2.out.below b (Nat.le_refl _)) (HBB2.out.below b (Nat.le_refl _)) HNL.out HND.out HOK.out.ma.each HOK.out.mb.each (by rw [HN.out]; exact hl) HR.out (by omega) (by omega))
  have HB23 := hide b3
  generalize (headBits nl nd rs hl9).length = Z1 at *
  generalize (bodyBits (ownLit l) (ownDist l) l).length = Z2 at *
  clear hrs hlim hgt ngt hgf ngf hgl ngl b3 hmk7 hll hl7 hrl HHD HREL HA12 HB12 HA2 HBB2
  go_wp2_with fail
  refine HHS.out.mono ?_
  rintro e w4 ⟨rfl, b4⟩
  have HB4 := hide (HB3.out.trans (b4.mono HB3.out.size))
  have H5 := hide (HT.out w4 (HB23.out.trans (b4.mono HB23.out.size)))
  clear b4 HT HHS
  go_wp2_with fail
  refine H5.out.mono ?_
  rintro e w5 ⟨rfl, b5⟩
  have HB5 := hide (HB4.out.trans (b5.mono HB4.out.size))
  clear b5
  go_wp2
  go_ret
  exact HG.out _ HB5.out

theorem size9 (l : List (Nat × Int × Int)) (a : Option Addr) (cap : Nat) (raw kind k : Int) (W : World) (harg : ArgT W a l) (hr : ∀ t ∈ l, RightT t) (hl : l.length ≤ 2000) (h1 : 0 ≤ k) (h2 : k ≤ 1099511627776) (h3 : 0 ≤ kind) (h4 : kind ≤ 2) :
    Calls Tryz.prog 44 #[.slice a l.length cap, .int .i64 raw, .int .i64 kind, .int .i64 k] W fun e w' => SizePost W l raw kind k e w' := by
  have hc : kind = 0 ∨ kind = 1 ∨ kind = 2 := by omega
  rcases hc with rfl | rfl | rfl
  · exact size9_raw l a l.length cap raw k W h1 h2
  · exact size9_plain l a l.length cap raw k W rfl harg hr hl
  · exact size9_own l a l.length cap raw k W rfl harg hr hl

/-- What Choose gives. -/
def ChoosePost (W : World) (l : List (Nat × Int × Int)) (raw k : Int) (e : Ending) (w' : World) : Prop := ∃ c, e = .returned (.int .i64 c) ∧ ChooseRel l raw k c ∧ Below W.heap.size W w'
theorem size_low {l : List (Nat × Int × Int)} {raw kind k z : Int} (h : SizeRel l raw kind k z) (hk : kind ≠ 0) : 0 ≤ z := by
  rcases h with ⟨h1, _⟩ | ⟨_, ob, _, _, rfl⟩
  · exact absurd h1 hk
  · omega

theorem idx_two (x y z : Int) (k : Nat) (hk : k < 2) (hx : [Value.int .i64 x, Value.int .i64 y][k]? = some (.int .i64 z)) (w : World) : (Instr.index 88 (.agg #[.int .i64 x, .int .i64 y]) (.int .i64 (k : Nat))).run Tryz.prog w = .ok (.int .i64 z) w := by
  obtain ⟨i1, ki, kz0, kz1, kz2⟩ := info_parts Tryz.infoInt
  have h := run_part_plain (P := Tryz.prog) (w := w) Tryz.plainInt (xs := #[Value.int .i64 x, Value.int .i64 y]) (off := k) (v := .int .i64 z) (by simpa using hx)
  simp [Instr.index, asIntOf, run_underlying Tryz.underlying88, sizeOf, typeInfo, ki, kz1, h]
  intro h3
  omega
set_option maxRecDepth 20000 in
set_option maxHeartbeats 4000000 in
theorem choose9 (l : List (Nat × Int × Int)) (a : Option Addr) (cap : Nat) (raw k : Int) (W : World) (harg : ArgT W a l) (hr : ∀ t ∈ l, RightT t) (hl : l.length ≤ 2000) (hk1 : 0 ≤ k) (hk2 : k ≤ 1099511627776) :
    Calls Tryz.prog 34 #[.slice a l.length cap, .int .i64 raw, .int .i64 k] W fun e w' => ChoosePost W l raw k e w' := by
  have HSZ := hide (fun w kind (h : ArgT w a l) (h3 : 0 ≤ kind) (h4 : kind ≤ 2) => size9 l a cap raw kind k w h hr hl hk1 hk2 h3 h4)
  have HA := hide harg
  generalize l.length = n at *
  clear harg hr hl hk1 hk2
  have H0 := hide (HSZ.out W 0 HA.out (by decide) (by decide))
  have hi0 : ∀ w, (Instr.index 88 (.agg #[.int .i64 1, .int .i64 2]) (.int .i64 0)).run Tryz.prog w = .ok (.int .i64 1) w := idx_two 1 2 1 0 (by decide) rfl
  have hi1 : ∀ w, (Instr.index 88 (.agg #[.int .i64 1, .int .i64 2]) (.int .i64 1)).run Tryz.prog w = .ok (.int .i64 2) w := idx_two 1 2 2 1 (by decide) rfl
  go_enter Tryz.func34, Tryz.ntmps34
  go_wp2_with fail
  refine H0.out.mono ?_
  rintro e w1 ⟨r, rfl, hr0, b1⟩
  have hrr := hr0.range
  have HRR := hide hr0
  have B1 := hide b1
  have HA1 := hide (HA.out.below b1 (Nat.le_refl _))
  have H1 := hide (HSZ.out w1 1 HA1.out (by decide) (by decide))
  obtain ⟨hr1, hr2⟩ := hrr
  clear hr0 b1 H0
  go_wp2
  refine wp_loop_rounds 3 ?_
  rw [rounds_succ]
  go_wp2_with fail
  refine H1.out.mono ?_
  rintro e w2 ⟨f, rfl, hf, b2⟩
  have hfr := hf.range
  have hf0 := size_low hf (by decide)
  have HF := hide hf
  have B2 := hide (B1.out.trans (b2.mono B1.out.size))
  have HA2 := hide (HA1.out.below b2 (Nat.le_refl _))
  have H2 := hide (HSZ.out w2 2 HA2.out (by decide) (by decide))
  obtain ⟨hf1, hf2⟩ := hfr
  clear hf b2 H1
  by_cases h1 : r < 0
  · have hn : ¬ (0 ≤ r ∧ r ≤ f) := fun g => by have := g.1; omega
    have HN := hide hn
    clear hn
    go_wp2
    rw [rounds_succ]
    go_wp2_with fail
    refine H2.out.mono ?_
    rintro e w3 ⟨d, rfl, hd, b3⟩
    have hdr := hd.range
    have HD := hide hd
    have B3 := hide (B2.out.trans (b3.mono B2.out.size))
    obtain ⟨hd1, hd2⟩ := hdr
    clear hd b3 H2
    by_cases h3 : d < f
    · have HX := hide (choose_fix2 HN.out h3)
      have HG := hide (show ChoosePost W l raw k (.returned (.int .i64 2)) w3 from ⟨2, rfl, ⟨f, r, d, HF.out, HRR.out, HD.out, HX.out⟩, B3.out⟩)
      have d3 : decide (d < f) = true := decide_eq_true h3
      have dn : decide (f < 0) = false := decide_eq_false (by omega)
      clear HX
      go_wp2
      rw [rounds_succ]
      go_wp2
      go_ret
      exact HG.out
    · have HX := hide (choose_fix1 HN.out h3)
      have HG := hide (show ChoosePost W l raw k (.returned (.int .i64 1)) w3 from ⟨1, rfl, ⟨f, r, d, HF.out, HRR.out, HD.out, HX.out⟩, B3.out⟩)
      have d3 : decide (d < f) = false := decide_eq_false h3
      have dn : decide (f < 0) = false := decide_eq_false (by omega)
      clear HX
      go_wp2
      rw [rounds_succ]
      go_wp2
      go_ret
      exact HG.out
  · have d1 : decide (r < 0) = false := decide_eq_false h1
    by_cases h2 : f < r
    · have d2 : decide (f < r) = true := decide_eq_true h2
      have hn : ¬ (0 ≤ r ∧ r ≤ f) := fun g => by have := g.2; omega
      have HN := hide hn
      clear hn
      go_wp2
      rw [rounds_succ]
      go_wp2_with fail
      refine H2.out.mono ?_
      rintro e w3 ⟨d, rfl, hd, b3⟩
      have hdr := hd.range
      have HD := hide hd
      have B3 := hide (B2.out.trans (b3.mono B2.out.size))
      obtain ⟨hd1, hd2⟩ := hdr
      clear hd b3 H2
      by_cases h3 : d < f
      · have HX := hide (choose_fix2 HN.out h3)
        have HG := hide (show ChoosePost W l raw k (.returned (.int .i64 2)) w3 from ⟨2, rfl, ⟨f, r, d, HF.out, HRR.out, HD.out, HX.out⟩, B3.out⟩)
        have d3 : decide (d < f) = true := decide_eq_true h3
        have dn : decide (f < 0) = false := decide_eq_false (by omega)
        clear HX
        go_wp2
        rw [rounds_succ]
        go_wp2
        go_ret
        exact HG.out
      · have HX := hide (choose_fix1 HN.out h3)
        have HG := hide (show ChoosePost W l raw k (.returned (.int .i64 1)) w3 from ⟨1, rfl, ⟨f, r, d, HF.out, HRR.out, HD.out, HX.out⟩, B3.out⟩)
        have d3 : decide (d < f) = false := decide_eq_false h3
        have dn : decide (f < 0) = false := decide_eq_false (by omega)
        clear HX
        go_wp2
        rw [rounds_succ]
        go_wp2
        go_ret
        exact HG.out
    · have d2 : decide (f < r) = false := decide_eq_false h2
      have hp : 0 ≤ r ∧ r ≤ f := by omega
      have HN := hide hp
      clear hp
      go_wp2
      rw [rounds_succ]
      go_wp2_with fail
      refine H2.out.mono ?_
      rintro e w3 ⟨d, rfl, hd, b3⟩
      have hdr := hd.range
      have HD := hide hd
      have B3 := hide (B2.out.trans (b3.mono B2.out.size))
      obtain ⟨hd1, hd2⟩ := hdr
      clear hd b3 H2
      by_cases h3 : d < r
      · have HX := hide (choose_raw2 HN.out h3)
        have HG := hide (show ChoosePost W l raw k (.returned (.int .i64 2)) w3 from ⟨2, rfl, ⟨f, r, d, HF.out, HRR.out, HD.out, HX.out⟩, B3.out⟩)
        have d3 : decide (d < r) = true := decide_eq_true h3
        have dn : decide (r < 0) = false := decide_eq_false (by omega)
        clear HX
        go_wp2
        rw [rounds_succ]
        go_wp2
        go_ret
        exact HG.out
      · have HX := hide (choose_raw0 HN.out h3)
        have HG := hide (show ChoosePost W l raw k (.returned (.int .i64 0)) w3 from ⟨0, rfl, ⟨f, r, d, HF.out, HRR.out, HD.out, HX.out⟩, B3.out⟩)
        have d3 : decide (d < r) = false := decide_eq_false h3
        have dn : decide (r < 0) = false := decide_eq_false (by omega)
        clear HX
        go_wp2
        rw [rounds_succ]
        go_wp2
        go_ret
        exact HG.out

theorem bspec : BSpec where
  plain := fun W => (plain9 W).mono fun _ _ h => h.two
  weights := fun l a cap W h1 _ h3 h4 => (weights9 l a cap W h1 h3 h4).mono fun _ _ h => h.two
  own := fun l a cap W h1 _ h3 h4 => (own9 l a cap W h1 h3 h4).mono fun _ _ h => h.two
  write := fun l a cap kind last p v bs W h1 h2 h3 _ h5 h6 => write9 l a cap kind last p v bs W h1 h2 h3 h5 h6
  store := fun p v bs s last W h1 h2 h3 => store9 p v bs s last W h1 h2 h3
  size := fun l a cap raw kind k W h1 _ h3 h4 h5 h6 h7 h8 => size9 l a cap raw kind k W h1 h3 h4 h5 h6 h7 h8
  choose := fun l a cap raw k W h1 _ h3 h4 h5 h6 => choose9 l a cap raw k W h1 h3 h4 h5 h6

end Go.Proofs.YtaalbaiglkadlaaGreat
