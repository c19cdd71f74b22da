/- Texts merged by program: TrGroups, TrTurned. No condition. -/
import Derived.Test.YthffdmncdoogpaaK4
import Derived.Test.YthffdmncdoogpaaK3
import Derived.Test.YthffdmncdoogpaaK5
import Derived.Deep.DeepCutAuto
set_option linter.unusedVariables false
/- A tree's groups, in a row of the call's own: the document's Groups. -/
namespace Go.Proofs.Ythffdmncdoogpaa
open Go Go.RowKit

/-- A tree's groups, in the order in which they begin. -/
def groupsT : Tr → List Tr := Tr.para fun t l => (if t.fld.op = 6 then [t] else []) ++ l.flatten
theorem groupsT_eq (t : Tr) : groupsT t = (if t.fld.op = 6 then [t] else []) ++ (t.kids.map groupsT).flatten := Tr.para_eq _ t
theorem flat_le {f g : Tr → Nat} : ∀ (l : List Tr), (∀ k ∈ l, f k ≤ g k) → (l.map f).sum ≤ (l.map g).sum
  | [], _ => by simp
  | k :: l, h => by
    have h1 := h k (by simp)
    have h2 := flat_le l fun q hq => h q (by simp [hq])
    simp
    omega
theorem groupsT_len (t : Tr) : (groupsT t).length ≤ partsR t := by
  refine Tr.ind (P := fun t => (groupsT t).length ≤ partsR t) (fun t ih => ?_) t
  rw [groupsT_eq, partsR_eq, List.length_append, List.length_flatten, List.map_map]
  have h := flat_le (f := List.length ∘ groupsT) (g := partsR) t.kids ih
  split <;> simp <;> omega
theorem groupsT_take {t : Tr} (k : Nat) : (((t.kids.take k).map groupsT).flatten).length ≤ partsR t := by
  rw [List.length_flatten, List.map_map]
  have h := flat_le (f := List.length ∘ groupsT) (g := partsR) (t.kids.take k) fun q _ => groupsT_len q
  have h2 : ((t.kids.take k).map partsR).sum ≤ (t.kids.map partsR).sum := by
    conv => rhs; rw [← List.take_append_drop k t.kids, List.map_append, List.sum_append]
    omega
  rw [partsR_eq]
  omega
def GroupsPost (A : Nat → Prop) (T : List Tr) (w : World) (e : Ending) (w' : World) : Prop := ∃ v, e = .returned v ∧ OwnT A w' w.heap.size v T ∧ Below w.heap.size w w'
def GroupsOf (t : Tr) : Prop := partsR t ≤ 10000000000 → ∀ (A : Nat → Prop) (v : Value) (w : World), (∀ b, A b → b < w.heap.size) → TreF A w t v → Calls Try.prog 23 #[v] w (GroupsPost A (groupsT t) w)
/-- A Kid laid open, with the blocks of what it holds. -/
theorem TreF.kid {F : Nat → Prop} {w : World} {t : Tr} {v : Value} (h : TreF F w t v) (k : Nat) (hk : k < t.kids.length) :
    ∃ (b o : Nat) (c : Nat) (sv : Value) (tk : Tr) (kv' sv' : Value), v = .agg (treC t.fld (.slice (some ⟨b, o, none⟩) t.kids.length c) sv) ∧ t.kids[k] = tk ∧ tk ∈ t.kids ∧
      Kid10 w b (o + k * 10) (.int .i64 tk.fld.op) kv' (.int .i32 tk.fld.rune) sv' (.int .i64 tk.fld.at') (.int .i64 tk.fld.cap) (.string tk.fld.name) (.int .i64 tk.fld.min) (.int .i64 tk.fld.max) (.bool tk.fld.lazy) ∧
      TreF F w tk (.agg #[.int .i64 tk.fld.op, kv', .int .i32 tk.fld.rune, sv', .int .i64 tk.fld.at', .int .i64 tk.fld.cap, .string tk.fld.name, .int .i64 tk.fld.min, .int .i64 tk.fld.max, .bool tk.fld.lazy]) := by
  rw [treF_iff] at h
  obtain ⟨kv, sv, rfl, -, -, A, c, rfl, -, -, -, -, h5⟩ := h
  rcases h5 with h5 | ⟨b, o, rfl, -, hc⟩
  · rw [h5] at hk
    simp at hk
  · obtain ⟨cs, k1, k2⟩ := hc k hk
    obtain ⟨⟨kv', sv', rfl⟩, -⟩ := treF_form k2
    exact ⟨b, o, c, sv, t.kids[k], kv', sv', rfl, rfl, List.getElem_mem hk, k1.ten, k2⟩
theorem treC_inj {f : Fld} {k1 k2 s1 s2 : Value} (h : Value.agg (treC f k1 s1) = .agg (treC f k2 s2)) : k1 = k2 ∧ s1 = s2 := by
  injection h with h
  have h1 := congrArg (fun a : Array Value => a[1]?) h
  have h2 := congrArg (fun a : Array Value => a[3]?) h
  simp [treC] at h1 h2
  exact ⟨h1, h2⟩

set_option maxHeartbeats 1600000 in
set_option maxRecDepth 100000 in
theorem groups_any (t : Tr) : GroupsOf t := by
  refine Tr.ind (P := GroupsOf) (fun t ih hp AF v w hA h0 => ?_) t
  have IH := Lib.hid ih
  have H0 := Lib.hid h0
  have h := h0.tre
  obtain ⟨A, n, c, a2, s, c2, hn, hs, rfl, hnb, hsb, hK, hS, hF⟩ := h.opened
  obtain ⟨w1, hw1⟩ : ∃ w1, w.alloc (.cells #[.int .i64 t.fld.op, .slice A n c, .int .i32 t.fld.rune, .slice a2 s c2, .int .i64 t.fld.at', .int .i64 t.fld.cap, .string t.fld.name, .int .i64 t.fld.min, .int .i64 t.fld.max, .bool t.fld.lazy] 45) = w1 := ⟨_, rfl⟩
  have hb1 : Below w.heap.size w w1 := by rw [← hw1]; exact (Below.refl _ _).alloc (Nat.le_refl _) _
  have hE1 : Box10 w1 w.heap.size (.int .i64 t.fld.op) (.slice A n c) (.int .i32 t.fld.rune) (.slice a2 s c2) (.int .i64 t.fld.at') (.int .i64 t.fld.cap) (.string t.fld.name) (.int .i64 t.fld.min) (.int .i64 t.fld.max) (.bool t.fld.lazy) := by rw [← hw1]; exact box10_new w _ _ _ _ _ _ _ _ _ _ _
  have HB1 := Lib.hid hb1; have HE1 := Lib.hid hE1; have HW1 := Lib.hid hw1; have HK := Lib.hid (hK.below hb1); have HS := Lib.hid (hS.below hb1); have HN := Lib.hid hn; have HSL := Lib.hid hs; have HF := Lib.hid hF
  clear hb1 hE1 hw1 hK hS hn hs hF
  have HAF := Lib.hid hA
  have HGQ := Lib.hid (groupsT_eq t)
  have hlen := fun k => groupsT_take (t := t) k
  have HLEN := Lib.hid hlen
  have hsz1 := HB1.out.size
  have HT1 := Lib.hid (TreF.same H0.out (same_below HB1.out) (fun _ h _ => h))
  clear h h0 ih hA hlen
  obtain ⟨b0, b1, b2, b3, b4, b5, b6, b7, b8, b9⟩ := HE1.out
  obtain ⟨G0, hG0⟩ : ∃ G0 : List Tr, (if t.fld.op = 6 then [t] else []) = G0 := ⟨_, rfl⟩
  have hG1 : G0.length ≤ 1 := by rw [← hG0]; split <;> simp
  rw [hG0] at HGQ
  have hways : (t.fld.op = 6 ∧ G0 = [t]) ∨ ((t.fld.op == 6) = false ∧ G0 = []) := by
    by_cases q : t.fld.op = 6
    · exact .inl ⟨q, by rw [← hG0, if_pos q]⟩
    · exact .inr ⟨beq_eq_false_iff_ne.2 q, by rw [← hG0, if_neg q]⟩
  clear hG0
  go_enter Try.func23, Try.ntmps23
  go_upto_region 2 with (fail)
  rw [HW1.out]
  rcases hways with ⟨h6, hg⟩ | ⟨e6, hg⟩
  · have HG := Lib.hid hg
    have H6 := Lib.hid h6
    rw [h6] at b0
    clear hg h6
    have hk1 : KdsE (fun b => Off (.slice none 0 0) b ∧ AF b) (w1.alloc (.cells (treC t.fld (.slice A n c) (.slice a2 s c2)) 45)) [t] (.slice (some ⟨w1.heap.size, 0, none⟩) 1 1) := kds_one HT1.out _ (fun b hb _ => ⟨by simp [Off, Value.ownBlock], hb⟩)
    unfold treC at hk1
    rw [H6.out] at hk1
    have HK1 := Lib.hid hk1
    clear hk1
    go_wp2_with (at_builtin; refine append_trs rfl (.tmp 8) (.tmp 10) rfl AF w1.heap.size (.slice none 0 0) [] rfl (ownT_none _ _ _) (some ⟨w1.heap.size, 0, none⟩) 1 1 [t] rfl HK1.out (by simp) (by simp) ?_; intro v2 w2 ho2 hg2 _; obtain ⟨y1, y2, y3, rfl⟩ := ho2.slice; have HO2 := Lib.hid ho2; have HB2 := Lib.hid (((Below.refl _ w1).alloc (Nat.le_refl _) _).grown hg2 (by simp) (by simp [Value.ownBlock])); clear ho2 hg2 b0 b1 b2 b3 b4 b5 b6 b7 b8 b9)
    go_loopw [3, 4] (fun vv i wr => ∃ k : Nat, k ≤ n ∧ i = .int .i64 k ∧ OwnT AF wr w1.heap.size vv (G0 ++ ((t.kids.take k).map groupsT).flatten) ∧ Below w1.heap.size w1 wr) (fun _ i _ => n - (intOf i).toNat)
    case atStart => exact ⟨0, Nat.zero_le _, rfl, by rw [HG.out]; simpa using HO2.out, HB2.out⟩
    case round =>
      obtain ⟨k, hk, rfl, hO, hB⟩ := hrel
      have HO := Lib.hid hO; have HB := Lib.hid hB
      obtain ⟨-, d1, -⟩ := HE1.out.below hB
      have hszr := hB.size
      have hTr := HT1.out.same (same_below hB) (fun _ h _ => h)
      clear hO hB
      by_cases hkn : k < n
      · have hkl : k < t.kids.length := by rw [HN.out]; exact hkn
        obtain ⟨b, o, cc, ss, tk, kv, sv, hv, htk, hm, ⟨c0, c1, c2', c3, c4, c5, c6, c7, c8, c9⟩, hTk⟩ := hTr.kid k hkl
        rw [HN.out] at hv
        obtain ⟨hkv, -⟩ := treC_inj hv
        rw [hkv] at d1
        have hpk := partsR_kid hm
        have hl1 := HLEN.out k
        have hl2 := groupsT_len tk
        have hnx : ((t.kids.take (k + 1)).map groupsT).flatten = ((t.kids.take k).map groupsT).flatten ++ groupsT tk := by rw [List.take_succ_eq_append_getElem hkl, htk]; simp
        have HI := Lib.hid (IH.out tk hm (by omega) AF _ _ (fun b hb => by have := HAF.out b hb; omega) hTk)
        have HNX := Lib.hid hnx
        clear hTr hv hkv htk hm hTk hnx
        go_wp2_with fail
        refine HI.out.mono ?_
        rintro e w3 ⟨v3, rfl, ho3, hb3⟩
        have HB3 := Lib.hid (below_two HB.out hb3)
        have HOV := Lib.hid (HO.out.below hb3)
        have HK3 : Hid (∃ a3 n3 c3', v3 = .slice a3 n3 c3' ∧ ∀ vv, OwnT AF w3 w1.heap.size vv (G0 ++ ((t.kids.take k).map groupsT).flatten) → KdsE (fun b => Off vv b ∧ AF b) w3 (groupsT tk) (.slice a3 n3 c3')) := by
          obtain ⟨a3, n3, c3', rfl⟩ := ho3.slice
          refine Lib.hid ⟨a3, n3, c3', rfl, fun vv hvv => (ho3.kdsE (by omega)).mono fun b hb _ => ⟨fun e => ?_, hb.2⟩⟩
          have h1 := HAF.out b hb.2
          have h2 := hvv.base b e
          omega
        have hsz3 := HB3.out.size
        clear ho3 hb3 c0 c1 c2' c3 c4 c5 c6 c7 c8 c9
        obtain ⟨a3, n3, c3', rfl, hK3⟩ := HK3.out
        have HKK := Lib.hid (hK3 _ HOV.out)
        have hg0 : (G0 ++ ((t.kids.take k).map groupsT).flatten).length ≤ 1 + partsR t := by rw [List.length_append]; omega
        clear hK3 HK3
        go_wp2_with (at_builtin; refine append_trs rfl (.tmp 19) (.tmp 25) rfl AF w1.heap.size _ (G0 ++ ((t.kids.take k).map groupsT).flatten) rfl HOV.out a3 n3 c3' (groupsT tk) rfl HKK.out (by omega) (by omega) ?_; intro v4 w4 ho4 hg4 _; have HO4 := Lib.hid ho4; have HB4 := Lib.hid (HB3.out.grown hg4 hsz3 (fun j hj => (by have := HOV.out.base j hj; omega))); clear ho4 hg4)
        go_roundw
        case rel => exact ⟨k + 1, by omega, by go_num, by rw [HNX.out, ← List.append_assoc]; exact HO4.out, HB4.out⟩
        case measure => simp [intOf]; omega
      · have hk2 : t.kids.take k = t.kids := List.take_of_length_le (by rw [HN.out]; omega)
        have ho := HO.out
        rw [hk2, ← HGQ.out] at ho
        have HO5 := Lib.hid ho
        clear hk2 ho hTr
        go_wp2_with fail
        go_ret
        exact ⟨_, rfl, HO5.out.mono hsz1, below_two HB1.out HB.out⟩
  · have HG := Lib.hid hg
    clear hg b1 b2 b3 b4 b5 b6 b7 b8 b9
    go_wp2_with fail
    go_loopw [3, 4] (fun vv i wr => ∃ k : Nat, k ≤ n ∧ i = .int .i64 k ∧ OwnT AF wr w1.heap.size vv (G0 ++ ((t.kids.take k).map groupsT).flatten) ∧ Below w1.heap.size w1 wr) (fun _ i _ => n - (intOf i).toNat)
    case atStart => exact ⟨0, Nat.zero_le _, rfl, by rw [HG.out]; simpa using ownT_none AF w1 w1.heap.size, Below.refl _ _⟩
    case round =>
      obtain ⟨k, hk, rfl, hO, hB⟩ := hrel
      have HO := Lib.hid hO; have HB := Lib.hid hB
      obtain ⟨-, d1, -⟩ := HE1.out.below hB
      have hszr := hB.size
      have hTr := HT1.out.same (same_below hB) (fun _ h _ => h)
      clear hO hB
      by_cases hkn : k < n
      · have hkl : k < t.kids.length := by rw [HN.out]; exact hkn
        obtain ⟨b, o, cc, ss, tk, kv, sv, hv, htk, hm, ⟨c0, c1, c2', c3, c4, c5, c6, c7, c8, c9⟩, hTk⟩ := hTr.kid k hkl
        rw [HN.out] at hv
        obtain ⟨hkv, -⟩ := treC_inj hv
        rw [hkv] at d1
        have hpk := partsR_kid hm
        have hl1 := HLEN.out k
        have hl2 := groupsT_len tk
        have hnx : ((t.kids.take (k + 1)).map groupsT).flatten = ((t.kids.take k).map groupsT).flatten ++ groupsT tk := by rw [List.take_succ_eq_append_getElem hkl, htk]; simp
        have HI := Lib.hid (IH.out tk hm (by omega) AF _ _ (fun b hb => by have := HAF.out b hb; omega) hTk)
        have HNX := Lib.hid hnx
        clear hTr hv hkv htk hm hTk hnx
        go_wp2_with fail
        refine HI.out.mono ?_
        rintro e w3 ⟨v3, rfl, ho3, hb3⟩
        have HB3 := Lib.hid (below_two HB.out hb3)
        have HOV := Lib.hid (HO.out.below hb3)
        have HK3 : Hid (∃ a3 n3 c3', v3 = .slice a3 n3 c3' ∧ ∀ vv, OwnT AF w3 w1.heap.size vv (G0 ++ ((t.kids.take k).map groupsT).flatten) → KdsE (fun b => Off vv b ∧ AF b) w3 (groupsT tk) (.slice a3 n3 c3')) := by
          obtain ⟨a3, n3, c3', rfl⟩ := ho3.slice
          refine Lib.hid ⟨a3, n3, c3', rfl, fun vv hvv => (ho3.kdsE (by omega)).mono fun b hb _ => ⟨fun e => ?_, hb.2⟩⟩
          have h1 := HAF.out b hb.2
          have h2 := hvv.base b e
          omega
        have hsz3 := HB3.out.size
        clear ho3 hb3 c0 c1 c2' c3 c4 c5 c6 c7 c8 c9
        obtain ⟨a3, n3, c3', rfl, hK3⟩ := HK3.out
        have HKK := Lib.hid (hK3 _ HOV.out)
        have hg0 : (G0 ++ ((t.kids.take k).map groupsT).flatten).length ≤ 1 + partsR t := by rw [List.length_append]; omega
        clear hK3 HK3
        go_wp2_with (at_builtin; refine append_trs rfl (.tmp 19) (.tmp 25) rfl AF w1.heap.size _ (G0 ++ ((t.kids.take k).map groupsT).flatten) rfl HOV.out a3 n3 c3' (groupsT tk) rfl HKK.out (by omega) (by omega) ?_; intro v4 w4 ho4 hg4 _; have HO4 := Lib.hid ho4; have HB4 := Lib.hid (HB3.out.grown hg4 hsz3 (fun j hj => (by have := HOV.out.base j hj; omega))); clear ho4 hg4)
        go_roundw
        case rel => exact ⟨k + 1, by omega, by go_num, by rw [HNX.out, ← List.append_assoc]; exact HO4.out, HB4.out⟩
        case measure => simp [intOf]; omega
      · have hk2 : t.kids.take k = t.kids := List.take_of_length_le (by rw [HN.out]; omega)
        have ho := HO.out
        rw [hk2, ← HGQ.out] at ho
        have HO5 := Lib.hid ho
        clear hk2 ho hTr
        go_wp2_with fail
        go_ret
        exact ⟨_, rfl, HO5.out.mono hsz1, below_two HB1.out HB.out⟩
end Go.Proofs.Ythffdmncdoogpaa
/- A tree, turned: the document's turned. -/
namespace Go.Proofs.Ythffdmncdoogpaa
open Go Go.RowKit

theorem SameOn.mono {F G : Nat → Prop} {w w' : World} (h : SameOn G w w') (hFG : ∀ b, F b → G b) : SameOn F w w' := fun b hb hlt => h b (hFG b hb) hlt
def swapAt (x : Int) : Int := if x = 1 then 2 else if x = 2 then 1 else if x = 4 then 8 else if x = 8 then 4 else x
def noTr : Tr := .mk { op := 0, rune := 0, set := [], at' := 0, cap := 0, name := ⟨#[]⟩, min := 0, max := 0, lazy := false } []
/-- A tree, turned. -/
def turnedT : Tr → Tr := Tr.para fun t l => if t.fld.op = 6 then l.headD noTr else .mk { t.fld with at' := swapAt t.fld.at' } (if t.fld.op = 11 then l.reverse else l)
theorem turnedT_eq (t : Tr) : turnedT t = if t.fld.op = 6 then (t.kids.map turnedT).headD noTr else .mk { t.fld with at' := swapAt t.fld.at' } (if t.fld.op = 11 then (t.kids.map turnedT).reverse else t.kids.map turnedT) := Tr.para_eq _ t
def TurnedPost (A : Nat → Prop) (T : Tr) (w : World) (e : Ending) (w' : World) : Prop := ∃ v, e = .returned v ∧ TreF (fun b => A b ∨ w.heap.size ≤ b) w' T v ∧ Below w.heap.size w w'
/-- The Kids in the order in which they are turned. -/
def turnKids (t : Tr) : List Tr := if t.fld.op = 11 then t.kids.reverse else t.kids
theorem turnKids_len (t : Tr) : (turnKids t).length = t.kids.length := by unfold turnKids; split <;> simp
theorem turnedT_else (t : Tr) (h : t.fld.op ≠ 6) : turnedT t = .mk { t.fld with at' := swapAt t.fld.at' } ((turnKids t).map turnedT) := by
  rw [turnedT_eq, if_neg h]
  unfold turnKids
  split <;> simp
theorem swap_i64 {x : Int} (h : I64 x) : I64 (swapAt x) := by
  unfold swapAt I64 at *
  split
  · omega
  · split
    · omega
    · split
      · omega
      · split <;> omega
/-- A turned tree out of its row of Kids. -/
theorem turned_made {G : Nat → Prop} {w : World} {t : Tr} {ks : List Tr} {kv sv : Value} (hf : FldOk t.fld) (hs : Rgs w sv t.fld.set ∧ Foot G sv t.fld.set) (hk : KdsF G w ks kv) : TreF G w (.mk { t.fld with at' := swapAt t.fld.at' } ks) (.agg #[.int .i64 t.fld.op, kv, .int .i32 t.fld.rune, sv, .int .i64 (swapAt t.fld.at'), .int .i64 t.fld.cap, .string t.fld.name, .int .i64 t.fld.min, .int .i64 t.fld.max, .bool t.fld.lazy]) := by
  rw [treF_iff]
  exact ⟨kv, sv, rfl, hs, ⟨hf.1, hf.2.1, swap_i64 hf.2.2.1, hf.2.2.2.1, hf.2.2.2.2.1, hf.2.2.2.2.2.1, hf.2.2.2.2.2.2.1, hf.2.2.2.2.2.2.2⟩, hk⟩

end Go.Proofs.Ythffdmncdoogpaa
