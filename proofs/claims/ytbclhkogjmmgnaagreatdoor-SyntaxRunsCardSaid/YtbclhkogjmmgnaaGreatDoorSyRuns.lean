/- SyntaxRuns. From the program's contract pparse_any. -/
import Derived.Test.YtbclhkogjmmgnaaGreatDoorK58
import Derived.Test.YtbclhkogjmmgnaaGreatDoorSyRunsP
set_option maxHeartbeats 1600000
set_option maxRecDepth 100000
set_option linter.unusedVariables false
namespace Go.Proofs.YtbclhkogjmmgnaaGreatDoor
open Go Go.RowKit
theorem itoa8_any (n : Nat) (hn : n ≤ 1000) (W : World) (hP : Lib.TabIs Tryz.prog W "internal/strconv.uint64pow10" .u64 Lib.pow10Tab) :
  Calls Tryz.prog 16 #[.int .i64 n] W fun e w' => ∃ b,e = .returned (.string b) ∧ b.toList = Lib.decDigits n ∧ Below W.heap.size W w' := by
 refine (Tryz.strconv_Itoa n (by omega) (by omega) W hP).mono ?_
 rintro e w' ⟨rfl,k,os,rfl⟩
 exact ⟨_,rfl,by rw [Lib.toList_data,itoa_dec8],Lib.below_grow _ _ (Nat.le_refl _) _ _⟩
theorem ofInt_wrap8 (n : Int) : BitVec.ofInt 64 (IntKind.i64.wrap n) = BitVec.ofInt 64 n := by
 apply BitVec.eq_of_toNat_eq
 rw [BitVec.toNat_ofInt,BitVec.toNat_ofInt]
 unfold IntKind.wrap
 simp only [IntKind.bits,IntKind.signed]
 congr 1
 try omega
theorem mask_off (f : Int) (k : Int) (hk : (BitVec.ofInt 64 k) &&& 44#64 = 0#64) : flagY (bits .and .i64 f 44) k = false := by
 show (IntKind.i64.wrap ((BitVec.ofInt 64 (IntKind.i64.wrap ((BitVec.ofInt 64 f &&& 44#64).toNat : Int)) &&& BitVec.ofInt 64 k).toNat : Int) != 0) = false
 rw [ofInt_wrap8,BitVec.ofInt_natCast,BitVec.ofNat_toNat,BitVec.setWidth_eq,BitVec.and_assoc,BitVec.and_comm (44#64),hk,BitVec.and_zero]
 rfl
theorem mask_in (f : Int) : ¬ (bits .and .i64 f 44 < 0 ∨ 63 < bits .and .i64 f 44) := by
 have h : (BitVec.ofInt 64 f &&& 44#64).toNat ≤ 44 := by
  rw [BitVec.toNat_and]
  exact Nat.and_le_right
 have e : bits .and .i64 f 44 = IntKind.i64.wrap ((BitVec.ofInt 64 f &&& 44#64).toNat : Int) := rfl
 rw [e,wrap_in _ (by omega)]
 omega
theorem append_list8 (a b : ByteArray) : (a ++ b).toList = a.toList ++ b.toList := by rw [Lib.toList_data,Lib.toList_data,Lib.toList_data,Joins.data_append]
theorem run_kid {s : ByteArray} {L : List Tr} {x R tk : Tr} (hL : (lettersR s.toList).map runeY = L ++ [x]) (hlen : (L ++ [R]).length = s.size) (k : Nat) (h : k < s.size) (h' : k < (L ++ [R]).length) (htk : (L ++ [R])[k] = tk) :
  (k + 1 < s.size ∧ tk = runeY (s[k].toNat : Int)) ∨ (k + 1 = s.size ∧ tk = R ∧ x = runeY (s[k].toNat : Int)) := by
 have hg : s.toList[k]? = some s[k] := by
  rw [Lib.toList_data,Array.getElem?_toList]
  exact Array.getElem?_eq_getElem (xs := s.data) h
 have g : ((lettersR s.toList).map runeY)[k]? = some (runeY (s[k].toNat : Int)) := by
  unfold lettersR
  rw [List.getElem?_map,List.getElem?_map,hg]
  rfl
 have ht : (L ++ [R])[k]? = some tk := by rw [List.getElem?_eq_getElem h',htk]
 rw [hL] at g
 rw [List.length_append,List.length_singleton] at hlen
 by_cases hk : k < L.length
 ·rw [List.getElem?_append_left hk] at g ht
  exact .inl ⟨by omega,Option.some.inj (ht.symm.trans g)⟩
 ·obtain rfl : k = L.length := by omega
  rw [List.getElem?_append_right (Nat.le_refl _),Nat.sub_self] at g ht
  exact .inr ⟨hlen,(Option.some.inj ht).symm,Option.some.inj g⟩
theorem letter_more {s : ByteArray} {k : Nat} (h : k < s.size) (hl : ∀ c ∈ s.toList.take k,LetterB c) (hc : LetterB s[k]) : ∀ c ∈ s.toList.take (k + 1),LetterB c := fun c hm => by
 have hg : s.toList[k]? = some s[k] := by
  rw [Lib.toList_data,Array.getElem?_toList]
  exact Array.getElem?_eq_getElem (xs := s.data) h
 rw [List.take_add_one,hg] at hm
 rcases List.mem_append.1 hm with hm | hm
 ·exact hl c hm
 ·obtain rfl : c = s[k] := by simpa using hm
  exact hc
theorem syruns_any (w : World) (s : ByteArray) (least more f : Int) (l0 : 0 ≤ least) (l1 : least ≤ 255) (m0 : 0 ≤ more) (m1 : more ≤ 255) (hs : s.size ≤ 140737488355328) (hT : TabsY w)
  (hP : Lib.TabIs Tryz.prog w "internal/strconv.uint64pow10" .u64 Lib.pow10Tab) :
  Calls Tryz.prog 7 #[.string s,.int .u8 least,.int .u8 more,.int .i64 f] w fun e w' => e = .returned (.bool true) ∧ Below w.heap.size w w' := by
 obtain ⟨A,rfl⟩ : ∃ A : Nat,least = (A : Int) := ⟨least.toNat,by omega⟩
 obtain ⟨M,rfl⟩ : ∃ M : Nat,more = (M : Int) := ⟨more.toNat,by omega⟩
 obtain ⟨F,hF⟩ : ∃ F,bits .and .i64 f 44 = F := ⟨_,rfl⟩
 have HF := Hd hF
 have HT := Hd hT;have HP := Hd hP
 have HH := Hd (shead_any w hT)
 have w3 : IntKind.i64.wrap (A : Int) = (A : Int) := wrap_in _ (by omega)
 have w4 : IntKind.i64.wrap (M : Int) = (M : Int) := wrap_in _ (by omega)
 have w5 : IntKind.i64.wrap ((A : Int) + (M : Int)) = ((A + M : Nat) : Int) := (wrap_in _ (by omega)).trans (by omega)
 clear hF hT hP
 go_enter Tryz.func7,Tryz.ntmps7
 go_wp2_with fail
 refine HH.out.mono ?_
 rintro e w1 ⟨rfl,hb⟩
 have HB := Hd hb
 clear hb HH
 go_upto_region 3 with (fail)
 rw [HF.out]
 go_wp2_with fail
 go_loopw [10] (fun vi wr => ∃ k : Nat,k ≤ s.size ∧ vi = .int .i64 k ∧ (∀ c ∈ s.toList.take k,LetterB c) ∧ wr = w1) (fun vi _ => s.size - (intOf vi).toNat)
 case atStart => exact ⟨0,Nat.zero_le _,rfl,by simp,rfl⟩
 case round =>
  obtain ⟨k,hk,rfl,hl,rfl⟩ := hrel
  have HL := Hd hl
  clear hl
  by_cases hlt : k < s.size
  ·have wk : IntKind.i64.wrap ((k : Int) + 1) = (k : Int) + 1 := wrap_in _ (by omega)
   by_cases c48 : 48 ≤ s[k].toNat
   ·by_cases c57 : s[k].toNat ≤ 57
    ·have HN := Hd (letter_more hlt HL.out (.inl ⟨c48,c57⟩))
     go_wp2
     all_goals first | exact ⟨⟨k + 1,hlt,rfl,HN.out,trivial⟩,by simp only [intOf];omega⟩ | (go_ret;exact ⟨rfl,HB.out⟩)
    ·by_cases c65 : 65 ≤ s[k].toNat
     ·by_cases c90 : s[k].toNat ≤ 90
      ·have HN := Hd (letter_more hlt HL.out (.inr (.inl ⟨c65,c90⟩)))
       go_wp2
       all_goals first | exact ⟨⟨k + 1,hlt,rfl,HN.out,trivial⟩,by simp only [intOf];omega⟩ | (go_ret;exact ⟨rfl,HB.out⟩)
      ·by_cases c97 : 97 ≤ s[k].toNat
       ·by_cases c122 : s[k].toNat ≤ 122
        ·have HN := Hd (letter_more hlt HL.out (.inr (.inr ⟨c97,c122⟩)))
         go_wp2
         all_goals first | exact ⟨⟨k + 1,hlt,rfl,HN.out,trivial⟩,by simp only [intOf];omega⟩ | (go_ret;exact ⟨rfl,HB.out⟩)
        ·go_wp2
         all_goals first | (go_ret;exact ⟨rfl,HB.out⟩) | (exfalso;rename_i hx;simp at hx;omega)
       ·go_wp2
        all_goals first | (go_ret;exact ⟨rfl,HB.out⟩) | (exfalso;rename_i hx;simp at hx;omega)
     ·have c97 : ¬ 97 ≤ s[k].toNat := by omega
      go_wp2
      all_goals first | (go_ret;exact ⟨rfl,HB.out⟩) | (exfalso;rename_i hx;simp at hx;omega)
   ·have c65 : ¬ 65 ≤ s[k].toNat := by omega
    have c97 : ¬ 97 ≤ s[k].toNat := by omega
    go_wp2
    all_goals first | (go_ret;exact ⟨rfl,HB.out⟩) | (exfalso;rename_i hx;simp at hx;omega)
  ·obtain rfl : k = s.size := by omega
   by_cases h2 : s.size < 2
   ·go_wp2
    go_ret
    exact ⟨rfl,HB.out⟩
   by_cases h300 : 300 < s.size
   ·go_wp2
    go_ret
    exact ⟨rfl,HB.out⟩
   have HL2 := Hd (show ∀ c ∈ s.toList,LetterB c by
    have := HL.out
    rwa [List.take_of_length_le (by rw [Lib.toList_data,Array.length_toList];exact Nat.le_refl _)] at this)
   clear HL
   go_wp2_with fail
   refine (itoa8_any A (by omega) _ (tab10_below8 HP.out HB.out)).mono ?_
   rintro e x2 ⟨b1,rfl,hb1,hb⟩
   have HB2 := Hd (HB.out.trans (hb.mono HB.out.size));have HbA := Hd hb1
   have zb1 : b1.size ≤ 3 := by have := dec_short A (by omega);rw [← hb1,Lib.toList_data,Array.length_toList] at this;exact this
   clear hb hb1
   go_wp2_with fail
   refine (itoa8_any (A + M) (by omega) _ (tab10_below8 HP.out HB2.out)).mono ?_
   rintro e x3 ⟨b2,rfl,hb2,hb⟩
   have HB3 := Hd (HB2.out.trans (hb.mono HB2.out.size));have HbB := Hd hb2
   have zb2 : b2.size ≤ 3 := by have := dec_short (A + M) (by omega);rw [← hb2,Lib.toList_data,Array.length_toList] at this;exact this
   clear hb hb2
   go_wp2_with fail
   obtain ⟨Q,hQ⟩ : ∃ Q : ByteArray,s ++ ⟨#[123]⟩ ++ b1 ++ ⟨#[44]⟩ ++ b2 ++ ⟨#[125]⟩ = Q := ⟨_,rfl⟩
   have hl : Q.toList = s.toList ++ 123 :: (Lib.decDigits A ++ 44 :: (Lib.decDigits (A + M) ++ [125])) := by
    rw [← hQ]
    simp only [append_list8,HbA.out,HbB.out,show (⟨#[123]⟩ : ByteArray).toList = [123] by kernel_rfl,show (⟨#[44]⟩ : ByteArray).toList = [44] by kernel_rfl,show (⟨#[125]⟩ : ByteArray).toList = [125] by kernel_rfl,List.append_assoc,List.cons_append,List.nil_append]
   have hQz : Q.size ≤ 400 := by
    rw [← hQ]
    simp only [ByteArray.size_append]
    rw [show (⟨#[123]⟩ : ByteArray).size = 1 from rfl,show (⟨#[44]⟩ : ByteArray).size = 1 from rfl,show (⟨#[125]⟩ : ByteArray).size = 1 from rfl]
    omega
   obtain ⟨L,x,hL,hR⟩ := runs_parse s Q F A (A + M) hl HL2.out (by omega) (by omega) (by omega) (by omega) (HF.out ▸ mask_in f) (HF.out ▸ mask_off f 1 (by decide)) (HF.out ▸ mask_off f 2 (by decide)) (HF.out ▸ mask_off f 16 (by decide))
   have HP1 := Hd (fun W (h : TabsY W) => hR ▸ pparse_any Q F W (by omega) h)
   have HLX := Hd hL
   rw [hQ]
   clear hl hQz hL hR hQ HbA HbB zb1 zb2
   refine (HP1.out _ (HT.out.below HB3.out)).mono ?_
   rintro e x4 ⟨hb,v,he,ht⟩
   obtain ⟨AK,n,c,a2,m,c2,hn,hm,hv,-,-,hK,-,-⟩ := ht.opened
   obtain rfl : m = 0 := hm.symm
   have hlen : (L ++ [repeatedY 123 A ((A + M : Nat) : Int) false x]).length = s.size := by
    have := congrArg List.length HLX.out
    unfold lettersR at this
    rw [List.length_map,List.length_map,List.length_append,List.length_singleton,Lib.toList_data,Array.length_toList] at this
    rw [List.length_append,List.length_singleton]
    exact this.symm
   obtain rfl : n = s.size := hn.symm.trans hlen
   replace hv : v = .agg #[.int .i64 11,.slice AK s.size c,.int .i32 0,.slice a2 0 c2,.int .i64 0,.int .i64 0,.string ⟨#[]⟩,.int .i64 0,.int .i64 0,.bool false] := hv
   subst hv
   replace he : e = .returned (.tuple #[.agg #[.int .i64 11,.slice AK s.size c,.int .i32 0,.slice a2 0 c2,.int .i64 0,.int .i64 0,.string ⟨#[]⟩,.int .i64 0,.int .i64 0,.bool false],.agg #[.int .i64 0,.int .i64 0,.int .i64 0]]) := he
   subst he
   obtain ⟨x5,hx5⟩ : ∃ x5,(x4.alloc (.cells #[.int .i64 11,.slice AK s.size c,.int .i32 0,.slice a2 0 c2,.int .i64 0,.int .i64 0,.string ⟨#[]⟩,.int .i64 0,.int .i64 0,.bool false] 31)).alloc (.cells #[.int .i64 0,.int .i64 0,.int .i64 0] 34) = x5 := ⟨_,rfl⟩
   obtain ⟨n1,n2,n3,n4⟩ := pair_new x4 #[.int .i64 11,.slice AK s.size c,.int .i32 0,.slice a2 0 c2,.int .i64 0,.int .i64 0,.string ⟨#[]⟩,.int .i64 0,.int .i64 0,.bool false] #[.int .i64 0,.int .i64 0,.int .i64 0]
   rw [hx5] at n1 n2 n3 n4
   have HX5 := Hd hx5;have HT5 := Hd n1;have HS5 := Hd n4
   have HB5 := Hd (HB3.out.trans ((hb.trans (n3.mono hb.size)).mono HB3.out.size))
   have HK5 := Hd (show Kds x5 (L ++ [repeatedY 123 A ((A + M : Nat) : Int) false x]) (.slice AK s.size c) by
    obtain ⟨kv,sv,hv2,-,-,hK2⟩ := (ht.below n3).parts
    have e1 := congrArg (fun v => match v with | Value.agg cs => cs[1]? | _ => none) hv2
    have e2 : Value.slice AK s.size c = kv := Option.some.inj e1
    rw [e2]
    exact hK2)
   have t0 : x5.cell? ⟨x4.heap.size,0,none⟩ = some (.int .i64 11) := n1.cell 0
   have t1 : x5.cell? ⟨x4.heap.size,1,none⟩ = some (.slice AK s.size c) := n1.cell 1
   have e0 : x5.cell? ⟨x4.heap.size + 1,0,none⟩ = some (.int .i64 0) := n2.cell 0
   have HLN := Hd hlen
   clear hx5 n1 n2 n3 n4 hb ht hK hn hm hlen HP1
   go_upto_region 14 with (fail)
   rw [HX5.out]
   go_wp2_with fail
   go_loopw [16] (fun vi wr => ∃ k : Nat,k ≤ s.size ∧ vi = .int .i64 k ∧ Below x5.heap.size x5 wr) (fun vi _ => s.size - (intOf vi).toNat)
   case atStart => exact ⟨0,Nat.zero_le _,rfl,by first | exact Below.refl _ _ | exact (Below.refl _ _).drew⟩
   case round =>
    obtain ⟨k,hk,rfl,hB⟩ := hrel
    have hs5 := HS5.out
    have hT6 := HT5.out.below hB (by omega)
    have u1 : wr.cell? ⟨x4.heap.size,1,none⟩ = some (.slice AK s.size c) := hT6.cell 1
    have HBW := Hd hB
    clear t0 t1 e0 hT6
    by_cases hlt : k < s.size
    ·obtain ⟨b,o,tk,kv,sv,rfl,htk,-,hkid,htre⟩ := (HK5.out.below hB).kid k (by rw [HLN.out];exact hlt)
     obtain ⟨A3,n3,c3,B3,m3,c4,hn3,hm3,hv3,-,-,hK3,-,-⟩ := htre.opened
     have hkv : kv = .slice A3 n3 c3 := Option.some.inj (congrArg (fun v => match v with | Value.agg cs => cs[1]? | _ => none) hv3)
     have hsv : sv = .slice B3 m3 c4 := Option.some.inj (congrArg (fun v => match v with | Value.agg cs => cs[3]? | _ => none) hv3)
     subst hkv hsv
     have wk : IntKind.i64.wrap ((k : Int) + 1) = (k : Int) + 1 := wrap_in _ (by omega)
     have ws : IntKind.i64.wrap ((s.size : Int) - 1) = (s.size : Int) - 1 := wrap_in _ (by omega)
     have w32 : IntKind.i32.wrap (s[k].toNat : Int) = (s[k].toNat : Int) := by
      have := UInt8.toNat_lt s[k]
      have e : IntKind.i32.wrap (s[k].toNat : Int) = if (true && decide ((s[k].toNat : Int) % 4294967296 ≥ 2147483648)) = true then (s[k].toNat : Int) % 4294967296 - 4294967296 else (s[k].toNat : Int) % 4294967296 := rfl
      rw [e]
      split
      ·rename_i h
       simp at h
       omega
      ·omega
     obtain ⟨d0,d1,d2,d3,d4,d5,d6,d7,d8,d9⟩ := hkid
     have hsz6 := HBW.out.size
     rcases run_kid HLX.out HLN.out k hlt _ htk with ⟨hk1,rfl⟩ | ⟨hk1,rfl,hx⟩
     ·clear hv3 hK3 htk hn3 hm3 htre hB
      replace d0 : wr.cell? ⟨b,o + k * 10,none⟩ = some (.int .i64 3) := d0
      replace d2 : wr.cell? ⟨b,o + k * 10 + 2,none⟩ = some (.int .i32 s[k].toNat) := d2
      replace d4 : wr.cell? ⟨b,o + k * 10 + 4,none⟩ = some (.int .i64 0) := d4
      replace d5 : wr.cell? ⟨b,o + k * 10 + 5,none⟩ = some (.int .i64 0) := d5
      replace d6 : wr.cell? ⟨b,o + k * 10 + 6,none⟩ = some (.string ⟨#[]⟩) := d6
      replace d7 : wr.cell? ⟨b,o + k * 10 + 7,none⟩ = some (.int .i64 0) := d7
      replace d8 : wr.cell? ⟨b,o + k * 10 + 8,none⟩ = some (.int .i64 0) := d8
      replace d9 : wr.cell? ⟨b,o + k * 10 + 9,none⟩ = some (.bool false) := d9
      obtain ⟨x6,hx6⟩ : ∃ x6,wr.alloc (.cells #[.int .i64 3,.slice A3 n3 c3,.int .i32 s[k].toNat,.slice B3 m3 c4,.int .i64 0,.int .i64 0,.string ⟨#[]⟩,.int .i64 0,.int .i64 0,.bool false] 31) = x6 := ⟨_,rfl⟩
      have hW6 : Whole x6 wr.heap.size 31 #[.int .i64 3,.slice A3 n3 c3,.int .i32 s[k].toNat,.slice B3 m3 c4,.int .i64 0,.int .i64 0,.string ⟨#[]⟩,.int .i64 0,.int .i64 0,.bool false] := by rw [← hx6];exact heap_alloc_new wr _
      have HB6 := Hd (show Below x5.heap.size x5 x6 by rw [← hx6];exact HBW.out.alloc hsz6 _)
      have q0 : x6.cell? ⟨wr.heap.size,0,none⟩ = some (.int .i64 3) := hW6.cell 0
      have q2 : x6.cell? ⟨wr.heap.size,2,none⟩ = some (.int .i32 s[k].toNat) := hW6.cell 2
      have HX6 := Hd hx6
      have hne : ¬ (k : Int) = (s.size : Int) - 1 := by omega
      clear hx6 hW6
      go_upto_region 20 with (fail)
      rw [HX6.out]
      go_wp2_with fail
      go_big_quiet (fail)
      go_wp2
      exact ⟨⟨k + 1,hlt,rfl,by first | exact below_drewNr HB6.out _ | exact HB6.out⟩,by simp only [intOf];omega⟩
     ·obtain rfl : n3 = 1 := hn3.symm
      obtain rfl : m3 = 0 := hm3.symm
      obtain ⟨b2,o2,t2,kv2,sv2,rfl,ht2,-,hkid2,htre2⟩ := hK3.kid 0 (by show 0 < 1;decide)
      obtain rfl : x = t2 := ht2
      obtain ⟨A4,n4,c5,B4,m4,c6,-,-,hv4,-,-,-,-,-⟩ := htre2.opened
      have hkv2 : kv2 = .slice A4 n4 c5 := Option.some.inj (congrArg (fun v => match v with | Value.agg cs => cs[1]? | _ => none) hv4)
      have hsv2 : sv2 = .slice B4 m4 c6 := Option.some.inj (congrArg (fun v => match v with | Value.agg cs => cs[3]? | _ => none) hv4)
      subst hkv2 hsv2 hx
      obtain ⟨g0,g1,g2,g3,g4,g5,g6,g7,g8,g9⟩ := hkid2
      clear hv3 hK3 htk hn3 hm3 htre hB hv4 htre2
      replace d0 : wr.cell? ⟨b,o + k * 10,none⟩ = some (.int .i64 10) := d0
      replace d2 : wr.cell? ⟨b,o + k * 10 + 2,none⟩ = some (.int .i32 0) := d2
      replace d4 : wr.cell? ⟨b,o + k * 10 + 4,none⟩ = some (.int .i64 0) := d4
      replace d5 : wr.cell? ⟨b,o + k * 10 + 5,none⟩ = some (.int .i64 0) := d5
      replace d6 : wr.cell? ⟨b,o + k * 10 + 6,none⟩ = some (.string ⟨#[]⟩) := d6
      replace d7 : wr.cell? ⟨b,o + k * 10 + 7,none⟩ = some (.int .i64 A) := d7
      replace d8 : wr.cell? ⟨b,o + k * 10 + 8,none⟩ = some (.int .i64 ((A : Int) + (M : Int))) := d8
      replace d9 : wr.cell? ⟨b,o + k * 10 + 9,none⟩ = some (.bool false) := d9
      obtain ⟨x6,hx6⟩ : ∃ x6,wr.alloc (.cells #[.int .i64 10,.slice (some ⟨b2,o2,none⟩) 1 c3,.int .i32 0,.slice B3 0 c4,.int .i64 0,.int .i64 0,.string ⟨#[]⟩,.int .i64 A,.int .i64 ((A : Int) + (M : Int)),.bool false] 31) = x6 := ⟨_,rfl⟩
      have hW6 : Whole x6 wr.heap.size 31 #[.int .i64 10,.slice (some ⟨b2,o2,none⟩) 1 c3,.int .i32 0,.slice B3 0 c4,.int .i64 0,.int .i64 0,.string ⟨#[]⟩,.int .i64 A,.int .i64 ((A : Int) + (M : Int)),.bool false] := by rw [← hx6];exact heap_alloc_new wr _
      have hbw : Below wr.heap.size wr x6 := by rw [← hx6];exact (Below.refl _ _).alloc (Nat.le_refl _) _
      have hk6 : ∀ j u,wr.cell? ⟨b2,o2 + j,none⟩ = some u → x6.cell? ⟨b2,o2 + j,none⟩ = some u := fun j u h => (hbw.cell (World.block_lt_of_cell? wr _ h)).trans h
      have y0 : x6.cell? ⟨b2,o2,none⟩ = some (.int .i64 3) := hk6 0 _ (by simpa [runeY,Tr.fld] using g0)
      have y1 : x6.cell? ⟨b2,o2 + 1,none⟩ = some (.slice A4 n4 c5) := hk6 1 _ (by simpa [runeY,Tr.fld] using g1)
      have y2 : x6.cell? ⟨b2,o2 + 2,none⟩ = some (.int .i32 s[k].toNat) := hk6 2 _ (by simpa [runeY,Tr.fld] using g2)
      have y3 : x6.cell? ⟨b2,o2 + 3,none⟩ = some (.slice B4 m4 c6) := hk6 3 _ (by simpa [runeY,Tr.fld] using g3)
      have y4 : x6.cell? ⟨b2,o2 + 4,none⟩ = some (.int .i64 0) := hk6 4 _ (by simpa [runeY,Tr.fld] using g4)
      have y5 : x6.cell? ⟨b2,o2 + 5,none⟩ = some (.int .i64 0) := hk6 5 _ (by simpa [runeY,Tr.fld] using g5)
      have y6 : x6.cell? ⟨b2,o2 + 6,none⟩ = some (.string ⟨#[]⟩) := hk6 6 _ (by simpa [runeY,Tr.fld] using g6)
      have y7 : x6.cell? ⟨b2,o2 + 7,none⟩ = some (.int .i64 0) := hk6 7 _ (by simpa [runeY,Tr.fld] using g7)
      have y8 : x6.cell? ⟨b2,o2 + 8,none⟩ = some (.int .i64 0) := hk6 8 _ (by simpa [runeY,Tr.fld] using g8)
      have y9 : x6.cell? ⟨b2,o2 + 9,none⟩ = some (.bool false) := hk6 9 _ (by simpa [runeY,Tr.fld] using g9)
      have HB6 := Hd (HBW.out.trans (hbw.mono hsz6))
      have q0 : x6.cell? ⟨wr.heap.size,0,none⟩ = some (.int .i64 10) := hW6.cell 0
      have q1 : x6.cell? ⟨wr.heap.size,1,none⟩ = some (.slice (some ⟨b2,o2,none⟩) 1 c3) := hW6.cell 1
      have q7 : x6.cell? ⟨wr.heap.size,7,none⟩ = some (.int .i64 A) := hW6.cell 7
      have q8 : x6.cell? ⟨wr.heap.size,8,none⟩ = some (.int .i64 ((A : Int) + (M : Int))) := hW6.cell 8
      have q9 : x6.cell? ⟨wr.heap.size,9,none⟩ = some (.bool false) := hW6.cell 9
      have HX6 := Hd hx6;have HW6 := Hd hW6
      have hne : ((k : Int) == (s.size : Int) - 1) = true := by rw [beq_iff_eq];omega
      clear hk1 hx6 hW6 hbw hk6 g0 g1 g2 g3 g4 g5 g6 g7 g8 g9
      go_upto_region 20 with (fail)
      rw [HX6.out]
      go_upto_region 23 with (fail)
      have f0 : x6.frozen? ⟨wr.heap.size,0,none⟩ = false := HW6.out.free 0
      have f1 : x6.frozen? ⟨wr.heap.size,1,none⟩ = false := HW6.out.free 1
      have f2 : x6.frozen? ⟨wr.heap.size,2,none⟩ = false := HW6.out.free 2
      have f3 : x6.frozen? ⟨wr.heap.size,3,none⟩ = false := HW6.out.free 3
      have f4 : x6.frozen? ⟨wr.heap.size,4,none⟩ = false := HW6.out.free 4
      have f5 : x6.frozen? ⟨wr.heap.size,5,none⟩ = false := HW6.out.free 5
      have f6 : x6.frozen? ⟨wr.heap.size,6,none⟩ = false := HW6.out.free 6
      have f7 : x6.frozen? ⟨wr.heap.size,7,none⟩ = false := HW6.out.free 7
      have f8 : x6.frozen? ⟨wr.heap.size,8,none⟩ = false := HW6.out.free 8
      have f9 : x6.frozen? ⟨wr.heap.size,9,none⟩ = false := HW6.out.free 9
      have q2 : x6.cell? ⟨wr.heap.size,2,none⟩ = some (.int .i32 0) := HW6.out.cell 2
      have q3 : x6.cell? ⟨wr.heap.size,3,none⟩ = some (.slice B3 0 c4) := HW6.out.cell 3
      have q4 : x6.cell? ⟨wr.heap.size,4,none⟩ = some (.int .i64 0) := HW6.out.cell 4
      have q5 : x6.cell? ⟨wr.heap.size,5,none⟩ = some (.int .i64 0) := HW6.out.cell 5
      have q6 : x6.cell? ⟨wr.heap.size,6,none⟩ = some (.string ⟨#[]⟩) := HW6.out.cell 6
      obtain ⟨x7,hx7⟩ : ∃ x7,set10 x6 wr.heap.size (.int .i64 3) (.slice A4 n4 c5) (.int .i32 s[k].toNat) (.slice B4 m4 c6) (.int .i64 0) (.int .i64 0) (.string ⟨#[]⟩) (.int .i64 0) (.int .i64 0) (.bool false) = x7 := ⟨_,rfl⟩
      have hW7 : Whole x7 wr.heap.size 31 #[.int .i64 3,.slice A4 n4 c5,.int .i32 s[k].toNat,.slice B4 m4 c6,.int .i64 0,.int .i64 0,.string ⟨#[]⟩,.int .i64 0,.int .i64 0,.bool false] := by rw [← hx7];exact set10_whole HW6.out _ _ _ _ _ _ _ _ _ _
      have HB7 := Hd (show Below x5.heap.size x5 x7 by rw [← hx7];exact set10_below HB6.out hsz6 _ _ _ _ _ _ _ _ _ _)
      have r0 : x7.cell? ⟨wr.heap.size,0,none⟩ = some (.int .i64 3) := hW7.cell 0
      have r2 : x7.cell? ⟨wr.heap.size,2,none⟩ = some (.int .i32 s[k].toNat) := hW7.cell 2
      unfold set10 at hx7
      have HX7 := Hd hx7
      clear hx7 hW7 HW6
      go_upto_region 24 with (fail)
      rw [HX7.out]
      clear q0 q1 q2 q3 q4 q5 q6 q7 q8 q9 f0 f1 f2 f3 f4 f5 f6 f7 f8 f9 y0 y1 y2 y3 y4 y5 y6 y7 y8 y9
      go_wp2_with fail
      go_big_quiet (fail)
      go_wp2
      exact ⟨⟨k + 1,hlt,rfl,by first | exact below_drewNr HB7.out _ | exact HB7.out⟩,by simp only [intOf];omega⟩
    ·obtain rfl : k = s.size := by omega
     go_wp2
     go_ret
     exact ⟨rfl,HB5.out.trans (HBW.out.mono HB5.out.size)⟩
end Go.Proofs.YtbclhkogjmmgnaaGreatDoor
