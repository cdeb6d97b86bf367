import PyProof.Rows.All
import Wide.All
import OpenK.AllK
import Wide.FinOn
import HandS.ForMost
import HandS.Walk
import HandS.Wide
import HandS.Defaults
import HandS.IsInst
import HandS.Zip
import PySem.Challenge.RW_rolereach_k04_words_of_texts
set_option Elab.async false
set_option linter.all false
set_option maxRecDepth 100000
set_option maxHeartbeats 4000000
namespace RL
open PySem PySem.Spec PyProof.Rows L2
/-! ### rules of my own: enumerate of a text, a text times a number, a call by keywords alone -/
def YEnumS (x : Str) : It :=
  ⟨fun i _ => i < x.cps.size, fun i H v H' => ∃ T c, v = .ref T ∧ H T = none ∧ H' = upd H T (.tup [.int (i : Nat), .str ⟨#[c]⟩]) ∧ x.cps[i]? = some c, fun i _ => i = x.cps.size⟩
theorem turn_enumS {P : Program} {w : World} {K : PySem.W.Frag} {elts : List Expr} {kk : Nat} {tpos : Pos} (e it : Addr) (x : Str) (t : Tok) (ty : String) (hty : ty = "str_ascii_iterator" ∨ ty = "str_iterator") :
    Turn P w K (.Tuple elts kk tpos) (YEnumS x) [e, it] e (fun i h => (∃ old, IsEnum h e it ((i : Nat) : Int) old) ∧ h.IsStrIter it ty x t i ∧ e ≠ it) where
  mem := by simp
  obj := fun i h st b hb => by
    obtain ⟨⟨old, he⟩, ⟨o, ho, hc, hd⟩, _⟩ := st
    have e' : b = e ∨ b = it := by simpa using hb
    rcases e' with z | z
    · rw [z]; exact ⟨_, he, fun v q => nomatch q⟩
    · rw [z]; exact ⟨o, ho, fun v q => by rw [hd] at q; cases q⟩
  keep := fun i h h' st k => by
    obtain ⟨⟨old, he⟩, ⟨o, ho, r⟩, hne⟩ := st
    exact ⟨⟨old, k e (by simp) _ he⟩, ⟨o, k it (by simp) o ho, r⟩, hne⟩
  item := by
    intro X hP hw hK hc i pins s σ H E I hf st hg
    subst hP hw hK
    obtain ⟨⟨old, he⟩, hit, hne⟩ := st
    have hel : e < s.heap.objs.size := Heap.lt_size he
    have hil : it < s.heap.objs.size := by obtain ⟨_, q, _⟩ := hit; exact Heap.lt_size q
    have D : Draws X.prog X.w X.A.in1 it [it] x.cps.size (fun i v => ∃ c u, x.cps[i]? = some c ∧ v = .str ⟨#[c]⟩ u) (fun i h => h.IsStrIter it ty x t i) := by
      rcases hty with z | z
      · rw [z]; exact Draws.strAscii (A := X.A.in1) (I.ok.hd hc) it x t
      · rw [z]; exact Draws.strWide (A := X.A.in1) (I.ok.hd hc) it x t
    refine wpAny_pyNext_enum_itemD D he hit hg hne (fun z => hne (by simpa using z)) fun u h' tk hu ho hit' hT hsz hk => ?_
    obtain ⟨c, u', hcx, rfl⟩ := hu
    refine ⟨_, rfl, wpAny_letOwnedTupleGo_enum (s := { s with heap := h', toks := tk + 1 }) ho fun h'' he' sb => ?_⟩
    have hT2 : h''.get? s.heap.objs.size = some { cls := .type "tuple", data := .seq #[.int i tk, .str ⟨#[c]⟩ u'] } := (sb.2 _ (Nat.ne_of_gt hel)).trans hT
    have new : ObjOk X.prog X.w (upd H s.heap.objs.size (.tup [.int (i : Nat), .str ⟨#[c]⟩])) h'' s.heap.objs.size (.tup [.int (i : Nat), .str ⟨#[c]⟩]) :=
      ⟨by show 2 ≤ sizeLine; decide, [.int i tk, .str ⟨#[c]⟩ u'], .cons ⟨_, rfl⟩ (.cons ⟨_, rfl⟩ .nil), ⟨_, hT2, rfl, _, rfl⟩⟩
    have I1 : Inv X pins σ (upd H s.heap.objs.size (.tup [.int (i : Nat), .str ⟨#[c]⟩])) { s with heap := h'', toks := tk + 1 } :=
      I.turnedNew (ch := [e, it]) (fun b ob hb q => (sb.2 b (fun z => hb (by simp [z]))).trans (hk b ob (fun z => hb (by simp [z])) (fun z => hb (by simp [z])) q)) hf (Nat.le_refl _) new
    have hit2 : h''.IsStrIter it ty x t (i + 1) := by
      obtain ⟨o, ho, r⟩ := hit'
      exact ⟨o, (sb.2 it (Ne.symm hne)).trans ho, r⟩
    refine ⟨.ref s.heap.objs.size, _, I1, rfl, ⟨_, c, rfl, I.hok.fresh (Nat.le_refl _), rfl, hcx⟩, ⟨⟨.str ⟨#[c]⟩ u', ?_⟩, hit2, hne⟩, fun b hb => ?_⟩
    · have e1 : ((i + 1 : Nat) : Int) = (i : Int) + 1 := by omega
      rw [e1]; exact he'
    · have hb' : b < s.heap.objs.size := by
        have e' : b = e ∨ b = it := by simpa using hb
        rcases e' with z | z
        · rw [z]; exact hel
        · rw [z]; exact hil
      rw [upd_ne (Nat.ne_of_lt hb')]
      exact (hf b hb).1
  done := by
    intro X hP hw hK hc i pins s σ H E I hf st hg
    subst hP hw hK
    obtain ⟨⟨old, he⟩, hit, hne⟩ := st
    obtain ⟨f0, f1, f2, f3, f4, f5⟩ := hf it (by simp)
    have hg : i = x.cps.size := hg
    subst hg
    have D : Draws X.prog X.w X.A.in1 it [it] x.cps.size (fun i v => ∃ c u, x.cps[i]? = some c ∧ v = .str ⟨#[c]⟩ u) (fun i h => h.IsStrIter it ty x t i) := by
      rcases hty with z | z
      · rw [z]; exact Draws.strAscii (A := X.A.in1) (I.ok.hd hc) it x t
      · rw [z]; exact Draws.strWide (A := X.A.in1) (I.ok.hd hc) it x t
    exact wpAny_pyNext_enum_endD D he hit fun h' eb => ⟨rfl, I.turned (t' := s.toks) (fun b o hb q => eb b o hb q) f0 f1 f3 f4 f5⟩
  self := fun A i s Q E st h => let ⟨⟨_, he⟩, _⟩ := st; wpAny_pyIter_enum he h
def iEnumS (ta : TA) : TI := fun σ H R => ta σ H fun vs H1 => ∃ x, vs = [.str x] ∧ R (YEnumS x) H1
theorem pi_enumS {X : Cx} {e : Expr} {ta : TA} {p pos tpos : Pos} {elts : List Expr} {kk : Nat} (hg : Gl X "enumerate") (hm : X.mg "enumerate" = none) (ha : PA X [e] ta) (hs : starEach [e] X.env = [(false, eval e X.env)] := by rfl) :
    PI X (.Tuple elts kk tpos) (.Call (.Name "enumerate" p) [e] [] pos) (iEnumS ta) := by
  refine ⟨fun pins s σ H R I h => ?_⟩
  refine Call_ (ld_blt I hg hm boot_enumerate (PyProof.Rows.callWith_type1 (thn (ha.run pos pins s σ H _ I h) fun us s1 ⟨vs, H1, I1, r1, q1⟩ => ?_) hs rfl))
  obtain ⟨x, ex, q⟩ := q1
  subst ex
  cases r1 with
  | cons r rr =>
    cases rr
    obtain ⟨t, rfl⟩ := r
    refine call_enumerate_str fun h' he hit hsz hk => wpAny_pyIter_enum he ?_
    have I2 : Inv X pins σ H1 { s1 with heap := h' } := I1.kept (t' := s1.toks) hk
    have hty : strIterType x = "str_ascii_iterator" ∨ strIterType x = "str_iterator" := by
      unfold strIterType
      split
      · exact .inl rfl
      · exact .inr rfl
    refine ⟨s1.heap.objs.size + 1, [s1.heap.objs.size + 1, s1.heap.objs.size], _, _, H1, rfl, I2, turn_enumS (s1.heap.objs.size + 1) s1.heap.objs.size x t (strIterType x) hty, ⟨⟨.none, he⟩, hit, Nat.succ_ne_self _⟩, fun b hb => ?_, q⟩
    have e' : b = s1.heap.objs.size + 1 ∨ b = s1.heap.objs.size := by simpa using hb
    have hle : s1.heap.objs.size ≤ b := by
      rcases e' with z | z
      · rw [z]; exact Nat.le_add_right _ _
      · rw [z]; exact Nat.le_refl _
    exact I1.fpOk hle (I1.hok.fresh hle)
theorem walk_enumS {x : Str} : Walk (YEnumS x) x.cps.size (fun _ => True) (YPair (fun i => some (.int (i : Nat))) (fun i => x.cps[i]?.map fun c => .str ⟨#[c]⟩)) := by
  refine ⟨fun _ _ hi _ => hi, fun _ _ => rfl, fun i H v H' _ _ y => ?_⟩
  obtain ⟨T, c, h1, h2, h3, h4⟩ := y
  exact ⟨T, .int (i : Nat), .str ⟨#[c]⟩, h1, h2, h3, rfl, by show (x.cps[i]?).map _ = _; rw [h4]; rfl⟩
/-- a text n times, its length said -/
def repS (x : Str) (n : Nat) : Str := ⟨((List.replicate n x.cps.toList).flatten).toArray⟩
theorem foldl_app (x : Array Nat) : ∀ (n : Nat) (acc : Array Nat), ((List.replicate n x).foldl (· ++ ·) acc).toList = acc.toList ++ (List.replicate n x.toList).flatten
  | 0, acc => by simp
  | n + 1, acc => by
    rw [List.replicate_succ, List.foldl_cons, foldl_app x n, List.replicate_succ, List.flatten_cons, Array.toList_append, List.append_assoc]
theorem repS_len (x : Str) (n : Nat) : (repS x n).length = n * x.length := by
  show ((List.replicate n x.cps.toList).flatten).toArray.size = _
  rw [List.size_toArray]
  induction n with
  | zero => simp
  | succ n ih =>
    rw [List.replicate_succ, List.flatten_cons, List.length_append, ih, Nat.succ_mul]
    show x.cps.size + _ = _
    rw [Nat.add_comm]
    rfl
theorem op_mul_str {X : Cx} : OpR X (binaryOp .Mult) (fun x y H Q => ∃ (a : Str) (k : Int), x = .str a ∧ y = .int k ∧ 1 ≤ k ∧ k < 1000000000 ∧ a.length * k.toNat ≤ 16000000 ∧ Q (.str (repS a k.toNat)) H) := by
  intro pins s σ H x y v u Q I rx ry h
  obtain ⟨a, k, rfl, rfl, h1, h2, h3, q⟩ := h
  obtain ⟨t, rfl⟩ := rx
  obtain ⟨t', rfl⟩ := ry
  have hn : ¬ k < 1 := by omega
  refine PySem.P.mul_str ?_ ?_ ?_ ?_
  · have e1 : ¬ k < -(2 ^ 63 : Int) := by omega
    have e2 : ¬ k ≥ 2 ^ 63 := by omega
    rw [decide_eq_false e1, decide_eq_false e2]; rfl
  · intro _ _ z
    have z2 : ((a.length : Int) * k) ≤ 16000000 := by
      have : ((a.length * k.toNat : Nat) : Int) ≤ 16000000 := by omega
      rw [Int.natCast_mul, Int.toNat_of_nonneg (by omega)] at this
      exact this
    have z3 : (a.length : Int) ≤ (2 ^ 63 - 1) / k := Int.le_ediv_of_mul_le (by omega) (by omega)
    omega
  · intro _ _
    unfold PySem.Builtin.Str.tooLong
    exact decide_eq_false (by show ¬ _ > 2 ^ 24; omega)
  · rw [if_neg hn]
    by_cases hc : (k == 1 || a.length == 0) = true
    · rw [if_pos hc]
      have e : repS a k.toNat = a := by
        unfold repS
        rw [Bool.or_eq_true, beq_iff_eq, beq_iff_eq] at hc
        rcases hc with hc | hc
        · rw [hc]
          show (⟨((List.replicate 1 a.cps.toList).flatten).toArray⟩ : Str) = a
          simp
        · have z : a.cps.toList = [] := List.eq_nil_of_length_eq_zero (by rw [Array.length_toList]; exact hc)
          have z2 : a = ⟨#[]⟩ := by
            cases a with
            | mk c =>
              congr 1
              apply Array.ext'
              exact z
          rw [z]
          rw [z2]
          congr 1
          apply Array.ext'
          simp
      rw [e] at q
      exact ⟨.str a, H, I, ⟨_, rfl⟩, q⟩
    · rw [if_neg hc]
      have e : (⟨(List.replicate k.toNat a.cps).foldl (· ++ ·) #[]⟩ : Str) = repS a k.toNat := by
        unfold repS
        congr 1
        apply Array.ext'
        rw [foldl_app]
        simp
      rw [e]
      refine ⟨?_, .str (repS a k.toNat), H, I.tok _, ⟨_, rfl⟩, q⟩
      rw [repS_len]
      show _ ≤ 2 ^ 24
      rw [Nat.mul_comm]
      omega
section
variable {X : Cx} {CX : CXT} {k n : Nat} {f : Addr} {fd : FuncData} {ps ks : List Str} {sp : Sp} {E : XK} {x : Str} {p pos : Pos} {kws : List Keyword} {tk : TA} {g : List Value → List Value → List Value} {gV : List V → List V → List V}
def tCallN0 (m : Nat) (sp : Sp) (gV : List V → List V → List V) (E : XK) (tk : TA) : TE := fun σ H Q => tk σ H fun zs H2 => zs.length = m ∧ sp (gV [] zs) H2 Q E
/-- f(k = v, ..) -/
theorem pe_callN0 (F : FnOk X.prog X.w X.K X.mg X.base CX k f fd ps sp) (hr : Room k X.A) (hg : Gl X x) (hm : X.mg x = some (.ref f)) (hk : PySem.W.keepIn X.K (.ref f) = true) (hb : KBn X.K fd ps 0 ks g gV) (hx : Passes CX X E)
    (hkw : PK X kws tk) (hall : (backToKw pos (keywordEach kws X.env)).all (·.1.isSome) = true := by rfl) (hks : (backToKw pos (keywordEach kws X.env)).filterMap (·.1) = ks := by rfl)
    (hdb : (x == ("__debug__" : Str)) = false := by decide)
    (hpl : ((backTo pos (starEach [] X.env)).any (·.1) || (backToKw pos (keywordEach kws X.env)).any (·.1.isNone)) = false := by rfl) :
    PE X (.Call (.Name x p) [] kws pos) (tCallN0 ks.length sp gV E tk) := by
  refine ⟨fun pins s σ H Q I h => ?_⟩
  refine wpAny_Call_Name_kw (ld_glob I hg hm ?_ hdb)
  refine PySem.W.callWith_KW0 (h₀ := X.base) I.ok.mod.kin hk hall ?_ hpl
  refine thn (hkw.run pos pins s σ H _ I h) fun ws s2 ⟨zs, H2, I2, rz, l2, q2⟩ => ⟨I2.kIn, ?_⟩
  rw [hks]
  exact run_fnN (n := 0) F hr hb hx I2 .nil rz rfl l2 q2
end
/-! ### heaps -/
theorem same_upd {H : Hp} {p : Addr} {o : HO} (h : H p = none) : Same H (upd H p o) := fun b x e => by
  rw [upd_ne (ne_of_none e h)]
  exact e
/-- all but b stands as it stood -/
def Keep (b : Addr) (H H' : Hp) : Prop := ∀ a o, a ≠ b → H a = some o → H' a = some o
theorem Keep.refl {b : Addr} {H : Hp} : Keep b H H := fun _ _ _ e => e
theorem Keep.trans {b : Addr} {H H1 H2 : Hp} (k1 : Keep b H H1) (k2 : Keep b H1 H2) : Keep b H H2 := fun a o n e => k2 a o n (k1 a o n e)
theorem Keep.upd {b : Addr} {H : Hp} {o : HO} : Keep b H (upd H b o) := fun a x n e => by
  rw [upd_ne n]
  exact e
theorem Keep.new {b p : Addr} {H : Hp} {o : HO} (h : H p = none) : Keep b H (L2.upd H p o) := fun a x n e => same_upd h a x e
theorem Keep.of {b : Addr} {H H1 : Hp} (s : Same H H1) : Keep b H H1 := fun a o _ e => s a o e
end RL
set_option maxHeartbeats 4000000
namespace RM
open PySem PySem.Spec PyProof.Rows L2 TL
/-! ### the words between the places of a sign are what split tells -/
def sp (c : Nat) : List Nat → List (List Nat)
  | [] => [[]]
  | x :: r => if x = c then [] :: sp c r else (x :: (sp c r).headD []) :: (sp c r).tail
theorem sp_ne (c : Nat) : ∀ l, sp c l ≠ []
  | [] => by simp [sp]
  | x :: r => by
    unfold sp
    split <;> simp
/-- the places -/
def pos (c : Nat) : List Nat → Int → List Int
  | [], _ => []
  | x :: r, k => if x = c then k :: pos c r (k + 1) else pos c r (k + 1)
def sl (l : List Nat) (i j : Int) : List Nat := (l.drop i.toNat).take (j.toNat - i.toNat)
def G (l : List Nat) : Int → List Int → List (List Nat)
  | _, [] => []
  | a, b :: bs => sl l (a + 1) b :: G l b bs
theorem G_shift (x : Nat) (r : List Nat) : ∀ (bs : List Int) (a : Int), -1 ≤ a → (∀ b ∈ bs, 0 ≤ b) → G (x :: r) (a + 1) (bs.map (· + 1)) = G r a bs
  | [], _, _, _ => rfl
  | b :: bs, a, ha, hb => by
    have h0 : 0 ≤ b := hb b (List.mem_cons_self ..)
    show sl (x :: r) (a + 1 + 1) (b + 1) :: G (x :: r) (b + 1) (bs.map (· + 1)) = sl r (a + 1) b :: G r b bs
    rw [G_shift x r bs b (by omega) (fun z hz => hb z (List.mem_cons_of_mem _ hz))]
    congr 1
    unfold sl
    have e1 : (a + 1 + 1).toNat = (a + 1).toNat + 1 := by omega
    have e2 : (b + 1).toNat = b.toNat + 1 := by omega
    rw [e1, e2, List.drop_succ_cons]
    congr 1
    omega
theorem pos_shift (c : Nat) : ∀ (l : List Nat) (k : Int), pos c l (k + 1) = (pos c l k).map (· + 1)
  | [], _ => rfl
  | x :: r, k => by
    unfold pos
    rw [pos_shift c r (k + 1)]
    split <;> simp
theorem pos_nonneg (c : Nat) : ∀ (l : List Nat) (k : Int), 0 ≤ k → ∀ b ∈ pos c l k, 0 ≤ b
  | [], _, _, b, h => by cases h
  | x :: r, k, hk, b, h => by
    unfold pos at h
    split at h
    · rcases List.mem_cons.mp h with e | h
      · omega
      · exact pos_nonneg c r (k + 1) (by omega) b h
    · exact pos_nonneg c r (k + 1) (by omega) b h
theorem G_sp (c : Nat) : ∀ l : List Nat, G l (-1) (pos c l 0 ++ [(l.length : Int)]) = sp c l
  | [] => rfl
  | x :: r => by
    have ih := G_sp c r
    have hn : ∀ b ∈ pos c r 0 ++ [(r.length : Int)], 0 ≤ b := fun b hb => by
      rcases List.mem_append.mp hb with h | h
      · exact pos_nonneg c r 0 (by omega) b h
      · rw [List.mem_singleton.mp h]; omega
    have em : (pos c r 1 ++ [((x :: r).length : Int)]) = (pos c r 0 ++ [(r.length : Int)]).map (· + 1) := by
      rw [List.map_append, ← pos_shift c r 0]
      rfl
    unfold pos sp
    show G (x :: r) (-1) ((if x = c then (0 : Int) :: pos c r (0 + 1) else pos c r (0 + 1)) ++ _) = _
    rw [show (0 : Int) + 1 = 1 from rfl]
    by_cases hx : x = c
    · rw [if_pos hx, if_pos hx, List.cons_append, em]
      show sl (x :: r) 0 0 :: G (x :: r) (-1 + 1) _ = _
      rw [G_shift x r _ (-1) (by omega) hn, ih]
      rfl
    · rw [if_neg hx, if_neg hx, em]
      cases e : pos c r 0 ++ [(r.length : Int)] with
      | nil => simp at e
      | cons b bs =>
        rw [e] at ih hn
        have h0 : 0 ≤ b := hn b (List.mem_cons_self ..)
        rw [List.map_cons]
        show sl (x :: r) 0 (b + 1) :: G (x :: r) (b + 1) (bs.map (· + 1)) = _
        rw [G_shift x r bs b (by omega) (fun z hz => hn z (List.mem_cons_of_mem _ hz)), ← ih]
        show _ = (x :: sl r 0 b) :: G r b bs
        congr 1
        unfold sl
        have e2 : (b + 1).toNat - (0 : Int).toNat = b.toNat + 1 := by
          show (b + 1).toNat - 0 = _
          omega
        rw [e2]
        rfl
theorem sp_hit {c : Nat} (r : List Nat) : sp c (c :: r) = [] :: sp c r := if_pos rfl
theorem sp_miss {c x : Nat} (r : List Nat) (h : x ≠ c) : sp c (x :: r) = (x :: (sp c r).headD []) :: (sp c r).tail := if_neg h
theorem hd_tl {l : List (List Nat)} (h : l ≠ []) : l.headD [] :: l.tail = l := by
  cases l with
  | nil => exact absurd rfl h
  | cons a b => rfl
theorem spl_sp (c : Nat) : ∀ (l acc : List Nat), spl [c] 0 acc l = (acc ++ (sp c l).headD []) :: (sp c l).tail
  | [], acc => by
    rw [spl_nil]
    show [acc] = [acc ++ []]
    rw [List.append_nil]
  | x :: r, acc => by
    by_cases hx : x = c
    · subst hx
      have := spl_part1 (s := x) (S := []) (p := []) (rest := r) (acc := acc) (by simp)
      rw [List.nil_append] at this
      have e : ([x] ++ r) = x :: r := rfl
      rw [e] at this
      rw [this, spl_sp x r [], sp_hit, List.append_nil, List.nil_append, hd_tl (sp_ne x r)]
      show _ = (acc ++ []) :: sp x r
      rw [List.append_nil]
    · have e : spl [c] 0 acc (x :: r) = spl [c] 0 (acc ++ [x]) r := spl_miss (pre_of_head [] r hx)
      rw [e, spl_sp c r (acc ++ [x]), sp_miss r hx, List.append_assoc]
      rfl
/-- what is due of a line: none, or its words -/
def due (c : Nat) (l : List Nat) : Option (List (List Nat)) := if 10 ∈ l then none else if [] ∈ sp c l then none else some (sp c l)
theorem split_eq (x : Str) {c : Nat} (hc : c < 256) : (Txt.split x ⟨#[c]⟩).map tl = sp c (tl x) := by
  have h := split_spl x ⟨#[c]⟩ (by show [c] ≠ []; simp) (kind_ok (by simp [hc]))
  rw [h]
  show spl [c] 0 [] (tl x) = _
  rw [spl_sp, List.nil_append]
  have := sp_ne c (tl x)
  cases h : sp c (tl x) with
  | nil => exact absurd h this
  | cons a b => rfl
/-- texts of lists of codes -/
def tx (l : List Nat) : Str := ⟨l.toArray⟩
theorem tx_tl (x : Str) : tx (tl x) = x := by
  unfold tx tl
  cases x
  simp
theorem split_tx (x : Str) {c : Nat} (hc : c < 256) : Txt.split x ⟨#[c]⟩ = (sp c (tl x)).map tx := by
  rw [← split_eq x hc, List.map_map]
  have : (tx ∘ tl) = id := by
    funext z
    exact tx_tl z
  rw [this, List.map_id]
theorem sp_nil (c : Nat) : sp c [] = [[]] := rfl
theorem due_nil (c : Nat) : due c [] = none := by
  unfold due
  rw [if_neg (by simp), if_pos (by rw [sp_nil]; simp)]
theorem sp_len (c : Nat) : ∀ l, (sp c l).length ≤ l.length + 1
  | [] => Nat.le_refl _
  | x :: r => by
    have := sp_len c r
    unfold sp
    split
    · simp only [List.length_cons]; omega
    · simp only [List.length_cons, List.length_tail]; omega
end RM
set_option maxHeartbeats 4000000
namespace RM
open PySem PySem.Spec PyProof.Rows L2 TL
theorem pos_app (c x : Nat) : ∀ (l : List Nat) (k : Int), pos c (l ++ [x]) k = pos c l k ++ (if x = c then [k + (l.length : Int)] else [])
  | [], k => by
    show (if x = c then k :: [] else []) = _
    by_cases h : x = c
    · rw [if_pos h, if_pos h]; simp [pos]
    · rw [if_neg h, if_neg h]; rfl
  | y :: r, k => by
    show (if y = c then k :: pos c (r ++ [x]) (k + 1) else pos c (r ++ [x]) (k + 1)) = (if y = c then k :: pos c r (k + 1) else pos c r (k + 1)) ++ _
    rw [pos_app c x r (k + 1)]
    have e : k + 1 + (r.length : Int) = k + ((y :: r).length : Int) := by rw [List.length_cons]; omega
    rw [e]
    by_cases h : y = c
    · rw [if_pos h, if_pos h]; rfl
    · rw [if_neg h, if_neg h]
theorem pos_len (c : Nat) : ∀ (l : List Nat) (k : Int), (pos c l k).length ≤ l.length
  | [], _ => Nat.le_refl _
  | y :: r, k => by
    have := pos_len c r (k + 1)
    show (if y = c then k :: pos c r (k + 1) else pos c r (k + 1)).length ≤ r.length + 1
    split
    · rw [List.length_cons]; omega
    · omega
theorem pos_take (c : Nat) (l : List Nat) {i x : Nat} (h : l[i]? = some x) : pos c (l.take (i + 1)) 0 = pos c (l.take i) 0 ++ (if x = c then [(i : Int)] else []) := by
  have hi : i < l.length := (List.getElem?_eq_some_iff.mp h).1
  rw [List.take_add_one, h]
  show pos c (l.take i ++ [x]) 0 = _
  rw [pos_app, List.length_take, Nat.min_eq_left (Nat.le_of_lt hi), Int.zero_add]
theorem G_len (l : List Nat) : ∀ (bs : List Int) (a : Int), (G l a bs).length = bs.length
  | [], _ => rfl
  | b :: bs, a => by
    show (G l b bs).length + 1 = bs.length + 1
    rw [G_len l bs b]
theorem G_get (l : List Nat) : ∀ (bs : List Int) (a : Int) (i : Nat) (x y : Int), (a :: bs)[i]? = some x → bs[i]? = some y → (G l a bs)[i]? = some (sl l (x + 1) y)
  | [], _, _, _, _, _, h => by simp at h
  | b :: bs, a, 0, x, y, h1, h2 => by
    have e1 : a = x := Option.some.inj h1
    have e2 : b = y := Option.some.inj h2
    rw [← e1, ← e2]
    rfl
  | b :: bs, a, i + 1, x, y, h1, h2 => G_get l bs b i x y h1 h2
theorem cut_sl (z : Str) {a b : Int} (ha : 0 ≤ a) (hb : 0 ≤ b) : cutS z (some a) (some b) = tx (sl (tl z) a b) := by
  have hl : z.length = (tl z).length := len_tl z
  have e1 : HT.sIx z.length 0 (some a) = min a.toNat z.length := by
    show (if a < 0 then _ else _) = _
    rw [if_neg (by omega)]
  have e2 : HT.sIx z.length z.length (some b) = min b.toNat z.length := by
    show (if b < 0 then _ else _) = _
    rw [if_neg (by omega)]
  unfold cutS tx sl
  rw [e1, e2, hl]
  show (⟨(((tl z).drop _).take _).toArray⟩ : Str) = _
  congr 2
  generalize tl z = l
  by_cases h : a.toNat ≤ l.length
  · rw [Nat.min_eq_left h]
    by_cases h2 : b.toNat ≤ l.length
    · rw [Nat.min_eq_left h2]
    · rw [Nat.min_eq_right (show l.length ≤ b.toNat by omega), List.take_of_length_le (by rw [List.length_drop]; omega), List.take_of_length_le (by rw [List.length_drop]; omega)]
  · rw [Nat.min_eq_right (show l.length ≤ a.toNat by omega), List.drop_length, List.drop_eq_nil_of_le (by omega)]
    simp
theorem cut_tail (x : V) (xs : List V) : cutV (x :: xs) (some 1) none = xs := by
  unfold cutV
  rw [show HT.sIx (x :: xs).length 0 (some 1) = min 1 (x :: xs).length from HT.sIx_nat (x :: xs).length 0 1, HT.sIx_none]
  rw [show min 1 (x :: xs).length = 1 by
    rw [List.length_cons]
    omega]
  show (List.take ((x :: xs).length - 1) xs) = xs
  rw [List.length_cons, Nat.add_sub_cancel]
  exact List.take_length
end RM
set_option maxHeartbeats 4000000
namespace K04
open PySem PySem.Spec PyProof.Rows L2 RL RM TL
/-! ### the text -/
def topS (i : Nat) : Stmt := PySem.Challenge.pw_rolereach_k04_words_of_texts.main.body.getD i (.Pass ⟨0, 0, 0, 0⟩)
abbrev sSplit : Stmt := topS 1
abbrev sCell : Stmt := topS 3
abbrev sBox : Stmt := topS 4
abbrev sTake : Stmt := topS 5
abbrev sWord : Stmt := topS 6
abbrev sDue : Stmt := topS 7
abbrev sRight : Stmt := topS 8
abbrev sLaw : Stmt := topS 9
end K04
set_option maxHeartbeats 4000000
namespace K04
open PySem PySem.Spec PyProof.Rows L2 RL RM TL
theorem scS : FnScope ["text", "separator", "words"] ["text", "separator"] (defScope sSplit) := ⟨rfl, rfl, rfl, by decide +kernel, rfl, by decide +kernel, by decide +kernel⟩
theorem scC : FnScope ["_law_script", "_law_k"] ["_law_script", "_law_k"] (defScope sCell) := ⟨rfl, rfl, rfl, by decide +kernel, rfl, by decide +kernel, by decide +kernel⟩
theorem scB : FnScope ["_law_cell_here"] ["_law_cell_here"] (defScope sBox) := ⟨rfl, rfl, rfl, by decide +kernel, rfl, by decide +kernel, by decide +kernel⟩
theorem scT : FnScope ["_law_box_here", "_law_many", "_law_digit", "_law_number"] ["_law_box_here", "_law_many"] (defScope sTake) := ⟨rfl, rfl, rfl, by decide +kernel, rfl, by decide +kernel, by decide +kernel⟩
section
variable {P : Program} {w : World} {K : PySem.W.Frag} {mg : Str → Option Value} {base : Heap}
/-! ### split_words -/
def TX (ps : List (List Nat)) : List V := ps.map fun l => V.str (tx l)
def spSplit (K : PySem.W.Frag) : Sp := fun vs H Q _ => ∃ (x : V) (c : Nat), vs = [x, .str ⟨#[c]⟩] ∧ c < 256 ∧
  ((∃ z : Str, x = .str z ∧ z.length ≤ 200000 ∧ (due c (tl z) = none → ∀ H', Same H H' → Q .non H') ∧ (∀ ps, due c (tl z) = some ps → ∀ H' p, Same H H' → H p = none → H' p = some (.lst (TX ps)) → Q (.ref p) H')) ∨
   (∃ t, TyX K H x t ∧ PySem.W.kitOne K t (.type "str") = some false ∧ Q .non H))
theorem inV_nil (ps : List (List Nat)) : inV (.str (Str.ofString "")) (TX ps) = decide ([] ∈ ps) := by
  unfold inV TX
  rw [List.any_map]
  induction ps with
  | nil => rfl
  | cons a r ih =>
    rw [List.any_cons, ih]
    have e : (((fun y => eqV y (V.str (Str.ofString ""))) ∘ fun l => V.str (tx l)) a) = decide (a = []) := by
      show (tx a == Str.ofString "") = _
      cases a with
      | nil => rfl
      | cons x y =>
        rw [decide_eq_false (by simp)]
        exact beq_eq_false_iff_ne.mpr fun z => by
          have z2 := congrArg tl z
          simp [tx, tl] at z2
          cases z2
    rw [e]
    by_cases h : a = []
    · simp [h]
    · simp [h, Ne.symm h]
theorem TX_flat (ps : List (List Nat)) : (TX ps).all flatV = true := by
  unfold TX
  rw [List.all_map]
  exact List.all_eq_true.mpr fun _ _ => rfl
theorem ok_split {f : Addr} {fd : FuncData} {dvs : List V} {kws : List (Str × V)} (F : FunD K "split_words" "split_words" (defArgs sSplit) (defBody sSplit) (defScope sSplit) dvs kws f fd) (mi : mg "isinstance" = none) (ms : mg "str" = none) : FnOk P w K mg base CX0 1 f fd ["text", "separator"] (spSplit K) := by
  refine F.ok scS (fun vs H Q E h => ?_) (fun cdv A outer s H vs Q E hr h => ?_)
  · obtain ⟨x, c, rfl, _⟩ := h
    rfl
  · obtain ⟨x, c, rfl, hc, h⟩ := h
    refine ⟨_, PSs.nox (pss_cons (ps_if (PW.pt (pw_or (pt_not (pt_val (pe_callB call_isi (by rfl) mi boot_isinstance (pa_cons (pv 0) (pa_cons (pe_bltn (v := .ty "str") (by rfl) ms PyProof.Rows.boot_str rfl) pa_nil))))) (pw_or1 (pt_cmpR op_in_sign pe_str (pv 0) (by rfl))))) (pss_one (ps_ret pe_non)) pss_nil)
      (pss_cons (ps_set (i := 2) scS.nd rfl (.inl rfl) (pe_split (pv 0) (pv 1)))
      (pss_cons (ps_if (pt_cmpR op_in_seq pe_str (pv 2) (by rfl)) (pss_one (ps_ret pe_non)) pss_nil)
      (pss_one (ps_ret (pv 2)))))), ?_⟩
    rcases h with ⟨z, rfl, hz, hn, hs⟩ | ⟨t, ht, hk, q⟩
    · refine ⟨_, rfl, .str z, .ty "str", .type "str", .type "str", true, rfl, .ty _, .base (.str z), kit_ty (by decide +kernel), true, rfl, ?_⟩
      show if (!true) = true then _ else _
      refine iteF ?_
      refine ⟨_, rfl, 10, z, rfl, rfl, _, rfl, ?_⟩
      refine ite2 (fun e => ?_) (fun e => ?_)
      · have h10 : 10 ∈ tl z := of_decide_eq_true e
        exact hn (by unfold due; rw [if_pos h10]) H (fun _ _ e => e)
      · have h10 : 10 ∉ tl z := fun q => e (decide_eq_true q)
        refine ⟨_, rfl, ⟨_, rfl⟩, _, rfl, z, ⟨#[c]⟩, rfl, rfl, rfl, ?_, fun p np => ?_⟩
        · show z.length + 2 ≤ 2 ^ 24
          omega
        have hl : (upd H p (.lst ((Txt.split z ⟨#[c]⟩).map V.str))) p = some (.lst (TX (sp c (tl z)))) := by
          rw [upd_same, split_tx z hc, List.map_map]
          rfl
        refine ⟨_, rfl, p, TX (sp c (tl z)), rfl, .inl (SqL.of hl), rfl, TX_flat _, _, rfl, ?_⟩
        rw [show (V.str (Str.ofString "")) = V.str (Str.ofString "") from rfl]
        show if (if false = true then !inV _ _ else inV (.str (Str.ofString "")) (TX (sp c (tl z)))) = true then _ else _
        rw [if_neg Bool.false_ne_true, inV_nil]
        refine ite2 (fun e2 => ?_) (fun e2 => ?_)
        · exact hn (by unfold due; rw [if_neg h10, if_pos (of_decide_eq_true e2)]) _ (same_upd np)
        · exact ⟨_, rfl, hs _ (by unfold due; rw [if_neg h10, if_neg (fun q => e2 (decide_eq_true q))]) _ p (same_upd np) np hl⟩
    · refine ⟨_, rfl, x, .ty "str", t, .type "str", false, rfl, .ty _, ht, hk, false, rfl, ?_⟩
      show if (!false) = true then _ else _
      exact iteT q
end
end K04
set_option maxHeartbeats 4000000
namespace K04
open PySem PySem.Spec PyProof.Rows L2 RL RM TL
section
variable {P : Program} {w : World} {K : PySem.W.Frag} {mg : Str → Option Value} {base : Heap}
/-! ### cells and boxes -/
def spCell (K : PySem.W.Frag) : Sp := fun vs H Q _ => ∃ (a : Addr) (ns : List Int) (k : Nat), vs = [.ref a, .int k] ∧ SqL K H a (ns.map V.int) ∧ k < 1000 ∧ ns.length < 1000 ∧ ∀ v : Int, Q (.int v) H
theorem ok_cell {f : Addr} {fd : FuncData} (F : Fun K "_law_cell" "_law_cell" sCell f fd) (ml : mg "len" = none) : FnOk P w K mg base CX0 1 f fd ["_law_script", "_law_k"] (spCell K) := by
  refine F.ok scC (fun vs H Q E h => ?_) (fun cdv A outer s H vs Q E hr h => ?_)
  · obtain ⟨a, ns, k, rfl, _⟩ := h
    rfl
  · obtain ⟨a, ns, k, rfl, hS, hk, hl, q⟩ := h
    refine ⟨_, pss_one (ps_ret (pe_ifExp (pt_cmpR op_lt (pv 1) (pe_callB call_len_seq (by rfl) ml PySem.boot_len (pa_cons (pv 0) pa_nil)) (nomark _)) (pe_ix ix_list (pv 0) (pv 1) (fun _ _ => rfl)) (pe_op op_add (pe_op op_mul pe_int (pv 1)) pe_int))), ?_⟩
    refine ⟨_, rfl, .ref a, rfl, a, ns.map V.int, rfl, .inl hS, (k : Int), _, rfl, rfl, _, rfl, ?_⟩
    refine ite2 (fun e => ?_) (fun e => ?_)
    · have h1 := of_decide_eq_true e
      rw [List.length_map] at h1
      have h2 : k < ns.length := by omega
      refine ⟨_, rfl, _, rfl, a, _, (k : Int), .int ns[k], rfl, rfl, hS, ?_, q _⟩
      exact atI_nat (by rw [List.getElem?_map, List.getElem?_eq_getElem h2]; rfl)
    · exact ⟨_, rfl, 7111, (k : Int), rfl, rfl, .inl ⟨by decide, by decide⟩, 7111 * (k : Int), 339, rfl, rfl, q _⟩
def Bx (H : Hp) (b : Addr) (n : Int) : Prop := ∃ g m k : Int, H b = some (.lst [.int g, .int m, .int k]) ∧ 0 ≤ g ∧ 0 ≤ m ∧ m < 2147483629 ∧ 0 ≤ k ∧ k ≤ n
theorem Bx.mono {H : Hp} {b : Addr} {n n' : Int} (h : Bx H b n) (hn : n ≤ n') : Bx H b n' := by
  obtain ⟨g, m, k, e, h1, h2, h3, h4, h5⟩ := h
  exact ⟨g, m, k, e, h1, h2, h3, h4, by omega⟩
theorem Bx.same {H H' : Hp} {b : Addr} {n : Int} (h : Bx H b n) (s : Same H H') : Bx H' b n := by
  obtain ⟨g, m, k, e, r⟩ := h
  exact ⟨g, m, k, s _ _ e, r⟩
def spBox : Sp := fun vs H Q _ => ∃ v : Int, vs = [.int v] ∧ ∀ p H', H p = none → Same H H' → Bx H' p 0 → Q (.ref p) H'
theorem ok_box {f : Addr} {fd : FuncData} (F : Fun K "_law_box" "_law_box" sBox f fd) (mm : mg "max" = none) : FnOk P w K mg base CX0 1 f fd ["_law_cell_here"] spBox := by
  refine F.ok scB (fun vs H Q E h => ?_) (fun cdv A outer s H vs Q E hr h => ?_)
  · obtain ⟨v, rfl, _⟩ := h
    rfl
  · obtain ⟨v, rfl, q⟩ := h
    refine ⟨_, pss_one (ps_ret (pe_lst (pa_cons (pe_callB (call_max2 rfl) (by rfl) mm PyProof.Rows.boot_max (pa_cons pe_int (pa_cons (pe_op op_sub (pv 0) (pe_op op_pow pe_int pe_int)) pa_nil))) (pa_cons (pe_op op_mod (pv 0) pe_int) (pa_cons pe_int pa_nil))))), ?_⟩
    refine ⟨_, rfl, 10, 18, rfl, rfl, ⟨by decide, by decide, by decide⟩, v, _, rfl, rfl, 0, _, rfl, ?_⟩
    refine ⟨_, rfl, v, 2147483629, rfl, rfl, by show (0 : Int) < 2147483629; decide, ?_⟩
    refine ⟨by show 3 ≤ sizeLine; decide, fun p np => ?_⟩
    refine q p _ np (same_upd np) ⟨_, _, 0, upd_same, ?_, Int.emod_nonneg _ (by decide), Int.emod_lt_of_pos _ (by decide), by decide, by decide⟩
    split <;> omega
/-! ### a draw -/
def spTake : Sp := fun vs H Q _ => ∃ (b : Addr) (q : Int) (n : Int), vs = [.ref b, .int q] ∧ 1 ≤ q ∧ q ≤ 1000000 ∧ 0 ≤ n ∧ n ≤ 100000 ∧ Bx H b n ∧ ∀ d H', 0 ≤ d → d < q → Keep b H H' → Bx H' b (n + 1) → Q (.int d) H'
theorem ok_take {f : Addr} {fd : FuncData} (F : Fun K "_law_take" "_law_take" sTake f fd) : FnOk P w K mg base CX0 1 f fd ["_law_box_here", "_law_many"] spTake := by
  refine F.ok scT (fun vs H Q E h => ?_) (fun cdv A outer s H vs Q E hr h => ?_)
  · obtain ⟨b, q, n, rfl, _⟩ := h
    rfl
  · obtain ⟨b, m, n, rfl, m1, m2, n1, n2, ⟨g, x, k, eb, g0, x0, x1, k0, k1⟩, q⟩ := h
    refine ⟨_, pss_cons (ps_if (pt_cmpR op_gt (pe_ix ix_list (pv 0) pe_int (fun _ _ => rfl)) pe_int (nomark _))
        (pss_cons (ps_set (i := 2) scT.nd rfl (.inl rfl) (pe_op op_mod (pe_ix ix_list (pv 0) pe_int (fun _ _ => rfl)) (pv 1)))
        (pss_cons (ps_asg (pe_op op_fdiv (pe_ix ix_list (pv 0) pe_int (fun _ _ => rfl)) (pv 1)) (pg_sub (pv 0) pe_int set_list))
        (pss_one (ps_ret (pv 2))))) pss_nil)
      (pss_cons (ps_asg (pe_op op_add (pe_ix ix_list (pv 0) pe_int (fun _ _ => rfl)) pe_int) (pg_sub (pv 0) pe_int set_list))
      (pss_cons (ps_set (i := 3) scT.nd rfl (.inl rfl) (pe_op op_mod (pe_op op_pow (pe_op op_add (pe_op op_add (pe_ix ix_list (pv 0) pe_int (fun _ _ => rfl)) (pe_op op_mul pe_int (pe_ix ix_list (pv 0) pe_int (fun _ _ => rfl)))) pe_int) pe_int) pe_int))
      (pss_cons (ps_set (i := 3) scT.nd rfl (.inl rfl) (pe_op op_mod (pe_op op_pow (pe_op op_add (pv 3) (pe_op op_mul pe_int (pe_ix ix_list (pv 0) pe_int (fun _ _ => rfl)))) pe_int) pe_int))
      (pss_one (ps_ret (pe_op op_mod (pe_op op_fdiv (pv 3) pe_int) (pv 1))))))), ?_⟩
    have L : SqL K H b [.int g, .int x, .int k] := SqL.of eb
    refine ⟨_, rfl, b, _, 0, .int g, rfl, rfl, L, atI_nat (j := 0) rfl, g, 0, rfl, rfl, _, rfl, ite2 (fun e => ?_) (fun e => ?_)⟩
    · have hg := of_decide_eq_true e
      refine ⟨_, rfl, b, _, 0, .int g, rfl, rfl, L, atI_nat (j := 0) rfl, _, rfl, g, m, rfl, rfl, by show 0 < m; omega, ?_⟩
      refine ⟨_, rfl, b, _, 0, .int g, rfl, rfl, L, atI_nat (j := 0) rfl, _, rfl, g, m, rfl, rfl, ⟨by omega, by omega⟩, ?_⟩
      refine ⟨_, rfl, b, _, _, 0, rfl, rfl, eb, rfl, ?_⟩
      refine ⟨_, rfl, q _ _ (Int.emod_nonneg _ (by omega)) (Int.emod_lt_of_pos _ (by omega)) Keep.upd ⟨g / m, x, k, upd_same, Int.ediv_nonneg (by omega) (by omega), x0, x1, k0, by omega⟩⟩
    · refine ⟨_, rfl, b, _, 2, .int k, rfl, rfl, L, atI_nat (j := 2) rfl, k, 1, rfl, rfl, ?_⟩
      refine ⟨_, rfl, b, _, _, 2, rfl, rfl, eb, rfl, ?_⟩
      have L2 : SqL K (upd H b (.lst [.int g, .int x, .int (k + 1)])) b [.int g, .int x, .int (k + 1)] := SqL.of upd_same
      refine ⟨_, rfl, b, _, 1, .int x, rfl, rfl, L2, atI_nat (j := 1) rfl, _, rfl, b, _, 2, .int (k + 1), rfl, rfl, L2, atI_nat (j := 2) rfl, 6143, k + 1, rfl, rfl, .inl ⟨by decide, by decide⟩, x, _, rfl, rfl, _, 445, rfl, rfl, _, 5, rfl, rfl, ⟨by decide, by decide, by omega⟩, _, 2147483647, rfl, rfl, by show (0 : Int) < 2147483647; decide, ?_⟩
      have b0 := Int.emod_nonneg ((x + 6143 * (k + 1) + 445) ^ (5 : Int).toNat) (show (2147483647 : Int) ≠ 0 by decide)
      have b1 := Int.emod_lt_of_pos ((x + 6143 * (k + 1) + 445) ^ (5 : Int).toNat) (show (0 : Int) < 2147483647 by decide)
      generalize hy : (x + 6143 * (k + 1) + 445) ^ (5 : Int).toNat % 2147483647 = y at b0 b1
      refine ⟨_, rfl, _, rfl, b, _, 2, .int (k + 1), rfl, rfl, L2, atI_nat (j := 2) rfl, 104729, k + 1, rfl, rfl, .inl ⟨by decide, by decide⟩, y, _, by show V.int (_ % _) = _; rw [hy], rfl, _, 3, rfl, rfl, ⟨by decide, by decide, by omega⟩, _, 2147483587, rfl, rfl, by show (0 : Int) < 2147483587; decide, ?_⟩
      refine ⟨_, rfl, _, 16, rfl, rfl, ⟨by decide, by decide⟩, _, rfl, _, m, rfl, rfl, by show 0 < m; omega, ?_⟩
      exact q _ _ (Int.emod_nonneg _ (by omega)) (Int.emod_lt_of_pos _ (by omega)) Keep.upd ⟨g, x, k + 1, upd_same, g0, x0, x1, by omega, by omega⟩
end
end K04
set_option maxHeartbeats 4000000
namespace K04
open PySem PySem.Spec PyProof.Rows L2 RL RM TL
abbrev NW : List Str := ["_law_box_here", "_law_mark", "_law_signs", "_law_word_here", "_law_k", "_law_sign"]
theorem scW : FnScope NW ["_law_box_here", "_law_mark"] (defScope sWord) := ⟨rfl, rfl, rfl, by decide +kernel, rfl, by decide +kernel, by decide +kernel⟩
def sg : Str := Str.ofString "abcxyzABZ0129 .,:;!?/()[]{}<>=+-*#@&$^|~_'" ++ Str.ofString "\""
theorem sg_len : sg.cps.toList.length = 43 := by decide +kernel
def okS (z : Str) : Prop := ∀ x ∈ tl z, x < 256
theorem okS_joinL {S : List Nat} (hS : ∀ x ∈ S, x < 256) : ∀ ps : List (List Nat), (∀ p ∈ ps, ∀ x ∈ p, x < 256) → ∀ x ∈ joinL S ps, x < 256
  | [], _, x, h => by cases h
  | [p], hp, x, h => hp p (List.mem_cons_self ..) x h
  | p :: q :: r, hp, x, h => by
    have h : x ∈ p ++ (S ++ joinL S (q :: r)) := h
    rcases List.mem_append.mp h with h | h
    · exact hp p (List.mem_cons_self ..) x h
    · rcases List.mem_append.mp h with h | h
      · exact hS x h
      · exact okS_joinL hS (q :: r) (fun z hz => hp z (List.mem_cons_of_mem _ hz)) x h
theorem okS_join {s : Str} {ys : List Str} (hs : okS s) (hy : ∀ y ∈ ys, okS y) : okS (Txt.join s ys) := by
  unfold okS
  rw [join_eq, tl_join]
  refine okS_joinL hs _ fun p hp => ?_
  obtain ⟨y, h, rfl⟩ := List.mem_map.mp hp
  exact hy y h
theorem okS_empty : okS (Str.ofString "") := fun x h => (by cases h)
theorem sg_ok : ∀ x ∈ sg.cps.toList, x < 256 := by
  have h : (sg.cps.toList.all fun x => decide (x < 256)) = true := by decide +kernel
  exact fun x hx => of_decide_eq_true (List.all_eq_true.mp h x hx)
theorem okS_one {c : Nat} (h : c < 256) : okS ⟨#[c]⟩ := fun x hx => by
  have : x = c := by simpa [tl] using hx
  omega
theorem join0_len {ys : List Str} {n : Nat} (h1 : ∀ y ∈ ys, y.length = 1) (hn : ys.length ≤ n) : (Txt.join (Str.ofString "") ys).length ≤ n := by
  rw [join_eq]
  refine Nat.le_trans (StrLaws.join_length_le _ ys) ?_
  have e : (ys.map (·.length)).sum = ys.length := by
    clear hn
    induction ys with
    | nil => rfl
    | cons a r ih =>
      rw [List.map_cons, List.sum_cons, h1 a (List.mem_cons_self ..), ih fun y hy => h1 y (List.mem_cons_of_mem _ hy), List.length_cons, Nat.add_comm]
  rw [e]
  show ys.length + ys.length * 0 ≤ n
  omega
theorem sum1 {ys : List Str} (h1 : ∀ y ∈ ys, y.length = 1) : (ys.map (·.length)).sum = ys.length := by
  induction ys with
  | nil => rfl
  | cons a r ih =>
    rw [List.map_cons, List.sum_cons, h1 a (List.mem_cons_self ..), ih fun y hy => h1 y (List.mem_cons_of_mem _ hy), List.length_cons, Nat.add_comm]
theorem atI_int {α : Type} {xs : List α} {i : Int} {v : α} (h0 : 0 ≤ i) (h : xs[i.toNat]? = some v) : atI xs i = some v := by
  have e : i = ((i.toNat : Nat) : Int) := by omega
  generalize i.toNat = j at e h
  subst e
  exact atI_nat h
section
variable {P : Program} {w : World} {K : PySem.W.Frag} {mg : Str → Option Value} {base : Heap}
def spWord : Sp := fun vs H Q _ => ∃ (b : Addr) (c : Nat) (n : Int), vs = [.ref b, .str ⟨#[c]⟩] ∧ 0 ≤ n ∧ n ≤ 90000 ∧ Bx H b n ∧ ∀ (z : Str) H', z.length ≤ 6 → okS z → Keep b H H' → Bx H' b (n + 7) → Q (.str z) H'
theorem ok_word {f fT : Addr} {fd fdT : FuncData} (F : Fun K "_law_word" "_law_word" sWord f fd) (FT : Fun K "_law_take" "_law_take" sTake fT fdT) (bT : Binds K fdT ["_law_box_here", "_law_many"] []) (gT : mg "_law_take" = some (.ref fT)) (mr : mg "range" = none) (mi : mg "int" = none) : FnOk P w K mg base CX0 2 f fd ["_law_box_here", "_law_mark"] spWord := by
  have GT : FnOk P w K mg base CX0 1 fT fdT ["_law_box_here", "_law_many"] spTake := ok_take FT
  refine F.ok scW (fun vs H Q E h => ?_) (fun cdv A outer s H vs Q E hr h => ?_)
  · obtain ⟨b, c, n, rfl, _⟩ := h
    rfl
  · obtain ⟨b, c, n, rfl, n0, n1, hb, q⟩ := h
    refine ⟨_, pss_cons (ps_set (i := 2) scW.nd rfl (.inr rfl) (pe_op op_add_str pe_str pe_str))
      (pss_cons (ps_set (i := 3) scW.nd rfl (.inl rfl) (pe_join pe_str (pe_lc (own := [("_law_k", 4)]) (g := gName 4) (by rfl) scW.nd
          (pi_range1 (by rfl) mr (pa_cons (pe_op op_add pe_int (pe_call GT hr (by rfl) gT FT.kp bT .nil pass0 (pa_cons (pv 0) (pa_cons pe_int pa_nil)))) pa_nil))
          (blkOk_by (own := [("_law_k", 4)]) (N := NW) (sc := defScope sWord) (by decide +kernel)) (fun _ _ _ _ _ => pg_name (i := 4) scW.nd rfl (Or.inl rfl)) (fun _ _ _ _ _ => pts_nil)
          (fun _ _ _ _ _ => pe_ix ix_str (pv 2) (pe_call GT hr (by rfl) gT FT.kp bT .nil pass0 (pa_cons (pv 0) (pa_cons pe_int pa_nil))) (fun _ _ => rfl)))))
      (pss_cons (ps_set (i := 3) scW.nd rfl (.inl rfl) (pe_join pe_str (pe_lc (own := [("_law_sign", 5)]) (g := gName 5) (by rfl) scW.nd (pi_str (pv 3))
          (blkOk_by (own := [("_law_sign", 5)]) (N := NW) (sc := defScope sWord) (by decide +kernel)) (fun _ _ _ _ _ => pg_name (i := 5) scW.nd rfl (Or.inl rfl)) (fun _ _ _ _ _ => pts_one (pt_cmpR op_ne (pv 5) (pv 1) (nomark _)))
          (fun _ _ _ _ _ => pv 5))))
      (pss_one (ps_ret (pe_ifExp (pt_cmpR op_ne (pv 3) pe_str (nomark _)) (pv 3) (pe_ix ix_list (pe_lst (pa_cons pe_str (pa_cons pe_str pa_nil))) (pe_callTy call_int1 (by rfl) mi PyProof.Rows.boot_int (pa_cons (pe_cmpR op_eq (pv 1) pe_str (nomark _)) pa_nil)) (fun _ _ => rfl))))))), ?_⟩
    refine ⟨_, _, rfl, rfl, by decide +kernel, ?_⟩
    refine ⟨⟨_, rfl⟩, ?_⟩
    -- range(1 + take(box, 6))
    refine ⟨_, rfl, b, 6, n, rfl, by decide, by decide, n0, by omega, hb, fun d H1 d0 d1 k1 hb1 => ?_⟩
    refine ⟨1, d, rfl, rfl, 1 + d, rfl, by omega, by omega, fun D nD => ?_⟩
    obtain ⟨g0, m0, c0, eb1, hb1r⟩ := id hb1
    have nDb : D ≠ b := fun e => by rw [e, eb1] at nD; cases nD
    refine lc_range (lo := 0) (n := (1 + d).toNat) (fun i H' => ∃ ys : List Str, H' D = some (.lst (ys.map V.str)) ∧ ys.length = i ∧ (∀ y ∈ ys, y.length = 1) ∧ (∀ y ∈ ys, okS y) ∧ Keep b H1 H' ∧ Bx H' b (n + 1 + (i : Int))) ?_ ?_ ?_
    · refine ⟨[], upd_same, rfl, (fun _ h => nomatch h), (fun _ h => nomatch h), Keep.new nD, ?_⟩
      exact (hb1.same (same_upd nD)).mono (by omega)
    · intro i H2 hi h2
      obtain ⟨ys, eD, el, e1, o1, k2, hb2⟩ := h2
      refine ⟨rfl, ?_⟩
      unfold tYes
      refine iteT ?_
      refine ⟨_, rfl, _, rfl, b, 43, n + 1 + (i : Int), rfl, by decide, by decide, by omega, by omega, hb2, fun d2 H3 d20 d21 k3 hb3 => ?_⟩
      have hlt : d2.toNat < sg.cps.toList.length := by rw [sg_len]; omega
      refine ⟨sg, d2, sg.cps.toList[d2.toNat], rfl, rfl, by decide +kernel, ?_, ?_⟩
      · exact atI_int d20 (List.getElem?_eq_getElem hlt)
      · refine ⟨ys.map V.str, k3 _ _ nDb eD, ?_, ys ++ [⟨#[sg.cps.toList[d2.toNat]]⟩], ?_, ?_, ?_, ?_, ?_, ?_⟩
        · rw [List.length_map]
          exact Nat.lt_of_lt_of_le (show ys.length < 1000 by omega) (by decide)
        · rw [upd_same, List.map_append]; rfl
        · rw [List.length_append, el]; rfl
        · intro y hy
          rcases List.mem_append.mp hy with h | h
          · exact e1 y h
          · rw [List.mem_singleton.mp h]; rfl
        · intro y hy
          rcases List.mem_append.mp hy with h | h
          · exact o1 y h
          · rw [List.mem_singleton.mp h]; exact okS_one (sg_ok _ (List.getElem_mem hlt))
        · intro a o na ea
          have haD : a ≠ D := fun z => by rw [z, nD] at ea; cases ea
          rw [upd_ne haD]
          exact k3 a o na (k2 a o na ea)
        · obtain ⟨g, m, k, e, r1, r2, r3, r4, r5⟩ := hb3
          exact ⟨g, m, k, by rw [upd_ne nDb.symm]; exact e, r1, r2, r3, r4, by omega⟩
    · intro H2 h2
      obtain ⟨ys, eD, el, e1, o1, k2, hb2⟩ := h2
      refine ⟨_, D, ys, rfl, rfl, .inl (SqL.of eD), ?_, ?_⟩
      · rw [sum1 e1]
        show ys.length + ys.length * 0 ≤ 16777216
        omega
      -- the second join
      have hz : (Txt.join (Str.ofString "") ys).length ≤ 6 := join0_len e1 (by omega)
      have oz : okS (Txt.join (Str.ofString "") ys) := okS_join okS_empty o1
      generalize Txt.join (Str.ofString "") ys = z at hz oz
      refine ⟨⟨_, rfl⟩, _, rfl, z, rfl, fun D2 nD2 => ?_⟩
      refine lc_it (walk_str (z := z)) (fun i H' => ∃ ys : List Str, H' D2 = some (.lst (ys.map V.str)) ∧ ys.length ≤ i ∧ (∀ y ∈ ys, y.length = 1) ∧ (∀ y ∈ ys, okS y) ∧ Same H2 H') ?_ (fun _ _ _ _ => trivial) ?_ ?_
      · exact ⟨[], upd_same, Nat.le_refl _, (fun _ h => nomatch h), (fun _ h => nomatch h), same_upd nD2⟩
      · intro i x H3 H4 hi h3 hy
        obtain ⟨rfl, cc, hcc, rfl⟩ := hy
        obtain ⟨ys2, eD2, el2, e12, o12, s2⟩ := h3
        refine ⟨rfl, _, rfl, _, rfl, rfl, _, rfl, ?_⟩
        refine ite2 (fun e => ?_) (fun e => ?_)
        · refine ⟨_, rfl, _, eD2, ?_, ys2 ++ [⟨#[cc]⟩], ?_, ?_, ?_, ?_, ?_⟩
          · rw [List.length_map]
            exact Nat.lt_of_lt_of_le (show ys2.length < 1000 by have : z.cps.size ≤ 6 := hz; omega) (by decide)
          · rw [upd_same, List.map_append]; rfl
          · rw [List.length_append]; exact Nat.add_le_add_right el2 1
          · intro y hy
            rcases List.mem_append.mp hy with h | h
            · exact e12 y h
            · rw [List.mem_singleton.mp h]; rfl
          · intro y hy
            rcases List.mem_append.mp hy with h | h
            · exact o12 y h
            · rw [List.mem_singleton.mp h]
              refine okS_one (oz cc ?_)
              rw [← Array.getElem?_toList] at hcc
              exact List.mem_of_getElem? hcc
          · intro a o ea
            have haD : a ≠ D2 := fun z => by rw [z, nD2] at ea; cases ea
            rw [upd_ne haD]
            exact s2 a o ea
        · exact ⟨ys2, eD2, Nat.le_succ_of_le el2, e12, o12, s2⟩
      · intro H3 h3
        obtain ⟨ys2, eD2, el2, e12, o12, s2⟩ := h3
        have hsz : z.cps.size ≤ 6 := hz
        refine ⟨_, D2, ys2, rfl, rfl, .inl (SqL.of eD2), ?_, ?_⟩
        · rw [sum1 e12]
          show ys2.length + ys2.length * 0 ≤ 16777216
          omega
        have hz2 : (Txt.join (Str.ofString "") ys2).length ≤ 6 := join0_len e12 (by omega)
        have oz2 : okS (Txt.join (Str.ofString "") ys2) := okS_join okS_empty o12
        generalize Txt.join (Str.ofString "") ys2 = z2 at hz2 oz2
        have k13 : Keep b H H3 := (k1.trans k2).trans (Keep.of s2)
        have hb3 : Bx H3 b (n + 7) := (hb2.same s2).mono (by omega)
        refine ⟨_, rfl, rfl, _, rfl, ite2 (fun e => ?_) (fun e => ?_)⟩
        · exact ⟨_, rfl, q _ _ hz2 oz2 k13 hb3⟩
        · refine ⟨by show 2 ≤ sizeLine; decide, fun l nl => ?_⟩
          refine ⟨_, rfl, rfl, .inr ⟨_, rfl, ?_⟩⟩
          have hl : SqL K (upd H3 l (.lst [.str (Str.ofString "a"), .str (Str.ofString "b")])) l [.str (Str.ofString "a"), .str (Str.ofString "b")] := SqL.of upd_same
          have hq : ∀ z : Str, z.length ≤ 6 → okS z → Q (.str z) (upd H3 l (.lst [.str (Str.ofString "a"), .str (Str.ofString "b")])) := fun z hz oz => q z _ hz oz (k13.trans (Keep.new nl)) (hb3.same (same_upd nl))
          cases decide (V.str ⟨#[c]⟩ = V.str (Str.ofString "a")) with
          | true => exact ⟨l, _, 1, .str (Str.ofString "b"), rfl, rfl, hl, atI_nat (j := 1) rfl, hq _ (by decide) (by unfold okS; decide +kernel)⟩
          | false => exact ⟨l, _, 0, .str (Str.ofString "a"), rfl, rfl, hl, atI_nat (j := 0) rfl, hq _ (by decide) (by unfold okS; decide +kernel)⟩
end
end K04
set_option maxHeartbeats 4000000
namespace K04
open PySem PySem.Spec PyProof.Rows L2 RL RM TL
abbrev ND : List Str := ["_law_line", "_law_mark", "_law_cuts", "_law_found", "_law_k", "_law_sign", "_law_one", "_law_other"]
theorem scD : FnScope ND ["_law_line", "_law_mark"] (defScope sDue) := ⟨rfl, rfl, rfl, by decide +kernel, rfl, by decide +kernel, by decide +kernel⟩
theorem same_new {H0 H1 : Hp} {p : Addr} {o : HO} (s : Same H0 H1) (n : H0 p = none) : Same H0 (upd H1 p o) := fun a x e => by
  have h : a ≠ p := fun z => by rw [z, n] at e; cases e
  rw [upd_ne h]
  exact s a x e
section
variable {P : Program} {w : World} {K : PySem.W.Frag} {mg : Str → Option Value} {base : Heap}
/-! ### what is due -/
def spDue : Sp := fun vs H Q _ => ∃ (z : Str) (c : Nat), vs = [.str z, .str ⟨#[c]⟩] ∧ z.length ≤ 200000 ∧ (due c (tl z) = none → ∀ H', Same H H' → Q .non H') ∧ (∀ ps, due c (tl z) = some ps → ∀ H' p, Same H H' → H p = none → H' p = some (.lst (TX ps)) → Q (.ref p) H')
theorem ok_due {f : Addr} {fd : FuncData} (F : Fun K "_law_due" "_law_due" sDue f fd) (me : mg "enumerate" = none) (ml : mg "len" = none) (mz : mg "zip" = none) : FnOk P w K mg base CX0 1 f fd ["_law_line", "_law_mark"] spDue := by
  refine F.ok scD (fun vs H Q E h => ?_) (fun cdv A outer s H vs Q E hr h => ?_)
  · obtain ⟨z, c, rfl, _⟩ := h
    rfl
  · obtain ⟨z, c, rfl, hz, hn, hs⟩ := h
    refine ⟨_, pss_cons (ps_if (PW.pt (pw_or (pt_cmpR op_in_sign pe_str (pv 0) (by rfl)) (pw_or1 (pt_cmpR op_eq (pv 0) pe_str (nomark _))))) (pss_one (ps_ret pe_non)) pss_nil)
      (pss_cons (ps_set (i := 2) scD.nd rfl (.inl rfl) (pe_op op_cat (pe_op op_cat (pe_lst (pa_cons (pe_un un_neg pe_int) pa_nil))
          (pe_lc (own := [("_law_k", 4), ("_law_sign", 5)]) (g := gTup K 2 (gCons (gName 4) (gCons (gName 5) gNil))) (by rfl) scD.nd (pi_enumS (by rfl) me (pa_cons (pv 0) pa_nil)) (blkOk_by (own := [("_law_k", 4), ("_law_sign", 5)]) (N := ND) (sc := defScope sDue) (by decide +kernel))
            (fun _ _ _ _ _ => pg_tup rfl (pgs_cons (pg_name (i := 4) scD.nd rfl (Or.inl rfl)) (pgs_cons (pg_name (i := 5) scD.nd rfl (Or.inl rfl)) pgs_nil))) (fun _ _ _ _ _ => pts_one (pt_cmpR op_eq (pv 5) (pv 1) (nomark _))) (fun _ _ _ _ _ => pv 4)))
          (pe_lst (pa_cons (pe_callB call_len_str (by rfl) ml PySem.boot_len (pa_cons (pv 0) pa_nil)) pa_nil))))
      (pss_cons (ps_setLc (i := 3) (own := [("_law_one", 6), ("_law_other", 7)]) (g := gTup K 2 (gCons (gName 6) (gCons (gName 7) gNil))) (by rfl) scD.nd rfl rfl (sw_true rfl rfl rfl (by decide +kernel)) (pi_zip (by rfl) mz (pa_cons (pv 2) (pa_cons (pe_slice sl_list (pv 2) (po_some pe_int) po_none) pa_nil)))
          (blkOk_by (own := [("_law_one", 6), ("_law_other", 7)]) (N := ND) (sc := defScope sDue) (by decide +kernel))
          (fun _ _ _ _ _ => pg_tup rfl (pgs_cons (pg_name (i := 6) scD.nd rfl (Or.inl rfl)) (pgs_cons (pg_name (i := 7) scD.nd rfl (Or.inl rfl)) pgs_nil))) (fun _ _ _ _ _ => pts_nil)
          (fun _ _ _ _ _ => pe_slice sl_str (pv 0) (po_some (pe_op op_add (pv 6) pe_int)) (po_some (pv 7))))
      (pss_one (ps_ret (pe_ifExp (pt_cmpR op_notIn_seq pe_str (pv 3) (by rfl)) (pv 3) pe_non))))), ?_⟩
    refine ⟨_, rfl, 10, z, rfl, rfl, _, rfl, ite2 (fun e => ?_) (fun e => ?_)⟩
    · have h10 : 10 ∈ tl z := of_decide_eq_true e
      exact hn (by unfold due; rw [if_pos h10]) H (fun _ _ e => e)
    · have h10 : 10 ∉ tl z := fun q => e (decide_eq_true q)
      refine ⟨_, rfl, rfl, _, rfl, ite2 (fun e2 => ?_) (fun e2 => ?_)⟩
      · have hz0 : z = Str.ofString "" := V.str.inj (of_decide_eq_true e2)
        exact hn (by rw [hz0]; exact due_nil c) H (fun _ _ e => e)
      · -- cuts
        have hsz : z.cps.size ≤ 200000 := hz
        have htl : (tl z).length ≤ 200000 := by rw [← len_tl]; exact hz
        refine ⟨1, rfl, by show 1 ≤ sizeLine; decide, fun l1 n1 => ?_⟩
        refine ⟨_, rfl, z, rfl, fun D nD => ?_⟩
        have nl1 : D ≠ l1 := fun e => by rw [e, upd_same] at nD; cases nD
        refine lc_it (walk_enumS (x := z)) (fun i H' => H' D = some (.lst ((pos c ((tl z).take i) 0).map V.int)) ∧ Same (upd H l1 (.lst [.int (-1)])) H') ?_ (fun _ _ _ _ => trivial) ?_ ?_
        · exact ⟨by rw [upd_same, List.take_zero]; rfl, same_upd nD⟩
        · intro i x H3 H4 hi h3 hy
          obtain ⟨T, u, v, rfl, nT, rfl, hu, hv⟩ := hy
          obtain ⟨eD, sm⟩ := h3
          have e1 : u = .int (i : Nat) := (Option.some.inj hu).symm
          have hlt : i < (tl z).length := by rw [← len_tl]; exact hi
          have hgt : (tl z)[i]? = some ((tl z)[i]) := List.getElem?_eq_getElem hlt
          have e2 : v = .str ⟨#[(tl z)[i]]⟩ := by
            have hv' : (z.cps[i]?).map (fun c => V.str ⟨#[c]⟩) = some v := hv
            rw [← Array.getElem?_toList, hgt] at hv'
            exact (Option.some.inj hv').symm
          subst e1 e2
          have nTD : D ≠ T := ne_of_none eD nT
          have eD2 : (upd H3 T (.tup [.int (i : Nat), .str ⟨#[(tl z)[i]]⟩])) D = some (.lst ((pos c ((tl z).take i) 0).map V.int)) := by rw [upd_ne nTD]; exact eD
          refine ⟨T, _, rfl, .inl (.inl upd_same), rfl, _, _, rfl, _, _, rfl, rfl, rfl, ?_⟩
          refine ⟨_, rfl, _, rfl, rfl, _, rfl, ite2 (fun e => ?_) (fun e => ?_)⟩
          · have ex : (tl z)[i] = c := by
              have := V.str.inj (of_decide_eq_true e)
              have := congrArg tl this
              simpa [tl] using this
            refine ⟨_, rfl, _, eD2, ?_, ?_, ?_⟩
            · rw [List.length_map]
              have := pos_len c ((tl z).take i) 0
              rw [List.length_take] at this
              exact Nat.lt_of_le_of_lt (show _ ≤ 200000 by omega) (by decide)
            · rw [upd_same, pos_take c _ hgt, if_pos ex, List.map_append]; rfl
            · exact same_new (sm.trans (same_upd nT)) nD
          · have ex : (tl z)[i] ≠ c := fun q => e (by rw [q]; exact decide_eq_true rfl)
            refine ⟨?_, sm.trans (same_upd nT)⟩
            rw [eD2, pos_take c _ hgt, if_neg ex, List.append_nil]
        · intro H3 h3
          obtain ⟨eD, sm⟩ := h3
          have eP : pos c ((tl z).take z.cps.size) 0 = pos c (tl z) 0 := by
            rw [List.take_of_length_le (by rw [← len_tl]; exact Nat.le_refl _)]
          rw [eP] at eD
          have hpl : (pos c (tl z) 0).length ≤ 200000 := Nat.le_trans (pos_len c (tl z) 0) htl
          have s0 : Same H H3 := (same_upd n1).trans sm
          have el1 : H3 l1 = some (.lst [.int (-1)]) := sm _ _ upd_same
          refine ⟨l1, D, _, _, rfl, rfl, el1, eD, ?_, fun p np => ?_⟩
          · rw [List.length_map]
            exact Nat.le_trans (show 1 + _ ≤ 200001 by omega) (by decide)
          have ep : (upd H3 p (.lst ([.int (-1)] ++ (pos c (tl z) 0).map V.int))) p = some (.lst ((-1 :: pos c (tl z) 0).map V.int)) := by rw [upd_same]; rfl
          have s1 : Same H (upd H3 p (.lst ([.int (-1)] ++ (pos c (tl z) 0).map V.int))) := s0.trans (same_upd np)
          generalize upd H3 p (.lst ([.int (-1)] ++ (pos c (tl z) 0).map V.int)) = H4 at ep s1
          refine ⟨_, rfl, z, rfl, Nat.le_trans hz (by decide), by show 1 ≤ sizeLine; decide, fun l2 n2 => ?_⟩
          have ep' : (upd H4 l2 (.lst [.int (z.length : Nat)])) p = some (.lst ((-1 :: pos c (tl z) 0).map V.int)) := same_upd n2 _ _ ep
          have s2 : Same H (upd H4 l2 (.lst [.int (z.length : Nat)])) := s1.trans (same_upd n2)
          refine ⟨p, l2, _, _, rfl, rfl, ep', upd_same, ?_, fun p2 np2 => ?_⟩
          · rw [List.length_map, List.length_cons]
            exact Nat.le_trans (show _ + 1 ≤ 200002 by show _ + 1 + 1 ≤ 200002; omega) (by decide)
          have ec : ((-1 :: pos c (tl z) 0).map V.int) ++ [.int (z.length : Nat)] = (-1 :: (pos c (tl z) 0 ++ [((tl z).length : Int)])).map V.int := by
            rw [← len_tl, List.map_cons, List.map_cons, List.map_append]; rfl
          have hG := G_sp c (tl z)
          have hbl : (pos c (tl z) 0 ++ [((tl z).length : Int)]).length ≤ 200001 := by rw [List.length_append]; show _ + 1 ≤ _; omega
          have hbn : ∀ b ∈ pos c (tl z) 0 ++ [((tl z).length : Int)], 0 ≤ b := fun b hb => by
            rcases List.mem_append.mp hb with h | h
            · exact pos_nonneg c (tl z) 0 (by omega) b h
            · rw [List.mem_singleton.mp h]; omega
          generalize hbs : pos c (tl z) 0 ++ [((tl z).length : Int)] = bs at ec hG hbl hbn
          have e5 : (upd (upd H4 l2 (.lst [.int (z.length : Nat)])) p2 (.lst (((-1 :: pos c (tl z) 0).map V.int) ++ [.int (z.length : Nat)]))) p2 = some (.lst ((-1 :: bs).map V.int)) := by rw [upd_same, ec]
          have s3 : Same H (upd (upd H4 l2 (.lst [.int (z.length : Nat)])) p2 (.lst (((-1 :: pos c (tl z) 0).map V.int) ++ [.int (z.length : Nat)]))) := s2.trans (same_upd np2)
          generalize (upd (upd H4 l2 (.lst [.int (z.length : Nat)])) p2 (.lst (((-1 :: pos c (tl z) 0).map V.int) ++ [.int (z.length : Nat)]))) = H5 at e5 s3
          -- zip(cuts, cuts[1:])
          refine ⟨_, rfl, _, rfl, 1, rfl, p2, _, rfl, SqL.of e5, fun c2 nc2 => ?_⟩
          have ecut : cutV ((-1 :: bs).map V.int) (some 1) none = bs.map V.int := cut_tail _ _
          have h6a : (upd H5 c2 (.lst (cutV ((-1 :: bs).map V.int) (some 1) none))) p2 = some (.lst ((-1 :: bs).map V.int)) := same_upd nc2 _ _ e5
          have h6b : (upd H5 c2 (.lst (cutV ((-1 :: bs).map V.int) (some 1) none))) c2 = some (.lst (bs.map V.int)) := by rw [upd_same, ecut]
          have s4 : Same H (upd H5 c2 (.lst (cutV ((-1 :: bs).map V.int) (some 1) none))) := s3.trans (same_upd nc2)
          generalize (upd H5 c2 (.lst (cutV ((-1 :: bs).map V.int) (some 1) none))) = H6 at h6a h6b s4
          refine ⟨p2, c2, _, _, rfl, SqL.of h6a, SqL.of h6b, fun D2 nD2 => ?_⟩
          refine lc_it (walk_zip (K := K) (n := bs.length) (xs := (-1 :: bs).map V.int) (ys := bs.map V.int) (by rw [List.length_map, List.length_map, List.length_cons]; omega))
            (fun i H' => H' D2 = some (.lst (TX ((G (tl z) (-1) bs).take i))) ∧ Same H6 H') ?_ (fun i H' _ h => ⟨SqL.of (h.2 _ _ h6a), SqL.of (h.2 _ _ h6b)⟩) ?_ ?_
          · exact ⟨by rw [upd_same, List.take_zero]; rfl, same_upd nD2⟩
          · intro i x H7 H8 hi h7 hy
            obtain ⟨T, u, v, rfl, nT, rfl, hu, hv⟩ := hy
            obtain ⟨eD7, sm7⟩ := h7
            have hi1 : i < (-1 :: bs).length := by rw [List.length_cons]; omega
            have hx1 : (-1 :: bs)[i]? = some ((-1 :: bs)[i]) := List.getElem?_eq_getElem hi1
            have hy1 : bs[i]? = some (bs[i]) := List.getElem?_eq_getElem hi
            have hx0 : -1 ≤ (-1 :: bs)[i] := by
              rcases List.mem_cons.mp (List.getElem_mem hi1) with h | h
              · omega
              · have := hbn _ h; omega
            have hy0 : 0 ≤ bs[i] := hbn _ (List.getElem_mem hi)
            have hg := G_get (tl z) bs (-1) i _ _ hx1 hy1
            generalize hX : (-1 :: bs)[i] = a1 at hx1 hx0 hg
            generalize hY : bs[i] = b1 at hy1 hy0 hg
            have eu : u = .int a1 := by
              have hu' : ((-1 :: bs).map V.int)[i]? = some u := hu
              rw [List.getElem?_map, hx1] at hu'
              exact (Option.some.inj hu').symm
            have ev : v = .int b1 := by
              have hv' : (bs.map V.int)[i]? = some v := hv
              rw [List.getElem?_map, hy1] at hv'
              exact (Option.some.inj hv').symm
            subst eu ev
            have nTD : D2 ≠ T := ne_of_none eD7 nT
            have eD8 : (upd H7 T (.tup [.int a1, .int b1])) D2 = some (.lst (TX ((G (tl z) (-1) bs).take i))) := by rw [upd_ne nTD]; exact eD7
            refine ⟨T, _, rfl, .inl (.inl upd_same), rfl, _, _, rfl, _, _, rfl, rfl, rfl, ?_⟩
            unfold tYes
            refine iteT ?_
            refine ⟨_, rfl, _, rfl, a1, 1, rfl, rfl, a1 + 1, rfl, _, rfl, b1, rfl, z, rfl, Nat.le_trans hz (by decide), ?_⟩
            refine ⟨_, eD8, ?_, ?_, ?_⟩
            · unfold TX
              rw [List.length_map, List.length_take]
              exact Nat.lt_of_le_of_lt (show _ ≤ 200001 by omega) (by decide)
            · rw [upd_same, List.take_add_one, hg, cut_sl z (by omega) hy0]
              unfold TX
              rw [List.map_append]
              rfl
            · exact same_new (sm7.trans (same_upd nT)) nD2
          · intro H7 h7
            obtain ⟨eD7, sm7⟩ := h7
            rw [List.take_of_length_le (by rw [G_len]; exact Nat.le_refl _), hG] at eD7
            have s7 : Same H H7 := s4.trans sm7
            have nHD2 : H D2 = none := by
              cases e : H D2 with
              | none => rfl
              | some o => rw [s4 _ _ e] at nD2; cases nD2
            refine ⟨_, rfl, D2, TX (sp c (tl z)), rfl, .inl (SqL.of eD7), rfl, TX_flat _, _, rfl, ?_⟩
            show if (if true = true then !inV (.str (Str.ofString "")) (TX (sp c (tl z))) else inV (.str (Str.ofString "")) (TX (sp c (tl z)))) = true then _ else _
            rw [if_pos rfl, inV_nil]
            by_cases hm : [] ∈ sp c (tl z)
            · rw [decide_eq_true hm]
              exact iteF (hn (by unfold due; rw [if_neg h10, if_pos hm]) _ s7)
            · rw [decide_eq_false hm]
              exact iteT ⟨_, rfl, hs _ (by unfold due; rw [if_neg h10, if_neg hm]) _ D2 s7 nHD2 eD7⟩
end
end K04
set_option maxHeartbeats 4000000
namespace K04
open PySem PySem.Spec PyProof.Rows L2 RL RM TL
abbrev NR : List Str := ["_law_line", "_law_mark", "_law_turn", "_law_found"]
theorem scR : FnScope NR ["_law_line", "_law_mark"] (defScope sRight) := ⟨rfl, rfl, rfl, by decide +kernel, rfl, by decide +kernel, by decide +kernel⟩
theorem none_of {H H' : Hp} {p : Addr} (s : Same H H') (n : H' p = none) : H p = none := by
  cases e : H p with
  | none => rfl
  | some o => rw [s _ _ e] at n; cases n
theorem due_some {c : Nat} {l : List Nat} {ps : List (List Nat)} (h : due c l = some ps) : ps = sp c l := by
  unfold due at h
  split at h
  · cases h
  · split at h
    · cases h
    · exact (Option.some.inj h).symm
theorem due_len {c : Nat} {l : List Nat} {ps : List (List Nat)} (h : due c l = some ps) : ps.length ≤ l.length + 1 := by
  rw [due_some h]
  exact sp_len c l
def DX (ps : List (List Nat)) : List PyData := ps.map fun l => PyData.str (tx l)
theorem dx_canLay : ∀ ps : List (List Nat), (∀ l ∈ ps, PyData.strOk (tx l) = true) → PyData.canLayAll0 (DX ps) = true
  | [], _ => rfl
  | l :: r, h => by
    show (PyData.canLay0 _ && PyData.canLayAll0 (DX r)) = true
    rw [dx_canLay r fun l hl => h l (List.mem_cons_of_mem _ hl)]
    simp [PyData.canLay0, h l (List.mem_cons_self ..)]
theorem dx_depth : ∀ ps : List (List Nat), PyData.depthAll (DX ps) = 0
  | [] => rfl
  | _ :: r => by
    show max (PyData.depth _) (PyData.depthAll (DX r)) = 0
    rw [dx_depth r]; simp [PyData.depth]
theorem sp_mem (c : Nat) : ∀ l : List Nat, ∀ p ∈ sp c l, ∀ x ∈ p, x ∈ l
  | [], p, h, x, hx => by
    rw [List.mem_singleton.mp h] at hx
    exact hx
  | y :: r, p, h, x, hx => by
    have ih := sp_mem c r
    by_cases hy : y = c
    · subst hy
      rw [sp_hit] at h
      rcases List.mem_cons.mp h with e | h
      · rw [e] at hx; cases hx
      · exact List.mem_cons_of_mem _ (ih p h x hx)
    · rw [sp_miss r hy] at h
      rcases List.mem_cons.mp h with e | h
      · rw [e] at hx
        rcases List.mem_cons.mp hx with e2 | hx
        · rw [e2]; exact List.mem_cons_self ..
        · refine List.mem_cons_of_mem _ (ih _ ?_ x hx)
          cases e2 : sp c r with
          | nil => exact absurd e2 (sp_ne c r)
          | cons a b => exact List.mem_cons_self ..
      · exact List.mem_cons_of_mem _ (ih p (List.mem_of_mem_tail h) x hx)
theorem dx_shaped {c : Nat} {z : Str} {ps : List (List Nat)} (hz : okS z) (h : due c (tl z) = some ps) : SeqAt.shaped (.list (DX ps)) = true := by
  have hs : ∀ l ∈ ps, PyData.strOk (tx l) = true := fun l hl => by
    rw [due_some h] at hl
    unfold PyData.strOk
    rw [← Array.all_toList]
    refine List.all_eq_true.mpr fun x hx => decide_eq_true ?_
    have := hz x (sp_mem c (tl z) l hl x hx)
    omega
  simp [SeqAt.shaped, PyData.canLay0, PyData.depth, dx_canLay ps hs, dx_depth]
theorem dx_all {K : PySem.W.Frag} {H : Hp} : ∀ ps : List (List Nat), DpAll K H (TX ps) (DX ps)
  | [] => .nil
  | l :: r => .cons (.str (tx l)) (dx_all r)
section
variable {P : Program} {w : World} {K : PySem.W.Frag} {mg : Str → Option Value} {base : Heap}
def spRight : Sp := fun vs H Q _ => ∃ (z : Str) (c : Nat), vs = [.str z, .str ⟨#[c]⟩] ∧ c < 256 ∧ z.length ≤ 200000 ∧ okS z ∧ ∀ H', Same H H' → Q (.bl true) H'
theorem ok_right {f fS fD : Addr} {fd fdS fdD : FuncData} {dvs : List V} {kws : List (Str × V)} {ds : List Value} (F : Fun K "_law_right" "_law_right" sRight f fd) (FS : FunD K "split_words" "split_words" (defArgs sSplit) (defBody sSplit) (defScope sSplit) dvs kws fS fdS) (FD : Fun K "_law_due" "_law_due" sDue fD fdD)
    (bS : Binds K fdS ["text", "separator"] ds) (vS : Vals [.str ⟨#[32]⟩] ds) (kS : KBn K fdS ["text", "separator"] 1 ["separator"] (fun us ws => us ++ ws) (fun vs zs => vs ++ zs)) (bD : Binds K fdD ["_law_line", "_law_mark"] [])
    (gS : mg "split_words" = some (.ref fS)) (gD : mg "_law_due" = some (.ref fD)) (mr : mg "range" = none) (mi : mg "isinstance" = none) (ms : mg "str" = none) (me : mg "enumerate" = none) (ml : mg "len" = none) (mz : mg "zip" = none) :
    FnOk P w K mg base CX0 2 f fd ["_law_line", "_law_mark"] spRight := by
  have GS : FnOk P w K mg base CX0 1 fS fdS ["text", "separator"] (spSplit K) := ok_split FS mi ms
  have GD : FnOk P w K mg base CX0 1 fD fdD ["_law_line", "_law_mark"] spDue := ok_due FD me ml mz
  refine F.ok scR (fun vs H Q E h => ?_) (fun cdv A outer s H vs Q E hr h => ?_)
  · obtain ⟨z, c, rfl, _⟩ := h
    rfl
  · obtain ⟨z, c, rfl, hc, hz, oz, q⟩ := h
    refine ⟨_, pss_cons (ps_for PassesOwn.never rfl (pi_range1 (by rfl) mr (pa_cons pe_int pa_nil)) (pg_name (i := 2) scR.nd rfl (.inl rfl))
        (pss_cons (ps_set (i := 3) scR.nd rfl (.inl rfl) (pe_callN GS hr (by rfl) gS FS.kp kS pass0 (pa_cons (pv 0) pa_nil) (pk_cons (pv 1) pk_nil)))
        (pss_cons (ps_if (pt_cmpR (op_neD hr.units) (pv 3) (pe_call GD hr (by rfl) gD FD.kp bD .nil pass0 (pa_cons (pv 0) (pa_cons (pv 1) pa_nil))) (nomark _)) (pss_one (ps_ret pe_bl)) pss_nil)
        (pss_one (ps_if (pt_cmpR op_notN (pv 3) pe_non (nomark _)) (pss_one (ps_expr (pe_bm PySem.F.plainAttrs_list PySem.F.slot_list_append PySem.F.type_list_append mt_append (pv 3) (pa_cons pe_str pa_nil)))) pss_nil)))))
      (pss_one (ps_ret (pe_or (pe_cmpR op_ne (pv 1) pe_str (nomark _)) (pe_one (pe_cmpR (op_eqD hr.units) (pe_call GS hr (by rfl) gS FS.kp bS vS pass0 (pa_cons (pv 0) pa_nil)) (pe_call GD hr (by rfl) gD FD.kp bD .nil pass0 (pa_cons (pv 0) (pa_cons (pv 1) pa_nil))) (nomark _)))))), ?_⟩
    refine ⟨2, rfl, by decide, by decide, for_range (lo := 0) (n := 2) (fun i σ H' => ∃ y2 y3, σ = [some (.str z), some (.str ⟨#[c]⟩), y2, y3] ∧ Same H H') ⟨_, _, rfl, fun _ _ e => e⟩ ?_ ?_⟩
    · intro i σ H1 hi h1
      obtain ⟨y2, y3, rfl, s1⟩ := h1
      refine ⟨_, rfl, _, rfl, rfl, rfl, ?_⟩
      refine ⟨_, c, rfl, hc, .inl ⟨z, rfl, hz, fun hN H2 s2 => ?_, fun ps hS H2 p s2 np ep => ?_⟩⟩
      · refine ⟨_, rfl, _, rfl, _, rfl, z, c, rfl, hz, fun _ H3 s3 => ?_, fun ps e => (by rw [hN] at e; cases e)⟩
        refine ⟨.none, .none, .non, .non, by decide, by decide, _, rfl, iteF ?_⟩
        refine ⟨_, rfl, rfl, _, rfl, iteF ?_⟩
        exact ⟨_, _, rfl, (s1.trans s2).trans s3⟩
      · refine ⟨_, rfl, _, rfl, _, rfl, z, c, rfl, hz, (fun e => (by rw [hS] at e; cases e)), fun ps' e H3 p3 s3 np3 ep3 => ?_⟩
        have e' : ps' = ps := Option.some.inj (e.symm.trans hS)
        subst e'
        refine ⟨.list (DX ps'), .list (DX ps'), .lst (SqL.of (s3 _ _ ep)) (dx_all ps'), .lst (SqL.of ep3) (dx_all ps'), dx_shaped oz hS, dx_shaped oz hS, _, rfl, ?_⟩
        rw [SeqAt.eqv_refl _ (SeqAt.canLay_of_shaped (dx_shaped oz hS))]
        refine iteF ?_
        refine ⟨_, rfl, rfl, _, rfl, iteT ?_⟩
        refine ⟨_, rfl, .inl ⟨rfl, _, SqL.of (s3 _ _ ep)⟩, p, _, _, rfl, rfl, s3 _ _ ep, ?_, ?_⟩
        · unfold TX
          rw [List.length_map]
          have h1 := due_len hS
          rw [← len_tl] at h1
          exact Nat.lt_of_le_of_lt (show _ ≤ 200001 by omega) (by decide)
        · exact ⟨_, _, rfl, same_new ((s1.trans s2).trans s3) (none_of s1 np)⟩
    · intro σ H1 h1
      obtain ⟨y2, y3, rfl, s1⟩ := h1
      refine ⟨_, rfl, rfl, _, rfl, ite2 (fun e => q _ s1) (fun e => ?_)⟩
      have hc2 : c = 32 := by
        by_cases h : c = 32
        · exact h
        · refine absurd ?_ e
          have hne : ¬ (V.str ⟨#[c]⟩ = V.str (Str.ofString " ")) := fun q => h (by
            have := congrArg tl (V.str.inj q)
            have e3 : tl (Str.ofString " ") = [32] := rfl
            rw [e3] at this
            exact (List.cons.inj this).1)
          rw [decide_eq_false hne]
          rfl
      subst hc2
      refine ⟨_, rfl, _, 32, rfl, by decide, .inl ⟨z, rfl, hz, fun hN H2 s2 => ?_, fun ps hS H2 p s2 np ep => ?_⟩⟩
      · refine ⟨_, rfl, _, rfl, z, 32, rfl, hz, fun _ H3 s3 => ?_, fun ps e => (by rw [hN] at e; cases e)⟩
        exact ⟨.none, .none, .non, .non, by decide, by decide, q _ ((s1.trans s2).trans s3)⟩
      · refine ⟨_, rfl, _, rfl, z, 32, rfl, hz, (fun e => (by rw [hS] at e; cases e)), fun ps' e H3 p3 s3 np3 ep3 => ?_⟩
        have e' : ps' = ps := Option.some.inj (e.symm.trans hS)
        subst e'
        refine ⟨.list (DX ps'), .list (DX ps'), .lst (SqL.of (s3 _ _ ep)) (dx_all ps'), .lst (SqL.of ep3) (dx_all ps'), dx_shaped oz hS, dx_shaped oz hS, ?_⟩
        rw [SeqAt.eqv_refl _ (SeqAt.canLay_of_shaped (dx_shaped oz hS))]
        exact q _ ((s1.trans s2).trans s3)
end
end K04
set_option maxHeartbeats 8000000
namespace K04
open PySem PySem.Spec PyProof.Rows L2 RL RM TL
abbrev NL : List Str := ["_law_script", "_law_k", "_law_box_here", "_law_mark", "_law_many", "_law_words", "_law_line", "_law_at", "_law_long", "_law_rows", "_law_one", "_law_thing", "_law_turn"]
theorem scL : FnScope NL ["_law_script"] (defScope sLaw) := ⟨rfl, rfl, rfl, by decide +kernel, rfl, by decide +kernel, by decide +kernel⟩
def mks : List Nat := [32, 32, 43, 59, 58, 97, 126]
theorem mks_lt {d : Int} (d0 : 0 ≤ d) (d1 : d < 7) : ∃ c, mks[d.toNat]? = some c ∧ c < 256 := by
  have h : d.toNat < mks.length := by show d.toNat < 7; omega
  refine ⟨mks[d.toNat], List.getElem?_eq_getElem h, ?_⟩
  have ha : ∀ x ∈ mks, x < 256 := by decide
  exact ha _ (List.getElem_mem h)
theorem same_keep {H0 H1 H2 : Hp} {b : Addr} (s : Same H0 H1) (n : H0 b = none) (k : Keep b H1 H2) : Same H0 H2 := fun a o e => by
  have h : a ≠ b := fun z => by rw [z, n] at e; cases e
  exact k a o h (s a o e)
/-- what stands in a turn: all that stood, and the box -/
structure St (H0 : Hp) (b : Addr) (n : Int) (H : Hp) : Prop where
  s : Same H0 H
  nb : H0 b = none
  bx : Bx H b n
theorem St.keep {H0 H H' : Hp} {b : Addr} {n m : Int} (h : St H0 b n H) (k : Keep b H H') (x : Bx H' b m) : St H0 b m H' := ⟨same_keep h.s h.nb k, h.nb, x⟩
theorem St.new {H0 H : Hp} {b p : Addr} {n : Int} {o : HO} (h : St H0 b n H) (np : H p = none) : St H0 b n (upd H p o) := ⟨h.s.trans (same_upd np), h.nb, h.bx.same (same_upd np)⟩
theorem St.same {H0 H H' : Hp} {b : Addr} {n : Int} (h : St H0 b n H) (s : Same H H') : St H0 b n H' := ⟨h.s.trans s, h.nb, h.bx.same s⟩
theorem St.ne {H0 H : Hp} {b p : Addr} {n : Int} (h : St H0 b n H) (np : H p = none) : p ≠ b := fun e => by
  obtain ⟨_, _, _, eb, _⟩ := h.bx
  rw [e, eb] at np
  cases np
theorem cut_len (z : Str) (lo hi : Option Int) : (cutS z lo hi).length ≤ z.length := by
  show (List.toArray _).size ≤ z.cps.size
  rw [List.size_toArray, List.length_take, List.length_drop, ← Array.length_toList]
  omega
theorem okS_cut {z : Str} (h : okS z) (lo hi : Option Int) : okS (cutS z lo hi) := fun x hx => h x (List.mem_of_mem_drop (List.mem_of_mem_take hx))
theorem okS_app {a b : Str} (ha : okS a) (hb : okS b) : okS (a ++ b) := fun x hx => by
  rw [tl_append] at hx
  exact (List.mem_append.mp hx).elim (ha x) (hb x)
theorem okS_rep {a : Str} (ha : okS a) (n : Nat) : okS (repS a n) := fun x hx => by
  have hx : x ∈ (List.replicate n a.cps.toList).flatten := hx
  obtain ⟨l, h1, h2⟩ := List.mem_flatten.mp hx
  rw [(List.mem_replicate.mp h1).2] at h2
  exact ha x h2
theorem app_len (a b : Str) : (a ++ b).length = a.length + b.length := by
  rw [len_tl, tl_append, List.length_append, ← len_tl, ← len_tl]
theorem have_more {α : Type} {P : List V → Prop} {G : List V → Prop} {f : α → List V} (h : ∀ i, P (f i)) (i : α) (k : ∀ more, P more → G more) : G (f i) := k _ (h i)
/-- what is no text -/
def OddV (H : Hp) (x : V) : Prop := x = .non ∨ x = .int 5 ∨ x = .bl true ∨ (∃ p xs, x = .ref p ∧ H p = some (.lst xs)) ∨ (∃ p xs, x = .ref p ∧ H p = some (.tup xs)) ∨ (∃ p kvs, x = .ref p ∧ H p = some (.dK kvs))
theorem OddV.same {H H' : Hp} {x : V} (h : OddV H x) (s : Same H H') : OddV H' x := by
  rcases h with h | h | h | ⟨p, xs, h, e⟩ | ⟨p, xs, h, e⟩ | ⟨p, xs, h, e⟩
  · exact .inl h
  · exact .inr (.inl h)
  · exact .inr (.inr (.inl h))
  · exact .inr (.inr (.inr (.inl ⟨p, xs, h, s _ _ e⟩)))
  · exact .inr (.inr (.inr (.inr (.inl ⟨p, xs, h, s _ _ e⟩))))
  · exact .inr (.inr (.inr (.inr (.inr ⟨p, xs, h, s _ _ e⟩))))
theorem odd_ty {K : PySem.W.Frag} {H : Hp} {x : V} (h : OddV H x) : ∃ t, TyX K H x t ∧ PySem.W.kitOne K t (.type "str") = some false := by
  rcases h with rfl | rfl | rfl | ⟨p, xs, rfl, e⟩ | ⟨p, xs, rfl, e⟩ | ⟨p, xs, rfl, e⟩
  · exact ⟨_, .base .non, kit_ty (by decide +kernel)⟩
  · exact ⟨_, .base (.int 5), kit_ty (by decide +kernel)⟩
  · exact ⟨_, .base (.bl true), kit_ty (by decide +kernel)⟩
  · exact ⟨_, .base (.lst e), kit_ty (by decide +kernel)⟩
  · exact ⟨_, .base (.tup e), kit_ty (by decide +kernel)⟩
  · exact ⟨_, .base (.dK e), kit_ty (by decide +kernel)⟩
/-- a line that may be asked -/
def Row (v : V) : Prop := ∃ z : Str, v = .str z ∧ z.length ≤ 200000 ∧ okS z
theorem sum_le {ys : List Str} (h : ∀ y ∈ ys, y.length ≤ 6) : (ys.map (·.length)).sum ≤ 6 * ys.length := by
  induction ys with
  | nil => exact Nat.le_refl _
  | cons a r ih =>
    have h1 := h a (List.mem_cons_self ..)
    have h2 := ih fun y hy => h y (List.mem_cons_of_mem _ hy)
    rw [List.map_cons, List.sum_cons, List.length_cons]
    omega
section
variable {P : Program} {w : World} {K : PySem.W.Frag} {mg : Str → Option Value} {base : Heap}
def spLaw (K : PySem.W.Frag) : Sp := fun vs H Q _ => ∃ (a : Addr) (ns : List Int), vs = [.ref a] ∧ SqL K H a (ns.map V.int) ∧ ns.length ≤ 63 ∧ ∀ H', Q (.bl true) H'
theorem ok_law {f fS fC fB fT fW fD fR : Addr} {fd fdS fdC fdB fdT fdW fdD fdR : FuncData} {dvs : List V} {kws : List (Str × V)} {ds : List Value} {g0 : List Value → List Value → List Value} {gV0 : List V → List V → List V}
    (F : Fun K "law" "law" sLaw f fd) (FS : FunD K "split_words" "split_words" (defArgs sSplit) (defBody sSplit) (defScope sSplit) dvs kws fS fdS) (FC : Fun K "_law_cell" "_law_cell" sCell fC fdC) (FB : Fun K "_law_box" "_law_box" sBox fB fdB) (FT : Fun K "_law_take" "_law_take" sTake fT fdT)
    (FW : Fun K "_law_word" "_law_word" sWord fW fdW) (FD : Fun K "_law_due" "_law_due" sDue fD fdD) (FR : Fun K "_law_right" "_law_right" sRight fR fdR)
    (bS : Binds K fdS ["text", "separator"] ds) (vS : Vals [.str ⟨#[32]⟩] ds) (kS : KBn K fdS ["text", "separator"] 1 ["separator"] (fun us ws => us ++ ws) (fun vs zs => vs ++ zs)) (kS0 : KBn K fdS ["text", "separator"] 0 ["text", "separator"] (fun _ ws => ws) (fun _ zs => zs))
    (bC : Binds K fdC ["_law_script", "_law_k"] []) (bB : Binds K fdB ["_law_cell_here"] []) (bT : Binds K fdT ["_law_box_here", "_law_many"] []) (bW : Binds K fdW ["_law_box_here", "_law_mark"] []) (bD : Binds K fdD ["_law_line", "_law_mark"] []) (bR : Binds K fdR ["_law_line", "_law_mark"] [])
    (gS : mg "split_words" = some (.ref fS)) (gC : mg "_law_cell" = some (.ref fC)) (gB : mg "_law_box" = some (.ref fB)) (gT : mg "_law_take" = some (.ref fT)) (gW : mg "_law_word" = some (.ref fW)) (gD : mg "_law_due" = some (.ref fD)) (gR : mg "_law_right" = some (.ref fR))
    (mr : mg "range" = none) (mi : mg "isinstance" = none) (ms : mg "str" = none) (me : mg "enumerate" = none) (ml : mg "len" = none) (mz : mg "zip" = none) (mx : mg "max" = none) (mn : mg "min" = none) (mt : mg "int" = none) :
    FnOk P w K mg base CX0 3 f fd ["_law_script"] (spLaw K) := by
  have GS : FnOk P w K mg base CX0 1 fS fdS ["text", "separator"] (spSplit K) := ok_split FS mi ms
  have GC : FnOk P w K mg base CX0 1 fC fdC ["_law_script", "_law_k"] (spCell K) := ok_cell FC ml
  have GB : FnOk P w K mg base CX0 1 fB fdB ["_law_cell_here"] spBox := ok_box FB mx
  have GT : FnOk P w K mg base CX0 1 fT fdT ["_law_box_here", "_law_many"] spTake := ok_take FT
  have GW : FnOk P w K mg base CX0 2 fW fdW ["_law_box_here", "_law_mark"] spWord := ok_word FW FT bT gT mr mt
  have GR : FnOk P w K mg base CX0 2 fR fdR ["_law_line", "_law_mark"] spRight := ok_right FR FS FD bS vS kS bD gS gD mr mi ms me ml mz
  refine F.ok scL (fun vs H Q E h => ?_) (fun cdv A outer s H vs Q E hr h => ?_)
  · obtain ⟨a, ns, rfl, _⟩ := h
    rfl
  · obtain ⟨a, ns, rfl, hS, hl, q⟩ := h
    have hr1 := hr.mono (show 1 ≤ 2 by decide)
    refine ⟨_, pss_cons (ps_for PassesOwn.never rfl (pi_range1 (by rfl) mr (pa_cons (pe_callB (call_max2 rfl) (by rfl) mx PyProof.Rows.boot_max (pa_cons pe_int (pa_cons (pe_callB (call_min2 rfl) (by rfl) mn PyProof.Rows.boot_min (pa_cons pe_int (pa_cons (pe_callB call_len_seq (by rfl) ml PySem.boot_len (pa_cons (pv 0) pa_nil)) pa_nil))) pa_nil))) pa_nil)) (pg_name (i := 1) scL.nd rfl (.inl rfl)) (pss_cons (ps_set (i := 2) scL.nd rfl (.inr rfl) (pe_call GB hr1 (by rfl) gB FB.kp bB .nil pass0 (pa_cons (pe_call GC hr1 (by rfl) gC FC.kp bC .nil pass0 (pa_cons (pv 0) (pa_cons (pv 1) pa_nil))) pa_nil)))
      (pss_cons (ps_set (i := 3) scL.nd rfl (.inr rfl) (pe_ix ix_list (pe_lst (pa_cons pe_str (pa_cons pe_str (pa_cons pe_str (pa_cons pe_str (pa_cons pe_str (pa_cons pe_str (pa_cons pe_str pa_nil)))))))) (pe_call GT hr1 (by rfl) gT FT.kp bT .nil pass0 (pa_cons (pv 2) (pa_cons pe_int pa_nil))) (fun _ _ => rfl)))
      (pss_cons (ps_set (i := 4) scL.nd rfl (.inl rfl) (pe_ix ix_list (pe_lst (pa_cons (pe_op op_add pe_int (pe_call GT hr1 (by rfl) gT FT.kp bT .nil pass0 (pa_cons (pv 2) (pa_cons pe_int pa_nil)))) (pa_cons (pe_call GT hr1 (by rfl) gT FT.kp bT .nil pass0 (pa_cons (pv 2) (pa_cons pe_int pa_nil))) pa_nil))) (pe_call GT hr1 (by rfl) gT FT.kp bT .nil pass0 (pa_cons (pv 2) (pa_cons pe_int pa_nil))) (fun _ _ => rfl)))
      (pss_cons (ps_setLc (i := 5) (own := [("_law_turn", 12)]) (g := gName 12) (by rfl) scL.nd rfl rfl (sw_true rfl rfl rfl (by decide +kernel)) (pi_range1 (by rfl) mr (pa_cons (pv 4) pa_nil)) (blkOk_by (own := [("_law_turn", 12)]) (N := NL) (sc := defScope sLaw) (by decide +kernel))
          (fun _ _ _ _ _ => pg_name (i := 12) scL.nd rfl (Or.inl rfl)) (fun _ _ _ _ _ => pts_nil) (fun _ _ _ _ _ => pe_call GW hr (by rfl) gW FW.kp bW .nil pass0 (pa_cons (pv 2) (pa_cons (pv 3) pa_nil))))
      (pss_cons (ps_set (i := 6) scL.nd rfl (.inl rfl) (pe_join (pv 3) (pv 5)))
      (pss_cons (ps_par (i := 7) (j := 8) (by rfl) scL.nd rfl rfl (by decide) rfl rfl (pa_cons (pe_call GT hr1 (by rfl) gT FT.kp bT .nil pass0 (pa_cons (pv 2) (pa_cons (pe_op op_add (pe_callB call_len_str (by rfl) ml PySem.boot_len (pa_cons (pv 6) pa_nil)) pe_int) pa_nil))) (pa_cons (pe_and (pe_cmpR op_eq (pv 1) pe_int (nomark _)) (pe_one (pe_cmpR op_eq (pe_call GT hr1 (by rfl) gT FT.kp bT .nil pass0 (pa_cons (pv 2) (pa_cons pe_int pa_nil))) pe_int (nomark _)))) pa_nil)) (by rfl))
      (pss_cons (ps_set (i := 9) scL.nd rfl (.inl rfl) (pe_lst (pa_cons (pv 6) (pa_cons (pe_op op_add_str (pe_op op_add_str (pe_slice sl_str (pv 6) po_none (po_some (pv 7))) (pv 3)) (pe_slice sl_str (pv 6) (po_some (pv 7)) po_none)) (pa_cons (pe_op op_add_str (pe_op op_add_str (pe_slice sl_str (pv 6) po_none (po_some (pv 7))) pe_str) (pe_slice sl_str (pv 6) (po_some (pv 7)) po_none)) (pa_cons (pe_op op_add_str (pv 3) (pv 6)) (pa_cons (pe_op op_add_str (pv 6) (pv 3)) (pa_cons pe_str pa_nil))))))))
      (pss_cons (ps_for PassesOwn.never rfl (pi_list (pe_op op_cat (pv 9) (pe_slice sl_list (pe_lst (pa_cons (pe_op op_mul_str (pv 6) pe_int) (pa_cons (pe_op op_mul_str (pv 6) (pe_op op_fdiv pe_int (pe_callB (call_max2 rfl) (by rfl) mx PyProof.Rows.boot_max (pa_cons pe_int (pa_cons (pe_callB call_len_str (by rfl) ml PySem.boot_len (pa_cons (pv 6) pa_nil)) pa_nil))))) pa_nil))) po_none (po_some (pe_op op_add pe_int (pe_callTy call_int1 (by rfl) mt PyProof.Rows.boot_int (pa_cons (pv 8) pa_nil))))))) (pg_name (i := 10) scL.nd rfl (.inl rfl)) (pss_one (ps_if (pt_not (pt_val (pe_call GR hr (by rfl) gR FR.kp bR .nil pass0 (pa_cons (pv 10) (pa_cons (pv 3) pa_nil))))) (pss_one (ps_ret pe_bl)) pss_nil)))
      (pss_one (ps_for PassesOwn.never rfl (pi_list (pe_lst (pa_cons pe_non (pa_cons pe_int (pa_cons pe_bl (pa_cons (pe_lst (pa_cons (pe_slice sl_str (pv 6) po_none (po_some pe_int)) pa_nil)) (pa_cons (pe_tup (pa_cons (pe_slice sl_str (pv 6) po_none (po_some pe_int)) pa_nil)) (pa_cons (pe_dnewK) pa_nil)))))))) (pg_name (i := 11) scL.nd rfl (.inl rfl)) (pss_one (ps_if (PW.pt (pw_or (pt_cmpR op_notN (pe_call GS hr1 (by rfl) gS FS.kp bS vS pass0 (pa_cons (pv 11) pa_nil)) pe_non (nomark _)) (pw_or1 (pt_cmpR op_notN (pe_callN0 GS hr1 (by rfl) gS FS.kp kS0 pass0 (pk_cons (pv 11) (pk_cons (pv 3) pk_nil))) pe_non (nomark _))))) (pss_one (ps_ret pe_bl)) pss_nil)))))))))))))
      (pss_one (ps_ret pe_bl)), ?_⟩
    refine ⟨_, rfl, a, _, rfl, .inl hS, 10, _, rfl, 2, _, rfl, _, rfl, ?_, ?_, for_range (lo := 0) (fun k σ H' => ∃ y1 y2 y3 y4 y5 y6 y7 y8 y9 y10 y11 y12, σ = [some (.ref a), y1, y2, y3, y4, y5, y6, y7, y8, y9, y10, y11, y12] ∧ SqL K H' a (ns.map V.int)) ⟨_, _, _, _, _, _, _, _, _, _, _, _, rfl, hS⟩ ?_ ?_⟩
    · split <;> (try split) <;> omega
    · split <;> (try split) <;> omega
    · intro k σ H0 hk h0
      obtain ⟨y1, y2, y3, y4, y5, y6, y7, y8, y9, y10, y11, y12, rfl, hS0⟩ := h0
      have hk2 : k < 1000 := by
        revert hk
        split <;> (try split) <;> omega
      -- the box
      refine ⟨_, rfl, _, rfl, a, ns, k, by show [V.ref a, V.int (0 + (k : Int))] = _; rw [Int.zero_add], hS0, hk2, by omega, fun v => ⟨v, rfl, fun b H1 nb s1 hb1 => ?_⟩⟩
      have t1 : St H0 b 0 H1 := ⟨s1, nb, hb1⟩
      -- the mark
      refine ⟨by show 7 ≤ sizeLine; decide, fun l nl => ?_⟩
      have t2 := t1.new (o := .lst (mks.map fun c => V.str ⟨#[c]⟩)) nl
      refine ⟨_, rfl, b, 7, 0, rfl, by decide, by decide, by decide, by decide, t2.bx, fun d H2 d0 d1 k2 hb2 => ?_⟩
      obtain ⟨c, hcm, hc⟩ := mks_lt d0 d1
      refine ⟨l, mks.map (fun c => V.str ⟨#[c]⟩), d, .str ⟨#[c]⟩, rfl, rfl, SqL.of (k2 _ _ (t1.ne nl) upd_same), atI_int d0 (by rw [List.getElem?_map, hcm]; rfl), ?_⟩
      have t3 : St H0 b 1 H2 := t2.keep k2 (hb2.mono (by omega))
      clear nl t2 k2 hb2 hcm
      -- how many
      refine ⟨_, rfl, b, 6, 1, rfl, by decide, by decide, by decide, by decide, t3.bx, fun e1 H3 e10 e11 k3 hb3 => ?_⟩
      have t4 : St H0 b 2 H3 := t3.keep k3 (hb3.mono (by omega))
      refine ⟨1, e1, rfl, rfl, ?_⟩
      refine ⟨_, rfl, b, 40, 2, rfl, by decide, by decide, by decide, by decide, t4.bx, fun e2 H4 e20 e21 k4 hb4 => ?_⟩
      have t5 : St H0 b 3 H4 := t4.keep k4 (hb4.mono (by omega))
      refine ⟨by show 2 ≤ sizeLine; decide, fun l2 nl2 => ?_⟩
      have t6 := t5.new (o := .lst [.int (1 + e1), .int e2]) nl2
      refine ⟨_, rfl, b, 2, 3, rfl, by decide, by decide, by decide, by decide, t6.bx, fun e3 H5 e30 e31 k5 hb5 => ?_⟩
      have t7 : St H0 b 4 H5 := t6.keep k5 (hb5.mono (by omega))
      have em : ∃ m : Int, [V.int (1 + e1), V.int e2][e3.toNat]? = some (.int m) ∧ 0 ≤ m ∧ m < 40 := by
        by_cases h : e3 = 0
        · subst h
          exact ⟨1 + e1, rfl, by omega, by omega⟩
        · have h1 : e3 = 1 := by omega
          subst h1
          exact ⟨e2, rfl, e20, e21⟩
      obtain ⟨m, em, m0, m1⟩ := em
      refine ⟨l2, _, e3, .int m, rfl, rfl, SqL.of (k5 _ _ (t5.ne nl2) upd_same), atI_int e30 em, ?_⟩
      clear t1 t3 t4 t5 t6 nl2 k3 k4 k5 hb3 hb4 hb5 em
      -- the words
      refine ⟨_, rfl, m, rfl, by omega, by omega, fun D nD => ?_⟩
      have nDb := t7.ne nD
      refine lc_range (lo := 0) (n := m.toNat) (fun i H' => ∃ ys : List Str, H' D = some (.lst (ys.map V.str)) ∧ ys.length = i ∧ (∀ y ∈ ys, y.length ≤ 6) ∧ (∀ y ∈ ys, okS y) ∧ St H0 b (4 + 7 * (i : Int)) H') ?_ ?_ ?_
      · exact ⟨[], upd_same, rfl, (fun _ h => nomatch h), (fun _ h => nomatch h), ⟨(t7.new nD).s, t7.nb, (t7.new nD).bx.mono (by omega)⟩⟩
      · intro i H6 hi h6
        obtain ⟨ys, eD, el, h6l, o6, t8⟩ := h6
        refine ⟨rfl, ?_⟩
        unfold tYes
        refine iteT ?_
        refine ⟨_, rfl, _, rfl, b, c, 4 + 7 * (i : Int), rfl, by omega, by omega, t8.bx, fun z H7 hz oz k7 hb7 => ?_⟩
        refine ⟨_, k7 _ _ nDb eD, ?_, ys ++ [z], ?_, ?_, ?_, ?_, ?_⟩
        · rw [List.length_map]
          exact Nat.lt_of_le_of_lt (show _ ≤ 200001 by omega) (by decide)
        · rw [upd_same, List.map_append]; rfl
        · rw [List.length_append, el]; rfl
        · intro y hy
          rcases List.mem_append.mp hy with h | h
          · exact h6l y h
          · rw [List.mem_singleton.mp h]; exact hz
        · intro y hy
          rcases List.mem_append.mp hy with h | h
          · exact o6 y h
          · rw [List.mem_singleton.mp h]; exact oz
        · have t9 : St H0 b (4 + 7 * (i : Int) + 7) H7 := t8.keep k7 hb7
          have nD0 : H0 D = none := none_of t7.s nD
          refine ⟨same_new t9.s nD0, t9.nb, ?_⟩
          obtain ⟨g, x, k, e, r1, r2, r3, r4, r5⟩ := t9.bx
          exact ⟨g, x, k, by rw [upd_ne nDb.symm]; exact e, r1, r2, r3, r4, by omega⟩
      · intro H6 h6
        obtain ⟨ys, eD, el, h6l, o6, t8⟩ := h6
        have t9 : St H0 b 300 H6 := ⟨t8.s, t8.nb, t8.bx.mono (by omega)⟩
        have hys : ys.length ≤ 40 := by omega
        have hsum := sum_le h6l
        -- the line
        refine ⟨_, rfl, ⟨_, rfl⟩, _, rfl, ⟨#[c]⟩, D, ys, rfl, rfl, .inl (SqL.of eD), ?_, ?_⟩
        · show _ + ys.length * 1 ≤ 16777216
          omega
        have hz : (Txt.join ⟨#[c]⟩ ys).length ≤ 300 := by
          rw [join_eq]
          refine Nat.le_trans (StrLaws.join_length_le _ ys) ?_
          show _ + ys.length * 1 ≤ 300
          omega
        have oz : okS (Txt.join ⟨#[c]⟩ ys) := okS_join (okS_one hc) o6
        generalize Txt.join ⟨#[c]⟩ ys = z at hz oz
        clear t8 t7 nD nDb eD
        have z24 : z.length ≤ sizeLine := Nat.le_trans hz (by decide)
        -- at, long
        refine ⟨_, rfl, _, rfl, z, rfl, z24, _, 1, rfl, rfl, ?_⟩
        refine ⟨b, (z.length : Int) + 1, 300, rfl, by omega, by omega, by decide, by decide, t9.bx, fun at0 H7 a0 a1 k7 hb7 => ?_⟩
        have t10 : St H0 b 301 H7 := t9.keep k7 (hb7.mono (by omega))
        have t11 : St H0 b 302 H7 := ⟨t10.s, t10.nb, t10.bx.mono (by omega)⟩
        refine ⟨_, rfl, rfl, _, rfl, ite2 (fun e => ⟨_, rfl, b, 3, 301, rfl, by decide, by decide, by decide, by decide, t10.bx, fun d8 HH _ _ k8 hb8 => ⟨rfl, _, _, rfl, ?c1⟩⟩) (fun e => ⟨_, _, rfl, ?c2⟩)⟩
        case' c1 => (have t12 : St H0 b 302 HH := t10.keep k8 (hb8.mono (by omega)); clear e k8 hb8 t11)
        case' c2 => (obtain ⟨HH, hq⟩ : ∃ HH, HH = H7 := ⟨_, rfl⟩; subst hq; have t12 := t11; clear e t11)
        all_goals
          clear t10 hb7 k7 t9
          have c1 := cut_len z none (some at0)
          have c2 := cut_len z (some at0) none
          have zl : ∀ n : Nat, n ≤ 2000 → n ≤ sizeLine := fun n h => Nat.le_trans h (by decide)
          -- rows
          refine ⟨_, rfl, _, rfl, _, rfl, at0, rfl, z, rfl, z24, _, rfl, _, ⟨#[c]⟩, rfl, rfl, zl _ (by show _ + 1 ≤ 2000; omega), ?_⟩
          refine ⟨_, rfl, _, rfl, at0, rfl, z, rfl, z24, _, _, rfl, rfl, zl _ (by rw [app_len]; show _ + 1 + _ ≤ 2000; omega), ?_⟩
          refine ⟨_, rfl, _, rfl, at0, rfl, z, rfl, z24, _, Str.ofString "\n", rfl, rfl, zl _ (by show _ + 1 ≤ 2000; omega), ?_⟩
          refine ⟨_, rfl, _, rfl, at0, rfl, z, rfl, z24, _, _, rfl, rfl, zl _ (by rw [app_len]; show _ + 1 + _ ≤ 2000; omega), ?_⟩
          refine ⟨_, rfl, _, rfl, ⟨#[c]⟩, z, rfl, rfl, zl _ (by show 1 + _ ≤ 2000; omega), ?_⟩
          refine ⟨_, rfl, _, rfl, z, ⟨#[c]⟩, rfl, rfl, zl _ (by show _ + 1 ≤ 2000; omega), ?_⟩
          refine ⟨by show 6 ≤ sizeLine; decide, fun lr nr => ?_⟩
          have er : (upd HH lr (.lst [.str z, .str (cutS z none (some at0) ++ ⟨#[c]⟩ ++ cutS z (some at0) none), .str (cutS z none (some at0) ++ Str.ofString "\n" ++ cutS z (some at0) none), .str (⟨#[c]⟩ ++ z), .str (z ++ ⟨#[c]⟩), .str (Str.ofString "")])) lr = _ := upd_same
          have hrow : ∀ x ∈ [V.str z, .str (cutS z none (some at0) ++ ⟨#[c]⟩ ++ cutS z (some at0) none), .str (cutS z none (some at0) ++ Str.ofString "\n" ++ cutS z (some at0) none), .str (⟨#[c]⟩ ++ z), .str (z ++ ⟨#[c]⟩), .str (Str.ofString "")], Row x := by
            have oc : okS ⟨#[c]⟩ := okS_one hc
            have on : okS (Str.ofString "\n") := by unfold okS; decide +kernel
            intro x hx
            simp only [List.mem_cons, List.not_mem_nil, or_false] at hx
            rcases hx with rfl | rfl | rfl | rfl | rfl | rfl
            · exact ⟨_, rfl, by omega, oz⟩
            · exact ⟨_, rfl, by rw [app_len, app_len]; show _ + 1 + _ ≤ _; omega, okS_app (okS_app (okS_cut oz _ _) oc) (okS_cut oz _ _)⟩
            · exact ⟨_, rfl, by rw [app_len, app_len]; show _ + 1 + _ ≤ _; omega, okS_app (okS_app (okS_cut oz _ _) on) (okS_cut oz _ _)⟩
            · exact ⟨_, rfl, by rw [app_len]; show 1 + _ ≤ _; omega, okS_app oc oz⟩
            · exact ⟨_, rfl, by rw [app_len]; show _ + 1 ≤ _; omega, okS_app oz oc⟩
            · exact ⟨_, rfl, by decide, okS_empty⟩
          have hrl : (List.length (α := V) [.str z, .str (cutS z none (some at0) ++ ⟨#[c]⟩ ++ cutS z (some at0) none), .str (cutS z none (some at0) ++ Str.ofString "\n" ++ cutS z (some at0) none), .str (⟨#[c]⟩ ++ z), .str (z ++ ⟨#[c]⟩), .str (Str.ofString "")]) = 6 := rfl
          have t13 := t12.new (o := .lst [.str z, .str (cutS z none (some at0) ++ ⟨#[c]⟩ ++ cutS z (some at0) none), .str (cutS z none (some at0) ++ Str.ofString "\n" ++ cutS z (some at0) none), .str (⟨#[c]⟩ ++ z), .str (z ++ ⟨#[c]⟩), .str (Str.ofString "")]) nr
          generalize upd HH lr (.lst [.str z, .str (cutS z none (some at0) ++ ⟨#[c]⟩ ++ cutS z (some at0) none), .str (cutS z none (some at0) ++ Str.ofString "\n" ++ cutS z (some at0) none), .str (⟨#[c]⟩ ++ z), .str (z ++ ⟨#[c]⟩), .str (Str.ofString "")]) = HR at er t13
          generalize [V.str z, .str (cutS z none (some at0) ++ ⟨#[c]⟩ ++ cutS z (some at0) none), .str (cutS z none (some at0) ++ Str.ofString "\n" ++ cutS z (some at0) none), .str (⟨#[c]⟩ ++ z), .str (z ++ ⟨#[c]⟩), .str (Str.ofString "")] = rows at er hrow hrl
          obtain ⟨M, hM, M1, M2, M3⟩ : ∃ M : Int, (if (z.length : Int) > 1 then (z.length : Int) else 1) = M ∧ 1 ≤ M ∧ M ≤ 300 ∧ (z.length : Int) ≤ M := ⟨_, rfl, by split <;> omega, by split <;> omega, by split <;> omega⟩
          have k0 : 0 ≤ 120000 / M := Int.ediv_nonneg (by decide) (by omega)
          have k1 : 1 ≤ 120000 / M := Int.le_ediv_of_mul_le (by omega) (by omega)
          have k2 : M * (120000 / M) ≤ 120000 := Int.mul_ediv_self_le (by omega)
          have k3 : (z.length : Int) * (120000 / M) ≤ 120000 := Int.le_trans (Int.mul_le_mul_of_nonneg_right M3 k0) k2
          have k4 : 120000 / M ≤ 120000 := Int.ediv_le_self _ (by decide)
          generalize hkk : 120000 / M = kk at k0 k1 k2 k3 k4
          have k5 : z.length * kk.toNat ≤ 120000 := by
            have : ((z.length * kk.toNat : Nat) : Int) ≤ 120000 := by
              rw [Int.natCast_mul, Int.toNat_of_nonneg k0]; exact k3
            omega
          refine ⟨_, rfl, ?_⟩
          refine ⟨_, rfl, z, 40, rfl, rfl, by decide, by decide, by show z.length * 40 ≤ 16000000; omega, ?_⟩
          refine ⟨_, rfl, _, rfl, z, rfl, z24, 1, _, rfl, 120000, M, rfl, by show V.int _ = _; rw [hM], ⟨by omega, by omega⟩, z, kk, rfl, by show V.int _ = _; rw [hkk], k1, by omega, by omega, ?_⟩
          refine ⟨by show 2 ≤ sizeLine; decide, fun l9 n9 => ?_⟩
          refine ⟨_, rfl, .inr ⟨_, rfl, 1, _, rfl, rfl, _, rfl, l9, _, rfl, SqL.of upd_same, fun p9 np9 => ?_⟩⟩
          have hrow2 : ∀ x ∈ [V.str (repS z (40 : Int).toNat), .str (repS z kk.toNat)], Row x := by
            intro x hx
            simp only [List.mem_cons, List.not_mem_nil, or_false] at hx
            rcases hx with rfl | rfl
            · exact ⟨_, rfl, by rw [repS_len]; show 40 * _ ≤ _; omega, okS_rep oz _⟩
            · exact ⟨_, rfl, by rw [repS_len, Nat.mul_comm]; omega, okS_rep oz _⟩
          have t14 := t13.new (o := .lst [.str (repS z (40 : Int).toNat), .str (repS z kk.toNat)]) n9
          have er2 := same_upd (o := .lst [.str (repS z (40 : Int).toNat), .str (repS z kk.toNat)]) n9 _ _ er
          generalize upd HR l9 (.lst [.str (repS z (40 : Int).toNat), .str (repS z kk.toNat)]) = HR2 at er2 t14 np9
          have hcv : ∀ i9 : Int, ∀ x ∈ cutV [V.str (repS z (40 : Int).toNat), .str (repS z kk.toNat)] none (some i9), Row x := fun i9 x hx => hrow2 x (List.mem_of_mem_drop (List.mem_of_mem_take hx))
          have hcl : ∀ i9 : Int, (cutV [V.str (repS z (40 : Int).toNat), .str (repS z kk.toNat)] none (some i9)).length ≤ 2 := fun i9 => by
            unfold cutV
            rw [List.length_take, List.length_drop]
            show min _ (2 - _) ≤ 2
            omega
          generalize hmore : cutV _ none (some _) = more
          replace hcv : ∀ x ∈ more, Row x := by rw [← hmore]; exact hcv _
          replace hcl : more.length ≤ 2 := by rw [← hmore]; exact hcl _
          have t15 := t14.new (o := .lst more) np9
          have er3 := same_upd (o := .lst more) np9 _ _ er2
          have em3 : (upd HR2 p9 (.lst more)) p9 = some (.lst more) := upd_same
          generalize upd HR2 p9 (.lst more) = HR3 at t15 er3 em3
          refine ⟨lr, p9, rows, more, rfl, rfl, er3, em3, Nat.le_trans (show _ ≤ 8 by omega) (by decide), fun p10 np10 => ?_⟩
          have t16 := t15.new (o := .lst (rows ++ more)) np10
          have ea : (upd HR3 p10 (.lst (rows ++ more))) p10 = some (.lst (rows ++ more)) := upd_same
          have hall : ∀ x ∈ rows ++ more, Row x := fun x hx => (List.mem_append.mp hx).elim (hrow x) (hcv x)
          generalize upd HR3 p10 (.lst (rows ++ more)) = HR4 at t16 ea
          generalize rows ++ more = all at ea hall
          clear t12 t13 t14 t15 er er2 er3 em3 hrow hrow2 hcv hcl hrl
          refine ⟨p10, rfl, ⟨all, SqL.of ea⟩, for_list (K := K) (xs := all) (fun i σ H' => ∃ y1 y2 y4 y5 y7 y8 y9 y10 y11 y12, σ = [some (.ref a), y1, y2, some (.str ⟨#[c]⟩), y4, y5, some (.str z), y7, y8, y9, y10, y11, y12] ∧ Same HR4 H')
            ⟨_, _, _, _, _, _, _, _, _, _, rfl, fun _ _ e => e⟩ (fun i σ H' _ h => by obtain ⟨_, _, _, _, _, _, _, _, _, _, _, sm⟩ := h; exact SqL.of (sm _ _ ea)) ?_ ?_⟩
          · intro i x σ H' hx h
            obtain ⟨z', rfl, lz, oz'⟩ := hall x (List.mem_of_getElem? hx)
            obtain ⟨y1, y2, y4, y5, y7, y8, y9, y10, y11, y12, rfl, sm⟩ := h
            refine ⟨_, rfl, _, rfl, z', c, rfl, hc, lz, oz', fun H'' s2 => ⟨true, rfl, ?_⟩⟩
            refine iteF ?_
            exact ⟨_, _, _, _, _, _, _, _, _, _, rfl, sm.trans s2⟩
          · intro σ H' h
            obtain ⟨y1, y2, y4, y5, y7, y8, y9, y10, y11, y12, rfl, sm⟩ := h
            have t17 : St H0 b 302 H' := t16.same sm
            -- the other things
            refine ⟨_, rfl, 99, rfl, z, rfl, z24, by show 1 ≤ sizeLine; decide, fun p1 np1 => ?_⟩
            refine ⟨_, rfl, 99, rfl, z, rfl, z24, by show 1 ≤ sizeLine; decide, fun p2 np2 => ?_⟩
            refine fun p3 np3 => ?_
            refine ⟨by show 6 ≤ sizeLine; decide, fun p4 np4 => ?_⟩
            have o1 : (upd H' p1 (.lst [.str (cutS z none (some 99))])) p1 = some (.lst [.str (cutS z none (some 99))]) := upd_same
            have t18 := t17.new (o := .lst [.str (cutS z none (some 99))]) np1
            generalize upd H' p1 (.lst [.str (cutS z none (some 99))]) = G1 at *
            have o1' := same_upd (o := .tup [.str (cutS z none (some 99))]) np2 _ _ o1
            have o2 : (upd G1 p2 (.tup [.str (cutS z none (some 99))])) p2 = some (.tup [.str (cutS z none (some 99))]) := upd_same
            have t19 := t18.new (o := .tup [.str (cutS z none (some 99))]) np2
            generalize upd G1 p2 (.tup [.str (cutS z none (some 99))]) = G2 at *
            have o1'' := same_upd (o := .dK []) np3 _ _ o1'
            have o2' := same_upd (o := .dK []) np3 _ _ o2
            have o3 : (upd G2 p3 (.dK [])) p3 = some (.dK []) := upd_same
            have t20 := t19.new (o := .dK []) np3
            generalize upd G2 p3 (.dK []) = G3 at *
            have s4 : Same G3 (upd G3 p4 (.lst [.non, .int 5, .bl true, .ref p1, .ref p2, .ref p3])) := same_upd np4
            have o4 : (upd G3 p4 (.lst [.non, .int 5, .bl true, .ref p1, .ref p2, .ref p3])) p4 = some (.lst [.non, .int 5, .bl true, .ref p1, .ref p2, .ref p3]) := upd_same
            have t21 := t20.new (o := .lst [.non, .int 5, .bl true, .ref p1, .ref p2, .ref p3]) np4
            generalize upd G3 p4 (.lst [.non, .int 5, .bl true, .ref p1, .ref p2, .ref p3]) = G4 at *
            have hodd : ∀ x ∈ [V.non, .int 5, .bl true, .ref p1, .ref p2, .ref p3], OddV G4 x := by
              intro x hx
              simp only [List.mem_cons, List.not_mem_nil, or_false] at hx
              rcases hx with rfl | rfl | rfl | rfl | rfl | rfl
              · exact .inl rfl
              · exact .inr (.inl rfl)
              · exact .inr (.inr (.inl rfl))
              · exact .inr (.inr (.inr (.inl ⟨p1, _, rfl, s4 _ _ o1''⟩)))
              · exact .inr (.inr (.inr (.inr (.inl ⟨p2, _, rfl, s4 _ _ o2'⟩))))
              · exact .inr (.inr (.inr (.inr (.inr ⟨p3, _, rfl, s4 _ _ o3⟩))))
            generalize [V.non, .int 5, .bl true, .ref p1, .ref p2, .ref p3] = odds at o4 hodd
            refine ⟨p4, rfl, ⟨odds, SqL.of o4⟩, for_list (K := K) (xs := odds) (fun i σ H' => ∃ y1 y2 y4 y5 y6 y7 y8 y9 y10 y11 y12, σ = [some (.ref a), y1, y2, some (.str ⟨#[c]⟩), y4, y5, y6, y7, y8, y9, y10, y11, y12] ∧ Same G4 H')
              ⟨_, _, _, _, _, _, _, _, _, _, _, rfl, fun _ _ e => e⟩ (fun i σ H' _ h => by obtain ⟨_, _, _, _, _, _, _, _, _, _, _, _, sm⟩ := h; exact SqL.of (sm _ _ o4)) ?_ ?_⟩
            · intro i x σ H5 hx h
              obtain ⟨y1, y2, y4, y5, y6, y7, y8, y9, y10, y11, y12, rfl, sm⟩ := h
              obtain ⟨ty, hty, hkt⟩ := odd_ty (K := K) (OddV.same (hodd x (List.mem_of_getElem? hx)) sm)
              refine ⟨_, rfl, x, 32, rfl, by decide, .inr ⟨ty, hty, hkt, rfl, _, rfl, ?_⟩⟩
              refine iteF ?_
              refine ⟨_, rfl, _, rfl, rfl, x, c, rfl, hc, .inr ⟨ty, hty, hkt, rfl, _, rfl, ?_⟩⟩
              refine iteF ?_
              exact ⟨_, _, _, _, _, _, _, _, _, _, _, rfl, sm⟩
            · intro σ H5 h
              obtain ⟨y1, y2, y4, y5, y6, y7, y8, y9, y10, y11, y12, rfl, sm⟩ := h
              exact ⟨_, _, _, _, _, _, _, _, _, _, _, _, rfl, (t21.s.trans sm).seq hS0⟩
    · intro σ H1 h1
      obtain ⟨y1, y2, y3, y4, y5, y6, y7, y8, y9, y10, y11, y12, rfl, hS0⟩ := h1
      exact q H1
end
end K04
set_option maxHeartbeats 8000000
namespace K04
open PySem PySem.Spec PyProof.Rows L2 RL RM TL
/-! ### how split_words binds -/
section
variable {K : PySem.W.Frag} {f : Addr} {fd : FuncData}
abbrev FS (K : PySem.W.Frag) (f : Addr) (fd : FuncData) : Prop := FunD K "split_words" "split_words" (defArgs sSplit) (defBody sSplit) (defScope sSplit) [] [("separator", .str ⟨#[32]⟩)] f fd
theorem bind1 (F : FS K f fd) : ∃ ds, Vals [V.str ⟨#[32]⟩] ds ∧ Binds K fd ["text", "separator"] ds :=
  F.binds0 (ps := ["text", "separator"]) 1 (by simp) rfl fun D doc pm an cdv ct us ks h1 h2 => match us, ks, h1, h2 with
    | [u], [k], _, _ => ⟨_, _, _, _, _, _, rfl, rfl, rfl⟩
theorem bindK (F : FS K f fd) : KBn K fd ["text", "separator"] 1 ["separator"] (fun us ws => us ++ ws) (fun vs zs => vs ++ zs) := by
  obtain ⟨oc, od, dV, kV, doc, pm, an, cdv, ct, osl, rfl, lk, hcd, hD, hK⟩ := F.ex
  rcases hD with ⟨_, rfl⟩ | ⟨e, _⟩
  · exact ⟨fun s us ws X h1 h2 => match us, ws, h1, h2 with
      | [u], [k], _, _ => .of_eq rfl, fun r1 r2 => r1.append r2⟩
  · exact absurd rfl e
theorem bindK0 (F : FS K f fd) : KBn K fd ["text", "separator"] 0 ["text", "separator"] (fun _ ws => ws) (fun _ zs => zs) := by
  obtain ⟨oc, od, dV, kV, doc, pm, an, cdv, ct, osl, rfl, lk, hcd, hD, hK⟩ := F.ex
  rcases hD with ⟨_, rfl⟩ | ⟨e, _⟩
  · exact ⟨fun s us ws X h1 h2 => match us, ws, h1, h2 with
      | [], [k, l], _, _ => .of_eq rfl, fun _ r2 => r2⟩
  · exact absurd rfl e
end
/-! ### what the top has written; the law's own head -/
theorem all_mk {l : PySem.W.OpenLaw} {w : World} {K : PySem.W.Frag} {h : Heap} {mg : Str → Option Value} {fa f1 f2 f3 f4 f5 f6 f7 f8 D : Addr} (X : K.In h) (G : h.Ns mainGlobals mg) (hfa : mg "law" = some (.ref fa))
    {od1 an1 od2 an2 od3 an3 od4 an4 od5 an5 od6 an6 od7 an7 od8 an8 : Option Addr} {sl1 sl2 sl3 sl4 sl5 sl6 sl7 sl8 : Array (Option Value)} {oc1 dc1 pm1 cd1 ct1 oc2 kV2 dc2 pm2 cd2 ct2 oc3 kV3 dc3 pm3 cd3 ct3 oc4 kV4 dc4 pm4 cd4 ct4 oc5 kV5 dc5 pm5 cd5 ct5 oc6 kV6 dc6 pm6 cd6 ct6 oc7 kV7 dc7 pm7 cd7 ct7 oc8 kV8 dc8 pm8 cd8 ct8 : Value} {tS : Tok}
    (a1 : PySem.W.nsIn K mainGlobals "split_words" = some (some (.ref f1))) (l1 : K.lookup f1 = some ⟨oc1, od1, .func (PySem.W.fnOf "split_words" "split_words" (defArgs sSplit) (defBody sSplit) (defScope sSplit) .none (.ref D) dc1 pm1 an1 cd1 ct1), sl1⟩) (c1 : PySem.W.codeIn K cd1 "split_words" = true) (k1 : PySem.W.keepIn K (.ref f1) = true) (n1 : PySem.W.nsIn K D "separator" = some (some (.str (Str.ofString " ") tS)))
    (a2 : PySem.W.nsIn K mainGlobals "_law_cell" = some (some (.ref f2))) (l2 : K.lookup f2 = some ⟨oc2, od2, .func (PySem.W.fnOf "_law_cell" "_law_cell" (defArgs sCell) (defBody sCell) (defScope sCell) .none kV2 dc2 pm2 an2 cd2 ct2), sl2⟩) (c2 : PySem.W.codeIn K cd2 "_law_cell" = true) (k2 : PySem.W.keepIn K (.ref f2) = true)
    (a3 : PySem.W.nsIn K mainGlobals "_law_box" = some (some (.ref f3))) (l3 : K.lookup f3 = some ⟨oc3, od3, .func (PySem.W.fnOf "_law_box" "_law_box" (defArgs sBox) (defBody sBox) (defScope sBox) .none kV3 dc3 pm3 an3 cd3 ct3), sl3⟩) (c3 : PySem.W.codeIn K cd3 "_law_box" = true) (k3 : PySem.W.keepIn K (.ref f3) = true)
    (a4 : PySem.W.nsIn K mainGlobals "_law_take" = some (some (.ref f4))) (l4 : K.lookup f4 = some ⟨oc4, od4, .func (PySem.W.fnOf "_law_take" "_law_take" (defArgs sTake) (defBody sTake) (defScope sTake) .none kV4 dc4 pm4 an4 cd4 ct4), sl4⟩) (c4 : PySem.W.codeIn K cd4 "_law_take" = true) (k4 : PySem.W.keepIn K (.ref f4) = true)
    (a5 : PySem.W.nsIn K mainGlobals "_law_word" = some (some (.ref f5))) (l5 : K.lookup f5 = some ⟨oc5, od5, .func (PySem.W.fnOf "_law_word" "_law_word" (defArgs sWord) (defBody sWord) (defScope sWord) .none kV5 dc5 pm5 an5 cd5 ct5), sl5⟩) (c5 : PySem.W.codeIn K cd5 "_law_word" = true) (k5 : PySem.W.keepIn K (.ref f5) = true)
    (a6 : PySem.W.nsIn K mainGlobals "_law_due" = some (some (.ref f6))) (l6 : K.lookup f6 = some ⟨oc6, od6, .func (PySem.W.fnOf "_law_due" "_law_due" (defArgs sDue) (defBody sDue) (defScope sDue) .none kV6 dc6 pm6 an6 cd6 ct6), sl6⟩) (c6 : PySem.W.codeIn K cd6 "_law_due" = true) (k6 : PySem.W.keepIn K (.ref f6) = true)
    (a7 : PySem.W.nsIn K mainGlobals "_law_right" = some (some (.ref f7))) (l7 : K.lookup f7 = some ⟨oc7, od7, .func (PySem.W.fnOf "_law_right" "_law_right" (defArgs sRight) (defBody sRight) (defScope sRight) .none kV7 dc7 pm7 an7 cd7 ct7), sl7⟩) (c7 : PySem.W.codeIn K cd7 "_law_right" = true) (k7 : PySem.W.keepIn K (.ref f7) = true)
    (a8 : PySem.W.nsIn K mainGlobals "law" = some (some (.ref f8))) (l8 : K.lookup f8 = some ⟨oc8, od8, .func (PySem.W.fnOf "law" "law" (defArgs sLaw) (defBody sLaw) (defScope sLaw) .none kV8 dc8 pm8 an8 cd8 ct8), sl8⟩) (c8 : PySem.W.codeIn K cd8 "law" = true) (k8 : PySem.W.keepIn K (.ref f8) = true)
    (z1 : PySem.W.nsIn K mainGlobals "range" = some none) (z2 : PySem.W.nsIn K mainGlobals "isinstance" = some none) (z3 : PySem.W.nsIn K mainGlobals "str" = some none) (z4 : PySem.W.nsIn K mainGlobals "enumerate" = some none) (z5 : PySem.W.nsIn K mainGlobals "len" = some none) (z6 : PySem.W.nsIn K mainGlobals "zip" = some none) (z7 : PySem.W.nsIn K mainGlobals "max" = some none) (z8 : PySem.W.nsIn K mainGlobals "min" = some none) (z9 : PySem.W.nsIn K mainGlobals "int" = some none) :
    ∃ fd : FuncData, (∀ (s : Shared) (v : Value), BindsTo s fd ⟨[v], []⟩ [("_law_script", v)]) ∧ ∀ base : Heap, K.In base → base.Ns mainGlobals mg → FnOk l.prog w K mg base CX0 3 fa fd ["_law_script"] (spLaw K) := by
  have e := hfa.symm.trans (PySem.W.mg_of X G a8)
  cases e
  have F1 : FS K f1 _ := ⟨⟨oc1, od1, .none, .ref D, dc1, pm1, an1, cd1, ct1, sl1, rfl, l1, c1, .inl ⟨rfl, rfl⟩, .inr ⟨D, rfl, fun q hq => by
    have e := List.mem_singleton.mp hq
    subst e
    exact ⟨_, n1, ⟨tS, rfl⟩⟩⟩⟩, k1⟩
  have F2 := fun_mk (st := sCell) l2 c2 k2
  have F3 := fun_mk (st := sBox) l3 c3 k3
  have F4 := fun_mk (st := sTake) l4 c4 k4
  have F5 := fun_mk (st := sWord) l5 c5 k5
  have F6 := fun_mk (st := sDue) l6 c6 k6
  have F7 := fun_mk (st := sRight) l7 c7 k7
  have F8 := fun_mk (st := sLaw) l8 c8 k8
  obtain ⟨ds, vS, bS⟩ := bind1 F1
  have b2 := F2.binds (ps := ["_law_script", "_law_k"]) fun _ _ _ _ _ _ us hl => match us, hl with | [_, _], _ => rfl
  have b3 := F3.binds (ps := ["_law_cell_here"]) fun _ _ _ _ _ _ us hl => match us, hl with | [_], _ => rfl
  have b4 := F4.binds (ps := ["_law_box_here", "_law_many"]) fun _ _ _ _ _ _ us hl => match us, hl with | [_, _], _ => rfl
  have b5 := F5.binds (ps := ["_law_box_here", "_law_mark"]) fun _ _ _ _ _ _ us hl => match us, hl with | [_, _], _ => rfl
  have b6 := F6.binds (ps := ["_law_line", "_law_mark"]) fun _ _ _ _ _ _ us hl => match us, hl with | [_, _], _ => rfl
  have b7 := F7.binds (ps := ["_law_line", "_law_mark"]) fun _ _ _ _ _ _ us hl => match us, hl with | [_, _], _ => rfl
  exact ⟨PySem.W.fnOf "law" "law" (defArgs sLaw) (defBody sLaw) (defScope sLaw) .none kV8 dc8 pm8 an8 cd8 ct8, fun s v => .of_eq rfl, fun base _ _ =>
    ok_law (g0 := fun a _ => a) (gV0 := fun a _ => a) F8 F1 F2 F3 F4 F5 F6 F7 bS vS (bindK F1) (bindK0 F1) b2 b3 b4 b5 b6 b7 (PySem.W.mg_of X G a1) (PySem.W.mg_of X G a2) (PySem.W.mg_of X G a3) (PySem.W.mg_of X G a4) (PySem.W.mg_of X G a5) (PySem.W.mg_of X G a6) (PySem.W.mg_of X G a7)
      (PySem.W.mg_none_of X G z1) (PySem.W.mg_none_of X G z2) (PySem.W.mg_none_of X G z3) (PySem.W.mg_none_of X G z4) (PySem.W.mg_none_of X G z5) (PySem.W.mg_none_of X G z6) (PySem.W.mg_none_of X G z7) (PySem.W.mg_none_of X G z8) (PySem.W.mg_none_of X G z9)⟩
end K04
open PySem PySem.W PyProof.Rows
set_option maxHeartbeats 0 in
theorem PySem.Challenge.cw_rolereach_k04_words_of_texts_holds : PySem.Challenge.rw_rolereach_k04_words_of_texts.Holds := by
  w_on; o_law; k_head; (case hw => w_witness2)
  k_fill
  refine L2.walk_of (l := PySem.Challenge.rw_rolereach_k04_words_of_texts) (n := 63) (k := 3) (x := "_law_script") (CX := fun _ => L2.CX0) (sp := fun w => K04.spLaw _) rfl (by decide) rfl ⟨rfl, by decide, by decide⟩ (fun w h Y => PySem.W.kIn_of Y) ?F (fun _ _ a ns hl _ hS => ⟨a, ns, rfl, hS, hl, fun _ => rfl⟩) (fun _ _ _ _ _ h => h)
  case F =>
    intro w mg fa h KX G hmg
    refine' K04.all_mk KX G hmg ?a1 ?l1 ?c1 ?k1 ?n1 ?a2 ?l2 ?c2 ?k2 ?a3 ?l3 ?c3 ?k3 ?a4 ?l4 ?c4 ?k4 ?a5 ?l5 ?c5 ?k5 ?a6 ?l6 ?c6 ?k6 ?a7 ?l7 ?c7 ?k7 ?a8 ?l8 ?c8 ?k8 ?z1 ?z2 ?z3 ?z4 ?z5 ?z6 ?z7 ?z8 ?z9
    (case a1 => k_is); (case l1 => k_is); (case c1 => k_is); (case k1 => k_is); (case n1 => k_is)
    (case a2 => k_is); (case l2 => k_is); (case c2 => k_is); (case k2 => k_is)
    (case a3 => k_is); (case l3 => k_is); (case c3 => k_is); (case k3 => k_is)
    (case a4 => k_is); (case l4 => k_is); (case c4 => k_is); (case k4 => k_is)
    (case a5 => k_is); (case l5 => k_is); (case c5 => k_is); (case k5 => k_is)
    (case a6 => k_is); (case l6 => k_is); (case c6 => k_is); (case k6 => k_is)
    (case a7 => k_is); (case l7 => k_is); (case c7 => k_is); (case k7 => k_is)
    (case a8 => k_is); (case l8 => k_is); (case c8 => k_is); (case k8 => k_is)
    (case z1 => k_is); (case z2 => k_is); (case z3 => k_is); (case z4 => k_is); (case z5 => k_is); (case z6 => k_is); (case z7 => k_is); (case z8 => k_is); (case z9 => k_is)
