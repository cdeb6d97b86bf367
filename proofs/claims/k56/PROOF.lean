import PyProof.Rows.All
import Wide.All
import OpenK.AllK
import Wide.FinOn
import HandS.ForMost
import HandS.Walk
import HandS.Wide
import HandS.Defaults
import HandS.IsInst
import HandS.Zip
import PyProof.EqAt
import PyProof.EqKinds
import PyProof.NeData
import HandS.MakeKwOnly
import HandS.Style
import HandS.WrittenGet
import HandS.More
import HandS.CallLocal
import HandS.StrSplit
import HandS.Flow
import HandS.Head2
import HandS.HeadHook3
import HandS.HeadHook4
import HandS.Property
import HandS.Ends
import KE.KExcPX
import HandS.ForExc
import HandS.ExcInit
import HandS.ExcField
import HandS.TryMany
import HandS.ClsMeth
import HandS.OwnEq
import PyProof.InstNe
import HandS.Call
import KE.KCallOwn
import HandS.Strs
import HandS.StrMore
import HandS.RaiseMore
import HandS.Codes
import HandS.TryOnly
import HandS.Proxy
import HandS.Exc
import HandS.FStr
import KE.KFmtOwn
import HandS.SetFor
import HandS.HeadEnd
import HandS.HeadWalk
import PySem.Challenge.RW_rolereach_k56_deeds_as_texts
set_option Elab.async false
set_option linter.all false
set_option maxRecDepth 100000
set_option maxHeartbeats 4000000
namespace RL
open PySem PySem.Spec PyProof.Rows L2
/-! ### rules of my own: enumerate of a text, a text times a number, a call by keywords alone -/
def YEnumS (x : Str) : It :=
  ⟨fun i _ => i < x.cps.size, fun i H v H' => ∃ T c, v = .ref T ∧ H T = none ∧ H' = upd H T (.tup [.int (i : Nat), .str ⟨#[c]⟩]) ∧ x.cps[i]? = some c, fun i _ => i = x.cps.size⟩
theorem turn_enumS {P : Program} {w : World} {K : PySem.W.Frag} {elts : List Expr} {kk : Nat} {tpos : Pos} (e it : Addr) (x : Str) (t : Tok) (ty : String) (hty : ty = "str_ascii_iterator" ∨ ty = "str_iterator") :
    Turn P w K (.Tuple elts kk tpos) (YEnumS x) [e, it] e (fun i h => (∃ old, IsEnum h e it ((i : Nat) : Int) old) ∧ h.IsStrIter it ty x t i ∧ e ≠ it) where
  mem := by simp
  obj := fun i h st b hb => by
    obtain ⟨⟨old, he⟩, ⟨o, ho, hc, hd⟩, _⟩ := st
    have e' : b = e ∨ b = it := by simpa using hb
    rcases e' with z | z
    · rw [z]; exact ⟨_, he, fun v q => nomatch q⟩
    · rw [z]; exact ⟨o, ho, fun v q => by rw [hd] at q; cases q⟩
  keep := fun i h h' st k => by
    obtain ⟨⟨old, he⟩, ⟨o, ho, r⟩, hne⟩ := st
    exact ⟨⟨old, k e (by simp) _ he⟩, ⟨o, k it (by simp) o ho, r⟩, hne⟩
  item := by
    intro X hP hw hK hc i pins s σ H E I hf st hg
    subst hP hw hK
    obtain ⟨⟨old, he⟩, hit, hne⟩ := st
    have hel : e < s.heap.objs.size := Heap.lt_size he
    have hil : it < s.heap.objs.size := by obtain ⟨_, q, _⟩ := hit; exact Heap.lt_size q
    have D : Draws X.prog X.w X.A.in1 it [it] x.cps.size (fun i v => ∃ c u, x.cps[i]? = some c ∧ v = .str ⟨#[c]⟩ u) (fun i h => h.IsStrIter it ty x t i) := by
      rcases hty with z | z
      · rw [z]; exact Draws.strAscii (A := X.A.in1) (I.ok.hd hc) it x t
      · rw [z]; exact Draws.strWide (A := X.A.in1) (I.ok.hd hc) it x t
    refine wpAny_pyNext_enum_itemD D he hit hg hne (fun z => hne (by simpa using z)) fun u h' tk hu ho hit' hT hsz hk => ?_
    obtain ⟨c, u', hcx, rfl⟩ := hu
    refine ⟨_, rfl, wpAny_letOwnedTupleGo_enum (s := { s with heap := h', toks := tk + 1 }) ho fun h'' he' sb => ?_⟩
    have hT2 : h''.get? s.heap.objs.size = some { cls := .type "tuple", data := .seq #[.int i tk, .str ⟨#[c]⟩ u'] } := (sb.2 _ (Nat.ne_of_gt hel)).trans hT
    have new : ObjOk X.prog X.w (upd H s.heap.objs.size (.tup [.int (i : Nat), .str ⟨#[c]⟩])) h'' s.heap.objs.size (.tup [.int (i : Nat), .str ⟨#[c]⟩]) :=
      ⟨by show 2 ≤ sizeLine; decide, [.int i tk, .str ⟨#[c]⟩ u'], .cons ⟨_, rfl⟩ (.cons ⟨_, rfl⟩ .nil), ⟨_, hT2, rfl, _, rfl⟩⟩
    have I1 : Inv X pins σ (upd H s.heap.objs.size (.tup [.int (i : Nat), .str ⟨#[c]⟩])) { s with heap := h'', toks := tk + 1 } :=
      I.turnedNew (ch := [e, it]) (fun b ob hb q => (sb.2 b (fun z => hb (by simp [z]))).trans (hk b ob (fun z => hb (by simp [z])) (fun z => hb (by simp [z])) q)) hf (Nat.le_refl _) new
    have hit2 : h''.IsStrIter it ty x t (i + 1) := by
      obtain ⟨o, ho, r⟩ := hit'
      exact ⟨o, (sb.2 it (Ne.symm hne)).trans ho, r⟩
    refine ⟨.ref s.heap.objs.size, _, I1, rfl, ⟨_, c, rfl, I.hok.fresh (Nat.le_refl _), rfl, hcx⟩, ⟨⟨.str ⟨#[c]⟩ u', ?_⟩, hit2, hne⟩, fun b hb => ?_⟩
    · have e1 : ((i + 1 : Nat) : Int) = (i : Int) + 1 := by omega
      rw [e1]; exact he'
    · have hb' : b < s.heap.objs.size := by
        have e' : b = e ∨ b = it := by simpa using hb
        rcases e' with z | z
        · rw [z]; exact hel
        · rw [z]; exact hil
      rw [upd_ne (Nat.ne_of_lt hb')]
      exact (hf b hb).1
  done := by
    intro X hP hw hK hc i pins s σ H E I hf st hg
    subst hP hw hK
    obtain ⟨⟨old, he⟩, hit, hne⟩ := st
    obtain ⟨f0, f1, f2, f3, f4, f5⟩ := hf it (by simp)
    have hg : i = x.cps.size := hg
    subst hg
    have D : Draws X.prog X.w X.A.in1 it [it] x.cps.size (fun i v => ∃ c u, x.cps[i]? = some c ∧ v = .str ⟨#[c]⟩ u) (fun i h => h.IsStrIter it ty x t i) := by
      rcases hty with z | z
      · rw [z]; exact Draws.strAscii (A := X.A.in1) (I.ok.hd hc) it x t
      · rw [z]; exact Draws.strWide (A := X.A.in1) (I.ok.hd hc) it x t
    exact wpAny_pyNext_enum_endD D he hit fun h' eb => ⟨rfl, I.turned (t' := s.toks) (fun b o hb q => eb b o hb q) f0 f1 f3 f4 f5⟩
  self := fun A i s Q E st h => let ⟨⟨_, he⟩, _⟩ := st; wpAny_pyIter_enum he h
def iEnumS (ta : TA) : TI := fun σ H R => ta σ H fun vs H1 => ∃ x, vs = [.str x] ∧ R (YEnumS x) H1
theorem pi_enumS {X : Cx} {e : Expr} {ta : TA} {p pos tpos : Pos} {elts : List Expr} {kk : Nat} (hg : Gl X "enumerate") (hm : X.mg "enumerate" = none) (ha : PA X [e] ta) (hs : starEach [e] X.env = [(false, eval e X.env)] := by rfl) :
    PI X (.Tuple elts kk tpos) (.Call (.Name "enumerate" p) [e] [] pos) (iEnumS ta) := by
  refine ⟨fun pins s σ H R I h => ?_⟩
  refine Call_ (ld_blt I hg hm boot_enumerate (PyProof.Rows.callWith_type1 (thn (ha.run pos pins s σ H _ I h) fun us s1 ⟨vs, H1, I1, r1, q1⟩ => ?_) hs rfl))
  obtain ⟨x, ex, q⟩ := q1
  subst ex
  cases r1 with
  | cons r rr =>
    cases rr
    obtain ⟨t, rfl⟩ := r
    refine call_enumerate_str fun h' he hit hsz hk => wpAny_pyIter_enum he ?_
    have I2 : Inv X pins σ H1 { s1 with heap := h' } := I1.kept (t' := s1.toks) hk
    have hty : strIterType x = "str_ascii_iterator" ∨ strIterType x = "str_iterator" := by
      unfold strIterType
      split
      · exact .inl rfl
      · exact .inr rfl
    refine ⟨s1.heap.objs.size + 1, [s1.heap.objs.size + 1, s1.heap.objs.size], _, _, H1, rfl, I2, turn_enumS (s1.heap.objs.size + 1) s1.heap.objs.size x t (strIterType x) hty, ⟨⟨.none, he⟩, hit, Nat.succ_ne_self _⟩, fun b hb => ?_, q⟩
    have e' : b = s1.heap.objs.size + 1 ∨ b = s1.heap.objs.size := by simpa using hb
    have hle : s1.heap.objs.size ≤ b := by
      rcases e' with z | z
      · rw [z]; exact Nat.le_add_right _ _
      · rw [z]; exact Nat.le_refl _
    exact I1.fpOk hle (I1.hok.fresh hle)
theorem walk_enumS {x : Str} : Walk (YEnumS x) x.cps.size (fun _ => True) (YPair (fun i => some (.int (i : Nat))) (fun i => x.cps[i]?.map fun c => .str ⟨#[c]⟩)) := by
  refine ⟨fun _ _ hi _ => hi, fun _ _ => rfl, fun i H v H' _ _ y => ?_⟩
  obtain ⟨T, c, h1, h2, h3, h4⟩ := y
  exact ⟨T, .int (i : Nat), .str ⟨#[c]⟩, h1, h2, h3, rfl, by show (x.cps[i]?).map _ = _; rw [h4]; rfl⟩
/-- a text n times, its length said -/
def repS (x : Str) (n : Nat) : Str := ⟨((List.replicate n x.cps.toList).flatten).toArray⟩
theorem foldl_app (x : Array Nat) : ∀ (n : Nat) (acc : Array Nat), ((List.replicate n x).foldl (· ++ ·) acc).toList = acc.toList ++ (List.replicate n x.toList).flatten
  | 0, acc => by simp
  | n + 1, acc => by
    rw [List.replicate_succ, List.foldl_cons, foldl_app x n, List.replicate_succ, List.flatten_cons, Array.toList_append, List.append_assoc]
theorem repS_len (x : Str) (n : Nat) : (repS x n).length = n * x.length := by
  show ((List.replicate n x.cps.toList).flatten).toArray.size = _
  rw [List.size_toArray]
  induction n with
  | zero => simp
  | succ n ih =>
    rw [List.replicate_succ, List.flatten_cons, List.length_append, ih, Nat.succ_mul]
    show x.cps.size + _ = _
    rw [Nat.add_comm]
    rfl
theorem op_mul_str {X : Cx} : OpR X (binaryOp .Mult) (fun x y H Q => ∃ (a : Str) (k : Int), x = .str a ∧ y = .int k ∧ 1 ≤ k ∧ k < 1000000000 ∧ a.length * k.toNat ≤ 16000000 ∧ Q (.str (repS a k.toNat)) H) := by
  intro pins s σ H x y v u Q I rx ry h
  obtain ⟨a, k, rfl, rfl, h1, h2, h3, q⟩ := h
  obtain ⟨t, rfl⟩ := rx
  obtain ⟨t', rfl⟩ := ry
  have hn : ¬ k < 1 := by omega
  refine PySem.P.mul_str ?_ ?_ ?_ ?_
  · have e1 : ¬ k < -(2 ^ 63 : Int) := by omega
    have e2 : ¬ k ≥ 2 ^ 63 := by omega
    rw [decide_eq_false e1, decide_eq_false e2]; rfl
  · intro _ _ z
    have z2 : ((a.length : Int) * k) ≤ 16000000 := by
      have : ((a.length * k.toNat : Nat) : Int) ≤ 16000000 := by omega
      rw [Int.natCast_mul, Int.toNat_of_nonneg (by omega)] at this
      exact this
    have z3 : (a.length : Int) ≤ (2 ^ 63 - 1) / k := Int.le_ediv_of_mul_le (by omega) (by omega)
    omega
  · intro _ _
    unfold PySem.Builtin.Str.tooLong
    exact decide_eq_false (by show ¬ _ > 2 ^ 24; omega)
  · rw [if_neg hn]
    by_cases hc : (k == 1 || a.length == 0) = true
    · rw [if_pos hc]
      have e : repS a k.toNat = a := by
        unfold repS
        rw [Bool.or_eq_true, beq_iff_eq, beq_iff_eq] at hc
        rcases hc with hc | hc
        · rw [hc]
          show (⟨((List.replicate 1 a.cps.toList).flatten).toArray⟩ : Str) = a
          simp
        · have z : a.cps.toList = [] := List.eq_nil_of_length_eq_zero (by rw [Array.length_toList]; exact hc)
          have z2 : a = ⟨#[]⟩ := by
            cases a with
            | mk c =>
              congr 1
              apply Array.ext'
              exact z
          rw [z]
          rw [z2]
          congr 1
          apply Array.ext'
          simp
      rw [e] at q
      exact ⟨.str a, H, I, ⟨_, rfl⟩, q⟩
    · rw [if_neg hc]
      have e : (⟨(List.replicate k.toNat a.cps).foldl (· ++ ·) #[]⟩ : Str) = repS a k.toNat := by
        unfold repS
        congr 1
        apply Array.ext'
        rw [foldl_app]
        simp
      rw [e]
      refine ⟨?_, .str (repS a k.toNat), H, I.tok _, ⟨_, rfl⟩, q⟩
      rw [repS_len]
      show _ ≤ 2 ^ 24
      rw [Nat.mul_comm]
      omega
section
variable {X : Cx} {CX : CXT} {k n : Nat} {f : Addr} {fd : FuncData} {ps ks : List Str} {sp : Sp} {E : XK} {x : Str} {p pos : Pos} {kws : List Keyword} {tk : TA} {g : List Value → List Value → List Value} {gV : List V → List V → List V}
def tCallN0 (m : Nat) (sp : Sp) (gV : List V → List V → List V) (E : XK) (tk : TA) : TE := fun σ H Q => tk σ H fun zs H2 => zs.length = m ∧ sp (gV [] zs) H2 Q E
/-- f(k = v, ..) -/
theorem pe_callN0 (F : FnOk X.prog X.w X.K X.mg X.base CX k f fd ps sp) (hr : Room k X.A) (hg : Gl X x) (hm : X.mg x = some (.ref f)) (hk : PySem.W.keepIn X.K (.ref f) = true) (hb : KBn X.K fd ps 0 ks g gV) (hx : Passes CX X E)
    (hkw : PK X kws tk) (hall : (backToKw pos (keywordEach kws X.env)).all (·.1.isSome) = true := by rfl) (hks : (backToKw pos (keywordEach kws X.env)).filterMap (·.1) = ks := by rfl)
    (hdb : (x == ("__debug__" : Str)) = false := by decide)
    (hpl : ((backTo pos (starEach [] X.env)).any (·.1) || (backToKw pos (keywordEach kws X.env)).any (·.1.isNone)) = false := by rfl) :
    PE X (.Call (.Name x p) [] kws pos) (tCallN0 ks.length sp gV E tk) := by
  refine ⟨fun pins s σ H Q I h => ?_⟩
  refine wpAny_Call_Name_kw (ld_glob I hg hm ?_ hdb)
  refine PySem.W.callWith_KW0 (h₀ := X.base) I.ok.mod.kin hk hall ?_ hpl
  refine thn (hkw.run pos pins s σ H _ I h) fun ws s2 ⟨zs, H2, I2, rz, l2, q2⟩ => ⟨I2.kIn, ?_⟩
  rw [hks]
  exact run_fnN (n := 0) F hr hb hx I2 .nil rz rfl l2 q2
end
/-! ### heaps -/
theorem same_upd {H : Hp} {p : Addr} {o : HO} (h : H p = none) : Same H (upd H p o) := fun b x e => by
  rw [upd_ne (ne_of_none e h)]
  exact e
/-- all but b stands as it stood -/
def Keep (b : Addr) (H H' : Hp) : Prop := ∀ a o, a ≠ b → H a = some o → H' a = some o
theorem Keep.refl {b : Addr} {H : Hp} : Keep b H H := fun _ _ _ e => e
theorem Keep.trans {b : Addr} {H H1 H2 : Hp} (k1 : Keep b H H1) (k2 : Keep b H1 H2) : Keep b H H2 := fun a o n e => k2 a o n (k1 a o n e)
theorem Keep.upd {b : Addr} {H : Hp} {o : HO} : Keep b H (upd H b o) := fun a x n e => by
  rw [upd_ne n]
  exact e
theorem Keep.new {b p : Addr} {H : Hp} {o : HO} (h : H p = none) : Keep b H (L2.upd H p o) := fun a x n e => same_upd h a x e
theorem Keep.of {b : Addr} {H H1 : Hp} (s : Same H H1) : Keep b H H1 := fun a o _ e => s a o e
end RL
set_option maxHeartbeats 4000000
/-! ### a dict beside a text -/
namespace RE
open PySem PySem.SeqAt PySem.Spec PyProof.Rows
open AutoSeq1 (wpAny_loadPart')
open MeetsSeq
theorem dict_eq_txt (a : Addr) (o : Obj) (hc : o.cls = .type "dict") (b : Str) (u : Tok) :
    Meets (Builtin.«dict.__eq__» ⟨[.ref a, .str b u], []⟩) (fun _ R s => s.heap.get? a = some o ∧ R (.ok (.ret .notImplemented)) s) :=
  .of_wp fun prog w A R s h => by
    obtain ⟨hp, g, d, tk, os⟩ := s
    obtain ⟨hl, h⟩ := h
    have f1 := F.sub_str_dict
    wp_walk using wpAny_loadPart' hl, wpAny_load hl
    exact ⟨_, rfl, h⟩
theorem dict_ne_txt (a : Addr) (o : Obj) (hc : o.cls = .type "dict") (b : Str) (u : Tok) :
    Meets (Builtin.«dict.__ne__» ⟨[.ref a, .str b u], []⟩) (fun _ R s => s.heap.get? a = some o ∧ R (.ok (.ret .notImplemented)) s) :=
  .of_wp fun prog w A R s h => by
    obtain ⟨hp, g, d, tk, os⟩ := s
    obtain ⟨hl, h⟩ := h
    have f1 := F.sub_str_dict
    wp_walk using wpAny_loadPart' hl, wpAny_load hl
    exact ⟨_, rfl, h⟩
theorem txt_eq_dict (a : Addr) (o : Obj) (es) (n) (hd : o.data = .dict es n) (b : Str) (u : Tok) :
    Meets (Builtin.«str.__eq__» ⟨[.str b u, .ref a], []⟩) (fun _ R s => s.heap.get? a = some o ∧ R (.ok (.ret .notImplemented)) s) :=
  .of_wp fun prog w A R s h => by
    obtain ⟨hp, g, d, tk, os⟩ := s
    obtain ⟨hl, h⟩ := h
    obtain ⟨cls, dd, data, sl⟩ := o
    simp only at hd
    subst hd
    wp_walk using wpAny_loadPart' hl, wpAny_load hl
    exact ⟨_, rfl, h⟩
theorem txt_ne_dict (a : Addr) (o : Obj) (es) (n) (hd : o.data = .dict es n) (b : Str) (u : Tok) :
    Meets (Builtin.«str.__ne__» ⟨[.str b u, .ref a], []⟩) (fun _ R s => s.heap.get? a = some o ∧ R (.ok (.ret .notImplemented)) s) :=
  .of_wp fun prog w A R s h => by
    obtain ⟨hp, g, d, tk, os⟩ := s
    obtain ⟨hl, h⟩ := h
    obtain ⟨cls, dd, data, sl⟩ := o
    simp only at hd
    subst hd
    wp_walk using wpAny_loadPart' hl, wpAny_load hl
    exact ⟨_, rfl, h⟩
section
variable {A : Around} {s : Shared}
theorem rc_dict_str {a : Addr} {o : Obj} (ho : s.heap.get? a = some o) (hc : o.cls = .type "dict") {es} {n} (hd : o.data = .dict es n) (b : Str) (u : Tok) (hu : A.units < cLine) : RcAt A s (.ref a) (.str b u) false := fun prog w E Q h =>
  rc_eq_decline_or (k := false) ⟨_, ho, hc⟩ (typeIs_str s b u) (by decide) F.sub_str_dict F.slot_dict_eq F.slot_str_eq_refl
    (fun _ hq => call_meets F.slot_dict_eq ⟨_, ho, hc⟩ F.entry_dict_eq (F.args_dict_eq_2 _ _) (dict_eq_txt a o hc b u) ⟨ho, hq⟩)
    (fun _ hq => call_meets F.slot_str_eq_refl (typeIs_str s b u) F.entry_str_eq (F.args_str_eq_2 _ _) (txt_eq_dict a o _ _ hd b u) ⟨ho, hq⟩)
    (fun _ hq => wpAny_of_eq (rfl : isSame (.ref a) (.str b u) = pure false) hq) (.inr hu) h
theorem rc_str_dict {a : Addr} {o : Obj} (ho : s.heap.get? a = some o) (hc : o.cls = .type "dict") {es} {n} (hd : o.data = .dict es n) (b : Str) (u : Tok) (hu : A.units < cLine) : RcAt A s (.str b u) (.ref a) false := fun prog w E Q h =>
  rc_eq_decline_or (k := false) (typeIs_str s b u) ⟨_, ho, hc⟩ (by decide) F.sub_dict_str F.slot_str_eq F.slot_dict_eq_refl
    (fun _ hq => call_meets F.slot_str_eq (typeIs_str s b u) F.entry_str_eq (F.args_str_eq_2 _ _) (txt_eq_dict a o _ _ hd b u) ⟨ho, hq⟩)
    (fun _ hq => call_meets F.slot_dict_eq_refl ⟨_, ho, hc⟩ F.entry_dict_eq (F.args_dict_eq_2 _ _) (dict_eq_txt a o hc b u) ⟨ho, hq⟩)
    (fun _ hq => wpAny_of_eq (rfl : isSame (.str b u) (.ref a) = pure false) hq) (.inr hu) h
theorem rn_dict_str {a : Addr} {o : Obj} (ho : s.heap.get? a = some o) (hc : o.cls = .type "dict") {es} {n} (hd : o.data = .dict es n) (b : Str) (u : Tok) (hu : A.units < cLine) : RcNeAt A s (.ref a) (.str b u) true := fun prog w E Q h =>
  rc_ne_decline_or (k := false) ⟨_, ho, hc⟩ (typeIs_str s b u) (by decide) F.sub_str_dict F.slot_dict_ne F.slot_str_ne_refl
    (fun _ hq => call_meets F.slot_dict_ne ⟨_, ho, hc⟩ F.entry_dict_ne (F.args_dict_ne_2 _ _) (dict_ne_txt a o hc b u) ⟨ho, hq⟩)
    (fun _ hq => call_meets F.slot_str_ne_refl (typeIs_str s b u) F.entry_str_ne (F.args_str_ne_2 _ _) (txt_ne_dict a o _ _ hd b u) ⟨ho, hq⟩)
    (fun _ hq => wpAny_of_eq (rfl : isSame (.ref a) (.str b u) = pure false) hq) (.inr hu) h
theorem eq_str_dict {a : Addr} {o : Obj} (ho : s.heap.get? a = some o) (hc : o.cls = .type "dict") {es} {n} (hd : o.data = .dict es n) (b : Str) (u : Tok) (hu : A.units < cLine) : EqAt A s (.str b u) (.ref a) false := fun prog w E Q h => by
  unfold eqBool
  refine wpAny_holding ?_
  refine wpAny_ite_split (fun hab => absurd (eq_of_beq hab) nofun) (fun _ => ?_)
  exact wpAny_bind (rc_str_dict ho hc hd b u hu prog w E _ (wpAny_truthy_bool h))
end
end RE
namespace RE
open PySem PySem.Spec PyProof.Rows L2
/-- a value of these kinds: flat, a list, a tuple, a dict -/
inductive OdV (K : PySem.W.Frag) (H : Hp) : V → Prop
  | flat {v : V} : flatV v = true → OdV K H v
  | lst {p : Addr} {xs : List V} : SqL K H p xs → OdV K H (.ref p)
  | tup {p : Addr} {xs : List V} : SqT K H p xs → OdV K H (.ref p)
  | dic {p : Addr} {kvs : List (Key × V)} : H p = some (.dK kvs) → OdV K H (.ref p)
def isT (z : Str) : V → Bool
  | .str x => x == z
  | _ => false
theorem isT_dec (z : Str) (v : V) : decide (v = .str z) = isT z v := by
  cases v with
  | str x =>
    show _ = (x == z)
    rw [Bool.eq_iff_iff]
    simp
  | _ => exact decide_eq_false (fun e => nomatch e)
section
variable {X : Cx}
/-- v == text -/
def rOdEq (K : PySem.W.Frag) : R2 := fun x y H Q => ∃ z, y = .str z ∧ OdV K H x ∧ Q (.bl (isT z x)) H
def rOdNe (K : PySem.W.Frag) : R2 := fun x y H Q => ∃ z, y = .str z ∧ OdV K H x ∧ Q (.bl (!isT z x)) H
theorem op_odEq (hu : X.A.units < cLine) : OpR X (compareOp .Eq) (rOdEq X.K) := by
  intro pins s σ H x y v u Q I rx ry h
  obtain ⟨z, rfl, ho, q⟩ := h
  have ryr := ry
  obtain ⟨t, rfl⟩ := ry
  cases ho with
  | flat f =>
    have q2 := q
    rw [← isT_dec] at q2
    refine op_eq pins s σ H x (.str z) v (.str z t) Q I rx ryr ⟨?_, q2⟩
    cases x <;> first | rfl | exact absurd (show false = true from f) Bool.false_ne_true
  | lst hl =>
    cases rx
    obtain ⟨its, rv, pl, hz⟩ := I.list hl
    exact SeqAt.RcAt.list_str z t pl.isList hu X.prog X.w _ _ ⟨.bl false, H, I, rfl, q⟩
  | tup hl =>
    cases rx
    obtain ⟨its, rv, pl, hz⟩ := I.tuple hl
    exact SeqAt.RcAt.tuple_str z t pl hu X.prog X.w _ _ ⟨.bl false, H, I, rfl, q⟩
  | dic e =>
    cases rx
    obtain ⟨_, hs, vs, kv, o, es, ep, h1, h2, h3, _, hp, _⟩ := (show ObjOk X.prog X.w H s.heap _ (.dK _) from I.hok _ _ e)
    exact rc_dict_str h1 h2.1 h3 z t hu X.prog X.w _ _ ⟨.bl false, H, I, rfl, q⟩
theorem op_odNe (hu : X.A.units < cLine) : OpR X (compareOp .NotEq) (rOdNe X.K) := by
  intro pins s σ H x y v u Q I rx ry h
  obtain ⟨z, rfl, ho, q⟩ := h
  have ryr := ry
  obtain ⟨t, rfl⟩ := ry
  cases ho with
  | flat f =>
    have q2 := q
    rw [← isT_dec] at q2
    refine op_ne pins s σ H x (.str z) v (.str z t) Q I rx ryr ⟨?_, q2⟩
    cases x <;> first | rfl | exact absurd (show false = true from f) Bool.false_ne_true
  | lst hl =>
    cases rx
    obtain ⟨its, rv, pl, hz⟩ := I.list hl
    exact SeqAt.RcNeAt.list_str z t pl.isList hu X.prog X.w _ _ ⟨.bl true, H, I, rfl, q⟩
  | tup hl =>
    cases rx
    obtain ⟨its, rv, pl, hz⟩ := I.tuple hl
    exact SeqAt.RcNeAt.tuple_str z t pl hu X.prog X.w _ _ ⟨.bl true, H, I, rfl, q⟩
  | dic e =>
    cases rx
    obtain ⟨_, hs, vs, kv, o, es, ep, h1, h2, h3, _, hp, _⟩ := (show ObjOk X.prog X.w H s.heap _ (.dK _) from I.hok _ _ e)
    exact rn_dict_str h1 h2.1 h3 z t hu X.prog X.w _ _ ⟨.bl true, H, I, rfl, q⟩
/-! ### v in a tuple or list of texts -/
def inT (x : V) (zs : List Str) : Bool := zs.any fun z => isT z x
theorem odEqAt {A : Around} {pins : List (Addr × Obj)} {σ : L2.St} {H : Hp} {s : Shared} (I : Inv X pins σ H s) (hu : A.units < cLine) {x : V} {v : Value} (rx : RelV x v) (ho : OdV X.K H x) (z : Str) (t : Tok) : SeqAt.EqAt A s (.str z t) v (isT z x) := by
  cases ho with
  | flat f =>
    have h := eqAt_V (A := A) (s := s) (y := .str z) (u := .str z t) ⟨t, rfl⟩ rx rfl f
    have e : eqV (.str z) x = isT z x := by
      cases x <;> first | rfl | exact Bool.eq_iff_iff.mpr ⟨fun e => beq_iff_eq.mpr (beq_iff_eq.mp e).symm, fun e => beq_iff_eq.mpr (beq_iff_eq.mp e).symm⟩
    rw [e] at h
    exact h
  | lst hl =>
    cases rx
    obtain ⟨its, rv, pl, hz⟩ := I.list hl
    exact SeqAt.EqAt.str_list z t pl.isList hu
  | tup hl =>
    cases rx
    obtain ⟨its, rv, pl, hz⟩ := I.tuple hl
    exact SeqAt.EqAt.str_tuple z t pl hu
  | dic e =>
    cases rx
    obtain ⟨_, hs, vs, kv, o, es, ep, h1, h2, h3, _, hp, _⟩ := (show ObjOk X.prog X.w H s.heap _ (.dK _) from I.hok _ _ e)
    exact eq_str_dict h1 h2.1 h3 z t hu
def inU (x : V) : Value → Bool
  | .str z _ => isT z x
  | _ => false
theorem any_inU {x : V} : ∀ {zs : List Str} {us : List Value}, Vals (zs.map V.str) us → us.any (inU x) = inT x zs
  | [], _, .nil => rfl
  | z :: zs, _, .cons r t => by
    obtain ⟨tk, rfl⟩ := r
    rw [List.any_cons, any_inU t]
    rfl
theorem mem_inU {A : Around} {pins : List (Addr × Obj)} {σ : L2.St} {H : Hp} {s : Shared} (I : Inv X pins σ H s) (hu : A.units < cLine) {x : V} {v : Value} (rx : RelV x v) (ho : OdV X.K H x) : ∀ {zs : List Str} {us : List Value}, Vals (zs.map V.str) us → ∀ u ∈ us, SeqAt.EqAt A s u v (inU x u)
  | [], _, .nil => fun u hu => by cases hu
  | z :: zs, _, .cons r t => fun u' hm => by
    rcases List.mem_cons.mp hm with rfl | hm
    · obtain ⟨tk, rfl⟩ := r
      exact odEqAt I hu rx ho z tk
    · exact mem_inU I hu rx ho t u' hm
def rOdIn (K : PySem.W.Frag) (neg : Bool) : R2 := fun x y H Q => ∃ p zs, y = .ref p ∧ (SqL K H p (zs.map V.str) ∨ SqT K H p (zs.map V.str)) ∧ OdV K H x ∧ Q (.bl (if neg then !inT x zs else inT x zs)) H
theorem op_odIn (hu : X.A.units + 1 < cLine) : OpR X (compareOp .In) (rOdIn X.K false) := by
  intro pins s σ H x y v u Q I rx ry h
  obtain ⟨p, zs, rfl, hq, ho, q⟩ := h
  cases ry
  have hu1 : X.A.in1.units < cLine := hu
  rcases hq with hq | hq
  · obtain ⟨its, r, pl, hz⟩ := I.list hq
    refine SeqAt.in_listAt (inU x) pl.isList (fun w hw => mem_inU I hu1 rx ho r w (by simpa using hw)) ⟨.bl _, H, I, rfl, ?_⟩
    rw [show its.toArray.any (inU x) = its.any (inU x) by simp, any_inU r]
    exact q
  · obtain ⟨its, r, pl, hz⟩ := I.tuple hq
    refine SeqAt.in_tupleAt (inU x) pl (fun w hw => mem_inU I hu1 rx ho r w (by simpa using hw)) ⟨.bl _, H, I, rfl, ?_⟩
    rw [show its.toArray.any (inU x) = its.any (inU x) by simp, any_inU r]
    exact q
/-- v is True, v is False -/
theorem op_isB : OpR X (compareOp .Is) (fun x y H Q => ∃ b, y = .bl b ∧ OdV X.K H x ∧ Q (.bl (decide (x = .bl b))) H) := by
  intro pins s σ H x y v u Q I rx ry h
  obtain ⟨b, rfl, ho, q⟩ := h
  cases (show u = Value.bool b from ry)
  have no : ∀ {a : Addr}, x = .ref a → EP X pins σ Q (.bool false) s := fun e => ⟨.bl false, H, I, rfl, by rw [decide_eq_false (by rw [e]; exact fun z => nomatch z)] at q; exact q⟩
  cases ho with
  | flat f =>
    cases x with
    | bl c =>
      cases (show v = Value.bool c from rx)
      by_cases e : c = b
      · subst e
        exact wpAny_is_self rfl ⟨.bl true, H, I, rfl, by simpa using q⟩
      · exact wpAny_is_other rfl (fun z => e (Value.bool.inj z)) ⟨.bl false, H, I, rfl, by simpa [e] using q⟩
    | non =>
      cases (show v = Value.none from rx)
      exact wpAny_is_other rfl (fun z => nomatch z) ⟨.bl false, H, I, rfl, q⟩
    | int i =>
      obtain ⟨t, rfl⟩ := rx
      exact wpAny_is_other rfl (fun z => nomatch z) ⟨.bl false, H, I, rfl, q⟩
    | str z =>
      obtain ⟨t, rfl⟩ := rx
      exact wpAny_is_other rfl (fun z => nomatch z) ⟨.bl false, H, I, rfl, q⟩
    | _ => exact absurd (show false = true from f) Bool.false_ne_true
  | lst hl =>
    cases rx
    exact wpAny_is_other rfl (fun z => nomatch z) (no rfl)
  | tup hl =>
    cases rx
    exact wpAny_is_other rfl (fun z => nomatch z) (no rfl)
  | dic e =>
    cases rx
    exact wpAny_is_other rfl (fun z => nomatch z) (no rfl)
end
end RE
namespace K56
open PySem PySem.Spec PyProof.Rows L2
/-! ### the text -/
def topS (i : Nat) : Stmt := PySem.Challenge.pw_rolereach_k56_deeds_as_texts.main.body.getD i (.Pass ⟨0, 0, 0, 0⟩)
abbrev s__wall : Stmt := topS 0
abbrev N__wall : List Str := ["k"]
theorem sc__wall : FnScope N__wall ["k"] (defScope s__wall) := ⟨rfl, rfl, rfl, by decide +kernel, rfl, by decide +kernel, by decide +kernel⟩
abbrev s_InvalidName_init : Stmt := inClass (topS 3) 0
abbrev N_InvalidName_init : List Str := ["self", "value"]
theorem sc_InvalidName_init : FnScope N_InvalidName_init ["self", "value"] (defScope s_InvalidName_init) := ⟨rfl, rfl, rfl, by decide +kernel, rfl, by decide +kernel, by decide +kernel⟩
abbrev s_InvalidTaker_init : Stmt := inClass (topS 4) 0
abbrev N_InvalidTaker_init : List Str := ["self", "value"]
theorem sc_InvalidTaker_init : FnScope N_InvalidTaker_init ["self", "value"] (defScope s_InvalidTaker_init) := ⟨rfl, rfl, rfl, by decide +kernel, rfl, by decide +kernel, by decide +kernel⟩
abbrev s_InvalidRight_init : Stmt := inClass (topS 5) 0
abbrev N_InvalidRight_init : List Str := ["self", "value"]
theorem sc_InvalidRight_init : FnScope N_InvalidRight_init ["self", "value"] (defScope s_InvalidRight_init) := ⟨rfl, rfl, rfl, by decide +kernel, rfl, by decide +kernel, by decide +kernel⟩
abbrev s_InvalidKind_init : Stmt := inClass (topS 6) 0
abbrev N_InvalidKind_init : List Str := ["self", "value"]
theorem sc_InvalidKind_init : FnScope N_InvalidKind_init ["self", "value"] (defScope s_InvalidKind_init) := ⟨rfl, rfl, rfl, by decide +kernel, rfl, by decide +kernel, by decide +kernel⟩
abbrev s_InvalidFlag_init : Stmt := inClass (topS 7) 0
abbrev N_InvalidFlag_init : List Str := ["self", "value"]
theorem sc_InvalidFlag_init : FnScope N_InvalidFlag_init ["self", "value"] (defScope s_InvalidFlag_init) := ⟨rfl, rfl, rfl, by decide +kernel, rfl, by decide +kernel, by decide +kernel⟩
abbrev s_InvalidAudience_init : Stmt := inClass (topS 8) 0
abbrev N_InvalidAudience_init : List Str := ["self", "value"]
theorem sc_InvalidAudience_init : FnScope N_InvalidAudience_init ["self", "value"] (defScope s_InvalidAudience_init) := ⟨rfl, rfl, rfl, by decide +kernel, rfl, by decide +kernel, by decide +kernel⟩
abbrev s_InvalidMode_init : Stmt := inClass (topS 9) 0
abbrev N_InvalidMode_init : List Str := ["self", "value"]
theorem sc_InvalidMode_init : FnScope N_InvalidMode_init ["self", "value"] (defScope s_InvalidMode_init) := ⟨rfl, rfl, rfl, by decide +kernel, rfl, by decide +kernel, by decide +kernel⟩
abbrev s_InvalidBody_init : Stmt := inClass (topS 10) 0
abbrev N_InvalidBody_init : List Str := ["self", "value"]
theorem sc_InvalidBody_init : FnScope N_InvalidBody_init ["self", "value"] (defScope s_InvalidBody_init) := ⟨rfl, rfl, rfl, by decide +kernel, rfl, by decide +kernel, by decide +kernel⟩
abbrev s_InvalidThing_init : Stmt := inClass (topS 11) 0
abbrev N_InvalidThing_init : List Str := ["self", "value"]
theorem sc_InvalidThing_init : FnScope N_InvalidThing_init ["self", "value"] (defScope s_InvalidThing_init) := ⟨rfl, rfl, rfl, by decide +kernel, rfl, by decide +kernel, by decide +kernel⟩
abbrev s_InvalidGrant_init : Stmt := inClass (topS 12) 0
abbrev N_InvalidGrant_init : List Str := ["self", "value"]
theorem sc_InvalidGrant_init : FnScope N_InvalidGrant_init ["self", "value"] (defScope s_InvalidGrant_init) := ⟨rfl, rfl, rfl, by decide +kernel, rfl, by decide +kernel, by decide +kernel⟩
abbrev s_InvalidDefault_init : Stmt := inClass (topS 13) 0
abbrev N_InvalidDefault_init : List Str := ["self", "value"]
theorem sc_InvalidDefault_init : FnScope N_InvalidDefault_init ["self", "value"] (defScope s_InvalidDefault_init) := ⟨rfl, rfl, rfl, by decide +kernel, rfl, by decide +kernel, by decide +kernel⟩
abbrev s_InvalidText_init : Stmt := inClass (topS 14) 0
abbrev N_InvalidText_init : List Str := ["self", "value"]
theorem sc_InvalidText_init : FnScope N_InvalidText_init ["self", "value"] (defScope s_InvalidText_init) := ⟨rfl, rfl, rfl, by decide +kernel, rfl, by decide +kernel, by decide +kernel⟩
abbrev s_is_name : Stmt := topS 22
abbrev N_is_name : List Str := ["value"]
theorem sc_is_name : FnScope N_is_name ["value"] (defScope s_is_name) := ⟨rfl, rfl, rfl, by decide +kernel, rfl, by decide +kernel, by decide +kernel⟩
abbrev s_is_taker : Stmt := topS 23
abbrev N_is_taker : List Str := ["value"]
theorem sc_is_taker : FnScope N_is_taker ["value"] (defScope s_is_taker) := ⟨rfl, rfl, rfl, by decide +kernel, rfl, by decide +kernel, by decide +kernel⟩
abbrev s_is_right : Stmt := topS 24
abbrev N_is_right : List Str := ["value"]
theorem sc_is_right : FnScope N_is_right ["value"] (defScope s_is_right) := ⟨rfl, rfl, rfl, by decide +kernel, rfl, by decide +kernel, by decide +kernel⟩
abbrev s_is_kind : Stmt := topS 25
abbrev N_is_kind : List Str := ["value"]
theorem sc_is_kind : FnScope N_is_kind ["value"] (defScope s_is_kind) := ⟨rfl, rfl, rfl, by decide +kernel, rfl, by decide +kernel, by decide +kernel⟩
abbrev s_is_made_kind : Stmt := topS 26
abbrev N_is_made_kind : List Str := ["value"]
theorem sc_is_made_kind : FnScope N_is_made_kind ["value"] (defScope s_is_made_kind) := ⟨rfl, rfl, rfl, by decide +kernel, rfl, by decide +kernel, by decide +kernel⟩
abbrev s_is_flag : Stmt := topS 27
abbrev N_is_flag : List Str := ["value"]
theorem sc_is_flag : FnScope N_is_flag ["value"] (defScope s_is_flag) := ⟨rfl, rfl, rfl, by decide +kernel, rfl, by decide +kernel, by decide +kernel⟩
abbrev s_is_list : Stmt := topS 28
abbrev N_is_list : List Str := ["value"]
theorem sc_is_list : FnScope N_is_list ["value"] (defScope s_is_list) := ⟨rfl, rfl, rfl, by decide +kernel, rfl, by decide +kernel, by decide +kernel⟩
abbrev s_is_names : Stmt := topS 29
abbrev N_is_names : List Str := ["value", "most", "item"]
theorem sc_is_names : FnScope N_is_names ["value", "most"] (defScope s_is_names) := ⟨rfl, rfl, rfl, by decide +kernel, rfl, by decide +kernel, by decide +kernel⟩
abbrev s_rights_of : Stmt := topS 30
abbrev N_rights_of : List Str := ["kind"]
theorem sc_rights_of : FnScope N_rights_of ["kind"] (defScope s_rights_of) := ⟨rfl, rfl, rfl, by decide +kernel, rfl, by decide +kernel, by decide +kernel⟩
abbrev s_kind_of : Stmt := topS 31
abbrev N_kind_of : List Str := ["right"]
theorem sc_kind_of : FnScope N_kind_of ["right"] (defScope s_kind_of) := ⟨rfl, rfl, rfl, by decide +kernel, rfl, by decide +kernel, by decide +kernel⟩
abbrev s_split_words : Stmt := topS 32
abbrev N_split_words : List Str := ["text", "separator", "words"]
theorem sc_split_words : FnScope N_split_words ["text", "separator"] (defScope s_split_words) := ⟨rfl, rfl, rfl, by decide +kernel, rfl, by decide +kernel, by decide +kernel⟩
abbrev s_check_name : Stmt := topS 34
abbrev N_check_name : List Str := ["value"]
theorem sc_check_name : FnScope N_check_name ["value"] (defScope s_check_name) := ⟨rfl, rfl, rfl, by decide +kernel, rfl, by decide +kernel, by decide +kernel⟩
abbrev s_check_taker : Stmt := topS 35
abbrev N_check_taker : List Str := ["value"]
theorem sc_check_taker : FnScope N_check_taker ["value"] (defScope s_check_taker) := ⟨rfl, rfl, rfl, by decide +kernel, rfl, by decide +kernel, by decide +kernel⟩
abbrev s_check_taker_from : Stmt := topS 36
abbrev N_check_taker_from : List Str := ["giver", "value"]
theorem sc_check_taker_from : FnScope N_check_taker_from ["giver", "value"] (defScope s_check_taker_from) := ⟨rfl, rfl, rfl, by decide +kernel, rfl, by decide +kernel, by decide +kernel⟩
abbrev s_check_right : Stmt := topS 37
abbrev N_check_right : List Str := ["value"]
theorem sc_check_right : FnScope N_check_right ["value"] (defScope s_check_right) := ⟨rfl, rfl, rfl, by decide +kernel, rfl, by decide +kernel, by decide +kernel⟩
abbrev s_check_right_on : Stmt := topS 38
abbrev N_check_right_on : List Str := ["kind", "value"]
theorem sc_check_right_on : FnScope N_check_right_on ["kind", "value"] (defScope s_check_right_on) := ⟨rfl, rfl, rfl, by decide +kernel, rfl, by decide +kernel, by decide +kernel⟩
abbrev s_check_made_kind : Stmt := topS 39
abbrev N_check_made_kind : List Str := ["value"]
theorem sc_check_made_kind : FnScope N_check_made_kind ["value"] (defScope s_check_made_kind) := ⟨rfl, rfl, rfl, by decide +kernel, rfl, by decide +kernel, by decide +kernel⟩
abbrev s_check_flag : Stmt := topS 40
abbrev N_check_flag : List Str := ["value"]
theorem sc_check_flag : FnScope N_check_flag ["value"] (defScope s_check_flag) := ⟨rfl, rfl, rfl, by decide +kernel, rfl, by decide +kernel, by decide +kernel⟩
abbrev s_check_option : Stmt := topS 41
abbrev N_check_option : List Str := ["value", "taker"]
theorem sc_check_option : FnScope N_check_option ["value", "taker"] (defScope s_check_option) := ⟨rfl, rfl, rfl, by decide +kernel, rfl, by decide +kernel, by decide +kernel⟩
abbrev s_Grant_init : Stmt := inClass (topS 43) 0
abbrev N_Grant_init : List Str := ["self", "giver", "taker", "right", "thing", "option"]
theorem sc_Grant_init : FnScope N_Grant_init ["self", "giver", "taker", "right", "thing", "option"] (defScope s_Grant_init) := ⟨rfl, rfl, rfl, by decide +kernel, rfl, by decide +kernel, by decide +kernel⟩
abbrev s_Grant_covers : Stmt := inClass (topS 43) 1
abbrev N_Grant_covers : List Str := ["self", "other"]
theorem sc_Grant_covers : FnScope N_Grant_covers ["self", "other"] (defScope s_Grant_covers) := ⟨rfl, rfl, rfl, by decide +kernel, rfl, by decide +kernel, by decide +kernel⟩
abbrev s_Grant_with_option : Stmt := inClass (topS 43) 2
abbrev N_Grant_with_option : List Str := ["self", "option"]
theorem sc_Grant_with_option : FnScope N_Grant_with_option ["self", "option"] (defScope s_Grant_with_option) := ⟨rfl, rfl, rfl, by decide +kernel, rfl, by decide +kernel, by decide +kernel⟩
abbrev s_Grant_key : Stmt := inClass (topS 43) 3
abbrev N_Grant_key : List Str := ["self"]
theorem sc_Grant_key : FnScope N_Grant_key ["self"] (defScope s_Grant_key) := ⟨rfl, rfl, rfl, by decide +kernel, rfl, by decide +kernel, by decide +kernel⟩
abbrev s_Grant_eq : Stmt := inClass (topS 43) 4
abbrev N_Grant_eq : List Str := ["self", "other"]
theorem sc_Grant_eq : FnScope N_Grant_eq ["self", "other"] (defScope s_Grant_eq) := ⟨rfl, rfl, rfl, by decide +kernel, rfl, by decide +kernel, by decide +kernel⟩
abbrev s_Grant_lt : Stmt := inClass (topS 43) 5
abbrev N_Grant_lt : List Str := ["self", "other"]
theorem sc_Grant_lt : FnScope N_Grant_lt ["self", "other"] (defScope s_Grant_lt) := ⟨rfl, rfl, rfl, by decide +kernel, rfl, by decide +kernel, by decide +kernel⟩
abbrev s_Grant_le : Stmt := inClass (topS 43) 6
abbrev N_Grant_le : List Str := ["self", "other"]
theorem sc_Grant_le : FnScope N_Grant_le ["self", "other"] (defScope s_Grant_le) := ⟨rfl, rfl, rfl, by decide +kernel, rfl, by decide +kernel, by decide +kernel⟩
abbrev s_Grant_gt : Stmt := inClass (topS 43) 7
abbrev N_Grant_gt : List Str := ["self", "other"]
theorem sc_Grant_gt : FnScope N_Grant_gt ["self", "other"] (defScope s_Grant_gt) := ⟨rfl, rfl, rfl, by decide +kernel, rfl, by decide +kernel, by decide +kernel⟩
abbrev s_Grant_ge : Stmt := inClass (topS 43) 8
abbrev N_Grant_ge : List Str := ["self", "other"]
theorem sc_Grant_ge : FnScope N_Grant_ge ["self", "other"] (defScope s_Grant_ge) := ⟨rfl, rfl, rfl, by decide +kernel, rfl, by decide +kernel, by decide +kernel⟩
abbrev s_Default_init : Stmt := inClass (topS 44) 0
abbrev N_Default_init : List Str := ["self", "maker", "kind", "right", "taker", "option"]
theorem sc_Default_init : FnScope N_Default_init ["self", "maker", "kind", "right", "taker", "option"] (defScope s_Default_init) := ⟨rfl, rfl, rfl, by decide +kernel, rfl, by decide +kernel, by decide +kernel⟩
abbrev s_Default_grant_on : Stmt := inClass (topS 44) 1
abbrev N_Default_grant_on : List Str := ["self", "thing"]
theorem sc_Default_grant_on : FnScope N_Default_grant_on ["self", "thing"] (defScope s_Default_grant_on) := ⟨rfl, rfl, rfl, by decide +kernel, rfl, by decide +kernel, by decide +kernel⟩
abbrev s_Default_key : Stmt := inClass (topS 44) 2
abbrev N_Default_key : List Str := ["self"]
theorem sc_Default_key : FnScope N_Default_key ["self"] (defScope s_Default_key) := ⟨rfl, rfl, rfl, by decide +kernel, rfl, by decide +kernel, by decide +kernel⟩
abbrev s_Default_eq : Stmt := inClass (topS 44) 3
abbrev N_Default_eq : List Str := ["self", "other"]
theorem sc_Default_eq : FnScope N_Default_eq ["self", "other"] (defScope s_Default_eq) := ⟨rfl, rfl, rfl, by decide +kernel, rfl, by decide +kernel, by decide +kernel⟩
abbrev s_Default_lt : Stmt := inClass (topS 44) 4
abbrev N_Default_lt : List Str := ["self", "other"]
theorem sc_Default_lt : FnScope N_Default_lt ["self", "other"] (defScope s_Default_lt) := ⟨rfl, rfl, rfl, by decide +kernel, rfl, by decide +kernel, by decide +kernel⟩
abbrev s_Default_le : Stmt := inClass (topS 44) 5
abbrev N_Default_le : List Str := ["self", "other"]
theorem sc_Default_le : FnScope N_Default_le ["self", "other"] (defScope s_Default_le) := ⟨rfl, rfl, rfl, by decide +kernel, rfl, by decide +kernel, by decide +kernel⟩
abbrev s_Default_gt : Stmt := inClass (topS 44) 6
abbrev N_Default_gt : List Str := ["self", "other"]
theorem sc_Default_gt : FnScope N_Default_gt ["self", "other"] (defScope s_Default_gt) := ⟨rfl, rfl, rfl, by decide +kernel, rfl, by decide +kernel, by decide +kernel⟩
abbrev s_Default_ge : Stmt := inClass (topS 44) 7
abbrev N_Default_ge : List Str := ["self", "other"]
theorem sc_Default_ge : FnScope N_Default_ge ["self", "other"] (defScope s_Default_ge) := ⟨rfl, rfl, rfl, by decide +kernel, rfl, by decide +kernel, by decide +kernel⟩
abbrev s_check_is_grant : Stmt := topS 45
abbrev N_check_is_grant : List Str := ["value"]
theorem sc_check_is_grant : FnScope N_check_is_grant ["value"] (defScope s_check_is_grant) := ⟨rfl, rfl, rfl, by decide +kernel, rfl, by decide +kernel, by decide +kernel⟩
abbrev s_check_is_default : Stmt := topS 46
abbrev N_check_is_default : List Str := ["value"]
theorem sc_check_is_default : FnScope N_check_is_default ["value"] (defScope s_check_is_default) := ⟨rfl, rfl, rfl, by decide +kernel, rfl, by decide +kernel, by decide +kernel⟩
abbrev s_Give_init : Stmt := inClass (topS 52) 0
abbrev N_Give_init : List Str := ["self", "right", "thing", "taker", "option"]
theorem sc_Give_init : FnScope N_Give_init ["self", "right", "thing", "taker", "option"] (defScope s_Give_init) := ⟨rfl, rfl, rfl, by decide +kernel, rfl, by decide +kernel, by decide +kernel⟩
abbrev s_Give_eq : Stmt := inClass (topS 52) 1
abbrev N_Give_eq : List Str := ["self", "other"]
theorem sc_Give_eq : FnScope N_Give_eq ["self", "other"] (defScope s_Give_eq) := ⟨rfl, rfl, rfl, by decide +kernel, rfl, by decide +kernel, by decide +kernel⟩
abbrev s_Give_str : Stmt := inClass (topS 52) 2
abbrev N_Give_str : List Str := ["self", "words"]
theorem sc_Give_str : FnScope N_Give_str ["self"] (defScope s_Give_str) := ⟨rfl, rfl, rfl, by decide +kernel, rfl, by decide +kernel, by decide +kernel⟩
abbrev s_Take_init : Stmt := inClass (topS 53) 0
abbrev N_Take_init : List Str := ["self", "right", "thing", "taker", "giver", "only_option", "cascade"]
theorem sc_Take_init : FnScope N_Take_init ["self", "right", "thing", "taker", "giver", "only_option", "cascade"] (defScope s_Take_init) := ⟨rfl, rfl, rfl, by decide +kernel, rfl, by decide +kernel, by decide +kernel⟩
abbrev s_Take_eq : Stmt := inClass (topS 53) 1
abbrev N_Take_eq : List Str := ["self", "other"]
theorem sc_Take_eq : FnScope N_Take_eq ["self", "other"] (defScope s_Take_eq) := ⟨rfl, rfl, rfl, by decide +kernel, rfl, by decide +kernel, by decide +kernel⟩
abbrev s_Take_str : Stmt := inClass (topS 53) 2
abbrev N_Take_str : List Str := ["self", "words"]
theorem sc_Take_str : FnScope N_Take_str ["self"] (defScope s_Take_str) := ⟨rfl, rfl, rfl, by decide +kernel, rfl, by decide +kernel, by decide +kernel⟩
abbrev s_Call_init : Stmt := inClass (topS 54) 0
abbrev N_Call_init : List Str := ["self", "function"]
theorem sc_Call_init : FnScope N_Call_init ["self", "function"] (defScope s_Call_init) := ⟨rfl, rfl, rfl, by decide +kernel, rfl, by decide +kernel, by decide +kernel⟩
abbrev s_Call_eq : Stmt := inClass (topS 54) 1
abbrev N_Call_eq : List Str := ["self", "other"]
theorem sc_Call_eq : FnScope N_Call_eq ["self", "other"] (defScope s_Call_eq) := ⟨rfl, rfl, rfl, by decide +kernel, rfl, by decide +kernel, by decide +kernel⟩
abbrev s_Call_str : Stmt := inClass (topS 54) 2
abbrev N_Call_str : List Str := ["self"]
theorem sc_Call_str : FnScope N_Call_str ["self"] (defScope s_Call_str) := ⟨rfl, rfl, rfl, by decide +kernel, rfl, by decide +kernel, by decide +kernel⟩
abbrev s_Preset_init : Stmt := inClass (topS 55) 0
abbrev N_Preset_init : List Str := ["self", "kind", "right", "taker", "option"]
theorem sc_Preset_init : FnScope N_Preset_init ["self", "kind", "right", "taker", "option"] (defScope s_Preset_init) := ⟨rfl, rfl, rfl, by decide +kernel, rfl, by decide +kernel, by decide +kernel⟩
abbrev s_Preset_eq : Stmt := inClass (topS 55) 1
abbrev N_Preset_eq : List Str := ["self", "other"]
theorem sc_Preset_eq : FnScope N_Preset_eq ["self", "other"] (defScope s_Preset_eq) := ⟨rfl, rfl, rfl, by decide +kernel, rfl, by decide +kernel, by decide +kernel⟩
abbrev s_Preset_str : Stmt := inClass (topS 55) 2
abbrev N_Preset_str : List Str := ["self", "words"]
theorem sc_Preset_str : FnScope N_Preset_str ["self"] (defScope s_Preset_str) := ⟨rfl, rfl, rfl, by decide +kernel, rfl, by decide +kernel, by decide +kernel⟩
abbrev s_Use_init : Stmt := inClass (topS 56) 0
abbrev N_Use_init : List Str := ["self", "right", "thing"]
theorem sc_Use_init : FnScope N_Use_init ["self", "right", "thing"] (defScope s_Use_init) := ⟨rfl, rfl, rfl, by decide +kernel, rfl, by decide +kernel, by decide +kernel⟩
abbrev s_Use_eq : Stmt := inClass (topS 56) 1
abbrev N_Use_eq : List Str := ["self", "other"]
theorem sc_Use_eq : FnScope N_Use_eq ["self", "other"] (defScope s_Use_eq) := ⟨rfl, rfl, rfl, by decide +kernel, rfl, by decide +kernel, by decide +kernel⟩
abbrev s_Use_str : Stmt := inClass (topS 56) 2
abbrev N_Use_str : List Str := ["self"]
theorem sc_Use_str : FnScope N_Use_str ["self"] (defScope s_Use_str) := ⟨rfl, rfl, rfl, by decide +kernel, rfl, by decide +kernel, by decide +kernel⟩
abbrev s_Thing_init : Stmt := inClass (topS 57) 0
abbrev N_Thing_init : List Str := ["self", "kind", "name", "owner", "audience", "admitted"]
theorem sc_Thing_init : FnScope N_Thing_init ["self", "kind", "name", "owner", "audience"] (defScope s_Thing_init) := ⟨rfl, rfl, rfl, by decide +kernel, rfl, by decide +kernel, by decide +kernel⟩
abbrev s_Thing_audience : Stmt := inClass (topS 57) 1
abbrev N_Thing_audience : List Str := ["self"]
theorem sc_Thing_audience : FnScope N_Thing_audience ["self"] (defScope s_Thing_audience) := ⟨rfl, rfl, rfl, by decide +kernel, rfl, by decide +kernel, by decide +kernel⟩
abbrev s_Thing_rights : Stmt := inClass (topS 57) 2
abbrev N_Thing_rights : List Str := ["self"]
theorem sc_Thing_rights : FnScope N_Thing_rights ["self"] (defScope s_Thing_rights) := ⟨rfl, rfl, rfl, by decide +kernel, rfl, by decide +kernel, by decide +kernel⟩
abbrev s_Thing_admits : Stmt := inClass (topS 57) 3
abbrev N_Thing_admits : List Str := ["self", "taker"]
theorem sc_Thing_admits : FnScope N_Thing_admits ["self", "taker"] (defScope s_Thing_admits) := ⟨rfl, rfl, rfl, by decide +kernel, rfl, by decide +kernel, by decide +kernel⟩
abbrev s_Thing_same_head : Stmt := inClass (topS 57) 4
abbrev N_Thing_same_head : List Str := ["self", "other"]
theorem sc_Thing_same_head : FnScope N_Thing_same_head ["self", "other"] (defScope s_Thing_same_head) := ⟨rfl, rfl, rfl, by decide +kernel, rfl, by decide +kernel, by decide +kernel⟩
abbrev s_Thing_audience_words : Stmt := inClass (topS 57) 5
abbrev N_Thing_audience_words : List Str := ["self"]
theorem sc_Thing_audience_words : FnScope N_Thing_audience_words ["self"] (defScope s_Thing_audience_words) := ⟨rfl, rfl, rfl, by decide +kernel, rfl, by decide +kernel, by decide +kernel⟩
abbrev s_Thing_eq : Stmt := inClass (topS 57) 6
abbrev N_Thing_eq : List Str := ["self", "other"]
theorem sc_Thing_eq : FnScope N_Thing_eq ["self", "other"] (defScope s_Thing_eq) := ⟨rfl, rfl, rfl, by decide +kernel, rfl, by decide +kernel, by decide +kernel⟩
abbrev s_Thing_str : Stmt := inClass (topS 57) 7
abbrev N_Thing_str : List Str := ["self", "words"]
theorem sc_Thing_str : FnScope N_Thing_str ["self"] (defScope s_Thing_str) := ⟨rfl, rfl, rfl, by decide +kernel, rfl, by decide +kernel, by decide +kernel⟩
abbrev s_Role_init : Stmt := inClass (topS 58) 0
abbrev N_Role_init : List Str := ["self", "name", "owner", "audience"]
theorem sc_Role_init : FnScope N_Role_init ["self", "name", "owner", "audience"] (defScope s_Role_init) := ⟨rfl, rfl, rfl, by decide +kernel, rfl, by decide +kernel, by decide +kernel⟩
abbrev s_Role_rights : Stmt := inClass (topS 58) 1
abbrev N_Role_rights : List Str := ["self"]
abbrev s_Role_admits : Stmt := inClass (topS 58) 2
abbrev N_Role_admits : List Str := ["self", "taker"]
abbrev s_Role_eq : Stmt := inClass (topS 58) 3
abbrev N_Role_eq : List Str := ["self", "other"]
theorem sc_Role_eq : FnScope N_Role_eq ["self", "other"] (defScope s_Role_eq) := ⟨rfl, rfl, rfl, by decide +kernel, rfl, by decide +kernel, by decide +kernel⟩
abbrev s_Table_init : Stmt := inClass (topS 59) 0
abbrev N_Table_init : List Str := ["self", "name", "owner", "audience"]
theorem sc_Table_init : FnScope N_Table_init ["self", "name", "owner", "audience"] (defScope s_Table_init) := ⟨rfl, rfl, rfl, by decide +kernel, rfl, by decide +kernel, by decide +kernel⟩
abbrev s_Table_rights : Stmt := inClass (topS 59) 1
abbrev N_Table_rights : List Str := ["self"]
abbrev s_Table_admits : Stmt := inClass (topS 59) 2
abbrev N_Table_admits : List Str := ["self", "taker"]
abbrev s_Table_eq : Stmt := inClass (topS 59) 3
abbrev N_Table_eq : List Str := ["self", "other"]
theorem sc_Table_eq : FnScope N_Table_eq ["self", "other"] (defScope s_Table_eq) := ⟨rfl, rfl, rfl, by decide +kernel, rfl, by decide +kernel, by decide +kernel⟩
abbrev s_Function_init : Stmt := inClass (topS 60) 0
abbrev N_Function_init : List Str := ["self", "name", "owner", "audience", "mode", "body"]
theorem sc_Function_init : FnScope N_Function_init ["self", "name", "owner", "audience", "mode", "body"] (defScope s_Function_init) := ⟨rfl, rfl, rfl, by decide +kernel, rfl, by decide +kernel, by decide +kernel⟩
abbrev s_Function_rights : Stmt := inClass (topS 60) 1
abbrev N_Function_rights : List Str := ["self"]
abbrev s_Function_admits : Stmt := inClass (topS 60) 2
abbrev N_Function_admits : List Str := ["self", "taker"]
abbrev s_Function_body : Stmt := inClass (topS 60) 3
abbrev N_Function_body : List Str := ["self"]
theorem sc_Function_body : FnScope N_Function_body ["self"] (defScope s_Function_body) := ⟨rfl, rfl, rfl, by decide +kernel, rfl, by decide +kernel, by decide +kernel⟩
abbrev s_Function_len : Stmt := inClass (topS 60) 4
abbrev N_Function_len : List Str := ["self"]
theorem sc_Function_len : FnScope N_Function_len ["self"] (defScope s_Function_len) := ⟨rfl, rfl, rfl, by decide +kernel, rfl, by decide +kernel, by decide +kernel⟩
abbrev s_Function_eq : Stmt := inClass (topS 60) 5
abbrev N_Function_eq : List Str := ["self", "other"]
theorem sc_Function_eq : FnScope N_Function_eq ["self", "other"] (defScope s_Function_eq) := ⟨rfl, rfl, rfl, by decide +kernel, rfl, by decide +kernel, by decide +kernel⟩
abbrev s_Function_str : Stmt := inClass (topS 60) 6
abbrev N_Function_str : List Str := ["self", "words", "deed"]
theorem sc_Function_str : FnScope N_Function_str ["self"] (defScope s_Function_str) := ⟨rfl, rfl, rfl, by decide +kernel, rfl, by decide +kernel, by decide +kernel⟩
abbrev s_Make_init : Stmt := inClass (topS 61) 0
abbrev N_Make_init : List Str := ["self", "thing"]
theorem sc_Make_init : FnScope N_Make_init ["self", "thing"] (defScope s_Make_init) := ⟨rfl, rfl, rfl, by decide +kernel, rfl, by decide +kernel, by decide +kernel⟩
abbrev s_Make_eq : Stmt := inClass (topS 61) 1
abbrev N_Make_eq : List Str := ["self", "other"]
theorem sc_Make_eq : FnScope N_Make_eq ["self", "other"] (defScope s_Make_eq) := ⟨rfl, rfl, rfl, by decide +kernel, rfl, by decide +kernel, by decide +kernel⟩
abbrev s_Make_str : Stmt := inClass (topS 61) 2
abbrev N_Make_str : List Str := ["self"]
theorem sc_Make_str : FnScope N_Make_str ["self"] (defScope s_Make_str) := ⟨rfl, rfl, rfl, by decide +kernel, rfl, by decide +kernel, by decide +kernel⟩
abbrev s_is_body : Stmt := topS 62
abbrev N_is_body : List Str := ["value", "deed"]
theorem sc_is_body : FnScope N_is_body ["value"] (defScope s_is_body) := ⟨rfl, rfl, rfl, by decide +kernel, rfl, by decide +kernel, by decide +kernel⟩
abbrev s_behind_first : Stmt := topS 64
abbrev N_behind_first : List Str := ["words", "count"]
theorem sc_behind_first : FnScope N_behind_first ["words", "count"] (defScope s_behind_first) := ⟨rfl, rfl, rfl, by decide +kernel, rfl, by decide +kernel, by decide +kernel⟩
abbrev s_give_of : Stmt := topS 65
abbrev N_give_of : List Str := ["words", "right", "thing", "taker"]
theorem sc_give_of : FnScope N_give_of ["words"] (defScope s_give_of) := ⟨rfl, rfl, rfl, by decide +kernel, rfl, by decide +kernel, by decide +kernel⟩
abbrev s_take_of : Stmt := topS 66
abbrev N_take_of : List Str := ["words", "right", "thing", "taker", "rest", "giver"]
theorem sc_take_of : FnScope N_take_of ["words"] (defScope s_take_of) := ⟨rfl, rfl, rfl, by decide +kernel, rfl, by decide +kernel, by decide +kernel⟩
abbrev s_call_of : Stmt := topS 67
abbrev N_call_of : List Str := ["words"]
theorem sc_call_of : FnScope N_call_of ["words"] (defScope s_call_of) := ⟨rfl, rfl, rfl, by decide +kernel, rfl, by decide +kernel, by decide +kernel⟩
abbrev s_preset_of : Stmt := topS 68
abbrev N_preset_of : List Str := ["words", "kind", "right", "taker"]
theorem sc_preset_of : FnScope N_preset_of ["words"] (defScope s_preset_of) := ⟨rfl, rfl, rfl, by decide +kernel, rfl, by decide +kernel, by decide +kernel⟩
abbrev s_use_of : Stmt := topS 69
abbrev N_use_of : List Str := ["words", "right", "thing"]
theorem sc_use_of : FnScope N_use_of ["words"] (defScope s_use_of) := ⟨rfl, rfl, rfl, by decide +kernel, rfl, by decide +kernel, by decide +kernel⟩
abbrev s_make_of : Stmt := topS 70
abbrev N_make_of : List Str := ["words"]
theorem sc_make_of : FnScope N_make_of ["words"] (defScope s_make_of) := ⟨rfl, rfl, rfl, by decide +kernel, rfl, by decide +kernel, by decide +kernel⟩
abbrev s_role_of : Stmt := topS 71
abbrev N_role_of : List Str := ["words", "name", "owner"]
theorem sc_role_of : FnScope N_role_of ["words"] (defScope s_role_of) := ⟨rfl, rfl, rfl, by decide +kernel, rfl, by decide +kernel, by decide +kernel⟩
abbrev s_table_of : Stmt := topS 72
abbrev N_table_of : List Str := ["words", "name", "owner"]
theorem sc_table_of : FnScope N_table_of ["words"] (defScope s_table_of) := ⟨rfl, rfl, rfl, by decide +kernel, rfl, by decide +kernel, by decide +kernel⟩
abbrev s_function_of : Stmt := topS 73
abbrev N_function_of : List Str := ["words", "head", "name", "owner", "mode", "body", "part"]
theorem sc_function_of : FnScope N_function_of ["words"] (defScope s_function_of) := ⟨rfl, rfl, rfl, by decide +kernel, rfl, by decide +kernel, by decide +kernel⟩
abbrev s_grant_of : Stmt := topS 74
abbrev N_grant_of : List Str := ["words", "giver", "taker", "right", "thing"]
theorem sc_grant_of : FnScope N_grant_of ["words"] (defScope s_grant_of) := ⟨rfl, rfl, rfl, by decide +kernel, rfl, by decide +kernel, by decide +kernel⟩
abbrev s_default_of : Stmt := topS 75
abbrev N_default_of : List Str := ["words", "maker", "kind", "right", "taker"]
theorem sc_default_of : FnScope N_default_of ["words"] (defScope s_default_of) := ⟨rfl, rfl, rfl, by decide +kernel, rfl, by decide +kernel, by decide +kernel⟩
abbrev s_audience_in : Stmt := topS 76
abbrev N_audience_in : List Str := ["words"]
theorem sc_audience_in : FnScope N_audience_in ["words"] (defScope s_audience_in) := ⟨rfl, rfl, rfl, by decide +kernel, rfl, by decide +kernel, by decide +kernel⟩
abbrev s_parts_of : Stmt := topS 77
abbrev N_parts_of : List Str := ["words", "parts", "word"]
theorem sc_parts_of : FnScope N_parts_of ["words"] (defScope s_parts_of) := ⟨rfl, rfl, rfl, by decide +kernel, rfl, by decide +kernel, by decide +kernel⟩
abbrev s_read_from : Stmt := topS 80
abbrev N_read_from : List Str := ["words", "allowed", "reader"]
theorem sc_read_from : FnScope N_read_from ["words", "allowed"] (defScope s_read_from) := ⟨rfl, rfl, rfl, by decide +kernel, rfl, by decide +kernel, by decide +kernel⟩
abbrev s_read_text : Stmt := topS 81
abbrev N_read_text : List Str := ["text", "allowed", "words", "found"]
theorem sc_read_text : FnScope N_read_text ["text", "allowed"] (defScope s_read_text) := ⟨rfl, rfl, rfl, by decide +kernel, rfl, by decide +kernel, by decide +kernel⟩
abbrev s_text_of : Stmt := topS 82
abbrev N_text_of : List Str := ["item"]
theorem sc_text_of : FnScope N_text_of ["item"] (defScope s_text_of) := ⟨rfl, rfl, rfl, by decide +kernel, rfl, by decide +kernel, by decide +kernel⟩
abbrev s_option_words : Stmt := topS 83
abbrev N_option_words : List Str := ["item"]
theorem sc_option_words : FnScope N_option_words ["item"] (defScope s_option_words) := ⟨rfl, rfl, rfl, by decide +kernel, rfl, by decide +kernel, by decide +kernel⟩
abbrev s_read_deed : Stmt := topS 84
abbrev N_read_deed : List Str := ["text", "deed"]
theorem sc_read_deed : FnScope N_read_deed ["text"] (defScope s_read_deed) := ⟨rfl, rfl, rfl, by decide +kernel, rfl, by decide +kernel, by decide +kernel⟩
abbrev s__law_cell : Stmt := topS 86
abbrev N__law_cell : List Str := ["_law_script", "_law_k"]
theorem sc__law_cell : FnScope N__law_cell ["_law_script", "_law_k"] (defScope s__law_cell) := ⟨rfl, rfl, rfl, by decide +kernel, rfl, by decide +kernel, by decide +kernel⟩
abbrev s__law_box : Stmt := topS 87
abbrev N__law_box : List Str := ["_law_cell_here"]
theorem sc__law_box : FnScope N__law_box ["_law_cell_here"] (defScope s__law_box) := ⟨rfl, rfl, rfl, by decide +kernel, rfl, by decide +kernel, by decide +kernel⟩
abbrev s__law_take : Stmt := topS 88
abbrev N__law_take : List Str := ["_law_box_here", "_law_many", "_law_digit", "_law_number"]
theorem sc__law_take : FnScope N__law_take ["_law_box_here", "_law_many"] (defScope s__law_take) := ⟨rfl, rfl, rfl, by decide +kernel, rfl, by decide +kernel, by decide +kernel⟩
abbrev s__law_mixed : Stmt := topS 89
abbrev N__law_mixed : List Str := ["_law_box_here", "_law_some", "_law_left", "_law_k"]
theorem sc__law_mixed : FnScope N__law_mixed ["_law_box_here", "_law_some"] (defScope s__law_mixed) := ⟨rfl, rfl, rfl, by decide +kernel, rfl, by decide +kernel, by decide +kernel⟩
abbrev s__law_names : Stmt := topS 90
abbrev N__law_names : List Str := ["_law_box_here", "_law_many", "_law_words", "_law_way", "_law_first", "_law_letters", "_law_base", "_law_size", "_law_k"]
theorem sc__law_names : FnScope N__law_names ["_law_box_here", "_law_many"] (defScope s__law_names) := ⟨rfl, rfl, rfl, by decide +kernel, rfl, by decide +kernel, by decide +kernel⟩
abbrev s__law_deed : Stmt := topS 91
abbrev N__law_deed : List Str := ["_law_box_here", "_law_names_here", "_law_way", "_law_flag", "_law_r", "_law_n", "_law_t", "_law_ends", "_law_sort"]
theorem sc__law_deed : FnScope N__law_deed ["_law_box_here", "_law_names_here"] (defScope s__law_deed) := ⟨rfl, rfl, rfl, by decide +kernel, rfl, by decide +kernel, by decide +kernel⟩
abbrev s__law_thing : Stmt := topS 92
abbrev N__law_thing : List Str := ["_law_box_here", "_law_names_here", "_law_way", "_law_found", "_law_some", "_law_k", "_law_name"]
theorem sc__law_thing : FnScope N__law_thing ["_law_box_here", "_law_names_here", "_law_way"] (defScope s__law_thing) := ⟨rfl, rfl, rfl, by decide +kernel, rfl, by decide +kernel, by decide +kernel⟩
abbrev s__law_body_deed : Stmt := topS 93
abbrev N__law_body_deed : List Str := ["_law_box_here", "_law_names_here", "_law_r", "_law_n", "_law_t"]
theorem sc__law_body_deed : FnScope N__law_body_deed ["_law_box_here", "_law_names_here"] (defScope s__law_body_deed) := ⟨rfl, rfl, rfl, by decide +kernel, rfl, by decide +kernel, by decide +kernel⟩
abbrev s__law_made_deed : Stmt := topS 94
abbrev N__law_made_deed : List Str := ["_law_words", "_law_last", "_law_by", "_law_ends"]
theorem sc__law_made_deed : FnScope N__law_made_deed ["_law_words"] (defScope s__law_made_deed) := ⟨rfl, rfl, rfl, by decide +kernel, rfl, by decide +kernel, by decide +kernel⟩
abbrev s__law_made_thing : Stmt := topS 95
abbrev N__law_made_thing : List Str := ["_law_words", "_law_size", "_law_head", "_law_heard", "_law_parts", "_law_part"]
theorem sc__law_made_thing : FnScope N__law_made_thing ["_law_words"] (defScope s__law_made_thing) := ⟨rfl, rfl, rfl, by decide +kernel, rfl, by decide +kernel, by decide +kernel⟩
abbrev s__law_class : Stmt := topS 96
abbrev N__law_class : List Str := ["_law_deed_here", "_law_found"]
theorem sc__law_class : FnScope N__law_class ["_law_deed_here"] (defScope s__law_class) := ⟨rfl, rfl, rfl, by decide +kernel, rfl, by decide +kernel, by decide +kernel⟩
abbrev s__law_right : Stmt := topS 97
abbrev N__law_right : List Str := ["_law_words", "_law_deed_here", "_law_text", "_law_turn", "_law_found"]
theorem sc__law_right : FnScope N__law_right ["_law_words"] (defScope s__law_right) := ⟨rfl, rfl, rfl, by decide +kernel, rfl, by decide +kernel, by decide +kernel⟩
abbrev s_law : Stmt := topS 98
abbrev N_law : List Str := ["_law_script", "_law_k", "_law_box_here", "_law_names_here", "_law_some", "_law_deeds", "_law_deed_here", "_law_turn", "_law_words", "_law_one"]
theorem sc_law : FnScope N_law ["_law_script"] (defScope s_law) := ⟨rfl, rfl, rfl, by decide +kernel, rfl, by decide +kernel, by decide +kernel⟩
end K56
set_option maxHeartbeats 2000000
/-! a head's facts by a Hook over a written list of addresses: defs anywhere, facts by names, one more list of truths -/
namespace HX
open PySem PySem.Spec PyProof.Rows L2
abbrev Fr : Type := PySem.W.Frag
/-- a def, where it stands as a function of what is looked at -/
structure Dq where
  place : Fr → Addr
  nm : Str
  qu : Str
  ar : Arguments
  bo : List Stmt
  so : Scope
  kw : List (Str × He.Dv) := []
def seenAt (K : Fr) (a : Addr) : He.FnW := match K.lookup a with
  | some ⟨_, _, .func g, _⟩ => some (g.name, g.qualname, g.params, g.body, g.scope, g.globals, g.closure, g.builtins)
  | _ => none
def Dq.due (d : Dq) : He.FnW := some (d.nm, d.qu, d.ar, .stmts d.bo, d.so, mainGlobals, [], builtinsNs)
def Dq.kwv (K : Fr) (d : Dq) : List (Str × V) := d.kw.map fun q => (q.1, He.Dv.v K q.2)
def Dq.good (K : Fr) (d : Dq) : Bool := PySem.W.keepIn K (.ref (d.place K)) && match K.lookup (d.place K) with
  | some ⟨_, _, .func g, _⟩ => PySem.W.codeIn K g.code d.qu && (He.dflB K g.defaults [] && He.kwdB K g.kwdefaults (d.kwv K))
  | _ => false
theorem Dq.to {K : Fr} {d : Dq} (e : seenAt K (d.place K) = d.due) (c : d.good K = true) : ∃ fd, FunD K d.nm d.qu d.ar d.bo d.so [] (d.kwv K) (d.place K) fd := by
  obtain ⟨kp, c⟩ := Bool.and_eq_true_iff.mp c
  unfold seenAt at e
  cases q : K.lookup (d.place K) with
  | none => rw [q] at c; cases c
  | some o =>
    obtain ⟨oc, od, dt, sl⟩ := o
    rw [q] at c e
    cases dt with
    | func g =>
      obtain ⟨x1, x2, x3, x4, x5, x6, x7, x8, x9, x10, x11, x12, x13, x14, x15⟩ := g
      have e : (some (x1, x2, x3, x4, x5, x6, x7, x15) : He.FnW) = some (d.nm, d.qu, d.ar, .stmts d.bo, d.so, mainGlobals, [], builtinsNs) := e
      simp only [Option.some.injEq, Prod.mk.injEq] at e
      obtain ⟨rfl, rfl, rfl, rfl, rfl, rfl, rfl, rfl⟩ := e
      have c : (PySem.W.codeIn K x13 d.qu && (He.dflB K x8 [] && He.kwdB K x9 (d.kwv K))) = true := c
      obtain ⟨c1, c⟩ := Bool.and_eq_true_iff.mp c
      obtain ⟨c2, c3⟩ := Bool.and_eq_true_iff.mp c
      exact ⟨_, ⟨oc, od, x8, x9, x10, x11, x12, x13, x14, sl, rfl, q, c1, He.dflB_ok c2, He.kwdB_ok c3⟩, kp⟩
    | _ => cases c
theorem fun_of {K : Fr} {x qual : Str} {st : Stmt} {f : Addr} {fd : FuncData} (F : FunD K x qual (defArgs st) (defBody st) (defScope st) [] [] f fd) : Fun K x qual st f fd := by
  obtain ⟨⟨oc, od, dV, kV, doc, pm, an, cdv, ct, sl, rfl, lk, hc, hD, hK⟩, kp⟩ := F
  rcases hD with ⟨_, rfl⟩ | ⟨n, _⟩
  · exact ⟨⟨oc, od, kV, doc, pm, an, cdv, ct, sl, rfl, lk, hc⟩, kp⟩
  · exact absurd rfl n
abbrev Al : Type := Bool × List He.FnW × List (Option (List (Option (Str × Int))))
def look (fa : List He.Fa) (fn : List Dq) (ts : List He.Tab) (ex : List (Fr → Bool)) (K : Fr) : Al := (fa.all (fun f => f.ok K) && (fn.all (fun d => d.good K) && ex.all (fun b => b K)), fn.map (fun d => seenAt K (d.place K)), ts.map fun t => He.dicW K (t.1 K))
def due (fn : List Dq) (ts : List He.Tab) (w : World) : Al := (true, fn.map Dq.due, ts.map fun t => some (He.keysIn w.params t.2))
def Says (fa : List He.Fa) (fn : List Dq) (ts : List He.Tab) (ex : List (Fr → Bool)) (w : World) (K : Fr) : Prop := look fa fn ts ex K = due fn ts w
def lookG (as : List Addr) (fa : List He.Fa) (fn : List Dq) (ts : List He.Tab) (ex : List (Fr → Bool)) (g : Addr → Option Obj) : Al := look fa fn ts ex (He.frT g as)
def hook (as : List Addr) (fa : List He.Fa) (fn : List Dq) (ts : List He.Tab) (ex : List (Fr → Bool)) : PySem.W.Hook where
  α := Al
  obs := fun s => lookG as fa fn ts ex s.heap.get?
  val := due fn ts
  says := fun w h => ∃ K : Fr, K.In h ∧ Says fa fn ts ex w K
  of := fun _ _ e => ⟨_, He.frT_in, e⟩
  keeps := fun _ _ _ y k => ⟨y.choose, PySem.W.Frag.In.keeps y.choose_spec.1 k, y.choose_spec.2⟩
theorem obs_eq {as : List Addr} {fa : List He.Fa} {fn : List Dq} {ts : List He.Tab} {ex : List (Fr → Bool)} (s : PySem.W.SharedT) : lookG as fa fn ts ex (HandSHeadRun.getT s) = (hook as fa fn ts ex).obs s.abs := by
  have e : HandSHeadRun.getT s = s.abs.heap.get? := funext (HandSHeadRun.getT_eq s)
  rw [e]
  rfl
section
variable {fa : List He.Fa} {fn : List Dq} {ts : List He.Tab} {ex : List (Fr → Bool)} {w : World} {K : Fr}
theorem Says.all (c : Says fa fn ts ex w K) : (fa.all (fun f => f.ok K) && (fn.all (fun d => d.good K) && ex.all (fun b => b K))) = true := congrArg (fun z : Al => z.1) c
theorem Says.fact (c : Says fa fn ts ex w K) (i : Nat) {f : He.Fa} (h : fa[i]? = some f := by rfl) : f.ok K = true :=
  List.all_eq_true.mp (Bool.and_eq_true_iff.mp c.all).1 f (List.mem_of_getElem? h)
theorem Says.tru (c : Says fa fn ts ex w K) (i : Nat) {b : Fr → Bool} (h : ex[i]? = some b := by rfl) : b K = true :=
  List.all_eq_true.mp (Bool.and_eq_true_iff.mp (Bool.and_eq_true_iff.mp c.all).2).2 b (List.mem_of_getElem? h)
theorem Says.dfn (c : Says fa fn ts ex w K) (i : Nat) {d : Dq} (h : fn[i]? = some d := by rfl) : ∃ fd, FunD K d.nm d.qu d.ar d.bo d.so [] (d.kwv K) (d.place K) fd := by
  have e : fn.map (fun d => seenAt K (d.place K)) = fn.map Dq.due := congrArg (fun z : Al => z.2.1) c
  have e2 : (fn.map fun d => seenAt K (d.place K))[i]? = (fn.map Dq.due)[i]? := by rw [e]
  rw [List.getElem?_map, List.getElem?_map, h] at e2
  exact Dq.to (Option.some.inj e2) (List.all_eq_true.mp (Bool.and_eq_true_iff.mp (Bool.and_eq_true_iff.mp c.all).2).1 d (List.mem_of_getElem? h))
theorem Says.tbl (c : Says fa fn ts ex w K) (i : Nat) {t : He.Tab} (h : ts[i]? = some t := by rfl) : ∃ es n, KDict K w (t.1 K) es n := by
  have e : ts.map (fun t => He.dicW K (t.1 K)) = ts.map fun t => some (He.keysIn w.params t.2) := congrArg (fun z : Al => z.2.2) c
  have e2 : (ts.map fun t => He.dicW K (t.1 K))[i]? = (ts.map fun t => some (He.keysIn w.params t.2))[i]? := by rw [e]
  rw [List.getElem?_map, List.getElem?_map, h] at e2
  exact He.dicW_ok (Option.some.inj e2)
/-- the Fun of a def without defaults -/
theorem Says.df (c : Says fa fn ts ex w K) (i : Nat) {p : Fr → Addr} {x q : Str} {st : Stmt} (h : fn[i]? = some ⟨p, x, q, defArgs st, defBody st, defScope st, []⟩ := by rfl) : ∃ fd, Fun K x q st (p K) fd := by
  obtain ⟨fd, F⟩ := c.dfn i h
  exact ⟨fd, fun_of F⟩
end
/-! where things stand -/
def gl (x : Str) : Fr → Addr := fun K => He.ga K x
def mt (C m : Str) : Fr → Addr := fun K => He.ma K (He.ga K C) m
/-- a property's getter -/
def pg (C m : Str) : Fr → Addr := fun K => match PySem.W.recIn K (mt C m K) "property" with
  | some (.ref f :: _) => f
  | _ => 0
def isRec (K : Fr) (a : Addr) : Bool := match PySem.W.recIn K a "property" with
  | some (.ref _ :: _) => true
  | _ => false
theorem pg_ok {K : Fr} {C m : Str} (h : isRec K (mt C m K) = true) : ∃ rest, PySem.W.recIn K (mt C m K) "property" = some (.ref (pg C m K) :: rest) := by
  unfold isRec at h
  unfold pg
  split at h
  · rename_i f r e
    rw [e]
    exact ⟨r, rfl⟩
  · cases h
def eqV2 (a b : Option (Option Value)) : Bool := decide (a = b)
def isT2 (a : Option Bool) (b : Bool) : Bool := decide (a = some b)
def clsB (K : Fr) (C : Str) (m : Str) : Bool := match PySem.W.findCls K (.ref (gl C K)) (.type "type") m with
  | some (.val (.ref a)) => decide (a = mt C m K)
  | _ => false
theorem clsB_ok {K : Fr} {C m : Str} (h : clsB K C m = true) : PySem.W.findCls K (.ref (gl C K)) (.type "type") m = some (.val (.ref (mt C m K))) := by
  unfold clsB at h
  split at h
  · rename_i a e
    rw [e, of_decide_eq_true h]
  · cases h
end HX
set_option maxHeartbeats 16000000
namespace K56
open PySem PySem.Spec PyProof.Rows L2
/-! ### what the head is asked for -/
def krB (K : PySem.W.Frag) (a : Addr) : Bool := match K.lookup a with
  | some ⟨_, _, .dict es _, _⟩ => (match es.toList with
    | [⟨_, .str a1 _, .str b1 _⟩, ⟨_, .str a2 _, .str b2 _⟩, ⟨_, .str a3 _, .str b3 _⟩, ⟨_, .str a4 _, .str b4 _⟩, ⟨_, .str a5 _, .str b5 _⟩] => decide ([a1, b1, a2, b2, a3, b3, a4, b4, a5, b5] = [Str.ofString "inherit", (Str.ofString "role"), Str.ofString "act", (Str.ofString "role"), Str.ofString "read", (Str.ofString "table"), Str.ofString "write", (Str.ofString "table"), Str.ofString "call", (Str.ofString "function")])
    | _ => false)
  | _ => false
def fas0 : List He.Fa := [.glo "is_name", .glo "is_taker", .glo "is_right", .glo "is_made_kind", .glo "is_flag", .glo "is_list", .glo "is_names", .glo "is_body", .glo "kind_of", .glo "check_name", .glo "check_taker", .glo "check_taker_from", .glo "check_right", .glo "check_right_on", .glo "check_made_kind", .glo "check_flag", .glo "check_option", .glo "behind_first", .glo "give_of", .glo "take_of"]
def fas1 : List He.Fa := [.glo "call_of", .glo "preset_of", .glo "use_of", .glo "make_of", .glo "role_of", .glo "table_of", .glo "function_of", .glo "audience_in", .glo "parts_of", .glo "read_from", .glo "read_text", .glo "text_of", .glo "read_deed", .glo "_law_cell", .glo "_law_box", .glo "_law_take", .glo "_law_mixed", .glo "_law_names", .glo "_law_deed", .glo "_law_thing"]
def fas2 : List He.Fa := [.glo "_law_body_deed", .glo "_law_made_deed", .glo "_law_made_thing", .glo "_law_class", .glo "_law_right", .glo "law", .glo "split_words", .glo "Deed", .glo "Thing", .glo "Role", .glo "Table", .glo "Function", .glo "Give", .glo "Take", .glo "Call", .glo "Preset", .glo "Use", .glo "Make", .meth "Role" "same_head", .meth "Role" "audience_words"]
def fas3 : List He.Fa := [.meth "Role" "__str__", .meth "Role" "__eq__", .meth "Table" "same_head", .meth "Table" "audience_words", .meth "Table" "__str__", .meth "Table" "__eq__", .meth "Function" "same_head", .meth "Function" "audience_words", .meth "Function" "__eq__", .meth "Function" "__str__", .meth "Give" "__eq__", .meth "Give" "__str__", .meth "Take" "__eq__", .meth "Take" "__str__", .meth "Call" "__eq__", .meth "Call" "__str__", .meth "Preset" "__eq__", .meth "Preset" "__str__", .meth "Use" "__eq__", .meth "Use" "__str__"]
def fas4 : List He.Fa := [.meth "Make" "__eq__", .meth "Make" "__str__", .cls "Role", .mkr "Role", .noat "Role" "kind", .noat "Role" "name", .noat "Role" "owner", .noat "Role" "_audience", .cls "Table", .mkr "Table", .noat "Table" "kind", .noat "Table" "name", .noat "Table" "owner", .noat "Table" "_audience", .cls "Function", .mkr "Function", .noat "Function" "kind", .noat "Function" "name", .noat "Function" "owner", .noat "Function" "_audience"]
def fas5 : List He.Fa := [.noat "Function" "mode", .noat "Function" "_body", .cls "Give", .mkr "Give", .noat "Give" "right", .noat "Give" "thing", .noat "Give" "taker", .noat "Give" "option", .cls "Take", .mkr "Take", .noat "Take" "right", .noat "Take" "thing", .noat "Take" "taker", .noat "Take" "giver", .noat "Take" "only_option", .noat "Take" "cascade", .cls "Call", .mkr "Call", .noat "Call" "function", .cls "Preset"]
def fas6 : List He.Fa := [.mkr "Preset", .noat "Preset" "kind", .noat "Preset" "right", .noat "Preset" "taker", .noat "Preset" "option", .cls "Use", .mkr "Use", .noat "Use" "right", .noat "Use" "thing", .cls "Make", .mkr "Make", .noat "Make" "thing", .int "LONGEST_NAME" 8, .int "MOST_IN_BODY" 4, .int "MOST_IN_AUDIENCE" 8, .glo "RESERVED", .glo "MODES", .glo "DEEDS", .glo "MADE_KINDS", .glo "KIND_BY_RIGHT"]
def fas7 : List He.Fa := [.glo "READERS", .free "isinstance", .free "str", .free "len", .free "range", .free "max", .free "min", .free "list", .free "tuple", .free "all", .free "set", .free "sorted", .free "int", .free "zip"]
def fas : List He.Fa := fas0 ++ (fas1 ++ (fas2 ++ (fas3 ++ (fas4 ++ (fas5 ++ (fas6 ++ (fas7)))))))
def dfs0 : List HX.Dq := [⟨HX.gl "is_name", "is_name", "is_name", defArgs s_is_name, defBody s_is_name, defScope s_is_name, []⟩, ⟨HX.gl "is_taker", "is_taker", "is_taker", defArgs s_is_taker, defBody s_is_taker, defScope s_is_taker, []⟩, ⟨HX.gl "is_right", "is_right", "is_right", defArgs s_is_right, defBody s_is_right, defScope s_is_right, []⟩, ⟨HX.gl "is_made_kind", "is_made_kind", "is_made_kind", defArgs s_is_made_kind, defBody s_is_made_kind, defScope s_is_made_kind, []⟩, ⟨HX.gl "is_flag", "is_flag", "is_flag", defArgs s_is_flag, defBody s_is_flag, defScope s_is_flag, []⟩, ⟨HX.gl "is_list", "is_list", "is_list", defArgs s_is_list, defBody s_is_list, defScope s_is_list, []⟩, ⟨HX.gl "is_names", "is_names", "is_names", defArgs s_is_names, defBody s_is_names, defScope s_is_names, []⟩, ⟨HX.gl "is_body", "is_body", "is_body", defArgs s_is_body, defBody s_is_body, defScope s_is_body, []⟩, ⟨HX.gl "kind_of", "kind_of", "kind_of", defArgs s_kind_of, defBody s_kind_of, defScope s_kind_of, []⟩, ⟨HX.gl "check_name", "check_name", "check_name", defArgs s_check_name, defBody s_check_name, defScope s_check_name, []⟩]
def dfs1 : List HX.Dq := [⟨HX.gl "check_taker", "check_taker", "check_taker", defArgs s_check_taker, defBody s_check_taker, defScope s_check_taker, []⟩, ⟨HX.gl "check_taker_from", "check_taker_from", "check_taker_from", defArgs s_check_taker_from, defBody s_check_taker_from, defScope s_check_taker_from, []⟩, ⟨HX.gl "check_right", "check_right", "check_right", defArgs s_check_right, defBody s_check_right, defScope s_check_right, []⟩, ⟨HX.gl "check_right_on", "check_right_on", "check_right_on", defArgs s_check_right_on, defBody s_check_right_on, defScope s_check_right_on, []⟩, ⟨HX.gl "check_made_kind", "check_made_kind", "check_made_kind", defArgs s_check_made_kind, defBody s_check_made_kind, defScope s_check_made_kind, []⟩, ⟨HX.gl "check_flag", "check_flag", "check_flag", defArgs s_check_flag, defBody s_check_flag, defScope s_check_flag, []⟩, ⟨HX.gl "check_option", "check_option", "check_option", defArgs s_check_option, defBody s_check_option, defScope s_check_option, []⟩, ⟨HX.gl "behind_first", "behind_first", "behind_first", defArgs s_behind_first, defBody s_behind_first, defScope s_behind_first, []⟩, ⟨HX.gl "give_of", "give_of", "give_of", defArgs s_give_of, defBody s_give_of, defScope s_give_of, []⟩, ⟨HX.gl "take_of", "take_of", "take_of", defArgs s_take_of, defBody s_take_of, defScope s_take_of, []⟩]
def dfs2 : List HX.Dq := [⟨HX.gl "call_of", "call_of", "call_of", defArgs s_call_of, defBody s_call_of, defScope s_call_of, []⟩, ⟨HX.gl "preset_of", "preset_of", "preset_of", defArgs s_preset_of, defBody s_preset_of, defScope s_preset_of, []⟩, ⟨HX.gl "use_of", "use_of", "use_of", defArgs s_use_of, defBody s_use_of, defScope s_use_of, []⟩, ⟨HX.gl "make_of", "make_of", "make_of", defArgs s_make_of, defBody s_make_of, defScope s_make_of, []⟩, ⟨HX.gl "role_of", "role_of", "role_of", defArgs s_role_of, defBody s_role_of, defScope s_role_of, []⟩, ⟨HX.gl "table_of", "table_of", "table_of", defArgs s_table_of, defBody s_table_of, defScope s_table_of, []⟩, ⟨HX.gl "function_of", "function_of", "function_of", defArgs s_function_of, defBody s_function_of, defScope s_function_of, []⟩, ⟨HX.gl "audience_in", "audience_in", "audience_in", defArgs s_audience_in, defBody s_audience_in, defScope s_audience_in, []⟩, ⟨HX.gl "parts_of", "parts_of", "parts_of", defArgs s_parts_of, defBody s_parts_of, defScope s_parts_of, []⟩, ⟨HX.gl "read_from", "read_from", "read_from", defArgs s_read_from, defBody s_read_from, defScope s_read_from, []⟩]
def dfs3 : List HX.Dq := [⟨HX.gl "read_text", "read_text", "read_text", defArgs s_read_text, defBody s_read_text, defScope s_read_text, []⟩, ⟨HX.gl "text_of", "text_of", "text_of", defArgs s_text_of, defBody s_text_of, defScope s_text_of, []⟩, ⟨HX.gl "read_deed", "read_deed", "read_deed", defArgs s_read_deed, defBody s_read_deed, defScope s_read_deed, []⟩, ⟨HX.gl "_law_cell", "_law_cell", "_law_cell", defArgs s__law_cell, defBody s__law_cell, defScope s__law_cell, []⟩, ⟨HX.gl "_law_box", "_law_box", "_law_box", defArgs s__law_box, defBody s__law_box, defScope s__law_box, []⟩, ⟨HX.gl "_law_take", "_law_take", "_law_take", defArgs s__law_take, defBody s__law_take, defScope s__law_take, []⟩, ⟨HX.gl "_law_mixed", "_law_mixed", "_law_mixed", defArgs s__law_mixed, defBody s__law_mixed, defScope s__law_mixed, []⟩, ⟨HX.gl "_law_names", "_law_names", "_law_names", defArgs s__law_names, defBody s__law_names, defScope s__law_names, []⟩, ⟨HX.gl "_law_deed", "_law_deed", "_law_deed", defArgs s__law_deed, defBody s__law_deed, defScope s__law_deed, []⟩, ⟨HX.gl "_law_thing", "_law_thing", "_law_thing", defArgs s__law_thing, defBody s__law_thing, defScope s__law_thing, []⟩]
def dfs4 : List HX.Dq := [⟨HX.gl "_law_body_deed", "_law_body_deed", "_law_body_deed", defArgs s__law_body_deed, defBody s__law_body_deed, defScope s__law_body_deed, []⟩, ⟨HX.gl "_law_made_deed", "_law_made_deed", "_law_made_deed", defArgs s__law_made_deed, defBody s__law_made_deed, defScope s__law_made_deed, []⟩, ⟨HX.gl "_law_made_thing", "_law_made_thing", "_law_made_thing", defArgs s__law_made_thing, defBody s__law_made_thing, defScope s__law_made_thing, []⟩, ⟨HX.gl "_law_class", "_law_class", "_law_class", defArgs s__law_class, defBody s__law_class, defScope s__law_class, []⟩, ⟨HX.gl "_law_right", "_law_right", "_law_right", defArgs s__law_right, defBody s__law_right, defScope s__law_right, []⟩, ⟨HX.gl "law", "law", "law", defArgs s_law, defBody s_law, defScope s_law, []⟩, ⟨HX.gl "split_words", "split_words", "split_words", defArgs s_split_words, defBody s_split_words, defScope s_split_words, [("separator", .str ⟨#[32]⟩)]⟩, ⟨HX.mt "Thing" "__init__", "__init__", "Thing.__init__", defArgs s_Thing_init, defBody s_Thing_init, defScope s_Thing_init, []⟩, ⟨HX.mt "Role" "same_head", "same_head", "Thing.same_head", defArgs s_Thing_same_head, defBody s_Thing_same_head, defScope s_Thing_same_head, []⟩, ⟨HX.mt "Role" "audience_words", "audience_words", "Thing.audience_words", defArgs s_Thing_audience_words, defBody s_Thing_audience_words, defScope s_Thing_audience_words, []⟩]
def dfs5 : List HX.Dq := [⟨HX.mt "Role" "__str__", "__str__", "Thing.__str__", defArgs s_Thing_str, defBody s_Thing_str, defScope s_Thing_str, []⟩, ⟨HX.mt "Role" "__init__", "__init__", "Role.__init__", defArgs s_Role_init, defBody s_Role_init, defScope s_Role_init, []⟩, ⟨HX.mt "Role" "__eq__", "__eq__", "Role.__eq__", defArgs s_Role_eq, defBody s_Role_eq, defScope s_Role_eq, []⟩, ⟨HX.mt "Table" "same_head", "same_head", "Thing.same_head", defArgs s_Thing_same_head, defBody s_Thing_same_head, defScope s_Thing_same_head, []⟩, ⟨HX.mt "Table" "audience_words", "audience_words", "Thing.audience_words", defArgs s_Thing_audience_words, defBody s_Thing_audience_words, defScope s_Thing_audience_words, []⟩, ⟨HX.mt "Table" "__str__", "__str__", "Thing.__str__", defArgs s_Thing_str, defBody s_Thing_str, defScope s_Thing_str, []⟩, ⟨HX.mt "Table" "__init__", "__init__", "Table.__init__", defArgs s_Table_init, defBody s_Table_init, defScope s_Table_init, []⟩, ⟨HX.mt "Table" "__eq__", "__eq__", "Table.__eq__", defArgs s_Table_eq, defBody s_Table_eq, defScope s_Table_eq, []⟩, ⟨HX.mt "Function" "same_head", "same_head", "Thing.same_head", defArgs s_Thing_same_head, defBody s_Thing_same_head, defScope s_Thing_same_head, []⟩, ⟨HX.mt "Function" "audience_words", "audience_words", "Thing.audience_words", defArgs s_Thing_audience_words, defBody s_Thing_audience_words, defScope s_Thing_audience_words, []⟩]
def dfs6 : List HX.Dq := [⟨HX.mt "Function" "__init__", "__init__", "Function.__init__", defArgs s_Function_init, defBody s_Function_init, defScope s_Function_init, []⟩, ⟨HX.mt "Function" "__eq__", "__eq__", "Function.__eq__", defArgs s_Function_eq, defBody s_Function_eq, defScope s_Function_eq, []⟩, ⟨HX.mt "Function" "__str__", "__str__", "Function.__str__", defArgs s_Function_str, defBody s_Function_str, defScope s_Function_str, []⟩, ⟨HX.mt "Give" "__init__", "__init__", "Give.__init__", defArgs s_Give_init, defBody s_Give_init, defScope s_Give_init, []⟩, ⟨HX.mt "Give" "__eq__", "__eq__", "Give.__eq__", defArgs s_Give_eq, defBody s_Give_eq, defScope s_Give_eq, []⟩, ⟨HX.mt "Give" "__str__", "__str__", "Give.__str__", defArgs s_Give_str, defBody s_Give_str, defScope s_Give_str, []⟩, ⟨HX.mt "Take" "__init__", "__init__", "Take.__init__", defArgs s_Take_init, defBody s_Take_init, defScope s_Take_init, []⟩, ⟨HX.mt "Take" "__eq__", "__eq__", "Take.__eq__", defArgs s_Take_eq, defBody s_Take_eq, defScope s_Take_eq, []⟩, ⟨HX.mt "Take" "__str__", "__str__", "Take.__str__", defArgs s_Take_str, defBody s_Take_str, defScope s_Take_str, []⟩, ⟨HX.mt "Call" "__init__", "__init__", "Call.__init__", defArgs s_Call_init, defBody s_Call_init, defScope s_Call_init, []⟩]
def dfs7 : List HX.Dq := [⟨HX.mt "Call" "__eq__", "__eq__", "Call.__eq__", defArgs s_Call_eq, defBody s_Call_eq, defScope s_Call_eq, []⟩, ⟨HX.mt "Call" "__str__", "__str__", "Call.__str__", defArgs s_Call_str, defBody s_Call_str, defScope s_Call_str, []⟩, ⟨HX.mt "Preset" "__init__", "__init__", "Preset.__init__", defArgs s_Preset_init, defBody s_Preset_init, defScope s_Preset_init, []⟩, ⟨HX.mt "Preset" "__eq__", "__eq__", "Preset.__eq__", defArgs s_Preset_eq, defBody s_Preset_eq, defScope s_Preset_eq, []⟩, ⟨HX.mt "Preset" "__str__", "__str__", "Preset.__str__", defArgs s_Preset_str, defBody s_Preset_str, defScope s_Preset_str, []⟩, ⟨HX.mt "Use" "__init__", "__init__", "Use.__init__", defArgs s_Use_init, defBody s_Use_init, defScope s_Use_init, []⟩, ⟨HX.mt "Use" "__eq__", "__eq__", "Use.__eq__", defArgs s_Use_eq, defBody s_Use_eq, defScope s_Use_eq, []⟩, ⟨HX.mt "Use" "__str__", "__str__", "Use.__str__", defArgs s_Use_str, defBody s_Use_str, defScope s_Use_str, []⟩, ⟨HX.mt "Make" "__init__", "__init__", "Make.__init__", defArgs s_Make_init, defBody s_Make_init, defScope s_Make_init, []⟩, ⟨HX.mt "Make" "__eq__", "__eq__", "Make.__eq__", defArgs s_Make_eq, defBody s_Make_eq, defScope s_Make_eq, []⟩]
def dfs8 : List HX.Dq := [⟨HX.mt "Make" "__str__", "__str__", "Make.__str__", defArgs s_Make_str, defBody s_Make_str, defScope s_Make_str, []⟩]
def dfs : List HX.Dq := dfs0 ++ (dfs1 ++ (dfs2 ++ (dfs3 ++ (dfs4 ++ (dfs5 ++ (dfs6 ++ (dfs7 ++ (dfs8))))))))
def exs0 : List (PySem.W.Frag → Bool) := [fun K => decide (PySem.W.specialIn K (.builtin "object.__class__") "__get__" = some (some (.builtin "getset_descriptor.__get__"))), fun K => decide (PySem.W.takesIn K (.builtin "object.__class__") = some true), fun K => decide (PySem.W.findIn K (.ref (He.ga K "Role")) "__class__" = some (some (.builtin "object.__class__"))), fun K => decide (PySem.W.mroIn K (He.ga K "Role") (.type "object") = some true), fun K => decide (PySem.W.findIn K (.ref (He.ga K "Role")) "__ne__" = some (some (.builtin "object.__ne__"))), fun K => decide (PySem.W.findIn K (.ref (He.ga K "Role")) "__format__" = some (some (.builtin "object.__format__"))), fun K => decide (PySem.W.findIn K (.ref (He.ga K "Table")) "__class__" = some (some (.builtin "object.__class__"))), fun K => decide (PySem.W.mroIn K (He.ga K "Table") (.type "object") = some true), fun K => decide (PySem.W.findIn K (.ref (He.ga K "Table")) "__ne__" = some (some (.builtin "object.__ne__"))), fun K => decide (PySem.W.findIn K (.ref (He.ga K "Table")) "__format__" = some (some (.builtin "object.__format__")))]
def exs1 : List (PySem.W.Frag → Bool) := [fun K => decide (PySem.W.findIn K (.ref (He.ga K "Function")) "__class__" = some (some (.builtin "object.__class__"))), fun K => decide (PySem.W.mroIn K (He.ga K "Function") (.type "object") = some true), fun K => decide (PySem.W.findIn K (.ref (He.ga K "Function")) "__ne__" = some (some (.builtin "object.__ne__"))), fun K => decide (PySem.W.findIn K (.ref (He.ga K "Function")) "__format__" = some (some (.builtin "object.__format__"))), fun K => decide (PySem.W.findIn K (.ref (He.ga K "Give")) "__class__" = some (some (.builtin "object.__class__"))), fun K => decide (PySem.W.mroIn K (He.ga K "Give") (.type "object") = some true), fun K => decide (PySem.W.findIn K (.ref (He.ga K "Give")) "__ne__" = some (some (.builtin "object.__ne__"))), fun K => decide (PySem.W.findIn K (.ref (He.ga K "Take")) "__class__" = some (some (.builtin "object.__class__"))), fun K => decide (PySem.W.mroIn K (He.ga K "Take") (.type "object") = some true), fun K => decide (PySem.W.findIn K (.ref (He.ga K "Take")) "__ne__" = some (some (.builtin "object.__ne__")))]
def exs2 : List (PySem.W.Frag → Bool) := [fun K => decide (PySem.W.findIn K (.ref (He.ga K "Call")) "__class__" = some (some (.builtin "object.__class__"))), fun K => decide (PySem.W.mroIn K (He.ga K "Call") (.type "object") = some true), fun K => decide (PySem.W.findIn K (.ref (He.ga K "Call")) "__ne__" = some (some (.builtin "object.__ne__"))), fun K => decide (PySem.W.findIn K (.ref (He.ga K "Preset")) "__class__" = some (some (.builtin "object.__class__"))), fun K => decide (PySem.W.mroIn K (He.ga K "Preset") (.type "object") = some true), fun K => decide (PySem.W.findIn K (.ref (He.ga K "Preset")) "__ne__" = some (some (.builtin "object.__ne__"))), fun K => decide (PySem.W.findIn K (.ref (He.ga K "Use")) "__class__" = some (some (.builtin "object.__class__"))), fun K => decide (PySem.W.mroIn K (He.ga K "Use") (.type "object") = some true), fun K => decide (PySem.W.findIn K (.ref (He.ga K "Use")) "__ne__" = some (some (.builtin "object.__ne__"))), fun K => decide (PySem.W.findIn K (.ref (He.ga K "Make")) "__class__" = some (some (.builtin "object.__class__")))]
def exs3 : List (PySem.W.Frag → Bool) := [fun K => decide (PySem.W.mroIn K (He.ga K "Make") (.type "object") = some true), fun K => decide (PySem.W.findIn K (.ref (He.ga K "Make")) "__ne__" = some (some (.builtin "object.__ne__"))), fun K => decide (PySem.W.kitOne K (.ref (He.ga K "Role")) (.ref (He.ga K "Role")) = some true), fun K => PySem.W.notFirst K (He.ga K "Role") (.ref (He.ga K "Role")), fun K => decide (PySem.W.kitOne K (.ref (He.ga K "Table")) (.ref (He.ga K "Role")) = some false), fun K => PySem.W.notFirst K (He.ga K "Role") (.ref (He.ga K "Table")), fun K => decide (PySem.W.kitOne K (.ref (He.ga K "Function")) (.ref (He.ga K "Role")) = some false), fun K => PySem.W.notFirst K (He.ga K "Role") (.ref (He.ga K "Function")), fun K => decide (PySem.W.kitOne K (.ref (He.ga K "Role")) (.ref (He.ga K "Table")) = some false), fun K => PySem.W.notFirst K (He.ga K "Table") (.ref (He.ga K "Role"))]
def exs4 : List (PySem.W.Frag → Bool) := [fun K => decide (PySem.W.kitOne K (.ref (He.ga K "Table")) (.ref (He.ga K "Table")) = some true), fun K => PySem.W.notFirst K (He.ga K "Table") (.ref (He.ga K "Table")), fun K => decide (PySem.W.kitOne K (.ref (He.ga K "Function")) (.ref (He.ga K "Table")) = some false), fun K => PySem.W.notFirst K (He.ga K "Table") (.ref (He.ga K "Function")), fun K => decide (PySem.W.kitOne K (.ref (He.ga K "Role")) (.ref (He.ga K "Function")) = some false), fun K => PySem.W.notFirst K (He.ga K "Function") (.ref (He.ga K "Role")), fun K => decide (PySem.W.kitOne K (.ref (He.ga K "Table")) (.ref (He.ga K "Function")) = some false), fun K => PySem.W.notFirst K (He.ga K "Function") (.ref (He.ga K "Table")), fun K => decide (PySem.W.kitOne K (.ref (He.ga K "Function")) (.ref (He.ga K "Function")) = some true), fun K => PySem.W.notFirst K (He.ga K "Function") (.ref (He.ga K "Function"))]
def exs5 : List (PySem.W.Frag → Bool) := [fun K => decide (PySem.W.kitOne K (.ref (He.ga K "Give")) (.ref (He.ga K "Give")) = some true), fun K => PySem.W.notFirst K (He.ga K "Give") (.ref (He.ga K "Give")), fun K => decide (PySem.W.kitOne K (.ref (He.ga K "Take")) (.ref (He.ga K "Give")) = some false), fun K => PySem.W.notFirst K (He.ga K "Give") (.ref (He.ga K "Take")), fun K => decide (PySem.W.kitOne K (.ref (He.ga K "Call")) (.ref (He.ga K "Give")) = some false), fun K => PySem.W.notFirst K (He.ga K "Give") (.ref (He.ga K "Call")), fun K => decide (PySem.W.kitOne K (.ref (He.ga K "Preset")) (.ref (He.ga K "Give")) = some false), fun K => PySem.W.notFirst K (He.ga K "Give") (.ref (He.ga K "Preset")), fun K => decide (PySem.W.kitOne K (.ref (He.ga K "Use")) (.ref (He.ga K "Give")) = some false), fun K => PySem.W.notFirst K (He.ga K "Give") (.ref (He.ga K "Use"))]
def exs6 : List (PySem.W.Frag → Bool) := [fun K => decide (PySem.W.kitOne K (.ref (He.ga K "Make")) (.ref (He.ga K "Give")) = some false), fun K => PySem.W.notFirst K (He.ga K "Give") (.ref (He.ga K "Make")), fun K => decide (PySem.W.kitOne K (.ref (He.ga K "Give")) (.ref (He.ga K "Take")) = some false), fun K => PySem.W.notFirst K (He.ga K "Take") (.ref (He.ga K "Give")), fun K => decide (PySem.W.kitOne K (.ref (He.ga K "Take")) (.ref (He.ga K "Take")) = some true), fun K => PySem.W.notFirst K (He.ga K "Take") (.ref (He.ga K "Take")), fun K => decide (PySem.W.kitOne K (.ref (He.ga K "Call")) (.ref (He.ga K "Take")) = some false), fun K => PySem.W.notFirst K (He.ga K "Take") (.ref (He.ga K "Call")), fun K => decide (PySem.W.kitOne K (.ref (He.ga K "Preset")) (.ref (He.ga K "Take")) = some false), fun K => PySem.W.notFirst K (He.ga K "Take") (.ref (He.ga K "Preset"))]
def exs7 : List (PySem.W.Frag → Bool) := [fun K => decide (PySem.W.kitOne K (.ref (He.ga K "Use")) (.ref (He.ga K "Take")) = some false), fun K => PySem.W.notFirst K (He.ga K "Take") (.ref (He.ga K "Use")), fun K => decide (PySem.W.kitOne K (.ref (He.ga K "Make")) (.ref (He.ga K "Take")) = some false), fun K => PySem.W.notFirst K (He.ga K "Take") (.ref (He.ga K "Make")), fun K => decide (PySem.W.kitOne K (.ref (He.ga K "Give")) (.ref (He.ga K "Call")) = some false), fun K => PySem.W.notFirst K (He.ga K "Call") (.ref (He.ga K "Give")), fun K => decide (PySem.W.kitOne K (.ref (He.ga K "Take")) (.ref (He.ga K "Call")) = some false), fun K => PySem.W.notFirst K (He.ga K "Call") (.ref (He.ga K "Take")), fun K => decide (PySem.W.kitOne K (.ref (He.ga K "Call")) (.ref (He.ga K "Call")) = some true), fun K => PySem.W.notFirst K (He.ga K "Call") (.ref (He.ga K "Call"))]
def exs8 : List (PySem.W.Frag → Bool) := [fun K => decide (PySem.W.kitOne K (.ref (He.ga K "Preset")) (.ref (He.ga K "Call")) = some false), fun K => PySem.W.notFirst K (He.ga K "Call") (.ref (He.ga K "Preset")), fun K => decide (PySem.W.kitOne K (.ref (He.ga K "Use")) (.ref (He.ga K "Call")) = some false), fun K => PySem.W.notFirst K (He.ga K "Call") (.ref (He.ga K "Use")), fun K => decide (PySem.W.kitOne K (.ref (He.ga K "Make")) (.ref (He.ga K "Call")) = some false), fun K => PySem.W.notFirst K (He.ga K "Call") (.ref (He.ga K "Make")), fun K => decide (PySem.W.kitOne K (.ref (He.ga K "Give")) (.ref (He.ga K "Preset")) = some false), fun K => PySem.W.notFirst K (He.ga K "Preset") (.ref (He.ga K "Give")), fun K => decide (PySem.W.kitOne K (.ref (He.ga K "Take")) (.ref (He.ga K "Preset")) = some false), fun K => PySem.W.notFirst K (He.ga K "Preset") (.ref (He.ga K "Take"))]
def exs9 : List (PySem.W.Frag → Bool) := [fun K => decide (PySem.W.kitOne K (.ref (He.ga K "Call")) (.ref (He.ga K "Preset")) = some false), fun K => PySem.W.notFirst K (He.ga K "Preset") (.ref (He.ga K "Call")), fun K => decide (PySem.W.kitOne K (.ref (He.ga K "Preset")) (.ref (He.ga K "Preset")) = some true), fun K => PySem.W.notFirst K (He.ga K "Preset") (.ref (He.ga K "Preset")), fun K => decide (PySem.W.kitOne K (.ref (He.ga K "Use")) (.ref (He.ga K "Preset")) = some false), fun K => PySem.W.notFirst K (He.ga K "Preset") (.ref (He.ga K "Use")), fun K => decide (PySem.W.kitOne K (.ref (He.ga K "Make")) (.ref (He.ga K "Preset")) = some false), fun K => PySem.W.notFirst K (He.ga K "Preset") (.ref (He.ga K "Make")), fun K => decide (PySem.W.kitOne K (.ref (He.ga K "Give")) (.ref (He.ga K "Use")) = some false), fun K => PySem.W.notFirst K (He.ga K "Use") (.ref (He.ga K "Give"))]
def exs10 : List (PySem.W.Frag → Bool) := [fun K => decide (PySem.W.kitOne K (.ref (He.ga K "Take")) (.ref (He.ga K "Use")) = some false), fun K => PySem.W.notFirst K (He.ga K "Use") (.ref (He.ga K "Take")), fun K => decide (PySem.W.kitOne K (.ref (He.ga K "Call")) (.ref (He.ga K "Use")) = some false), fun K => PySem.W.notFirst K (He.ga K "Use") (.ref (He.ga K "Call")), fun K => decide (PySem.W.kitOne K (.ref (He.ga K "Preset")) (.ref (He.ga K "Use")) = some false), fun K => PySem.W.notFirst K (He.ga K "Use") (.ref (He.ga K "Preset")), fun K => decide (PySem.W.kitOne K (.ref (He.ga K "Use")) (.ref (He.ga K "Use")) = some true), fun K => PySem.W.notFirst K (He.ga K "Use") (.ref (He.ga K "Use")), fun K => decide (PySem.W.kitOne K (.ref (He.ga K "Make")) (.ref (He.ga K "Use")) = some false), fun K => PySem.W.notFirst K (He.ga K "Use") (.ref (He.ga K "Make"))]
def exs11 : List (PySem.W.Frag → Bool) := [fun K => decide (PySem.W.kitOne K (.ref (He.ga K "Give")) (.ref (He.ga K "Make")) = some false), fun K => PySem.W.notFirst K (He.ga K "Make") (.ref (He.ga K "Give")), fun K => decide (PySem.W.kitOne K (.ref (He.ga K "Take")) (.ref (He.ga K "Make")) = some false), fun K => PySem.W.notFirst K (He.ga K "Make") (.ref (He.ga K "Take")), fun K => decide (PySem.W.kitOne K (.ref (He.ga K "Call")) (.ref (He.ga K "Make")) = some false), fun K => PySem.W.notFirst K (He.ga K "Make") (.ref (He.ga K "Call")), fun K => decide (PySem.W.kitOne K (.ref (He.ga K "Preset")) (.ref (He.ga K "Make")) = some false), fun K => PySem.W.notFirst K (He.ga K "Make") (.ref (He.ga K "Preset")), fun K => decide (PySem.W.kitOne K (.ref (He.ga K "Use")) (.ref (He.ga K "Make")) = some false), fun K => PySem.W.notFirst K (He.ga K "Make") (.ref (He.ga K "Use"))]
def exs12 : List (PySem.W.Frag → Bool) := [fun K => decide (PySem.W.kitOne K (.ref (He.ga K "Make")) (.ref (He.ga K "Make")) = some true), fun K => PySem.W.notFirst K (He.ga K "Make") (.ref (He.ga K "Make")), fun K => decide (PySem.W.kitOne K (.ref (He.ga K "Give")) (.ref (He.ga K "Deed")) = some true), fun K => decide (PySem.W.kitOne K (.ref (He.ga K "Take")) (.ref (He.ga K "Deed")) = some true), fun K => decide (PySem.W.kitOne K (.ref (He.ga K "Call")) (.ref (He.ga K "Deed")) = some true), fun K => decide (PySem.W.kitOne K (.ref (He.ga K "Preset")) (.ref (He.ga K "Deed")) = some true), fun K => decide (PySem.W.kitOne K (.ref (He.ga K "Use")) (.ref (He.ga K "Deed")) = some true), fun K => decide (PySem.W.kitOne K (.ref (He.ga K "Make")) (.ref (He.ga K "Deed")) = some true), fun K => PySem.W.readsIn K (He.ga K "Thing") (.type "type"), fun K => decide (PySem.W.specialIn K (.ref (He.ga K "Thing")) "__getattribute__" = some (some (.builtin "type.__getattribute__")))]
def exs13 : List (PySem.W.Frag → Bool) := [fun K => HX.clsB K "Thing" "__init__", fun K => He.tupB K "RESERVED" [.str (Str.ofString "public"), .str (Str.ofString "caller")], fun K => He.tupB K "MODES" [.str (Str.ofString "owner"), .str (Str.ofString "caller")], fun K => He.tupB K "DEEDS" [.str (Str.ofString "give"), .str (Str.ofString "take"), .str (Str.ofString "call"), .str (Str.ofString "preset"), .str (Str.ofString "use"), .str (Str.ofString "make")], fun K => He.tupB K "MADE_KINDS" [.str (Str.ofString "table"), .str (Str.ofString "function")], fun K => krB K (He.ga K "KIND_BY_RIGHT"), fun K => decide (PySem.W.nsIn K (He.ga K "READERS") "give" = some (some (.ref (He.ga K "give_of")))), fun K => decide (PySem.W.nsIn K (He.ga K "READERS") "take" = some (some (.ref (He.ga K "take_of")))), fun K => decide (PySem.W.nsIn K (He.ga K "READERS") "call" = some (some (.ref (He.ga K "call_of")))), fun K => decide (PySem.W.nsIn K (He.ga K "READERS") "preset" = some (some (.ref (He.ga K "preset_of"))))]
def exs14 : List (PySem.W.Frag → Bool) := [fun K => decide (PySem.W.nsIn K (He.ga K "READERS") "use" = some (some (.ref (He.ga K "use_of")))), fun K => decide (PySem.W.nsIn K (He.ga K "READERS") "make" = some (some (.ref (He.ga K "make_of")))), fun K => decide (PySem.W.nsIn K (He.ga K "READERS") "role" = some (some (.ref (He.ga K "role_of")))), fun K => decide (PySem.W.nsIn K (He.ga K "READERS") "table" = some (some (.ref (He.ga K "table_of")))), fun K => decide (PySem.W.nsIn K (He.ga K "READERS") "function" = some (some (.ref (He.ga K "function_of"))))]
def exs : List (PySem.W.Frag → Bool) := exs0 ++ (exs1 ++ (exs2 ++ (exs3 ++ (exs4 ++ (exs5 ++ (exs6 ++ (exs7 ++ (exs8 ++ (exs9 ++ (exs10 ++ (exs11 ++ (exs12 ++ (exs13 ++ (exs14))))))))))))))
def tbs : List He.Tab := [(HX.gl "KIND_BY_RIGHT", ["inherit", "act", "read", "write", "call"]), (HX.gl "READERS", ["give", "take", "call", "preset", "use", "make", "role", "table", "function", "grant", "default"])]
def ads0 : List Addr := [2, 3, 263, 269, 270, 276, 277, 283, 284, 290, 291, 304, 305, 311, 312, 318, 319, 323, 324, 337, 338, 339, 345, 346, 352, 353, 359, 360, 366, 367, 373, 374, 380, 381, 387, 388, 394, 395, 401, 402]
def ads1 : List Addr := [566, 575, 576, 594, 595, 601, 602, 608, 609, 611, 612, 628, 629, 635, 636, 642, 643, 645, 646, 661, 662, 668, 669, 675, 676, 678, 679, 695, 696, 702, 703, 709, 710, 712, 713, 728, 729, 735, 736, 742]
def ads2 : List Addr := [743, 745, 746, 759, 760, 788, 789, 795, 796, 809, 810, 812, 813, 832, 833, 855, 856, 858, 859, 876, 877, 899, 900, 902, 903, 921, 922, 958, 959, 963, 964, 966, 967, 982, 983, 989, 990, 996, 997, 999]
def ads3 : List Addr := [1000, 1006, 1007, 1013, 1014, 1020, 1021, 1027, 1028, 1034, 1035, 1041, 1042, 1048, 1049, 1055, 1056, 1062, 1063, 1069, 1070, 1074, 1075, 1095, 1096, 1102, 1103, 1104, 1105, 1111, 1112, 1118, 1119, 1125, 1126, 1139, 1140, 1146, 1147, 1153]
def ads4 : List Addr := [1154, 1160, 1161, 1165, 1166, 1170, 1171, 1177, 1178, 1182, 1183, 1189, 1190, 1196, 1197, 1201, 1202, 1208, 1209, 1215, 1216, 1220, 1221]
def ads : List Addr := ads0 ++ (ads1 ++ (ads2 ++ (ads3 ++ (ads4))))
end K56
set_option maxHeartbeats 0
namespace K56H
open PySem PySem.W PySem.Calls PyProof.Rows
abbrev Rw : OpenRow := OpenLaw.row PySem.Challenge.rw_rolereach_k56_deeds_as_texts
def n0 : List PySem.Str := ["_wall", "__name__", "RoleError", "InvalidName", "InvalidTaker", "InvalidRight", "InvalidKind", "InvalidFlag", "InvalidAudience", "InvalidMode", "InvalidBody", "InvalidThing", "InvalidGrant", "InvalidDefault", "InvalidText", "LONGEST_NAME", "RESERVED", "RIGHTS", "RIGHTS_BY_KIND", "KIND_BY_RIGHT"]
def n1 : List PySem.Str := ["MADE_KINDS", "is_name", "is_taker", "is_right", "is_kind", "is_made_kind", "is_flag", "is_list", "is_names", "rights_of", "kind_of", "split_words", "check_name", "check_taker", "check_taker_from", "check_right", "check_right_on", "check_made_kind", "check_flag", "check_option"]
def n2 : List PySem.Str := ["Grant", "Default", "check_is_grant", "check_is_default", "MOST_IN_AUDIENCE", "MOST_IN_BODY", "MODES", "Deed", "Give", "Take", "Call", "Preset", "Use", "Thing", "Role", "Table", "Function", "Make", "is_body", "behind_first"]
def n3 : List PySem.Str := ["give_of", "take_of", "call_of", "preset_of", "use_of", "make_of", "role_of", "table_of", "function_of", "grant_of", "default_of", "audience_in", "parts_of", "READERS", "DEEDS", "read_from", "read_text", "text_of", "option_words", "read_deed"]
def n4 : List PySem.Str := ["_law_cell", "_law_box", "_law_take", "_law_mixed", "_law_names", "_law_deed", "_law_thing", "_law_body_deed", "_law_made_deed", "_law_made_thing", "_law_class", "_law_right"]
def names : List PySem.Str := n0 ++ (n1 ++ (n2 ++ (n3 ++ (n4))))
abbrev hk : PySem.W.Hook := HX.hook K56.ads K56.fas K56.dfs K56.tbs K56.exs
def ob (s : PySem.W.SharedT) : HX.Al := HX.lookG K56.ads K56.fas K56.dfs K56.tbs K56.exs (HandSHeadRun.getT s)
theorem ob_eq (s : PySem.W.SharedT) : ob s = hk.obs s.abs := HX.obs_eq s
theorem runF (w : World) : HandSHeadRun.RunEq Rw (view Rw.prog [98]) hk ob 12000 names (w.withFollow "special-get-raises" false) := by
  intro os
  kernel_rfl
theorem runT (w : World) : HandSHeadRun.RunEq Rw (view Rw.prog [98]) hk ob 12000 names (w.withFollow "special-get-raises" true) := by
  intro os
  kernel_rfl
theorem run (w : World) : HandSHeadRun.RunEq Rw (view Rw.prog [98]) hk ob 12000 names w := byRow2 "special-get-raises" (P := HandSHeadRun.RunEq Rw (view Rw.prog [98]) hk ob 12000 names) runF runT w
end K56H
set_option maxHeartbeats 4000000
/-! ### defs that may ask for a repr: promises where nothing is being shown -/
namespace RG
open PySem PySem.Spec PyProof.Rows L2
section
variable {CX : CXT} {P : Program} {w : World} {K : PySem.W.Frag} {mg : Str → Option Value} {base : Heap} {k : Nat} {f : Addr} {fd : FuncData} {ps : List Str} {sp : Sp}
/-- nothing is being shown -/
abbrev Quiet (A : Around) : Prop := A.guards = some []
/-- as FnOk, where nothing is being shown -/
structure FnG (P : Program) (w : World) (K : PySem.W.Frag) (mg : Str → Option Value) (base : Heap) (CX : CXT) (k : Nat) (f : Addr) (fd : FuncData) (ps : List Str) (sp : Sp) : Prop where
  args : ∀ {vs H Q E}, sp vs H Q E → vs.length = ps.length
  go : ∀ {A : Around} {fr : List Env} {s : Shared} {H : Hp} {ar : Args} {us : List Value} {vs : List V} {Q : VK} {E : XK}, Quiet A → Room k A → Env0 P w K mg base A fr s H → BindsTo s fd ar (ps.zip us) → Vals vs us → sp vs H Q E →
    codeAny (model P w) A (.call (.ref f) ar) (CR CX fr P w H s Q E) s
theorem FnG.of (F : FnOk P w K mg base CX k f fd ps sp) : FnG P w K mg base CX k f fd ps sp where
  args h := F.len _ _ _ _ h
  go _ hr e0 hb r h := F.run _ _ _ _ _ _ _ _ _ hr e0 hb r h
theorem FnG.mono {j : Nat} (F : FnG P w K mg base CX j f fd ps sp) (h : j ≤ k) : FnG P w K mg base CX k f fd ps sp where
  args := F.args
  go q hr := F.go q (hr.mono h)
/-- what a body's end hands on -/
theorem body_end {N : List Str} {qual : Str} {scope : Scope} {cdv : Value} {A : Around} {fr : List Env} {s s2 : Shared} {H : Hp} {Q : VK} {E : XK} {fl : Flow}
    (h : SP (cxOf CX P w K mg base N qual scope f cdv A fr s H E) [] { nx := fun _ H' => Q .non H', rt := Q } fl s2) : CR CX fr P w H s Q E (.ok (match fl with | .next => .ret .none | z => z)) s2 := by
  cases fl with
  | ret u => exact let ⟨v, _, H', J, rv, q⟩ := h; ⟨v, H', J.os, J.bare, J.base, J.hok, rv, q⟩
  | next => exact let ⟨_, H', J, q⟩ := h; ⟨.non, H', J.os, J.bare, J.base, J.hok, rfl, q⟩
  | brk => exact let ⟨_, _, _, q⟩ := h; q.elim
  | cont => exact let ⟨_, _, _, q⟩ := h; q.elim
theorem FnG.mk' {name qual : Str} {params : Arguments} {body : List Stmt} {scope : Scope} {dV kV doc pm cdv ct oc : Value} {an od : Option Addr} {osl : Array (Option Value)} {N : List Str}
    (lk : K.lookup f = some ⟨oc, od, .func (PySem.W.fnOf name qual params body scope dV kV doc pm an cdv ct), osl⟩) (hcd : PySem.W.codeIn K cdv qual = true) (S : FnScope N ps scope) (len : ∀ {vs H Q E}, sp vs H Q E → vs.length = ps.length)
    (hbody : ∀ {A : Around} {fr : List Env} {s : Shared} {H : Hp} {vs : List V} {Q : VK} {E : XK}, Quiet A → Room k (A.deeper (envOfC qual scope s.heap.objs.size f cdv)) → sp vs H Q E →
      ∃ t, PSs (cxOf CX P w K mg base N qual scope f cdv A fr s H E) body t ∧ t { nx := fun _ H' => Q .non H', rt := Q } (start N vs) H) :
    FnG P w K mg base CX (k + 1) f (PySem.W.fnOf name qual params body scope dV kV doc pm an cdv ct) ps sp where
  args := len
  go {A fr s H ar us vs Q E} qt hr e0 hb r h := by
    have old : ∀ {b o}, base.get? b = some o → s.heap.get? b = some o := fun e => (e0.bs _ _ e).1
    refine codeAny_call_function hr.depth (e0.mod.kin.keeps (fun _ _ e => old e) _ _ lk) rfl S.co S.gen rfl (PySem.W.codeRec_of (e0.mod.kin.keeps fun _ _ e => old e) hcd) (hb _ _ _ _ ?_)
    refine wpAny_newFunctionEnv_cells S.kind (fun y hy => (S.par y.1 (List.of_mem_zip hy).1).imp id fun q => ⟨q, PySem.W.cellsFrom_some _ _ _ (.inl q)⟩) fun env he s1 x => ?_
    subst he
    obtain ⟨t, ht, hq⟩ := hbody (fr := fr) qt (hr.deeper _) h
    refine ⟨(e0.mod.nolimit.keeps fun _ _ e => old e).keeps x.toInCall.keep, codeAny_func (wpAny_mono (ht.run [] s1 (start N vs) H _ (inv_start S hr.hd e0 (len h) r x) hq) (fun fl s' hs => ?_) fun _ _ z => z)⟩
    have z := body_end hs
    cases fl with
    | ret u => exact z
    | next => exact z
    | brk => exact (show False from z).elim
    | cont => exact (show False from z).elim
end
section
variable {X : Cx} {CX : CXT} {k : Nat} {f : Addr} {fd : FuncData} {ps : List Str} {sp : Sp} {E : XK} {ds : List Value} {dvs : List V} {x : Str} {p pos : Pos} {e : Expr} {es : List Expr} {t : TA}
/-- f(e, ..) of such a def -/
theorem pe_callG (F : FnG X.prog X.w X.K X.mg X.base CX k f fd ps sp) (qt : Quiet X.A) (hr : Room k X.A) (hg : Gl X x) (hm : X.mg x = some (.ref f)) (hk : PySem.W.keepIn X.K (.ref f) = true) (hb : Binds X.K fd ps ds) (hd : Vals dvs ds) (hx : Passes CX X E)
    (ha : PA X (e :: es) t) (hdb : (x == ("__debug__" : Str)) = false := by decide) (he : starEach (e :: es) X.env = (false, eval e X.env) :: starEach es X.env := by rfl) (hpl : (backTo pos (starEach es X.env)).any (·.1) = false := by rfl) :
    PE X (.Call (.Name x p) (e :: es) [] pos) (tCall sp dvs E t) := ⟨fun pins s σ H Q I h => by
  refine wpAny_Call_Name_kw (ld_glob I hg hm (PySem.W.callWith_K (h₀ := X.base) I.ok.mod.kin hk (thn (ha.run pos pins s σ H _ I h) fun us s1 ⟨vs, H1, I1, r, q⟩ => ⟨I1.kIn, ?_⟩) he hpl) hdb)
  have r2 := r.append hd
  refine wpAny_call (codeAny_mono (F.go qt hr I1.env0 (hb s1 us I1.kIn (r2.length.symm.trans (F.args q))) r2 q) fun rs s2 z => ?_)
  match rs, z with
  | .error er, z => exact hx pins σ H1 s1 er s2 I1 z
  | .ok (.ret u), z => exact I1.after z⟩
end
/-! ### the repr of a list -/
/-- what an item may be: data without a dict; an empty dict; a dict of one text -/
inductive Sd (K : PySem.W.Frag) (H : Hp) : V → PyData → Prop
  | dp {v : V} {d : PyData} : Dp K H v d → Sd K H v d
  | dic0 {a : Addr} : H a = some (.dK []) → Sd K H (.ref a) (.dict [])
  | dic1 {a : Addr} {i : Int} {z : Str} : H a = some (.dK [(.inl i, .str z)]) → Sd K H (.ref a) (.dict [(.int i, .str z)])
/-- items of a list that is shown: plain ones ahead, anything as the last one; or none with a dict -/
inductive SdAll (K : PySem.W.Frag) (H : Hp) : List V → List PyData → Prop
  | last {v : V} {d : PyData} : Sd K H v d → SdAll K H [v] [d]
  | txt {z : Str} {vs : List V} {ds : List PyData} : SdAll K H vs ds → SdAll K H (.str z :: vs) (.str z :: ds)
  | all {vs : List V} {ds : List PyData} : DpAll K H vs ds → SdAll K H vs ds
section
variable {X : Cx} {pins : List (Addr × Obj)} {σ : L2.St} {H : Hp} {s : Shared}
mutual
theorem dp_nodict {K : PySem.W.Frag} {H : Hp} : ∀ {v : V} {d : PyData}, Dp K H v d → d.hasDict = false
  | _, _, .non => by simp [PyData.hasDict]
  | _, _, .bl _ => by simp [PyData.hasDict]
  | _, _, .int _ => by simp [PyData.hasDict]
  | _, _, .str _ => by simp [PyData.hasDict]
  | _, _, .lst _ h => by simp only [PyData.hasDict]; exact dpAll_nodict h
  | _, _, .tup _ h => by simp only [PyData.hasDict]; exact dpAll_nodict h
theorem dpAll_nodict {K : PySem.W.Frag} {H : Hp} : ∀ {vs : List V} {ds : List PyData}, DpAll K H vs ds → PyData.hasDictAll ds = false
  | _, _, .nil => by simp [PyData.hasDictAll]
  | _, _, .cons h t => by simp only [PyData.hasDictAll, dp_nodict h, dpAll_nodict t, Bool.or_self]
end
theorem sd_reads (I : Inv X pins σ H s) {v : V} {d : PyData} {u : Value} (h : Sd X.K H v d) (r : RelV v u) : ∃ as, Reads s.heap u d as ∧ (d.hasDict = true → sysModules ∉ as) := by
  cases h with
  | dp h =>
    obtain ⟨as, q⟩ := Dp.reads I d v u h r
    exact ⟨as, q, fun z => by rw [dp_nodict h] at z; cases z⟩
  | dic0 e =>
    cases r
    obtain ⟨_, hs, vs, kv, o, es, ep, h1, h2, h3, _, hp, _⟩ := (show ObjOk X.prog X.w H s.heap _ (.dK []) from I.hok _ _ e)
    cases kv
    have ee : es.toList = [] := by
      cases hh : es.toList with
      | nil => rfl
      | cons a b => rw [hh] at hp; cases hp
    refine ⟨_, Reads.dict (kvs := []) (as := []) (bs := []) h1 h2.1 h3 (by rw [ee]; exact .nil) (by rw [ee]; exact .nil), fun _ hm => ?_⟩
    have := beq_eq_false_iff_ne.mp hs
    rcases List.mem_cons.mp hm with z | z
    · exact this z.symm
    · simp at z
  | dic1 e =>
    cases r
    rename_i a i z
    obtain ⟨_, hs, vs, kv, o, es, ep, h1, h2, h3, _, hp, _⟩ := (show ObjOk X.prog X.w H s.heap _ (.dK [(.inl i, .str z)]) from I.hok _ _ e)
    cases kv with
    | cons q1 q2 =>
      cases q2
      obtain ⟨q0, q1⟩ := q1
      rename_i kv0 _
      obtain ⟨k0, v0⟩ := kv0
      have q0 : (Sum.inl i : L2.Key) = k0 := q0
      subst q0
      obtain ⟨t, q1⟩ := (show ∃ t, v0 = Value.str z t from q1)
      subst q1
      cases hh : es.toList with
      | nil => rw [hh] at hp; cases hp
      | cons e1 e2 =>
        rw [hh] at hp
        cases hp with
        | cons p1 p2 p3 =>
          cases p3
          have p1 : keyIs (.inl i) e1.key = true := p1
          rcases keyIs_shape p1 with ⟨j, u, hj, hk⟩ | ⟨x, u, hj, hk⟩
          · have ej : i = j := Sum.inl.inj hj
            subst ej
            refine ⟨_, Reads.dict (kvs := [(.int i, .str z)]) (as := [] ++ []) (bs := [] ++ []) h1 h2.1 h3 ?_ ?_, fun _ hm => ?_⟩
            · rw [hh]
              show ReadsAll s.heap [e1.key] [.int i] _
              rw [hk]
              exact .cons (.int _ _) .nil
            · rw [hh]
              show ReadsAll s.heap [e1.val] [.str z] _
              rw [p2]
              exact .cons (.str _ _) .nil
            · have := beq_eq_false_iff_ne.mp hs
              rcases List.mem_cons.mp hm with z | z
              · exact this z.symm
              · simp at z
          · cases hj
theorem sd_readsAll (I : Inv X pins σ H s) : ∀ {vs : List V} {ds : List PyData} {us : List Value}, SdAll X.K H vs ds → Vals vs us → ∃ as, ReadsAll s.heap us ds as ∧ (PyData.hasDictAll ds = true → sysModules ∉ as)
  | _, _, _, .last h, .cons r .nil => by
    obtain ⟨as, q, n⟩ := sd_reads I h r
    refine ⟨_, .cons q .nil, fun z hm => n ?_ (by simpa using hm)⟩
    simpa [PyData.hasDictAll] using z
  | _, _, _, .txt h, .cons r rr => by
    obtain ⟨t, rfl⟩ := r
    obtain ⟨bs, q2, n2⟩ := sd_readsAll I h rr
    exact ⟨_, .cons (.str _ t) q2, fun z hm => n2 (by simpa [PyData.hasDictAll, PyData.hasDict] using z) (by simpa using hm)⟩
  | _, _, _, .all h, r => by
    obtain ⟨as, q⟩ := Dp.readsAll I _ _ _ h r
    exact ⟨as, q, fun z => by rw [dpAll_nodict h] at z; cases z⟩
/-- repr(x), x a list -/
def rRepr (K : PySem.W.Frag) : List V → Hp → VK → Prop := fun vs H Q => ∃ (a : Addr) (xs : List V) (ds : List PyData), vs = [.ref a] ∧ SqL K H a xs ∧ SdAll K H xs ds ∧ PyData.showable (.list ds) = true ∧ (PyData.shown (.list ds)).length ≤ sizeLine ∧ PyData.depth (.list ds) ≤ 60 ∧ Q (.str (PyData.shown (.list ds))) H
theorem call_reprL {k : Nat} (qt : Quiet X.A) (hr : Room k X.A) : CallR X (.builtin "repr") (rRepr X.K) := by
  intro pins s σ H vs us Q I r h
  obtain ⟨a, xs, ds, rfl, hq, hd, hs, hz, hdp, q⟩ := h
  cases r with
  | cons r rr =>
    cases rr
    cases r
    obtain ⟨its, rv, ⟨o, n, ho, hc, _, hdt⟩, _⟩ := I.list hq
    obtain ⟨as, ra, hsm⟩ := sd_readsAll I hd rv
    have hu := hr.units
    have hs' : PyData.showableAll ds = true := by simpa [PyData.showable] using hs
    have hz' : (listText (PyData.shownAll ds)).length ≤ sizeLine := by simpa only [PyData.shown] using hz
    have fin : ∀ (h' : Heap) (u tk : Tok), (∀ b o, s.heap.get? b = some o → h'.get? b = some o) → EP X pins σ Q (.str (PyData.shown (.list ds)) u) { s with heap := h', toks := tk } :=
      fun h' u tk kp => ⟨.str _, H, I.kept kp, ⟨u, rfl⟩, q⟩
    obtain ⟨bs, hb, hk⟩ := ReprAllK.of_readsAll (prog := X.prog) (w := X.w) ra hs' hsm (fun t ht => Nat.le_trans (listText_mem_le ht) hz')
    have hna : a ∉ bs := not_mem_of_deeper (.list (vs := its.toArray) ho hc hdt (by simpa using ra)) (by simp only [PyData.depth]; omega) hb
    have hdp' : PyData.depthAll ds + 1 ≤ 60 := by simpa only [PyData.depth] using hdp
    refine call_repr_slot (by omega) ⟨o, ho, hc⟩ F.slot_list_repr.toG ?_
    cases its with
    | nil =>
      cases ra
      simp only [PyData.shown, PyData.shownAll, listText_nil] at fin
      exact call_list_repr_empty ⟨o, ho, hc⟩ ho hdt ⟨_, _, rfl, fin s.heap _ _ fun _ _ e => e⟩
    | cons x l =>
      refine call_list_reprK ho hc hdt hna (by simpa using hk.length_eq) (fun i y e => hk.item i y (by simpa using e)) (g := []) qt (fun b _ => Clear.nil b) (by show X.A.units + 1 + _ < _; omega) (fun _ _ e => e) (fun h' u tk kp => ⟨_, _, rfl, ?_⟩) hz'
      have := fin h' u tk kp
      simpa only [PyData.shown] using this
end
end RG
set_option maxHeartbeats 4000000
/-! ### the head, where nothing is being shown -/
namespace RG
open PySem PySem.Spec PyProof.Rows L2
section
variable {P : Program} {w : World} {K : PySem.W.Frag} {mg mb : Str → Option Value} {CX : CXT} {k : Nat} {fa a : Addr} {fd : FuncData} {x : Str} {sp : Sp} {s1 : Shared} {vs : List Value} {ns : List Int}
/-- what the law's call is to come to -/
abbrev Won (s1 : Shared) : Result → Shared → Prop := fun r s' => r = .ok (.ret (.bool true)) ∧ OldK s1.heap s'.heap ∧ s'.os = s1.os ∧ AllBare s'.gens
/-- from a tracked heap that holds the script at most -/
theorem won_from {H : Hp} (KX : K.In s1.heap) (hns : s1.heap.Ns mainGlobals mg) (hb : s1.heap.Ns builtinsNs mb) (hbb : ∀ x : Str, x ≠ "__name__" → mb x = bootBuiltins x) (hlim : s1.heap.NoLimit) (hg : s1.gens = #[])
    (hl : ∀ b, H b ≠ none → ∃ o xs, H b = some (.frz o (.lst xs)) ∧ K.lookup b = none) (hdt : ∀ b o es n, s1.heap.get? b = some o → o.data = .dict es n → H b = none) (hok : HOk P w H s1.heap)
    (hr : Room k callerA) (F : ∀ base : Heap, K.In base → base.Ns mainGlobals mg → FnG P w K mg base CX k fa fd [x] sp) (hbind : ∀ (s : Shared) (u : Value), BindsTo s fd ⟨[u], []⟩ [(x, u)])
    (hsp : sp [.ref a] H (fun v _ => v = .bl true) fun _ _ _ => False) (hCX : ∀ e s', CX [] H s1 (fun _ _ _ => False) e s' → False) :
    codeAny (model P w) callerA (.call (.ref fa) ⟨[.ref a], []⟩) (Won s1) s1 := by
  -- the part of the heap that nothing tracks
  have un : ∀ {b : Addr} {m : Str → Option Value}, s1.heap.Ns b m → (hidT s1.heap H).Ns b m := fun ⟨o, es, ep, e, d, r⟩ => ⟨o, es, ep, hidT_get e (hdt _ _ _ _ e d), d, r⟩
  have kin : K.In (hidT s1.heap H) := fun b o e => by
    refine hidT_get (KX b o e) ?_
    cases q : H b with
    | none => rfl
    | some u =>
      obtain ⟨_, _, _, z⟩ := hl b (by rw [q]; exact fun z => nomatch z)
      rw [z] at e
      cases e
  obtain ⟨mc, l1, l2⟩ := hlim
  have env : Env0 P w K mg (hidT s1.heap H) callerA [] s1 H :=
    { frames := rfl, mod := ⟨kin, un hns, ⟨mb, un hb, hbb⟩, mc, un l1, l2⟩, bs := fun _ _ e => of_hidT e, bsz := Nat.le_of_eq (hidT_size _ _), funs := trivial, frf := fun _ z => (nomatch z), hok := hok, bare := .of_eq hg }
  refine codeAny_mono ((F _ kin (un hns)).go (us := [.ref a]) (vs := [.ref a]) rfl hr env (hbind s1 (.ref a)) (.cons rfl .nil) hsp) fun r s2 h => ?_
  match r, h with
  | .error e, h => exact (hCX e s2 h).elim
  | .ok (.ret u), ⟨v, H2, os, bare, U, ok2, rv, ev⟩ =>
    have ev : v = .bl true := ev
    subst ev
    have rv : u = Value.bool true := rv
    subst rv
    refine ⟨rfl, OldK.of_keep fun b o e => ?_, os, bare⟩
    cases q : H b with
    | none => exact U.keep b o e q (fun z => nomatch z) (fun z => nomatch z)
    | some u =>
      obtain ⟨ob, xs, z, _⟩ := hl b (by rw [q]; exact fun z => nomatch z)
      have e1 := (hok b _ z).1
      have e2 := (ok2 b _ (U.frzs b ob _ z)).1
      rw [e1] at e
      cases e
      exact e2
theorem law_callG (KX : K.In s1.heap) (hns : s1.heap.Ns mainGlobals mg) (hb : s1.heap.Ns builtinsNs mb) (hbb : ∀ x : Str, x ≠ "__name__" → mb x = bootBuiltins x) (hlim : s1.heap.NoLimit) (hg : s1.gens = #[])
    (ha : s1.heap.get? a = some { cls := .type "list", data := .seq vs.toArray }) (hi : IntsAre vs ns) (hl : ns.length ≤ sizeLine) (hr : Room k callerA)
    (F : ∀ base : Heap, K.In base → base.Ns mainGlobals mg → FnG P w K mg base CX k fa fd [x] sp) (hbind : ∀ (s : Shared) (u : Value), BindsTo s fd ⟨[u], []⟩ [(x, u)])
    (hsp : ∀ H : Hp, Only H → SqL K H a (ns.map V.int) → sp [.ref a] H (fun v _ => v = .bl true) fun _ _ _ => False) (hCX : ∀ H e s', CX [] H s1 (fun _ _ _ => False) e s' → False) :
    codeAny (model P w) callerA (.call (.ref fa) ⟨[.ref a], []⟩) (Won s1) s1 := by
  have rv := vals_ints hi
  have lenV := hi.length
  cases hk : K.lookup a with
  | some o =>
    have e := (KX a o hk).symm.trans ha
    cases e
    have hS : SqL K (fun _ => none) a (ns.map V.int) := .inr ⟨_, vs.toArray, _, hk, rfl, rfl, rfl, by rw [List.size_toArray, lenV]; exact hl, rv⟩
    exact won_from KX hns hb hbb hlim hg (H := fun _ => none) (fun _ z => absurd rfl z) (fun _ _ _ _ _ _ => rfl) (fun _ _ z => nomatch z) hr F hbind (hsp _ (fun _ => .inl rfl) hS) (hCX _)
  | none =>
    -- the script is tracked, locked
    let H : Hp := upd (fun _ => none) a (.frz { cls := .type "list", data := .seq vs.toArray } (.lst (ns.map V.int)))
    have at_ : H a = some (.frz { cls := .type "list", data := .seq vs.toArray } (.lst (ns.map V.int))) := upd_same
    have off : ∀ {b}, b ≠ a → H b = none := fun n => upd_ne n
    refine won_from KX hns hb hbb hlim hg (H := H) (fun b z => ?_) (fun b o es n e d => ?_) (fun b u z => ?_) hr F hbind (hsp H (fun b => ?_) (.inl (.inr ⟨_, at_⟩))) (hCX _)
    · by_cases q : b = a
      · subst q
        exact ⟨_, _, at_, hk⟩
      · exact absurd (off q) z
    · by_cases q : b = a
      · subst q
        rw [ha] at e
        cases e
        cases d
      · exact off q
    · by_cases q : b = a
      · subst q
        have z2 := Option.some.inj (z.symm.trans at_)
        subst z2
        exact ⟨ha, by rw [List.length_map]; exact hl, vs, _, rv, ha⟩
      · rw [off q] at z
        cases z
    · by_cases q : b = a
      · subst q
        exact .inr ⟨_, _, at_⟩
      · exact .inl (off q)
end
theorem walk_ofG {l : PySem.W.OpenLaw} {n k : Nat} {q : Program} {loose : List Str} {XP : (Str → Option Value) → Heap → Prop} {YP : World → Heap → Prop} {d : DefRec} {K : Params → PySem.W.Frag} {CX : World → CXT} {sp : World → Sp} {x : Str}
    (hn : l.most = some n) (hn2 : n ≤ sizeLine) (hdf : d.params.defaults = []) (hr : Room k callerA) (hY : ∀ (w : World) (h : Heap), YP w h → (K w.params).In h)
    (F : ∀ (w : World) (mg : Str → Option Value) (fa : Addr) (h : Heap), (K w.params).In h → h.Ns mainGlobals mg → mg d.name = some (.ref fa) →
      ∃ fd : FuncData, (∀ (s : Shared) (u : Value), BindsTo s fd ⟨[u], []⟩ [(x, u)]) ∧ ∀ base : Heap, (K w.params).In base → base.Ns mainGlobals mg → FnG l.prog w (K w.params) mg base (CX w) k fa fd [x] (sp w))
    (hsp : ∀ (w : World) (H : Hp) (a : Addr) (ns : List Int), ns.length ≤ n → Only H → SqL (K w.params) H a (ns.map V.int) → sp w [.ref a] H (fun v _ => v = .bl true) fun _ _ _ => False)
    (hCX : ∀ (w : World) (H : Hp) (s : Shared) (e : Value) (s' : Shared), CX w [] H s (fun _ _ _ => False) e s' → False) : PySem.W.WalkO q loose XP YP l.row.toRowW d [] (fun f vs => PySem.call f vs) :=
  Att.attach_call hn hdf fun w s0 s1 mg mb fa o pm cd doc a vs ns G Y _ _ _ hmg hobj hints hlen hg =>
    let ⟨_, hb, hF⟩ := F w mg fa _ (hY w _ Y) G.T.g hmg
    law_callG (hY w _ Y) G.T.g G.T.b G.T.builtins G.T.nolimit hg hobj hints (Nat.le_trans hlen hn2) hr hF hb (fun H hO hS => hsp w H a ns hlen hO hS) fun H e s' => hCX w H s1 e s'
end RG
set_option maxHeartbeats 4000000
/-! ### a try with several clauses that bind the error -/
namespace RX
open PySem PySem.Spec PyProof.Rows L2
/-- a clause: its class, the slot of its name, its suite's reading -/
structure Cl where
  c : Value
  i : Nat
  ts : Addr → Value → Option Addr → TS
/-- behind a suite the slot is empty again -/
def Ends.wipe (D : Ends) (i : Nat) : Ends := { nx := fun σ H => D.nx (σ.set i none) H, rt := D.rt, bk := fun σ H => D.bk (σ.set i none) H, ct := fun σ H => D.ct (σ.set i none) H }
/-- what is wanted of an error: the first clause that takes it; one must -/
def wCl (K : PySem.W.Frag) (D : Ends) : List Cl → WX
  | [] => fun _ _ _ _ => False
  | q :: r => fun cls d σ H => ∃ b, PySem.W.exmOne K cls q.c = some b ∧ (b = true → ∀ a, H a = none → q.ts a cls d (Ends.wipe D q.i) (σ.set q.i (some (.ref a))) H) ∧ (b = false → wCl K D r cls d σ H)
/-- the clauses, from the first; those behind the last of l are never asked -/
inductive Cls' (X : Cx) : List ExceptHandler → List Cl → Prop
  | rest {hs : List ExceptHandler} : Cls' X hs []
  | cons {x n : Str} {q : Cl} {b0 : Stmt} {su : List Stmt} {np ps : Pos} {hs : List ExceptHandler} {l : List Cl} (hi : X.N[q.i]? = some n) (hl : X.env.kindOf n = some .local) (hc : Names X x q.c)
      (hsu : ∀ (a : Addr) (oe : Obj) (cls : Value) (d : Option Addr) (pn : List (Addr × Obj)), Zc cls d oe → (∃ vs, oe.data = .fields vs) → PSs (X.suite a ((a, oe) :: pn)) (b0 :: su) (q.ts a cls d)) (r : Cls' X hs l) :
      Cls' X (.ExceptHandler (some (.Name x np)) (some n) (b0 :: su) ps :: hs) (q :: l)
section
variable {X : Cx} {body : List Stmt} {h0 : ExceptHandler} {hs : List ExceptHandler} {l : List Cl} {pos : Pos} {tb : WX → TS}
theorem ps_tryC (hst : X.stack = X.env :: X.outer) (hf : X.env.frame = some X.env.locals) (hN : X.N.Nodup)
    (hb : ∀ (W : WX) (pn : List (Addr × Obj)) (xe : Value → Shared → Prop), Takes (X.tr pn xe) W → PassesOwn (model X.prog X.w) X.A X.env xe → PSs (X.tr pn xe) body (tb W))
    (hh : Cls' X (h0 :: hs) l) : PS X (.Try body (h0 :: hs) [] [] pos) (fun D σ H => tb (wCl X.K D l) D σ H) := ⟨fun pins s σ H D I h => by
  have ok := I.ok
  refine wpAny_Try_except ?_
  -- the error's way: noted, set in flight, then to the clauses
  let away : Value → Shared → Prop := fun e s1 => wpAny (model X.prog X.w) X.A (noteFrame e X.env) (fun _ s2 => wpAny (model X.prog X.w) X.A (setFlight e none) (fun _ s3 => wpAny (model X.prog X.w) X.A (handleBy e X.env (h0 :: hs)) (SP X pins D) X.xe s3) X.xe s2) X.xe s1
  have take : Takes (X.tr (X.pn ++ pins) away) (wCl X.K D l) := fun u s' xx => by
    obtain ⟨a, B, sI, pins', σ1, H1, cls, d, rfl, J0, nb, up, sky, na, os, ag, w⟩ := xx
    have J : Inv X pins σ1 H1 sI := J0.ofTry ok
    have hfr : X.A.frames = some (X.env :: X.outer) := ok.frames.trans (congrArg some hst)
    have sky1 : Sky B (X.env :: X.outer) a (Zc cls d) X.env.locals s'.heap := hst ▸ sky
    refine Sky.land Zc.steady hfr hf sky1 fun h3 fl up3 => ?_
    have J3 : Inv X pins σ1 H1 { s' with heap := h3 } := J.landed nb fl.1 (up.trans up3) os ag
    obtain ⟨oe, vs, he, hz, hd⟩ := fl.there
    have apart : ∀ {e : Env}, e ∈ X.env :: X.outer → ∀ {z : Addr}, e.frame = some z → z ≠ a := fun {e} he' {z} ez q => by
      subst q
      obtain ⟨_, o', e', hnf⟩ := fl.2.2.1.mem (List.mem_filterMap.mpr ⟨e, he', ez⟩)
      exact hnf _ (by rw [he] at e'; cases e'; exact hd)
    have nL : a ≠ X.env.locals := fun z => apart List.mem_cons_self hf z.symm
    have nF : a ∉ X.fs := fun hm => by
      obtain ⟨e, he', q⟩ := List.mem_filterMap.mp hm
      exact apart (List.mem_cons_of_mem _ he') q rfl
    have S3 := J3.suite he hd na nL nF
    have go : ∀ {hs' : List ExceptHandler} {l' : List Cl}, Cls' X hs' l' → wCl X.K D l' cls d σ1 H1 → wpAny (model X.prog X.w) X.A (handleBy (.ref a) X.env hs') (SP X pins D) X.xe { s' with heap := h3 } := by
      intro hs' l' hk
      induction hk with
      | rest => exact fun w => w.elim
      | @cons x n q b0 su np ps hs2 l2 hi hl hc hsu r ih =>
        rintro ⟨b, hb1, yes, no⟩
        have test : ∀ {Q' : Value → Shared → Prop} {E' : Value → Shared → Prop}, Q' q.c { s' with heap := h3 } → wpAny (model X.prog X.w) (X.A.mark (some (.ref a))) (eval (.Name x np) X.env) Q' E' { s' with heap := h3 } := fun {Q' E'} hq => by
          obtain ⟨g1, g2, m | ⟨m, v, nn⟩⟩ := hc
          · exact ld_glob (X := X.suite a ((a, oe) :: (X.pn ++ pins))) S3 g1 m hq g2
          · exact ld_blt (X := X.suite a ((a, oe) :: (X.pn ++ pins))) S3 g1 m v hq nn g2
        cases b with
        | false => exact PySem.PX.clause_passZ J3.kIn (fun o z => z.1) fl hb1 test (ih (no rfl))
        | true =>
          refine PySem.PX.clause_asZ J3.kIn (fun o z => z.1) fl hb1 test fun h4 fl4 up4 => ?_
          obtain ⟨oe4, vs4, he4, hz4, hd4⟩ := fl4.there
          have S4 := (J.landed nb fl4.1 ((up.trans up3).trans up4) os ag : Inv X pins σ1 H1 { s' with heap := h4 }).suite he4 hd4 na nL nF
          refine store_ok (X := X.suite a ((a, oe4) :: (X.pn ++ pins))) (v := .ref a) S4 hN hi (.inl hl) rfl (fun s5 S5 => ?_) (.inr hl)
          refine wpAny_mono ((hsu a oe4 cls d (X.pn ++ pins) hz4 ⟨_, hd4⟩).run [] s5 _ H1 _ S5 (yes rfl a na)) (fun f s6 hsp => ?_) fun _ _ z => z.elim
          match f, hsp with
          | .next, ⟨_, _, S6, q6⟩ => exact gone_ok (S6.unsuite ok) hN hi hl fun s7 J7 => ⟨_, _, J7, q6⟩
          | .brk, ⟨_, _, S6, q6⟩ => exact gone_ok (S6.unsuite ok) hN hi hl fun s7 J7 => ⟨_, _, J7, q6⟩
          | .cont, ⟨_, _, S6, q6⟩ => exact gone_ok (S6.unsuite ok) hN hi hl fun s7 J7 => ⟨_, _, J7, q6⟩
          | .ret u, ⟨_, _, _, S6, r6, q6⟩ => exact gone_ok (S6.unsuite ok) hN hi hl fun s7 J7 => ⟨_, _, _, J7, r6, q6⟩
    exact go hh w
  refine wpAny_mono ((hb (wCl X.K D l) (X.pn ++ pins) away take PassesOwn.looking).run [] s σ H D (I.toTry _) h) (fun f s1 hsp => ?_) fun e s1 he => he
  match f, hsp with
  | .next, ⟨_, _, J, q⟩ => exact wpAny_execs_nil ⟨_, _, J.ofTry ok, q⟩
  | .brk, ⟨_, _, J, q⟩ => exact ⟨_, _, J.ofTry ok, q⟩
  | .cont, ⟨_, _, J, q⟩ => exact ⟨_, _, J.ofTry ok, q⟩
  | .ret u, ⟨_, _, _, J, r, q⟩ => exact ⟨_, _, _, J.ofTry ok, r, q⟩⟩
end
end RX
set_option maxHeartbeats 4000000
/-! ### an own error whose __init__ calls that of its base by the base's name, then keeps its fields -/
namespace RX
open PySem PySem.Spec PyProof.Rows L2
section
variable {X : Cx} {x : Str} {CR : Addr} {mc : Value} {e : Expr} {es : List Expr} {ta : TA} {p1 p2 pos : Pos}
/-- what of the base's class is read -/
structure BaseI (K : PySem.W.Frag) (mg : Str → Option Value) (x : Str) (CR : Addr) (mc : Value) : Prop where
  gl : mg x = some (.ref CR)
  rd : PySem.W.readsIn K CR mc = true
  ga : PySem.W.specialIn K (.ref CR) "__getattribute__" = some (some (.builtin "type.__getattribute__"))
  ini : PySem.W.findCls K (.ref CR) mc "__init__" = some (.val (.builtin "ValueError.__init__"))
theorem pe_cinit {pl : Sem Bool} (B : BaseI X.K X.mg x CR mc) (hg : Gl X x) (ha : PA X (e :: es) ta) (hdb : (x == ("__debug__" : Str)) = false := by decide)
    (hc : eval (.Call (.Attribute (.Name x p1) "__init__" p2) (e :: es) [] pos) X.env = (do
      let ov ← eval (.Name x p1) X.env
      standAt p2.atName
      let (f, first) ← holding [ov] (getMethod ov "__init__" pl)
      callWith pos f first (backTo pos (starEach (e :: es) X.env)) (backToKw pos (keywordEach [] X.env))) := by rfl)
    (he : starEach (e :: es) X.env = (false, eval e X.env) :: starEach es X.env := by rfl) (hpl : (backTo pos (starEach es X.env)).any (·.1) = false := by rfl) :
    PE X (.Call (.Attribute (.Name x p1) "__init__" p2) (e :: es) [] pos) (tVeI X.K ta) := ⟨fun pins s σ H Q I h => by
  refine PySem.W.methodCall_KW (ld_glob I hg B.gl ?_ hdb) hc
  refine PySem.W.method_cls I.kIn B.ga (PySem.W.cls_value I.kIn B.rd B.ini (by rfl) ?_)
  show wpAny _ _ (callWith pos (Value.builtin "ValueError.__init__") [] (backTo pos (starEach (e :: es) X.env)) []) _ _ _
  refine PyProof.Rows.callWith_method1 (thn (ha.run pos pins _ σ H _ (I.tok _) h) fun us s1 ⟨vs, H1, I1, r1, a, C, ws, ev, hl, T, ea, q⟩ => ?_) he hpl
  subst ev
  match us, r1 with
  | u0 :: ur, .cons ra rw' =>
    cases (show u0 = Value.ref a from ra)
    exact oinit_ok T I1 ea (by rw [← Paired.length rw', sizeLine_eq]; omega) fun s' J => ⟨.non, H1, J, rfl, q⟩⟩
end
end RX
set_option maxHeartbeats 4000000
/-! ### == by own __eq__, either answer: lists item by item -/
namespace RQ
open PySem PySem.SeqAt GQ
open AutoSeq1 (wpAny_loadPart')
open MeetsSeq MeetsSeq2 MeetsSeq3 SeqRoads2
section
variable {prog : Program} {w : World} {A : Around} {R : Result → Shared → Prop}
/-- at each turn the two lists are read anew; the i-th two items compare as ds tells -/
def ListB (prog : Program) (w : World) (A : Around) (E : Value → Shared → Prop) (l b : Addr) (N : Nat) (ds : Nat → Bool) (I : Nat → Shared → Prop) : Prop :=
  ∀ i s, I i s → ∃ (items items2 : Array Value) (n n2 : Nat), s.heap.get? l = some { cls := .type "list", data := .seq items n } ∧ s.heap.get? b = some { cls := .type "list", data := .seq items2 n2 } ∧ items.size = N ∧ items2.size = N ∧
    ∀ (h1 : i < items.size) (h2 : i < items2.size), wpAny (model prog w) A.in1 (eqBool items[i] items2[i]) (fun r s' => r = ds i ∧ I (i + 1) s') E s
theorem eq_loopB (l b : Addr) (N : Nat) (ds : Nat → Bool) (I : Nat → Shared → Prop) (hl : ListB prog w A (fun e s' => R (.error e) s') l b N ds I)
    (fin : ∀ s, (∀ j, j < N → ds j = true) → I N s → R (.ok (.ret (.bool true))) s) (finF : ∀ i s, i < N → ds i = false → I (i + 1) s → R (.ok (.ret (.bool false))) s) (k : Nat) :
    ∀ i : Nat, N - i = k → i ≤ N → (∀ j, j < i → ds j = true) → ∀ s, I i s →
      wpAny (model prog w) A.in1 (Builtin.«list.__eq__.loop» ⟨[.ref l, .ref b, rawInt i, rawInt 2], []⟩) (FinOf prog w A R) (fun e s' => R (.error e) s') s := by
  induction k with
  | zero =>
    intro i hk hi hd s h
    obtain ⟨items, items2, n, n2, hl1, hb1, hs1, hs2, _⟩ := hl _ _ h
    have hi' : i = N := by omega
    have hR : R (.ok (.ret (.bool true))) s := fin s (hi' ▸ hd) (hi' ▸ h)
    obtain ⟨hp, g, d, tk, os⟩ := s
    wp_walk using wpAny_loadPart' hl1, wpAny_loadPart' hb1
    have hi1 : items[((i : Nat) : Int).toNat]? = none := by simp; omega
    have hi2 : items2[((i : Nat) : Int).toNat]? = none := by simp; omega
    rw [hi1, hi2]
    wp_walk using wpAny_loadPart' hl1, wpAny_loadPart' hb1
    show R (.ok (.ret (.bool (items.size == items2.size)))) _
    rw [hs1, hs2]
    simpa using hR
  | succ k ih =>
    intro i hk hi hd s h
    obtain ⟨items, items2, n, n2, hl1, hb1, hs1, hs2, turn⟩ := hl _ _ h
    have hlt : i < items.size := by omega
    have hlt2 : i < items2.size := by omega
    have ht := turn hlt hlt2
    obtain ⟨hp, g, d, tk, os⟩ := s
    wp_walk using wpAny_loadPart' hl1, wpAny_loadPart' hb1
    have hi1 : items[((i : Nat) : Int).toNat]? = some items[i] := by simp [hlt]
    have hi2 : items2[((i : Nat) : Int).toNat]? = some items2[i] := by simp [hlt2]
    have hc : ((i : Int) + 1) = ((i + 1 : Nat) : Int) := by omega
    rw [hi1, hi2]
    refine wpAny_bind (wpAny_mono ht (fun r s2 h2 => ?_) fun _ _ x => x)
    obtain ⟨hr, h2⟩ := h2
    subst hr
    cases hb : ds i with
    | false =>
      have hF := finF i s2 (by omega) hb h2
      obtain ⟨items', items2', n', n2', hl1', hb1', hs1', hs2', _⟩ := hl _ _ h2
      obtain ⟨hp2, g2, d2, tk2, os2⟩ := s2
      wp_walk using wpAny_loadPart' hl1', wpAny_loadPart' hb1'
      have hj1 : items'[((i : Nat) : Int).toNat]? = some (items'[i]'(by omega)) := by
        rw [show ((i : Nat) : Int).toNat = i by simp]
        exact Array.getElem?_eq_getElem (by omega)
      have hj2 : items2'[((i : Nat) : Int).toNat]? = some (items2'[i]'(by omega)) := by
        rw [show ((i : Nat) : Int).toNat = i by simp]
        exact Array.getElem?_eq_getElem (by omega)
      rw [hj1, hj2]
      wp_walk
      exact hF
    | true =>
      have hrec := ih (i + 1) (by omega) (by omega) (fun j hj => by
        rcases Nat.lt_or_ge j i with q | q
        · exact hd j q
        · have : j = i := by omega
          rw [this]; exact hb) s2 h2
      obtain ⟨hp2, g2, d2, tk2, os2⟩ := s2
      wp_walk
      rw [hc]
      exact ⟨plainId_quiet plain_eq_loop _, codeAny_builtin entry_eq_loop (by
        rw [Around.under_plainId plain_eq_loop _]
        exact hrec)⟩
theorem list_eqB (l b : Addr) (N : Nat) (ds : Nat → Bool) (I : Nat → Shared → Prop) (hl : ListB prog w A (fun e s' => R (.error e) s') l b N ds I)
    (fin : ∀ s, (∀ j, j < N → ds j = true) → I N s → R (.ok (.ret (.bool true))) s) (finF : ∀ i s, i < N → ds i = false → I (i + 1) s → R (.ok (.ret (.bool false))) s) {s : Shared} (h : I 0 s) :
    wpAny (model prog w) A.in1 (Builtin.«list.__eq__» ⟨[.ref l, .ref b], []⟩) (FinOf prog w A R) (fun e s' => R (.error e) s') s := by
  obtain ⟨items, items2, n, n2, hl1, hb1, hs1, hs2, _⟩ := hl _ _ h
  have hrec := eq_loopB (A := A) (R := R) l b N ds I hl fin finF _ 0 rfl (Nat.zero_le _) (fun j hj => absurd hj (Nat.not_lt_zero j)) s h
  obtain ⟨hp, g, d, tk, os⟩ := s
  have f3 := AutoSeq1.sub_list_list
  have hne : ¬ (items.size != items2.size) = true := by simp [hs1, hs2]
  wp_walk using wpAny_loadPart' hl1, wpAny_loadPart' hb1
  exact ⟨plainId_quiet plain_eq_loop _, codeAny_builtin entry_eq_loop (by
    rw [Around.under_plainId plain_eq_loop _]
    exact hrec)⟩
/-- lists of unlike lengths -/
theorem list_eqL (l b : Addr) {items items2 : Array Value} {n n2 : Nat} {s : Shared} (hl1 : s.heap.get? l = some { cls := .type "list", data := .seq items n }) (hb1 : s.heap.get? b = some { cls := .type "list", data := .seq items2 n2 }) (hne : items.size ≠ items2.size)
    (q : R (.ok (.ret (.bool false))) s) : wpAny (model prog w) A.in1 (Builtin.«list.__eq__» ⟨[.ref l, .ref b], []⟩) (FinOf prog w A R) (fun e s' => R (.error e) s') s := by
  obtain ⟨hp, g, d, tk, os⟩ := s
  have f3 := AutoSeq1.sub_list_list
  have hne : (items.size != items2.size) = true := by simpa using hne
  wp_walk using wpAny_loadPart' hl1, wpAny_loadPart' hb1
  exact q
end
section
variable {prog : Program} {w : World} {A : Around} {E : Value → Shared → Prop} {s : Shared}
theorem rc_listB {l b : Addr} {N : Nat} {Q : Value → Shared → Prop} (hu : A.units < cLine) (ds : Nat → Bool) (I : Nat → Shared → Prop) (hl : ListB prog w A E l b N ds I)
    (fin : ∀ s, (∀ j, j < N → ds j = true) → I N s → Q (.bool true) s) (finF : ∀ i s, i < N → ds i = false → I (i + 1) s → Q (.bool false) s) (h : I 0 s) : wpAny (model prog w) A (richCompare .Eq (.ref l) (.ref b)) Q E s := by
  obtain ⟨items, items2, n, n2, hl1, hb1, _, _, _⟩ := hl _ _ h
  refine wpAny_richCompare_same_room (op := .Eq) ⟨_, hl1, rfl⟩ ⟨_, hb1, rfl⟩ F.slot_list_eq (call_here F.slot_list_eq ⟨_, hl1, rfl⟩ F.entry_list_eq (F.args_list_eq_2 _ _) ?_) hu
  exact list_eqB (R := wants (fun v s' => v ≠ .notImplemented ∧ Q v s') E) l b N ds I hl (fun s' a q => ⟨(fun x => nomatch x), fin s' a q⟩) (fun i s' a c q => ⟨(fun x => nomatch x), finF i s' a c q⟩) h
theorem rc_listL {l b : Addr} {items items2 : Array Value} {n n2 : Nat} {Q : Value → Shared → Prop} (hu : A.units < cLine) (hl1 : s.heap.get? l = some { cls := .type "list", data := .seq items n }) (hb1 : s.heap.get? b = some { cls := .type "list", data := .seq items2 n2 }) (hne : items.size ≠ items2.size)
    (q : Q (.bool false) s) : wpAny (model prog w) A (richCompare .Eq (.ref l) (.ref b)) Q E s := by
  refine wpAny_richCompare_same_room (op := .Eq) ⟨_, hl1, rfl⟩ ⟨_, hb1, rfl⟩ F.slot_list_eq (call_here F.slot_list_eq ⟨_, hl1, rfl⟩ F.entry_list_eq (F.args_list_eq_2 _ _) ?_) hu
  exact list_eqL (R := wants (fun v s' => v ≠ .notImplemented ∧ Q v s') E) l b hl1 hb1 hne ⟨(fun x => nomatch x), q⟩
end
end RQ
namespace RQ
open PySem PySem.Spec PyProof.Rows L2
/-- how two values compare, by the abstract heap -/
abbrev EqvB := V → V → Hp → Bool → Prop
def MonB (D : EqvB) : Prop := ∀ x y H H' k, Ext H H' → D x y H k → D x y H' k
/-- == gives k for what D says, and only makes objects -/
def EqB (X : Cx) (n : Nat) (D : EqvB) : Prop :=
  ∀ (A : Around) (pins : List (Addr × Obj)) (s : Shared) (σ : L2.St) (H : Hp) (x y : V) (u v : Value) (k : Bool), L2.Sub X n A → Inv X pins σ H s → RelV x u → RelV y v → D x y H k →
    wpAny (model X.prog X.w) A (eqBool u v) (fun r s' => r = k ∧ ∃ H', Inv X pins σ H' s' ∧ Ext H H') X.xe s
def RcB (X : Cx) (n : Nat) (D : EqvB) : Prop :=
  ∀ (A : Around) (pins : List (Addr × Obj)) (s : Shared) (σ : L2.St) (H : Hp) (x y : V) (u v : Value) (k : Bool), L2.Sub X n A → Inv X pins σ H s → RelV x u → RelV y v → D x y H k →
    wpAny (model X.prog X.w) A (richCompare .Eq u v) (fun r s' => r = .bool k ∧ ∃ H', Inv X pins σ H' s' ∧ Ext H H') X.xe s
section
variable {X : Cx} {n : Nat} {D : EqvB}
/-- an own == with either answer -/
def spEqB (R : Addr → V → Hp → Bool → Prop) : Sp := fun vs H Q _ => ∃ a y k, vs = [.ref a, y] ∧ R a y H k ∧ ∀ H', Ext H H' → Q (.bl k) H'
/-- instances of the class at C with the text's own ==, the other one of a class C' that isn't asked first -/
def DInsB (K : PySem.W.Frag) (C : Addr) (R : Addr → V → Hp → Bool → Prop) : EqvB := fun x y H k => ∃ a b dx dy fs gs C', x = .ref a ∧ y = .ref b ∧ H a = some (.ins C dx fs) ∧ H b = some (.ins C' dy gs) ∧ PySem.W.notFirst K C (.ref C') = true ∧ R a (.ref b) H k
theorem rcB_ins {CX : CXT} {C f : Addr} {fd : FuncData} {ps : List Str} {R : Addr → V → Hp → Bool → Prop} {E : XK} (F : FnOk X.prog X.w X.K X.mg X.base CX n f fd ps (spEqB R))
    (hs : PySem.W.findIn X.K (.ref C) "__eq__" = some (some (.ref f))) (hf : PySem.W.isFn X.K (.ref f) = true) (hb : Binds X.K fd ps []) (hx : Passes CX X E) : RcB X n (DInsB X.K C R) := by
  intro A pins s σ H x y u v k sb I rx ry d
  obtain ⟨a, b, dx, dy, fs, gs, C', rfl, rfl, ha, hb', hn, hr⟩ := d
  cases rx
  cases ry
  obtain ⟨mA, J, _⟩ := ins_get I.hok ha
  obtain ⟨mB, J', _⟩ := ins_get I.hok hb'
  obtain ⟨od, J, _⟩ := J.look
  obtain ⟨od', J', _⟩ := J'.look
  obtain ⟨m, hF⟩ := I.fr
  refine PySem.W.cmp_K (op := .Eq) (tb := .ref C') sb.room.units0 hF I.ok.mod.kin J J'.type hn hs hf ?_
  have hsp : spEqB R [.ref a, .ref b] H (fun v H' => v = .bl k ∧ Ext H H') E := ⟨a, .ref b, k, rfl, hr, fun H' e => ⟨rfl, e⟩⟩
  have e0 : Env0 X.prog X.w X.K X.mg X.base A X.stack s H := by
    have e := I.env0
    exact ⟨by rw [sb.fr]; exact e.frames, e.mod, e.bs, e.bsz, e.funs, e.frf, e.hok, e.bare⟩
  have hl := F.len _ _ _ _ hsp
  have r2 : Vals [V.ref a, V.ref b] [Value.ref a, Value.ref b] := .cons rfl (.cons rfl .nil)
  refine wpAny_call (codeAny_mono (F.run A X.stack s H ⟨[.ref a, .ref b], []⟩ [.ref a, .ref b] [.ref a, .ref b] _ E sb.room e0 (by
    have := hb s [.ref a, .ref b] I.kIn (by simpa using hl)
    simpa using this) r2 hsp) fun r s' hq => ?_)
  cases r with
  | error e => exact hx pins σ H s e s' I hq
  | ok fl =>
    cases fl with
    | ret w =>
      obtain ⟨z, H', I', rz, ez, ex⟩ := I.after hq
      subst ez
      cases rz
      exact ⟨rfl, H', I', ex⟩
    | next => exact False.elim hq
    | brk => exact False.elim hq
    | cont => exact False.elim hq
/-- == of two objects within a list: the same object is equal to itself -/
theorem RcB.eqB (h : RcB X n D) (hr : ∀ x y H k, D x y H k → ∃ a b, x = .ref a ∧ y = .ref b) (self : ∀ x H k, D x x H k → k = true) : EqB X n D := by
  intro A pins s σ H x y u v k sb I rx ry d
  obtain ⟨a, b, rfl, rfl⟩ := hr _ _ _ _ d
  cases rx
  cases ry
  by_cases hab : a = b
  · subst hab
    have e := self _ _ _ d
    subst e
    exact SeqAt.EqAt.same (A := A) (s := s) (.ref a) X.prog X.w X.xe _ ⟨rfl, H, I, Ext.rfl'⟩
  · refine GQ.eqBool_refG hab (wpAny_mono (h A pins s σ H (.ref a) (.ref b) _ _ k sb I rfl rfl d) (fun r s' q => ?_) fun _ _ x => x)
    obtain ⟨hr', q⟩ := q
    exact ⟨k, hr', rfl, q⟩
/-- lists, item by item: ks the items' answers -/
def DListB (D : EqvB) : EqvB := fun x y H k => ∃ a b xs ys, x = .ref a ∧ y = .ref b ∧ H a = some (.lst xs) ∧ H b = some (.lst ys) ∧
  ((xs.length ≠ ys.length ∧ k = false) ∨ ∃ ks : List Bool, xs.length = ys.length ∧ ks.length = xs.length ∧ (∀ (i : Nat) x y d, xs[i]? = some x → ys[i]? = some y → ks[i]? = some d → D x y H d) ∧ k = ks.all id)
theorem rcB_list (hD : MonB D) (h : EqB X n D) : RcB X (n + 1) (DListB D) := by
  intro A pins s σ H x y u v k sb I rx ry d
  obtain ⟨a, b, xs, ys, rfl, rfl, ha, hb, d⟩ := d
  cases rx
  cases ry
  obtain ⟨z, its, k1, r, e⟩ := I.hok a _ ha
  obtain ⟨z2, its2, k2, r2, e2⟩ := I.hok b _ hb
  rcases d with ⟨hne, rfl⟩ | ⟨ks, hl, hk, hd, rfl⟩
  · exact rc_listL sb.room.units0 e e2 (by rw [List.size_toArray, List.size_toArray, ← r.length, ← r2.length]; exact hne) ⟨rfl, H, I, Ext.rfl'⟩
  · refine rc_listB (N := xs.length) sb.room.units0 (fun i => ks.getD i true) (fun _ s' => LoopI X pins σ H s') (fun i s' q => ?_) (fun s' a q => ⟨?_, q⟩) (fun i s' hi hf q => ⟨?_, q⟩) ⟨H, I, Ext.rfl'⟩
    · obtain ⟨H1, I1, e1⟩ := id q
      obtain ⟨z, its, k1, r, e⟩ := I1.hok a _ (e1 _ _ ha)
      obtain ⟨z2, its2, k2, r2, e2⟩ := I1.hok b _ (e1 _ _ hb)
      refine ⟨its.toArray, its2.toArray, k1, k2, e, e2, by rw [List.size_toArray, ← r.length], by rw [List.size_toArray, ← r2.length, ← hl], fun h1 h2 => ?_⟩
      have g1 : its[i]? = some its.toArray[i] := by
        have h1' : i < its.length := by simpa using h1
        rw [List.getElem?_eq_getElem h1'] <;> simp
      have g2 : its2[i]? = some its2.toArray[i] := by
        have h2' : i < its2.length := by simpa using h2
        rw [List.getElem?_eq_getElem h2'] <;> simp
      have q1 : i < xs.length := by rw [r.length]; simpa using h1
      have q2 : i < ys.length := by rw [r2.length]; simpa using h2
      have q3 : i < ks.length := by omega
      obtain ⟨u, hu, ru⟩ := r.get (List.getElem?_eq_getElem q1)
      obtain ⟨v, hv, rv⟩ := r2.get (List.getElem?_eq_getElem q2)
      rw [g1] at hu
      rw [g2] at hv
      rw [Option.some.inj hu, Option.some.inj hv]
      have ek : ks.getD i true = ks[i] := by simp [List.getD, List.getElem?_eq_getElem q3]
      refine wpAny_mono (h A.in1 pins s' σ H1 _ _ u v ks[i] sb.in1 I1 ru rv (hD _ _ _ _ _ e1 (hd i _ _ _ (List.getElem?_eq_getElem q1) (List.getElem?_eq_getElem q2) (List.getElem?_eq_getElem q3)))) (fun r s2 q => ?_) fun _ _ x => x
      obtain ⟨hr, H2, I2, e3⟩ := q
      exact ⟨hr.trans ek.symm, H2, I2, e1.trans e3⟩
    · have e : ks.all id = true := by
        rw [List.all_eq_true]
        intro d hd
        obtain ⟨i, hi, rfl⟩ := List.getElem_of_mem hd
        have := a i (by omega)
        simpa [List.getD, List.getElem?_eq_getElem hi] using this
      rw [e]
    · have q3 : i < ks.length := by omega
      have e : ks.all id = false := by
        rw [List.all_eq_false]
        refine ⟨ks[i], List.getElem_mem q3, ?_⟩
        have : ks[i] = false := by simpa [List.getD, List.getElem?_eq_getElem q3] using hf
        rw [this]
        simp
      rw [e]
/-- x == y as an expression -/
def rEqB (D : EqvB) : R2 := fun x y H Q => ∃ k, D x y H k ∧ ∀ H', Ext H H' → Q (.bl k) H'
theorem op_eqB (h : RcB X n D) (hr : Room n X.A) : OpR X (compareOp .Eq) (rEqB D) := by
  intro pins s σ H x y v u Q I rx ry hq
  obtain ⟨k, d, q⟩ := hq
  show wpAny (model X.prog X.w) X.A (richCompare .Eq v u) (EP X pins σ Q) X.xe s
  refine wpAny_mono (h X.A pins s σ H x y v u k ⟨hr, rfl⟩ I rx ry d) (fun r s' z => ?_) fun _ _ x => x
  obtain ⟨hr', H', I', e⟩ := z
  subst hr'
  exact ⟨.bl k, H', I', rfl, q H' e⟩
end
end RQ
set_option maxHeartbeats 4000000
/-! ### != of instances by their own __eq__ -/
namespace RQ
open PySem PySem.Spec PyProof.Rows PySem.SeqAt Builtin
section
variable {M : Model} {prog : Program} {w : World} {A : Around} {E : Value → Shared → Prop} {s : Shared} {K : PySem.W.Frag} {x y C f : Addr} {ox : Obj} {od : Option Obj}
theorem entry_ne (hu : A.units < cLine) (X : K.In s.heap) (I : PySem.W.InstAt s.heap x ox C od) (hs : PySem.W.findIn K (.ref C) "__eq__" = some (some (.ref f))) (hf : PySem.W.isFn K (.ref f) = true) {Q : Fin → Shared → Prop}
    (hcall : wpAny M A (call (.ref f) [.ref x, .ref y]) (fun v s' => ∃ b, v = .bool b ∧ Q (.done (.ret (.bool (!b)))) s') E s) : wpAny M A (Builtin.«object.__ne__» ⟨[.ref x, .ref y], []⟩) Q E s := by
  unfold Builtin.«object.__ne__»
  repeat (first
    | with_reducible refine wpAny_cRoomFor hu ?_
    | (refine wpAny_bind (m := callSpecialIfBound? (.ref x) (Str.ofString "__eq__") [.ref y])
        (PySem.W.ifBound_K X I hs hf (wpAny_mono hcall (fun r s' hr => by
          obtain ⟨b, rfl, hq⟩ := hr
          repeat (first | exact hq | exact wpAny_pure hq | exact wpAny_truthy_bool hq | (refine wpAny_bind (m := truthy (.bool _)) (wpAny_truthy_bool ?_)) | wp_step)) fun _ _ e => e)))
    | wp_step)
theorem ifBound_objNe {args : List Value} {Q : Option Value → Shared → Prop} (X : K.In s.heap) (I : PySem.W.InstAt s.heap x ox C od) (hs : PySem.W.findIn K (.ref C) "__ne__" = some (some (.builtin "object.__ne__")))
    (h : wpAny M A (call (.builtin "object.__ne__") (.ref x :: args)) (fun v => Q (some v)) E s) : wpAny M A (callSpecialIfBound? (.ref x) "__ne__" args) Q E s := by
  simp only [callSpecialIfBound?, bindSpecialIfBound?]
  refine wpAny_holding (wpAny_bind (wpAny_bind (wpAny_bind (I.type.here ((PySem.W.looks_findIn X hs).here ?_)))))
  refine wpAny_bind (wpAny_askSetting (wpAny_ite ?_))
  have fin : wpAny M A (call (.builtin "object.__ne__") ([.ref x] ++ args) >>= fun v => pure (some v)) Q E s := wpAny_bind (wpAny_mono h (fun v s' h' => wpAny_pure h') fun _ _ h' => h')
  split
  · exact wpAny_bind (wpAny_of_eq (F.cmp_object.ne.bind _) (wpAny_pure (by exact fin)))
  · exact wpAny_tryCatch (wpAny_bind (wpAny_of_eq (F.cmp_object.ne.bind _) (wpAny_pure (by exact fin))))
theorem call_objNe (hu : A.units + 1 < cLine) (X : K.In s.heap) (I : PySem.W.InstAt s.heap x ox C od) (hm : PySem.W.mroIn K C (.type "object") = some true) (hs : PySem.W.findIn K (.ref C) "__eq__" = some (some (.ref f))) (hf : PySem.W.isFn K (.ref f) = true) {Q : Value → Shared → Prop}
    (hcall : wpAny (model prog w) A.in1 (call (.ref f) [.ref x, .ref y]) (fun v s' => ∃ b, v = .bool b ∧ Q (.bool (!b)) s') E s) : wpAny (model prog w) A (call (.builtin "object.__ne__") [.ref x, .ref y]) Q E s :=
  wpAny_call (codeAny_call_builtin F.cmp_object.ne.plain F.cmpEntry_ne (PySem.W.check_slot F.cmpKind_ne F.cmpSplit_ne (I.type.andThen (PySem.W.looks_mroIn X hm)) (F.cmpArgs_ne _ _)
    (entry_ne (A := A.in1) hu X I hs hf (wpAny_mono hcall (fun v s' hv => by obtain ⟨b, rfl, q⟩ := hv; exact ⟨b, rfl, q⟩) fun _ _ e => e))))
theorem ne_K {tb : Value} {Q : Value → Shared → Prop} (hu : A.units + 1 < cLine) (X : K.In s.heap) (I : PySem.W.InstAt s.heap x ox C od) (hb : PySem.W.Looks (model prog w) s.heap (typeOf (.ref y)) tb)
    (hn : PySem.W.notFirst K C tb = true) (hm : PySem.W.mroIn K C (.type "object") = some true) (hne : PySem.W.findIn K (.ref C) "__ne__" = some (some (.builtin "object.__ne__"))) (hs : PySem.W.findIn K (.ref C) "__eq__" = some (some (.ref f))) (hf : PySem.W.isFn K (.ref f) = true)
    (hcall : wpAny (model prog w) A.in1 (call (.ref f) [.ref x, .ref y]) (fun v s' => ∃ b, v = .bool b ∧ Q (.bool (!b)) s') E s) : wpAny (model prog w) A (richCompare .NotEq (.ref x) (.ref y)) Q E s := by
  have one : wpAny (model prog w) A (tryCompare (.ref x) "__ne__" (.ref y)) (fun r s' => ∃ b, r = some (.bool b) ∧ Q (.bool b) s') E s := by
    unfold tryCompare
    refine wpAny_bind (ifBound_objNe X I hne (call_objNe hu X I hm hs hf (wpAny_mono hcall (fun v s' hv => ?_) fun _ _ e => e)))
    obtain ⟨b, rfl, q⟩ := hv
    exact ⟨b, rfl, wpAny_pure ⟨_, rfl, q⟩⟩
  simp only [richCompare, cmpInfo_NotEq, oneThing_ref]
  refine wpAny_holding (wpAny_bind (wpAny_cRoomFor (Nat.lt_of_succ_lt hu) ?_))
  refine wpAny_bind (I.type.here (wpAny_bind (hb.here ?_)))
  split
  · rename_i q
    have e : PySem.W.subIn K tb (.ref C) = some false := by
      rcases Bool.or_eq_true_iff.mp hn with e | e
      · rw [beq_iff_eq.mp e] at q; simp at q
      · exact beq_iff_eq.mp e
    refine wpAny_bind ((PySem.W.looks_subIn X e).here ?_)
    simp only [Bool.false_eq_true, if_false]
    refine wpAny_bind (wpAny_mono one (fun r s' z => ?_) fun _ _ e => e)
    obtain ⟨b, rfl, hq⟩ := z
    exact wpAny_pure hq
  · refine wpAny_bind (wpAny_pure ?_)
    simp only [Bool.false_eq_true, if_false]
    refine wpAny_bind (wpAny_mono one (fun r s' z => ?_) fun _ _ e => e)
    obtain ⟨b, rfl, hq⟩ := z
    exact wpAny_pure hq
end
end RQ
namespace RQ
open PySem PySem.Spec PyProof.Rows L2
section
variable {X : Cx} {n : Nat}
/-- x != y, x an instance with an own == and no own != -/
def rNeB (D : EqvB) : R2 := fun x y H Q => ∃ k, D x y H k ∧ ∀ H', Ext H H' → Q (.bl (!k)) H'
theorem op_neB {CX : CXT} {C f : Addr} {fd : FuncData} {ps : List Str} {R : Addr → V → Hp → Bool → Prop} {E : XK} (F : FnOk X.prog X.w X.K X.mg X.base CX n f fd ps (spEqB R)) (hr : Room (n + 1) X.A)
    (hm : PySem.W.mroIn X.K C (.type "object") = some true) (hne : PySem.W.findIn X.K (.ref C) "__ne__" = some (some (.builtin "object.__ne__"))) (hs : PySem.W.findIn X.K (.ref C) "__eq__" = some (some (.ref f))) (hf : PySem.W.isFn X.K (.ref f) = true) (hb : Binds X.K fd ps []) (hx : Passes CX X E) :
    OpR X (compareOp .NotEq) (rNeB (DInsB X.K C R)) := by
  intro pins s σ H x y v u Q I rx ry hq
  obtain ⟨k, d, q⟩ := hq
  obtain ⟨a, b, dx, dy, fs, gs, C', rfl, rfl, ha, hb', hn, hrr⟩ := d
  cases rx
  cases ry
  obtain ⟨mA, J, _⟩ := ins_get I.hok ha
  obtain ⟨mB, J', _⟩ := ins_get I.hok hb'
  obtain ⟨od, J, _⟩ := J.look
  obtain ⟨od', J', _⟩ := J'.look
  show wpAny (model X.prog X.w) X.A (richCompare .NotEq (.ref a) (.ref b)) (EP X pins σ Q) X.xe s
  refine ne_K (tb := .ref C') (by have := hr.un; omega) I.kIn J J'.type hn hm hne hs hf ?_
  have hsp : spEqB R [.ref a, .ref b] H (fun v H' => v = .bl k ∧ Ext H H') E := ⟨a, .ref b, k, rfl, hrr, fun H' e => ⟨rfl, e⟩⟩
  have e0 : Env0 X.prog X.w X.K X.mg X.base X.A.in1 X.stack s H := by
    have e := I.env0
    exact ⟨e.frames, e.mod, e.bs, e.bsz, e.funs, e.frf, e.hok, e.bare⟩
  have hl := F.len _ _ _ _ hsp
  have r2 : Vals [V.ref a, V.ref b] [Value.ref a, Value.ref b] := .cons rfl (.cons rfl .nil)
  refine wpAny_call (codeAny_mono (F.run X.A.in1 X.stack s H ⟨[.ref a, .ref b], []⟩ [.ref a, .ref b] [.ref a, .ref b] _ E hr.in1 e0 (by
    have := hb s [.ref a, .ref b] I.kIn (by simpa using hl)
    simpa using this) r2 hsp) fun r s' hq => ?_)
  cases r with
  | error e => exact hx pins σ H s e s' I hq
  | ok fl =>
    cases fl with
    | ret w =>
      obtain ⟨z, H', I', rz, ez, ex⟩ := I.after hq
      subst ez
      cases rz
      exact ⟨k, rfl, .bl (!k), H', I', rfl, q H' ex⟩
    | next => exact False.elim hq
    | brk => exact False.elim hq
    | cont => exact False.elim hq
end
end RQ
set_option maxHeartbeats 4000000
/-! ### == and != of an instance by its own __eq__, the other side any value whose class is known -/
namespace RQ
open PySem PySem.Spec PyProof.Rows PySem.SeqAt Builtin
section
variable {M : Model} {prog : Program} {w : World} {A : Around} {E : Value → Shared → Prop} {s : Shared} {K : PySem.W.Frag} {x C f : Addr} {y : Value} {ox : Obj} {od : Option Obj}
theorem entry_neV (hu : A.units < cLine) (X : K.In s.heap) (I : PySem.W.InstAt s.heap x ox C od) (hs : PySem.W.findIn K (.ref C) "__eq__" = some (some (.ref f))) (hf : PySem.W.isFn K (.ref f) = true) {Q : Fin → Shared → Prop}
    (hcall : wpAny M A (call (.ref f) [.ref x, y]) (fun v s' => ∃ b, v = .bool b ∧ Q (.done (.ret (.bool (!b)))) s') E s) : wpAny M A (Builtin.«object.__ne__» ⟨[.ref x, y], []⟩) Q E s := by
  unfold Builtin.«object.__ne__»
  repeat (first
    | with_reducible refine wpAny_cRoomFor hu ?_
    | (refine wpAny_bind (m := callSpecialIfBound? (.ref x) (Str.ofString "__eq__") [y])
        (PySem.W.ifBound_K X I hs hf (wpAny_mono hcall (fun r s' hr => by
          obtain ⟨b, rfl, hq⟩ := hr
          repeat (first | exact hq | exact wpAny_pure hq | exact wpAny_truthy_bool hq | (refine wpAny_bind (m := truthy (.bool _)) (wpAny_truthy_bool ?_)) | wp_step)) fun _ _ e => e)))
    | wp_step)
theorem call_objNeV (hu : A.units + 1 < cLine) (X : K.In s.heap) (I : PySem.W.InstAt s.heap x ox C od) (hm : PySem.W.mroIn K C (.type "object") = some true) (hs : PySem.W.findIn K (.ref C) "__eq__" = some (some (.ref f))) (hf : PySem.W.isFn K (.ref f) = true) {Q : Value → Shared → Prop}
    (hcall : wpAny (model prog w) A.in1 (call (.ref f) [.ref x, y]) (fun v s' => ∃ b, v = .bool b ∧ Q (.bool (!b)) s') E s) : wpAny (model prog w) A (call (.builtin "object.__ne__") [.ref x, y]) Q E s :=
  wpAny_call (codeAny_call_builtin F.cmp_object.ne.plain F.cmpEntry_ne (PySem.W.check_slot F.cmpKind_ne F.cmpSplit_ne (I.type.andThen (PySem.W.looks_mroIn X hm)) (F.cmpArgs_ne _ _)
    (entry_neV (A := A.in1) hu X I hs hf (wpAny_mono hcall (fun v s' hv => by obtain ⟨b, rfl, q⟩ := hv; exact ⟨b, rfl, q⟩) fun _ _ e => e))))
theorem ne_V {tb : Value} {Q : Value → Shared → Prop} (hu : A.units + 1 < cLine) (X : K.In s.heap) (I : PySem.W.InstAt s.heap x ox C od) (hb : PySem.W.Looks (model prog w) s.heap (typeOf y) tb)
    (hn : PySem.W.notFirst K C tb = true) (hm : PySem.W.mroIn K C (.type "object") = some true) (hne : PySem.W.findIn K (.ref C) "__ne__" = some (some (.builtin "object.__ne__"))) (hs : PySem.W.findIn K (.ref C) "__eq__" = some (some (.ref f))) (hf : PySem.W.isFn K (.ref f) = true)
    (hcall : wpAny (model prog w) A.in1 (call (.ref f) [.ref x, y]) (fun v s' => ∃ b, v = .bool b ∧ Q (.bool (!b)) s') E s) : wpAny (model prog w) A (richCompare .NotEq (.ref x) y) Q E s := by
  have one : wpAny (model prog w) A (tryCompare (.ref x) "__ne__" y) (fun r s' => ∃ b, r = some (.bool b) ∧ Q (.bool b) s') E s := by
    unfold tryCompare
    refine wpAny_bind (ifBound_objNe X I hne (call_objNeV hu X I hm hs hf (wpAny_mono hcall (fun v s' hv => ?_) fun _ _ e => e)))
    obtain ⟨b, rfl, q⟩ := hv
    exact ⟨b, rfl, wpAny_pure ⟨_, rfl, q⟩⟩
  simp only [richCompare, cmpInfo_NotEq, oneThing_ref]
  refine wpAny_holding (wpAny_bind (wpAny_cRoomFor (Nat.lt_of_succ_lt hu) ?_))
  refine wpAny_bind (I.type.here (wpAny_bind (hb.here ?_)))
  split
  · rename_i q
    have e : PySem.W.subIn K tb (.ref C) = some false := by
      rcases Bool.or_eq_true_iff.mp hn with e | e
      · rw [beq_iff_eq.mp e] at q; simp at q
      · exact beq_iff_eq.mp e
    refine wpAny_bind ((PySem.W.looks_subIn X e).here ?_)
    simp only [Bool.false_eq_true, if_false]
    refine wpAny_bind (wpAny_mono one (fun r s' z => ?_) fun _ _ e => e)
    obtain ⟨b, rfl, hq⟩ := z
    exact wpAny_pure hq
  · refine wpAny_bind (wpAny_pure ?_)
    simp only [Bool.false_eq_true, if_false]
    refine wpAny_bind (wpAny_mono one (fun r s' z => ?_) fun _ _ e => e)
    obtain ⟨b, rfl, hq⟩ := z
    exact wpAny_pure hq
end
end RQ
namespace RQ
open PySem PySem.Spec PyProof.Rows L2
section
variable {X : Cx} {n : Nat}
/-- an instance of the class at C beside any value of the class t, which isn't asked first -/
def DAnyB (K : PySem.W.Frag) (C : Addr) (R : Addr → V → Hp → Bool → Prop) : EqvB := fun x y H k => ∃ a dx fs t, x = .ref a ∧ H a = some (.ins C dx fs) ∧ TyX K H y t ∧ PySem.W.notFirst K C t = true ∧ R a y H k
theorem looks_ty {pins : List (Addr × Obj)} {σ : L2.St} {H : Hp} {s : Shared} {y : V} {v t : Value} {M : Model} (I : Inv X pins σ H s) (ry : RelV y v) (ty : TyX X.K H y t) : PySem.W.Looks M s.heap (typeOf v) t := by
  obtain ⟨P, Z, p, _⟩ := kit_of I ry ty
  exact Z.ty _ _ I.kIn p
theorem rcB_any {CX : CXT} {C f : Addr} {fd : FuncData} {ps : List Str} {R : Addr → V → Hp → Bool → Prop} {E : XK} (F : FnOk X.prog X.w X.K X.mg X.base CX n f fd ps (spEqB R))
    (hs : PySem.W.findIn X.K (.ref C) "__eq__" = some (some (.ref f))) (hf : PySem.W.isFn X.K (.ref f) = true) (hb : Binds X.K fd ps []) (hx : Passes CX X E) : RcB X n (DAnyB X.K C R) := by
  intro A pins s σ H x y u v k sb I rx ry d
  obtain ⟨a, dx, fs, t, rfl, ha, ty, hn, hr⟩ := d
  cases rx
  obtain ⟨mA, J, _⟩ := ins_get I.hok ha
  obtain ⟨od, J, _⟩ := J.look
  obtain ⟨m, hF⟩ := I.fr
  refine PySem.W.cmp_K (op := .Eq) (tb := t) sb.room.units0 hF I.ok.mod.kin J (looks_ty I ry ty) hn hs hf ?_
  have hsp : spEqB R [.ref a, y] H (fun v H' => v = .bl k ∧ Ext H H') E := ⟨a, y, k, rfl, hr, fun H' e => ⟨rfl, e⟩⟩
  have e0 : Env0 X.prog X.w X.K X.mg X.base A X.stack s H := by
    have e := I.env0
    exact ⟨by rw [sb.fr]; exact e.frames, e.mod, e.bs, e.bsz, e.funs, e.frf, e.hok, e.bare⟩
  have hl := F.len _ _ _ _ hsp
  have r2 : Vals [V.ref a, y] [Value.ref a, v] := .cons rfl (.cons ry .nil)
  refine wpAny_call (codeAny_mono (F.run A X.stack s H ⟨[.ref a, v], []⟩ [.ref a, v] [.ref a, y] _ E sb.room e0 (by
    have := hb s [.ref a, v] I.kIn (by simpa using hl)
    simpa using this) r2 hsp) fun r s' hq => ?_)
  cases r with
  | error e => exact hx pins σ H s e s' I hq
  | ok fl =>
    cases fl with
    | ret w =>
      obtain ⟨z, H', I', rz, ez, ex⟩ := I.after hq
      subst ez
      cases rz
      exact ⟨rfl, H', I', ex⟩
    | next => exact False.elim hq
    | brk => exact False.elim hq
    | cont => exact False.elim hq
theorem op_neAny {CX : CXT} {C f : Addr} {fd : FuncData} {ps : List Str} {R : Addr → V → Hp → Bool → Prop} {E : XK} (F : FnOk X.prog X.w X.K X.mg X.base CX n f fd ps (spEqB R)) (hr : Room (n + 1) X.A)
    (hm : PySem.W.mroIn X.K C (.type "object") = some true) (hne : PySem.W.findIn X.K (.ref C) "__ne__" = some (some (.builtin "object.__ne__"))) (hs : PySem.W.findIn X.K (.ref C) "__eq__" = some (some (.ref f))) (hf : PySem.W.isFn X.K (.ref f) = true) (hb : Binds X.K fd ps []) (hx : Passes CX X E) :
    OpR X (compareOp .NotEq) (rNeB (DAnyB X.K C R)) := by
  intro pins s σ H x y v u Q I rx ry hq
  obtain ⟨k, d, q⟩ := hq
  obtain ⟨a, dx, fs, t, rfl, ha, ty, hn, hrr⟩ := d
  cases rx
  obtain ⟨mA, J, _⟩ := ins_get I.hok ha
  obtain ⟨od, J, _⟩ := J.look
  show wpAny (model X.prog X.w) X.A (richCompare .NotEq (.ref a) u) (EP X pins σ Q) X.xe s
  refine ne_V (tb := t) (by have := hr.un; omega) I.kIn J (looks_ty I ry ty) hn hm hne hs hf ?_
  have hsp : spEqB R [.ref a, y] H (fun v H' => v = .bl k ∧ Ext H H') E := ⟨a, y, k, rfl, hrr, fun H' e => ⟨rfl, e⟩⟩
  have e0 : Env0 X.prog X.w X.K X.mg X.base X.A.in1 X.stack s H := by
    have e := I.env0
    exact ⟨e.frames, e.mod, e.bs, e.bsz, e.funs, e.frf, e.hok, e.bare⟩
  have hl := F.len _ _ _ _ hsp
  have r2 : Vals [V.ref a, y] [Value.ref a, u] := .cons rfl (.cons ry .nil)
  refine wpAny_call (codeAny_mono (F.run X.A.in1 X.stack s H ⟨[.ref a, u], []⟩ [.ref a, u] [.ref a, y] _ E hr.in1 e0 (by
    have := hb s [.ref a, u] I.kIn (by simpa using hl)
    simpa using this) r2 hsp) fun r s' hq => ?_)
  cases r with
  | error e => exact hx pins σ H s e s' I hq
  | ok fl =>
    cases fl with
    | ret w =>
      obtain ⟨z, H', I', rz, ez, ex⟩ := I.after hq
      subst ez
      cases rz
      exact ⟨k, rfl, .bl (!k), H', I', rfl, q H' ex⟩
    | next => exact False.elim hq
    | brk => exact False.elim hq
    | cont => exact False.elim hq
end
end RQ
set_option maxHeartbeats 4000000
/-! ### B.m(e, ..), B an own class, m a plain def of it: as __init__ of a base within that of a subclass -/
namespace RC
open PySem PySem.Spec PyProof.Rows L2
/-- what of the class is read -/
structure CDef (K : PySem.W.Frag) (mg : Str → Option Value) (x : Str) (CR : Addr) (mc : Value) (m : Str) (g : Addr) : Prop where
  gl : mg x = some (.ref CR)
  rd : PySem.W.readsIn K CR mc = true
  ga : PySem.W.specialIn K (.ref CR) "__getattribute__" = some (some (.builtin "type.__getattribute__"))
  at_ : PySem.W.findCls K (.ref CR) mc m = some (.val (.ref g))
  kp : PySem.W.keepIn K (.ref g) = true
section
variable {X : Cx} {CX : CXT} {k : Nat} {g : Addr} {fd : FuncData} {ps : List Str} {sp : Sp} {dvs : List V} {ds : List Value} {E : XK} {x m : Str} {CR : Addr} {mc : Value} {e : Expr} {es : List Expr} {t : TA} {p1 p2 pos : Pos}
theorem pe_ccall {pl : Sem Bool} (B : CDef X.K X.mg x CR mc m g) (F : FnOk X.prog X.w X.K X.mg X.base CX k g fd ps sp) (hr : Room k X.A) (hb : Binds X.K fd ps ds) (hd : Vals dvs ds) (hx : Passes CX X E) (hg : Gl X x) (ha : PA X (e :: es) t) (hdb : (x == ("__debug__" : Str)) = false := by decide)
    (hc : eval (.Call (.Attribute (.Name x p1) m p2) (e :: es) [] pos) X.env = (do
      let ov ← eval (.Name x p1) X.env
      standAt p2.atName
      let (f, first) ← holding [ov] (getMethod ov m pl)
      callWith pos f first (backTo pos (starEach (e :: es) X.env)) (backToKw pos (keywordEach [] X.env))) := by rfl)
    (he : starEach (e :: es) X.env = (false, eval e X.env) :: starEach es X.env := by rfl) (hpl : (backTo pos (starEach es X.env)).any (·.1) = false := by rfl) :
    PE X (.Call (.Attribute (.Name x p1) m p2) (e :: es) [] pos) (tCall sp dvs E t) := ⟨fun pins s σ H Q I h => by
  refine PySem.W.methodCall_KW (ld_glob I hg B.gl ?_ hdb) hc
  refine PySem.W.method_cls I.kIn B.ga (PySem.W.cls_value I.kIn B.rd B.at_ (by rfl) ?_)
  show wpAny _ _ (callWith pos (Value.ref g) [] (backTo pos (starEach (e :: es) X.env)) []) _ _ _
  exact PySem.W.callWith_K (h₀ := X.base) I.ok.mod.kin B.kp (thn (ha.run pos pins _ σ H _ (I.tok _) h) fun us s1 ⟨vs, H1, I1, r, q⟩ => ⟨I1.kIn, run_fn F hr hb hd hx I1 r q⟩) he hpl⟩
end
end RC
set_option maxHeartbeats 4000000
/-! ### len(o), str(o) by an own __len__, __str__ -/
namespace RC
open PySem PySem.Spec PyProof.Rows L2
section
variable {X : Cx} {CX : CXT} {n : Nat} {C f : Addr} {fd : FuncData} {ps : List Str} {sp : Sp} {E : XK}
/-- an own special def of one argument, somewhere below -/
theorem run_special {A : Around} {pins : List (Addr × Obj)} {σ : L2.St} {H : Hp} {s : Shared} {a : Addr} {Q : VK} {R : Value → Shared → Prop} (F : FnOk X.prog X.w X.K X.mg X.base CX n f fd ps sp) (hr : Room n A) (hfr : A.frames = X.A.frames) (hb : Binds X.K fd ps []) (hx : Passes CX X E) (I : Inv X pins σ H s)
    (h : sp [.ref a] H Q E) (hR : ∀ v u H' s', Inv X pins σ H' s' → RelV v u → Q v H' → R u s') : wpAny (model X.prog X.w) A (call (.ref f) [.ref a]) R X.xe s := by
  have e0 : Env0 X.prog X.w X.K X.mg X.base A X.stack s H := by
    have e := I.env0
    exact ⟨by rw [hfr]; exact e.frames, e.mod, e.bs, e.bsz, e.funs, e.frf, e.hok, e.bare⟩
  have hl := F.len _ _ _ _ h
  refine wpAny_call (codeAny_mono (F.run A X.stack s H ⟨[.ref a], []⟩ [.ref a] [.ref a] _ E hr e0 (by
    have := hb s [.ref a] I.kIn (by simpa using hl)
    simpa using this) (.cons rfl .nil) h) fun r s' hq => ?_)
  cases r with
  | error e => exact hx pins σ H s e s' I hq
  | ok fl =>
    cases fl with
    | ret w =>
      obtain ⟨z, H', I', rz, q⟩ := I.after hq
      exact hR z w H' s' I' rz q
    | next => exact False.elim hq
    | brk => exact False.elim hq
    | cont => exact False.elim hq
theorem call_lenO (F : FnOk X.prog X.w X.K X.mg X.base CX n f fd ps sp) (hr : Room (n + 1) X.A) (hs : PySem.W.findIn X.K (.ref C) "__len__" = some (some (.ref f))) (hf : PySem.W.isFn X.K (.ref f) = true) (hb : Binds X.K fd ps []) (hx : Passes CX X E) :
    CallR X (.builtin "len") (fun xs H Q => ∃ a dx fs, xs = [.ref a] ∧ H a = some (.ins C dx fs) ∧ sp [.ref a] H (fun v H' => ∃ k : Int, v = .int k ∧ 0 ≤ k ∧ k < 2 ^ 63 ∧ Q (.int k) H') E) := by
  intro pins s σ H xs us Q I r h
  obtain ⟨a, dx, fs, rfl, ha, h⟩ := h
  cases r with
  | cons r rr =>
    cases rr
    cases r
    obtain ⟨mA, J, _⟩ := ins_get I.hok ha
    obtain ⟨od, J, _⟩ := J.look
    obtain ⟨m, hF⟩ := I.fr
    refine PySem.W.len_K hF I.ok.mod.kin J hs hf (run_special F hr.in1 rfl hb hx I h fun v u H' s' I' rz q => ?_)
    obtain ⟨k, rfl, h0, h1, q⟩ := q
    obtain ⟨t, rfl⟩ := rz
    exact ⟨⟨h0, h1⟩, .int k, H', I'.tok _, ⟨_, rfl⟩, q⟩
theorem call_strO (F : FnOk X.prog X.w X.K X.mg X.base CX n f fd ps sp) (hr : Room (n + 2) X.A) (hs : PySem.W.findIn X.K (.ref C) "__str__" = some (some (.ref f))) (hf : PySem.W.isFn X.K (.ref f) = true) (hb : Binds X.K fd ps []) (hx : Passes CX X E) :
    CallR X (.type "str") (fun xs H Q => ∃ a dx fs, xs = [.ref a] ∧ H a = some (.ins C dx fs) ∧ sp [.ref a] H (fun v H' => ∃ z : Str, v = .str z ∧ Q (.str z) H') E) := by
  intro pins s σ H xs us Q I r h
  obtain ⟨a, dx, fs, rfl, ha, h⟩ := h
  cases r with
  | cons r rr =>
    cases rr
    cases r
    obtain ⟨mA, J, _⟩ := ins_get I.hok ha
    obtain ⟨od, J, _⟩ := J.look
    refine PySem.W.kso_call (hr.in1.in1.units0) I.kIn J hs hf (run_special F hr.in1.in1 rfl hb hx I h fun v u H' s' I' rz q => ?_)
    obtain ⟨z, rfl, q⟩ := q
    obtain ⟨t, rfl⟩ := rz
    exact ⟨.str z, H', I', ⟨_, rfl⟩, q⟩
end
end RC
namespace TS
open PySem PySem.Spec PyProof.Rows

/-- the unlike texts of a list, each where it first stands -/
def fm (xs : List Str) : List Str :=
  xs.foldl (fun r x => if x ∈ r then r else r ++ [x]) []
theorem fm_snoc (xs : List Str) (x : Str) :
    fm (xs ++ [x]) = if x ∈ fm xs then fm xs else fm xs ++ [x] := by
  unfold fm
  rw [List.foldl_append]
  rfl
theorem snoc_ind {p : List Str → Prop} (h0 : p []) (h1 : ∀ xs x, p xs → p (xs ++ [x])) (xs : List Str) : p xs := by
  have h : ∀ ys : List Str, p ys.reverse := fun ys => by
    induction ys with
    | nil => exact h0
    | cons y ys ih => rw [List.reverse_cons]; exact h1 _ _ ih
  have e := h xs.reverse
  rwa [List.reverse_reverse] at e
theorem fm_mem (k : Str) (xs : List Str) : k ∈ fm xs ↔ k ∈ xs := by
  refine snoc_ind (p := fun xs => k ∈ fm xs ↔ k ∈ xs) (by simp [fm]) (fun xs x ih => ?_) xs
  rw [fm_snoc]
  by_cases e : x ∈ fm xs
  · rw [if_pos e, List.mem_append, List.mem_singleton, ih]
    refine ⟨Or.inl, fun h => h.elim id fun h => ?_⟩
    subst h; exact ih.mp e
  · rw [if_neg e, List.mem_append, List.mem_append, ih]
theorem fm_le (xs : List Str) : (fm xs).length ≤ xs.length := by
  refine snoc_ind (p := fun xs => (fm xs).length ≤ xs.length) (by simp [fm]) (fun xs x ih => ?_) xs
  rw [fm_snoc]
  by_cases e : x ∈ fm xs
  · rw [if_pos e, List.length_append]; omega
  · rw [if_neg e, List.length_append, List.length_append]; simp; omega
theorem fm_same (xs : List Str) (h : xs.Nodup) : fm xs = xs := by
  revert h
  refine snoc_ind (p := fun xs => xs.Nodup → fm xs = xs) (fun _ => rfl) (fun xs x ih h => ?_) xs
  rw [List.nodup_append] at h
  rw [fm_snoc, ih h.1, if_neg]
  intro e
  exact h.2.2 x e x (by simp) rfl
/-- whether a text is among the first ones -/
def inn (xs : List Str) (i : Nat) (k : Str) : Bool := decide (k ∈ xs.take i)
theorem take_snoc (xs : List Str) (i : Nat) (h : i < xs.length) : xs.take (i + 1) = xs.take i ++ [xs.getD i Str.empty] := by
  rw [List.take_succ, List.getElem?_eq_getElem h]
  simp [List.getD, List.getElem?_eq_getElem h]
theorem inn_snoc (xs : List Str) (i : Nat) (h : i < xs.length) (k : Str) :
    (inn xs i k || decide (k = xs.getD i Str.empty)) = inn xs (i + 1) k := by
  unfold inn
  rw [take_snoc xs i h]
  simp [List.mem_append]
theorem fm_step (xs : List Str) (i : Nat) (h : i < xs.length) :
    (if inn xs i (xs.getD i Str.empty) = true then (fm (xs.take i)).length else (fm (xs.take i)).length + 1) =
      (fm (xs.take (i + 1))).length := by
  rw [take_snoc xs i h, fm_snoc]
  unfold inn
  by_cases e : xs.getD i Str.empty ∈ xs.take i
  · rw [if_pos (by simpa using e), if_pos ((fm_mem _ _).mpr e)]
  · rw [if_neg (by simpa using e), if_neg (fun h' => e ((fm_mem _ _).mp h'))]; simp

section
variable {prog : Program} {w : World} {A : Around} {R : Result → Shared → Prop} {J : Addr}
variable {fp wr : List Addr} {G : Array GenState → Array GenState → Prop} {n : Nat}
variable {P : Nat → Value → Prop} {St : Nat → Shared → Prop}
/-- a set of texts after the first ones were put in -/
def Full (prog : Program) (w : World) (h : Heap) (S : Addr) (xs : List Str) (i : Nat) : Prop :=
  h.SetOf (strKind prog w) S (inn xs i) (fm (xs.take i)).length
theorem full_up {h h' : Heap} {S : Addr} {xs : List Str} {i : Nat}
    (e : ∀ o, h.get? S = some o → h'.get? S = some o) (F : Full prog w h S xs i) : Full prog w h' S xs i := by
  obtain ⟨o, q⟩ := F
  obtain ⟨es, ep, t, g, rest⟩ := q
  exact ⟨o, es, ep, t, e o g, rest⟩
theorem loop_txt (W : WalksS prog w A.in1 J fp wr G n P St) (S : Addr) (out : S ∉ fp) (xs : List Str)
    (len : xs.length = n) (room : n + 1 < scanBound)
    (val : ∀ i v, P i v → ∃ t, v = .str (xs.getD i Str.empty) t) :
    ∀ (k i : Nat) (s : Shared), n - i = k → i ≤ n → St i s → Full prog w s.heap S xs i →
      (∀ s', Moved (S :: wr) G s s' → Full prog w s'.heap S xs n → R (.ok (.ret .none)) s') →
      codeAny (model prog w) A (.builtin "set.update.loop"
        ⟨[.ref S, .ref J], []⟩) R s := by
  have ow : S ∉ wr := fun h => out (W.sub _ h)
  have up : ∀ b ∈ wr, b ∈ S :: wr := fun b => List.mem_cons_of_mem S
  intro k
  induction k with
  | zero =>
    intro i s ek le st F next
    obtain rfl : i = n := by omega
    refine codeAny_builtin PyProof.Rows.F.entry_set_update_loop ?_
    rw [Around.under_plainId PyProof.Rows.F.plain_set_update_loop _]
    refine wpAny_bind (m := pyNext (.ref J)) (W.done s _ _ st fun s1 mv => ?_)
    exact wpAny_pure (next s1 (mv.mono up) (full_up (fun o g => mv.heap S _ ow g) F))
  | succ k ih =>
    intro i s ek le st F next
    have lt : i < n := by omega
    refine codeAny_builtin PyProof.Rows.F.entry_set_update_loop ?_
    rw [Around.under_plainId PyProof.Rows.F.plain_set_update_loop _]
    refine wpAny_bind (m := pyNext (.ref J)) (W.item i s _ _ lt st fun v s1 pv st1 mv => ?_)
    obtain ⟨t, rfl⟩ := val i v pv
    have F1 : Full prog w s1.heap S xs i := full_up (fun o g => mv.heap S _ ow g) F
    refine wpAny_bind (m := holding [Value.str (xs.getD i Str.empty) t] (setAdd S _)) (wpAny_holding ?_)
    unfold setAdd
    refine wpAny_holding (wpAny_bind (KeyKind.pyHash (strKind prog w)
      (k := xs.getD i Str.empty) (strKind_is _ _ _ _) ?_))
    have few : (fm (xs.take i)).length + 1 < scanBound := by
      have h1 := fm_le (xs.take i)
      have h2 : (xs.take i).length ≤ n := by rw [List.length_take]; omega
      omega
    refine wpAny_setAddHashed_of (knd := strKind prog w) (s := { s1 with toks := s1.toks + 1 })
      (strKind_is _ _ _ _) rfl F1 few fun h2 sb F2 => ?_
    have F3 : Full prog w h2 S xs (i + 1) :=
      SetOf_congr F2 (inn_snoc xs i (by omega)) (fm_step xs i (by omega))
    refine wpAny_pure ⟨plainId_quiet PyProof.Rows.F.plain_set_update_loop _, ih (i + 1) _ (by omega) lt
      (W.frame _ s1 _ _ st1 (Nat.le_succ _) fun b hb o e => ?_) F3 fun s3 mv3 F4 => ?_⟩
    · have nb : b ≠ S := fun h => out (h ▸ hb)
      exact (sb.2 b nb).trans e
    · refine next s3 (Moved.trans W.gtrans ((mv.mono up).then_heap (Nat.le_succ _) fun b o hb e => ?_) mv3) F4
      have nb : b ≠ S := fun h => hb (h ▸ List.mem_cons_self)
      exact (sb.2 b nb).trans e
end

section
variable {prog : Program} {w : World} {A : Around} {E : Value → Shared → Prop} {s : Shared}
/-- the state once a new set is there -/
abbrev mid_list (s : Shared) (led : Bool) : Shared :=
  { s with heap := s.heap.push { cls := .type "set", dict := none, data := .set #[] 0 (.fresh 0 0 led) } }
set_option maxHeartbeats 3200000 in
theorem set_of_list {l : Addr} {items : Array Value} {xs : List Str} {Q : Value → Shared → Prop}
    (calm : A.handled = none) (hl : s.heap.IsList l items) (tx : StrsAre items.toList xs)
    (room : items.size + 1 < scanBound)
    (next : ∀ (h' : Heap) (tk : Nat), Full prog w h' s.heap.objs.size xs items.size →
      (∀ b o, b < s.heap.objs.size → s.heap.get? b = some o → h'.get? b = some o) →
      Q (.ref s.heap.objs.size) { s with heap := h', toks := tk }) :
    wpAny (model prog w) A (call (.type "set") [.ref l]) Q E s := by
  obtain ⟨c, tl, em⟩ := PySem.F.called_set.mro
  have fmade := PySem.F.called_set.made
  have fsub := PySem.F.called_set.sub
  refine wpAny_call (codeAny_of_tree (wpAny_pure ⟨Code.quiet_builtin _ (by decide +kernel),
    codeAny_builtin PySem.F.entry_type_call ?_⟩))
  rw [Around.under_plain (weight_type_call_type "set"
    [.ref l] []) rfl]
  have f1 := PySem.F.called_set.notType
  have f2 := PySem.F.called_set.canCreate
  have f3 := PySem.F.typeCall_set_1 (.ref l)
  repeat (any_goals (first
    | assumption
    | wp_step))
  refine codeAny_mono (code_set_new_1 (.ref l) (E := E) (Q₁ := fun obj s1 => ∃ led : Bool,
    obj = .ref s.heap.objs.size ∧ s1 = mid_list s led) fun led => ⟨led, rfl, rfl⟩) fun r s1 hr => ?_
  match r, hr with
  | .error e, hr => exact hr
  | .ok (.ret obj), hr =>
    obtain ⟨led, rfl, rfl⟩ := hr
    have fS : (mid_list s led).heap.get? s.heap.objs.size = some { cls := .type "set", dict := none, data := .set #[] 0 (.fresh 0 0 led) } :=
      Heap.get?_push_size _ rfl
    have fT : Shared.TypeIs (mid_list s led) (.ref s.heap.objs.size) "set" := ⟨_, fS, rfl⟩
    have f4 := PySem.F.called_set.init.lookup
    have f5 := PySem.F.called_set.init.bind (.ref s.heap.objs.size)
    repeat (any_goals (first
      | assumption
      | wp_step))
    refine codeAny_mono (codeAny_call_builtin (R := wants (fun r s2 => r = .none ∧ ∃ h' tk,
      s2 = { s with heap := h', toks := tk } ∧ Full prog w h' s.heap.objs.size xs items.size ∧
      (∀ b o, b < s.heap.objs.size → s.heap.get? b = some o → h'.get? b = some o)) E)
      PySem.F.called_set.init.plain PySem.F.entry_set_init (check_set_init_1 fT ?_)) fun r2 s2 hr2 => ?_
    · have lS : l < s.heap.objs.size := (by obtain ⟨o, e, _⟩ := hl; exact Heap.lt_size e)
      obtain ⟨ob, gb, cb, nb, db⟩ := hl
      obtain ⟨cls, dct, dat, slt⟩ := ob
      simp only at cb db
      subst cb
      subst db
      have gb2 : (mid_list s led).heap.get? l = some { cls := .type "list", dict := dct, data := .seq items nb, slots := slt } :=
        Heap.get?_push_of_some _ gb
      have k1 := PySem.F.sub_list_set
      have k2 := PySem.F.sub_list_frozenset
      have k3 : (Value.type "list" == .type "dict") = false := by decide
      have hl1 : (mid_list s led).heap.IsList l items := ⟨_, gb2, rfl, nb, rfl⟩
      unfold Builtin.«set.__init__»
      unfold noKeywords
      unfold Builtin.Frozenset.updateFrom
      generalize ePI : pyIter = PI
      wp_walk
      subst ePI
      refine wpAny_pyIter_list hl1 ?_
      refine wpAny_bind (wpAny_runValue ?_)
      have e3 : A.in1.in1.in1.handled = none := by simp [calm]
      have zz : (mid_list s led).heap.objs.size = s.heap.objs.size + 1 := Heap.size_push _ _
      have nI : l ≠ (mid_list s led).heap.objs.size := fun h =>
        absurd (show l < l from Nat.lt_of_lt_of_le lS (by rw [h, zz]; exact Nat.le_succ _)) (Nat.lt_irrefl l)
      have nS : s.heap.objs.size ∉ [(mid_list s led).heap.objs.size, l] := by
        simp only [List.mem_cons, List.not_mem_nil, or_false, not_or]
        exact ⟨fun h => Nat.succ_ne_self _ (zz.symm.trans h.symm), fun h => Nat.lt_irrefl _ (h ▸ lS)⟩
      have len : xs.length = items.size := (StrsAre.len_eq tx).symm.trans (Array.length_toList ..)
      have val : ∀ (i : Nat) (v : Value), items[i]? = some v → ∃ t, v = .str (xs.getD i Str.empty) t := by
        intro i v hv
        exact SS.strs_at tx i v ((Array.getElem?_toList ..).trans hv)
      refine loop_txt ((Walks.list e3 _ l nI items).toS) s.heap.objs.size nS xs len room val
        (items.size - 0) 0 _ (by omega) (Nat.zero_le _)
        ⟨⟨_, Heap.get?_push_size _ rfl, rfl, rfl⟩, (hl1.push _)⟩ ?caseF ?caseN
      case caseF =>
        refine SetOf_congr ((setObjOf_fresh (knd := strKind prog w) led).setOf
          (Heap.get?_push_of_some _ fS) (by unfold scanBound; omega)) (fun k => ?_) ?_
        · simp [inn]
        · simp [fm]
      case caseN =>
        intro s3 mv F
        obtain ⟨h3, g3, d3, t3, o3⟩ := s3
        have eg : g3 = s.gens := mv.gens
        have ed : d3 = s.drawn := mv.drawn
        have eo : o3 = s.os := mv.os
        subst eg; subst ed; subst eo
        refine wpAny_pure (wpAny_pure ⟨rfl, h3, t3, rfl, F, fun b o hb e => ?_⟩)
        have n1 : b ≠ s.heap.objs.size := by omega
        have n2 : b ≠ (mid_list s led).heap.objs.size := by omega
        refine mv.heap b o ?_ (Heap.get?_push_of_some _ (Heap.get?_push_of_some _ e))
        simp only [List.mem_cons, List.not_mem_nil, or_false, not_or]
        exact ⟨n1, n2⟩
    · match r2, hr2 with
      | .error e, hr2 => exact hr2
      | .ok (.ret r), hr2 =>
        obtain ⟨rfl, h', tk, rfl, F, kept⟩ := hr2
        repeat (any_goals (first
          | assumption
          | wp_step))
        exact next _ _ F kept
      | .ok .next, hr2 => exact hr2.elim
      | .ok .brk, hr2 => exact hr2.elim
      | .ok .cont, hr2 => exact hr2.elim
  | .ok .next, hr => exact hr.elim
  | .ok .brk, hr => exact hr.elim
  | .ok .cont, hr => exact hr.elim
end

section
variable {prog : Program} {w : World} {A : Around} {E : Value → Shared → Prop} {s : Shared}
/-- the state once a new set is there -/
abbrev mid_tuple (s : Shared) (led : Bool) : Shared :=
  { s with heap := s.heap.push { cls := .type "set", dict := none, data := .set #[] 0 (.fresh 0 0 led) } }
set_option maxHeartbeats 3200000 in
theorem set_of_tuple {l : Addr} {items : Array Value} {xs : List Str} {Q : Value → Shared → Prop}
    (calm : A.handled = none) (hl : s.heap.IsTuple l items) (tx : StrsAre items.toList xs)
    (room : items.size + 1 < scanBound)
    (next : ∀ (h' : Heap) (tk : Nat), Full prog w h' s.heap.objs.size xs items.size →
      (∀ b o, b < s.heap.objs.size → s.heap.get? b = some o → h'.get? b = some o) →
      Q (.ref s.heap.objs.size) { s with heap := h', toks := tk }) :
    wpAny (model prog w) A (call (.type "set") [.ref l]) Q E s := by
  obtain ⟨c, tl, em⟩ := PySem.F.called_set.mro
  have fmade := PySem.F.called_set.made
  have fsub := PySem.F.called_set.sub
  refine wpAny_call (codeAny_of_tree (wpAny_pure ⟨Code.quiet_builtin _ (by decide +kernel),
    codeAny_builtin PySem.F.entry_type_call ?_⟩))
  rw [Around.under_plain (weight_type_call_type "set"
    [.ref l] []) rfl]
  have f1 := PySem.F.called_set.notType
  have f2 := PySem.F.called_set.canCreate
  have f3 := PySem.F.typeCall_set_1 (.ref l)
  repeat (any_goals (first
    | assumption
    | wp_step))
  refine codeAny_mono (code_set_new_1 (.ref l) (E := E) (Q₁ := fun obj s1 => ∃ led : Bool,
    obj = .ref s.heap.objs.size ∧ s1 = mid_tuple s led) fun led => ⟨led, rfl, rfl⟩) fun r s1 hr => ?_
  match r, hr with
  | .error e, hr => exact hr
  | .ok (.ret obj), hr =>
    obtain ⟨led, rfl, rfl⟩ := hr
    have fS : (mid_tuple s led).heap.get? s.heap.objs.size = some { cls := .type "set", dict := none, data := .set #[] 0 (.fresh 0 0 led) } :=
      Heap.get?_push_size _ rfl
    have fT : Shared.TypeIs (mid_tuple s led) (.ref s.heap.objs.size) "set" := ⟨_, fS, rfl⟩
    have f4 := PySem.F.called_set.init.lookup
    have f5 := PySem.F.called_set.init.bind (.ref s.heap.objs.size)
    repeat (any_goals (first
      | assumption
      | wp_step))
    refine codeAny_mono (codeAny_call_builtin (R := wants (fun r s2 => r = .none ∧ ∃ h' tk,
      s2 = { s with heap := h', toks := tk } ∧ Full prog w h' s.heap.objs.size xs items.size ∧
      (∀ b o, b < s.heap.objs.size → s.heap.get? b = some o → h'.get? b = some o)) E)
      PySem.F.called_set.init.plain PySem.F.entry_set_init (check_set_init_1 fT ?_)) fun r2 s2 hr2 => ?_
    · have lS : l < s.heap.objs.size := (by obtain ⟨o, e, _⟩ := hl; exact Heap.lt_size e)
      obtain ⟨ob, gb, cb, nb, db⟩ := hl
      obtain ⟨cls, dct, dat, slt⟩ := ob
      simp only at cb db
      subst cb
      subst db
      have gb2 : (mid_tuple s led).heap.get? l = some { cls := .type "tuple", dict := dct, data := .seq items nb, slots := slt } :=
        Heap.get?_push_of_some _ gb
      have k1 := PySem.F.sub_tuple_set
      have k2 := PySem.F.sub_tuple_frozenset
      have k3 : (Value.type "tuple" == .type "dict") = false := by decide
      have hl1 : (mid_tuple s led).heap.IsTuple l items := ⟨_, gb2, rfl, nb, rfl⟩
      unfold Builtin.«set.__init__»
      unfold noKeywords
      unfold Builtin.Frozenset.updateFrom
      generalize ePI : pyIter = PI
      wp_walk
      subst ePI
      refine wpAny_pyIter_tuple hl1 ?_
      refine wpAny_bind (wpAny_runValue ?_)
      have e3 : A.in1.in1.in1.handled = none := by simp [calm]
      have zz : (mid_tuple s led).heap.objs.size = s.heap.objs.size + 1 := Heap.size_push _ _
      have nI : l ≠ (mid_tuple s led).heap.objs.size := fun h =>
        absurd (show l < l from Nat.lt_of_lt_of_le lS (by rw [h, zz]; exact Nat.le_succ _)) (Nat.lt_irrefl l)
      have nS : s.heap.objs.size ∉ [(mid_tuple s led).heap.objs.size, l] := by
        simp only [List.mem_cons, List.not_mem_nil, or_false, not_or]
        exact ⟨fun h => Nat.succ_ne_self _ (zz.symm.trans h.symm), fun h => Nat.lt_irrefl _ (h ▸ lS)⟩
      have len : xs.length = items.size := (StrsAre.len_eq tx).symm.trans (Array.length_toList ..)
      have val : ∀ (i : Nat) (v : Value), items[i]? = some v → ∃ t, v = .str (xs.getD i Str.empty) t := by
        intro i v hv
        exact SS.strs_at tx i v ((Array.getElem?_toList ..).trans hv)
      refine loop_txt ((Walks.tuple e3 _ l nI items).toS) s.heap.objs.size nS xs len room val
        (items.size - 0) 0 _ (by omega) (Nat.zero_le _)
        ⟨⟨_, Heap.get?_push_size _ rfl, rfl, rfl⟩, (hl1.push _)⟩ ?caseF ?caseN
      case caseF =>
        refine SetOf_congr ((setObjOf_fresh (knd := strKind prog w) led).setOf
          (Heap.get?_push_of_some _ fS) (by unfold scanBound; omega)) (fun k => ?_) ?_
        · simp [inn]
        · simp [fm]
      case caseN =>
        intro s3 mv F
        obtain ⟨h3, g3, d3, t3, o3⟩ := s3
        have eg : g3 = s.gens := mv.gens
        have ed : d3 = s.drawn := mv.drawn
        have eo : o3 = s.os := mv.os
        subst eg; subst ed; subst eo
        refine wpAny_pure (wpAny_pure ⟨rfl, h3, t3, rfl, F, fun b o hb e => ?_⟩)
        have n1 : b ≠ s.heap.objs.size := by omega
        have n2 : b ≠ (mid_tuple s led).heap.objs.size := by omega
        refine mv.heap b o ?_ (Heap.get?_push_of_some _ (Heap.get?_push_of_some _ e))
        simp only [List.mem_cons, List.not_mem_nil, or_false, not_or]
        exact ⟨n1, n2⟩
    · match r2, hr2 with
      | .error e, hr2 => exact hr2
      | .ok (.ret r), hr2 =>
        obtain ⟨rfl, h', tk, rfl, F, kept⟩ := hr2
        repeat (any_goals (first
          | assumption
          | wp_step))
        exact next _ _ F kept
      | .ok .next, hr2 => exact hr2.elim
      | .ok .brk, hr2 => exact hr2.elim
      | .ok .cont, hr2 => exact hr2.elim
  | .ok .next, hr => exact hr.elim
  | .ok .brk, hr => exact hr.elim
  | .ok .cont, hr => exact hr.elim
end
end TS
namespace L2
open PySem PySem.Spec PyProof.Rows
/-- len(set(xs)): how many unlike texts there are -/
def tLenSetN (K : PySem.W.Frag) (ta : TE) : TE := fun σ H Q =>
  ta σ H fun x H1 => ∃ l, ∃ xs : List Str, x = .ref l ∧
    (SqL K H1 l (xs.map V.str) ∨ SqT K H1 l (xs.map V.str)) ∧
    xs.length ≤ 1000 ∧ Q (.int (TS.fm xs).length) H1
section
variable {X : Cx}
set_option maxHeartbeats 1600000 in
theorem pe_lenSetN {a : Expr} {ta : TE} {p p2 q pos : Pos} (hc : X.calm = true)
    (g1 : Gl X "len") (m1 : X.mg "len" = none) (g2 : Gl X "set") (m2 : X.mg "set" = none) (ha : PE X a ta)
    (na : starEach [a] X.env = (false, eval a X.env) :: starEach [] X.env := by rfl) :
    PE X (.Call (.Name "len" p) [.Call (.Name "set" p2) [a] [] q] [] pos) (tLenSetN X.K ta) := by
  refine ⟨fun pins s σ H Q I h => Call_ (ld_blt I g1 m1 boot_len ?_)⟩
  refine callWith_builtin1 (args_cons ?_ rfl) rfl rfl
  refine Call_ (ld_blt I g2 m2 boot_set (callWith_type1 (args_cons (thn (ha.run pins s σ H _ I h)
    fun v s1 ⟨x, H1, I1, r1, q1⟩ => args_nil ?_) na) na rfl))
  obtain ⟨l, xs, rfl, sq, room, q2⟩ := q1
  cases r1
  have fin : ∀ (its : List Value), Vals (xs.map V.str) its → ∀ (h2 : Heap) (tk : Nat),
      TS.Full X.prog X.w h2 s1.heap.objs.size xs its.toArray.size →
      (∀ b o, b < s1.heap.objs.size → s1.heap.get? b = some o → h2.get? b = some o) →
      wpAny (model X.prog X.w) X.A (spliced (backTo pos (starEach [] X.env)))
        (fun vs s3 => wpAny (model X.prog X.w) X.A
          (call (.builtin "len") (Value.ref s1.heap.objs.size :: vs)) (EP X pins σ Q) X.xe s3)
        X.xe { s1 with heap := h2, toks := tk } := by
    intro its r h2 tk F kept
    have en : its.toArray.size = xs.length := by rw [List.size_toArray, ← r.length, List.length_map]
    unfold TS.Full at F
    rw [en, List.take_length] at F
    obtain ⟨o, es, ep, t, g, ex, d, _, _, few, fits, en2⟩ := F
    have I2 : Inv X pins σ H1 { s1 with heap := h2, toks := tk } :=
      I1.kept fun b o e => kept b o (Heap.lt_size e) e
    have le := TS.fm_le xs
    exact args_nil (call_len_set g ex d fits (by omega)
      ⟨.int (TS.fm xs).length, H1, I2.tok _, ⟨_, by rw [en2]⟩, q2⟩)
  have sz : ∀ (its : List Value), Vals (xs.map V.str) its → its.toArray.size + 1 < scanBound := by
    intro its r
    have en : its.toArray.size = xs.length := by rw [List.size_toArray, ← r.length, List.length_map]
    unfold scanBound
    omega
  rcases sq with sq | sq
  · obtain ⟨its, r, pl, z⟩ := I1.list sq
    exact TS.set_of_list (I1.ok.hd hc) pl.isList (by simpa using strsAre_of r) (sz its r)
      fun h2 tk F kept => fin its r h2 tk F kept
  · obtain ⟨its, r, pl, z⟩ := I1.tuple sq
    exact TS.set_of_tuple (I1.ok.hd hc) pl (by simpa using strsAre_of r) (sz its r)
      fun h2 tk F kept => fin its r h2 tk F kept
end
end L2
set_option maxHeartbeats 4000000
namespace RM
open PySem PySem.Spec PyProof.Rows L2 TL
/-! ### the words between the places of a sign are what split tells -/
def sp (c : Nat) : List Nat → List (List Nat)
  | [] => [[]]
  | x :: r => if x = c then [] :: sp c r else (x :: (sp c r).headD []) :: (sp c r).tail
theorem sp_ne (c : Nat) : ∀ l, sp c l ≠ []
  | [] => by simp [sp]
  | x :: r => by
    unfold sp
    split <;> simp
/-- the places -/
def pos (c : Nat) : List Nat → Int → List Int
  | [], _ => []
  | x :: r, k => if x = c then k :: pos c r (k + 1) else pos c r (k + 1)
def sl (l : List Nat) (i j : Int) : List Nat := (l.drop i.toNat).take (j.toNat - i.toNat)
def G (l : List Nat) : Int → List Int → List (List Nat)
  | _, [] => []
  | a, b :: bs => sl l (a + 1) b :: G l b bs
theorem G_shift (x : Nat) (r : List Nat) : ∀ (bs : List Int) (a : Int), -1 ≤ a → (∀ b ∈ bs, 0 ≤ b) → G (x :: r) (a + 1) (bs.map (· + 1)) = G r a bs
  | [], _, _, _ => rfl
  | b :: bs, a, ha, hb => by
    have h0 : 0 ≤ b := hb b (List.mem_cons_self ..)
    show sl (x :: r) (a + 1 + 1) (b + 1) :: G (x :: r) (b + 1) (bs.map (· + 1)) = sl r (a + 1) b :: G r b bs
    rw [G_shift x r bs b (by omega) (fun z hz => hb z (List.mem_cons_of_mem _ hz))]
    congr 1
    unfold sl
    have e1 : (a + 1 + 1).toNat = (a + 1).toNat + 1 := by omega
    have e2 : (b + 1).toNat = b.toNat + 1 := by omega
    rw [e1, e2, List.drop_succ_cons]
    congr 1
    omega
theorem pos_shift (c : Nat) : ∀ (l : List Nat) (k : Int), pos c l (k + 1) = (pos c l k).map (· + 1)
  | [], _ => rfl
  | x :: r, k => by
    unfold pos
    rw [pos_shift c r (k + 1)]
    split <;> simp
theorem pos_nonneg (c : Nat) : ∀ (l : List Nat) (k : Int), 0 ≤ k → ∀ b ∈ pos c l k, 0 ≤ b
  | [], _, _, b, h => by cases h
  | x :: r, k, hk, b, h => by
    unfold pos at h
    split at h
    · rcases List.mem_cons.mp h with e | h
      · omega
      · exact pos_nonneg c r (k + 1) (by omega) b h
    · exact pos_nonneg c r (k + 1) (by omega) b h
theorem G_sp (c : Nat) : ∀ l : List Nat, G l (-1) (pos c l 0 ++ [(l.length : Int)]) = sp c l
  | [] => rfl
  | x :: r => by
    have ih := G_sp c r
    have hn : ∀ b ∈ pos c r 0 ++ [(r.length : Int)], 0 ≤ b := fun b hb => by
      rcases List.mem_append.mp hb with h | h
      · exact pos_nonneg c r 0 (by omega) b h
      · rw [List.mem_singleton.mp h]; omega
    have em : (pos c r 1 ++ [((x :: r).length : Int)]) = (pos c r 0 ++ [(r.length : Int)]).map (· + 1) := by
      rw [List.map_append, ← pos_shift c r 0]
      rfl
    unfold pos sp
    show G (x :: r) (-1) ((if x = c then (0 : Int) :: pos c r (0 + 1) else pos c r (0 + 1)) ++ _) = _
    rw [show (0 : Int) + 1 = 1 from rfl]
    by_cases hx : x = c
    · rw [if_pos hx, if_pos hx, List.cons_append, em]
      show sl (x :: r) 0 0 :: G (x :: r) (-1 + 1) _ = _
      rw [G_shift x r _ (-1) (by omega) hn, ih]
      rfl
    · rw [if_neg hx, if_neg hx, em]
      cases e : pos c r 0 ++ [(r.length : Int)] with
      | nil => simp at e
      | cons b bs =>
        rw [e] at ih hn
        have h0 : 0 ≤ b := hn b (List.mem_cons_self ..)
        rw [List.map_cons]
        show sl (x :: r) 0 (b + 1) :: G (x :: r) (b + 1) (bs.map (· + 1)) = _
        rw [G_shift x r bs b (by omega) (fun z hz => hn z (List.mem_cons_of_mem _ hz)), ← ih]
        show _ = (x :: sl r 0 b) :: G r b bs
        congr 1
        unfold sl
        have e2 : (b + 1).toNat - (0 : Int).toNat = b.toNat + 1 := by
          show (b + 1).toNat - 0 = _
          omega
        rw [e2]
        rfl
theorem sp_hit {c : Nat} (r : List Nat) : sp c (c :: r) = [] :: sp c r := if_pos rfl
theorem sp_miss {c x : Nat} (r : List Nat) (h : x ≠ c) : sp c (x :: r) = (x :: (sp c r).headD []) :: (sp c r).tail := if_neg h
theorem hd_tl {l : List (List Nat)} (h : l ≠ []) : l.headD [] :: l.tail = l := by
  cases l with
  | nil => exact absurd rfl h
  | cons a b => rfl
theorem spl_sp (c : Nat) : ∀ (l acc : List Nat), spl [c] 0 acc l = (acc ++ (sp c l).headD []) :: (sp c l).tail
  | [], acc => by
    rw [spl_nil]
    show [acc] = [acc ++ []]
    rw [List.append_nil]
  | x :: r, acc => by
    by_cases hx : x = c
    · subst hx
      have := spl_part1 (s := x) (S := []) (p := []) (rest := r) (acc := acc) (by simp)
      rw [List.nil_append] at this
      have e : ([x] ++ r) = x :: r := rfl
      rw [e] at this
      rw [this, spl_sp x r [], sp_hit, List.append_nil, List.nil_append, hd_tl (sp_ne x r)]
      show _ = (acc ++ []) :: sp x r
      rw [List.append_nil]
    · have e : spl [c] 0 acc (x :: r) = spl [c] 0 (acc ++ [x]) r := spl_miss (pre_of_head [] r hx)
      rw [e, spl_sp c r (acc ++ [x]), sp_miss r hx, List.append_assoc]
      rfl
/-- what is due of a line: none, or its words -/
def due (c : Nat) (l : List Nat) : Option (List (List Nat)) := if 10 ∈ l then none else if [] ∈ sp c l then none else some (sp c l)
theorem split_eq (x : Str) {c : Nat} (hc : c < 256) : (Txt.split x ⟨#[c]⟩).map tl = sp c (tl x) := by
  have h := split_spl x ⟨#[c]⟩ (by show [c] ≠ []; simp) (kind_ok (by simp [hc]))
  rw [h]
  show spl [c] 0 [] (tl x) = _
  rw [spl_sp, List.nil_append]
  have := sp_ne c (tl x)
  cases h : sp c (tl x) with
  | nil => exact absurd h this
  | cons a b => rfl
/-- texts of lists of codes -/
def tx (l : List Nat) : Str := ⟨l.toArray⟩
theorem tx_tl (x : Str) : tx (tl x) = x := by
  unfold tx tl
  cases x
  simp
theorem split_tx (x : Str) {c : Nat} (hc : c < 256) : Txt.split x ⟨#[c]⟩ = (sp c (tl x)).map tx := by
  rw [← split_eq x hc, List.map_map]
  have : (tx ∘ tl) = id := by
    funext z
    exact tx_tl z
  rw [this, List.map_id]
theorem sp_nil (c : Nat) : sp c [] = [[]] := rfl
theorem due_nil (c : Nat) : due c [] = none := by
  unfold due
  rw [if_neg (by simp), if_pos (by rw [sp_nil]; simp)]
theorem sp_len (c : Nat) : ∀ l, (sp c l).length ≤ l.length + 1
  | [] => Nat.le_refl _
  | x :: r => by
    have := sp_len c r
    unfold sp
    split
    · simp only [List.length_cons]; omega
    · simp only [List.length_cons, List.length_tail]; omega
end RM
set_option maxHeartbeats 4000000
/-! ### names, rights, takers, flags, read off a value -/
namespace RN
open PySem PySem.Spec PyProof.Rows L2 TL RE
def lowC (c : Nat) : Bool := decide (97 ≤ c) && decide (c ≤ 122)
def upC (c : Nat) : Bool := decide (65 ≤ c) && decide (c ≤ 90)
theorem tab : ∀ c, c < 128 → Unicode.isAlpha c = (upC c || lowC c) ∧ Unicode.isLower c = lowC c ∧ (Unicode.isUpper c || Unicode.isTitle c) = upC c := by decide +kernel
theorem low_eq (z : Str) : (Txt.isascii z && (Txt.isalpha z && Txt.islower z)) = (decide (0 < z.length) && (tl z).all lowC) := by
  have e1 : Txt.isascii z = (tl z).all (fun c => decide (c < 128)) := by
    show z.cps.all _ = _
    rw [← Array.all_toList]
  have e2 : Txt.isalpha z = (decide (0 < z.length) && (tl z).all Unicode.isAlpha) := by
    show (decide (z.length > 0) && z.cps.all _) = _
    rw [← Array.all_toList]
  have e3 : Txt.islower z = ((tl z).any Unicode.isLower && !(tl z).any fun c => Unicode.isUpper c || Unicode.isTitle c) := by
    show (z.cps.any _ && !z.cps.any _) = _
    rw [← Array.any_toList, ← Array.any_toList]
  have hl : z.length = (tl z).length := len_tl z
  rw [e1, e2, e3, hl]
  generalize tl z = l
  clear e1 e2 e3 hl z
  rw [Bool.eq_iff_iff]
  simp only [Bool.and_eq_true, List.all_eq_true, decide_eq_true_eq, Bool.not_eq_true', List.any_eq_true, List.any_eq_false]
  constructor
  · rintro ⟨h1, ⟨h2, h3⟩, h4, h5⟩
    refine ⟨h2, fun c hc => ?_⟩
    have t := tab c (h1 c hc)
    have a := h3 c hc
    have u := h5 c hc
    rw [t.1] at a
    rw [t.2.2] at u
    cases hu : upC c with
    | true => exact absurd hu u
    | false => rw [hu, Bool.false_or] at a; exact a
  · rintro ⟨h2, h3⟩
    have lt : ∀ c ∈ l, c < 128 := fun c hc => by
      have := h3 c hc
      simp only [lowC, Bool.and_eq_true, decide_eq_true_eq] at this
      omega
    refine ⟨lt, ⟨h2, fun c hc => ?_⟩, ?_, fun c hc => ?_⟩
    · rw [(tab c (lt c hc)).1, h3 c hc, Bool.or_true]
    · cases l with
      | nil => exact absurd h2 (Nat.lt_irrefl 0)
      | cons c r => exact ⟨c, List.mem_cons_self .., by rw [(tab c (lt c (List.mem_cons_self ..))).2.1]; exact h3 c (List.mem_cons_self ..)⟩
    · rw [(tab c (lt c hc)).2.2]
      have := h3 c hc
      simp only [lowC, upC, Bool.and_eq_true, decide_eq_true_eq] at this ⊢
      omega
def isS : V → Bool
  | .str _ => true
  | _ => false
def isFlag : V → Bool
  | .bl _ => true
  | _ => false
abbrev tPub : Str := Str.ofString "public"
abbrev tCal : Str := Str.ofString "caller"
def nameT (z : Str) : Bool := decide (1 ≤ z.length) && decide (z.length ≤ 8) && (tl z).all lowC && !(z == tPub) && !(z == tCal)
def isName : V → Bool
  | .str z => nameT z
  | _ => false
def isTaker (v : V) : Bool := isName v || isT tPub v
def rightsT : List Str := [Str.ofString "inherit", Str.ofString "act", Str.ofString "read", Str.ofString "write", Str.ofString "call"]
def kindT (z : Str) : Option Str :=
  if z = Str.ofString "inherit" then some (Str.ofString "role") else if z = Str.ofString "act" then some (Str.ofString "role") else if z = Str.ofString "read" then some (Str.ofString "table") else
  if z = Str.ofString "write" then some (Str.ofString "table") else if z = Str.ofString "call" then some (Str.ofString "function") else none
def isRight : V → Bool
  | .str z => (kindT z).isSome
  | _ => false
def isMade (v : V) : Bool := isT (Str.ofString "table") v || isT (Str.ofString "function") v
theorem k_NoneType_str : kitB "NoneType" "str" = some false := by decide +kernel
theorem k_NoneType_bool : kitB "NoneType" "bool" = some false := by decide +kernel
theorem k_NoneType_list : kitB "NoneType" "list" = some false := by decide +kernel
theorem k_NoneType_dict : kitB "NoneType" "dict" = some false := by decide +kernel
theorem k_bool_str : kitB "bool" "str" = some false := by decide +kernel
theorem k_bool_bool : kitB "bool" "bool" = some true := by decide +kernel
theorem k_bool_list : kitB "bool" "list" = some false := by decide +kernel
theorem k_bool_dict : kitB "bool" "dict" = some false := by decide +kernel
theorem k_int_str : kitB "int" "str" = some false := by decide +kernel
theorem k_int_bool : kitB "int" "bool" = some false := by decide +kernel
theorem k_int_list : kitB "int" "list" = some false := by decide +kernel
theorem k_int_dict : kitB "int" "dict" = some false := by decide +kernel
theorem k_str_str : kitB "str" "str" = some true := by decide +kernel
theorem k_str_bool : kitB "str" "bool" = some false := by decide +kernel
theorem k_str_list : kitB "str" "list" = some false := by decide +kernel
theorem k_str_dict : kitB "str" "dict" = some false := by decide +kernel
theorem k_list_str : kitB "list" "str" = some false := by decide +kernel
theorem k_list_bool : kitB "list" "bool" = some false := by decide +kernel
theorem k_list_list : kitB "list" "list" = some true := by decide +kernel
theorem k_list_dict : kitB "list" "dict" = some false := by decide +kernel
theorem k_tuple_str : kitB "tuple" "str" = some false := by decide +kernel
theorem k_tuple_bool : kitB "tuple" "bool" = some false := by decide +kernel
theorem k_tuple_list : kitB "tuple" "list" = some false := by decide +kernel
theorem k_tuple_dict : kitB "tuple" "dict" = some false := by decide +kernel
theorem k_dict_str : kitB "dict" "str" = some false := by decide +kernel
theorem k_dict_bool : kitB "dict" "bool" = some false := by decide +kernel
theorem k_dict_list : kitB "dict" "list" = some false := by decide +kernel
theorem k_dict_dict : kitB "dict" "dict" = some true := by decide +kernel
theorem od_ty {K : PySem.W.Frag} {H : Hp} {x : V} (h : OdV K H x) : ∃ t, TyX K H x t ∧ PySem.W.kitOne K t (.type "str") = some (isS x) ∧ PySem.W.kitOne K t (.type "bool") = some (isFlag x) := by
  cases h with
  | flat f =>
    cases x with
    | non => exact ⟨_, .base .non, kit_ty k_NoneType_str, kit_ty k_NoneType_bool⟩
    | bl b => exact ⟨_, .base (.bl b), kit_ty k_bool_str, kit_ty k_bool_bool⟩
    | int i => exact ⟨_, .base (.int i), kit_ty k_int_str, kit_ty k_int_bool⟩
    | str z => exact ⟨_, .base (.str z), kit_ty k_str_str, kit_ty k_str_bool⟩
    | _ => exact absurd (show false = true from f) Bool.false_ne_true
  | lst h =>
    rcases h with h | ⟨o, its, n, h, c, _⟩
    · rcases h with h | ⟨o, h⟩
      · exact ⟨_, .base (.lst h), kit_ty k_list_str, kit_ty k_list_bool⟩
      · exact ⟨_, .base (.frz h), kit_ty k_list_str, kit_ty k_list_bool⟩
    · exact ⟨_, .kList h c, kit_ty k_list_str, kit_ty k_list_bool⟩
  | tup h =>
    rcases h with h | ⟨o, its, n, h, c, _⟩
    · rcases h with h | ⟨o, h⟩
      · exact ⟨_, .base (.tup h), kit_ty k_tuple_str, kit_ty k_tuple_bool⟩
      · exact ⟨_, .fTuple h, kit_ty k_tuple_str, kit_ty k_tuple_bool⟩
    · exact ⟨_, .kTuple h c, kit_ty k_tuple_str, kit_ty k_tuple_bool⟩
  | dic h => exact ⟨_, .base (.dK h), kit_ty k_dict_str, kit_ty k_dict_bool⟩
theorem isS_str {x : V} (h : isS x = true) : ∃ z, x = .str z := by
  cases x with
  | str z => exact ⟨z, rfl⟩
  | _ => exact absurd (show false = true from h) Bool.false_ne_true
theorem notS_name {x : V} (h : isS x = false) : isName x = false := by
  cases x with
  | str z => exact absurd (show false = true from (show true = false from h).symm) Bool.false_ne_true
  | _ => rfl
end RN
set_option maxHeartbeats 4000000
namespace K56
open PySem PySem.Spec PyProof.Rows L2 RL RE RN TL
/-- a tuple or list of the module with these texts -/
def KTup (K : PySem.W.Frag) (a : Addr) (zs : List Str) : Prop :=
  ∃ (o : Obj) (its : Array Value) (n : Nat), K.lookup a = some o ∧ o.cls = .type "tuple" ∧ o.data = .seq its n ∧ its.size ≤ sizeLine ∧ Vals (zs.map V.str) its.toList
theorem KTup.sq {K : PySem.W.Frag} {a : Addr} {zs : List Str} {H : Hp} (h : KTup K a zs) : SqT K H a (zs.map V.str) := .inr h
/-- KIND_BY_RIGHT -/
structure KRight (K : PySem.W.Frag) (w : World) (d : Addr) : Prop where
  dict : ∃ es n, KDict K w d es n
  get : ∀ z, ∃ r, PySem.W.nsIn K d z = some r ∧ r.isSome = (kindT z).isSome ∧ ∀ k, kindT z = some k → ∃ t, r = some (.str k t)
/-- a value of a row -/
def Od (K : PySem.W.Frag) (H : Hp) (v : V) : Prop := OdV K H v ∧ ∀ z, v = .str z → z.length ≤ 1000 ∧ ∀ x ∈ tl z, x < 256
theorem le_ite {z : Str} {n : Nat} (h : z.length ≤ 1000) (hn : 1000 ≤ n) : z.length ≤ n := Nat.le_trans h hn
theorem nameT_no1 {z : Str} (h : ¬ 1 ≤ z.length) : nameT z = false := by
  unfold nameT
  rw [decide_eq_false h]
  simp
theorem nameT_no8 {z : Str} (h : ¬ z.length ≤ 8) : nameT z = false := by
  unfold nameT
  rw [decide_eq_false h]
  simp
theorem inV2 (z a b : Str) : inV (.str z) [.str a, .str b] = (z == a || z == b) := by
  show ((a == z) || ((b == z) || false)) = _
  rw [Bool.or_false, BEq.comm (a := a), BEq.comm (a := b)]
theorem nameT_eq {z : Str} (h1 : 1 ≤ z.length) (h8 : z.length ≤ 8) : nameT z = (Txt.isascii z && (Txt.isalpha z && (Txt.islower z && !(inV (.str z) [.str tPub, .str tCal])))) := by
  have e := low_eq z
  have h0 : decide (0 < z.length) = true := decide_eq_true (by omega)
  rw [h0, Bool.true_and] at e
  unfold nameT
  rw [decide_eq_true h1, decide_eq_true h8, ← e, inV2]
  cases Txt.isascii z <;> cases Txt.isalpha z <;> cases Txt.islower z <;> cases (z == tPub) <;> cases (z == tCal) <;> rfl
section
variable {P : Program} {w : World} {K : PySem.W.Frag} {mg : Str → Option Value} {base : Heap} {f : Addr} {fd : FuncData}
def spP (K : PySem.W.Frag) (p : V → Bool) : Sp := fun vs H Q _ => ∃ v, vs = [v] ∧ Od K H v ∧ Q (.bl (p v)) H
theorem spP_len {p : V → Bool} : ∀ vs H Q E, spP K p vs H Q E → vs.length = 1 := fun vs H Q E h => by
  obtain ⟨v, rfl, _⟩ := h
  rfl
theorem ok_is_name {aR : Addr} {tL : Tok} (F : Fun K "is_name" "is_name" s_is_name f fd) (mi : mg "isinstance" = none) (ms : mg "str" = none) (ml : mg "len" = none) (mL : mg "LONGEST_NAME" = some (.int 8 tL)) (mR : mg "RESERVED" = some (.ref aR)) (hR : KTup K aR [tPub, tCal]) :
    FnOk P w K mg base CX0 1 f fd ["value"] (spP K isName) := by
  refine F.ok sc_is_name spP_len (fun cdv A outer s H vs Q E hr h => ?_)
  obtain ⟨v, rfl, hv, q⟩ := h
  refine ⟨_, PSs.nox (pss_cons (ps_if (PW.pt (pw_or (pt_not (pt_val (pe_callB call_isi (by rfl) mi boot_isinstance (pa_cons (pv 0) (pa_cons (pe_bltn (v := .ty "str") (by rfl) ms PyProof.Rows.boot_str rfl) pa_nil)))))
      (pw_or1 (pt_not (pt_chain op_le op_le pe_int (pe_callB call_len_str (by rfl) ml PySem.boot_len (pa_cons (pv 0) pa_nil)) (pe_glob (v := .int 8) (by rfl) mL ⟨_, rfl⟩)))))) (pss_one (ps_ret pe_bl)) pss_nil)
    (pss_one (ps_ret (pe_and (pe_m0 PySem.F.slot_str_isascii PySem.F.type_str_isascii mt_isascii (pv 0)) (pe_and (pe_m0 PySem.F.slot_str_isalpha PySem.F.type_str_isalpha mt_isalpha (pv 0)) (pe_and (pe_m0 PySem.F.slot_str_islower PySem.F.type_str_islower mt_islower (pv 0))
      (pe_one (pe_cmpR op_notIn_seq (pv 0) (pe_glob (v := .ref aR) (by rfl) mR rfl) (by rfl))))))))), ?_⟩
  obtain ⟨t, ht, hs, hb⟩ := od_ty hv.1
  refine ⟨_, rfl, v, .ty "str", t, .type "str", _, rfl, .ty _, ht, hs, _, rfl, ?_⟩
  cases hS : isS v with
  | false =>
    rw [notS_name hS] at q
    exact iteT q
  | true =>
    obtain ⟨z, rfl⟩ := isS_str hS
    have hz := (hv.2 z rfl).1
    refine iteF ?_
    refine ⟨_, rfl, z, rfl, Nat.le_trans hz (by decide), 1, z.length, rfl, rfl, _, rfl, ?_⟩
    by_cases h1 : 1 ≤ z.length
    · have e1 : decide ((1 : Int) ≤ (z.length : Nat)) = true := decide_eq_true (by omega)
      rw [e1]
      refine iteT ⟨z.length, 8, rfl, rfl, _, rfl, ?_⟩
      by_cases h8 : z.length ≤ 8
      · have e2 : decide (((z.length : Nat) : Int) ≤ 8) = true := decide_eq_true (by omega)
        rw [e2]
        refine iteF ?_
        have e := nameT_eq h1 h8
        have q : Q (.bl (nameT z)) H := q
        rw [e] at q
        refine ⟨_, rfl, ⟨z, rfl⟩, z, rfl, rfl, trivial, _, rfl, ?_⟩
        cases hA : Txt.isascii z with
        | false => rw [hA] at q; exact iteF q
        | true =>
          rw [hA] at q
          refine iteT ⟨_, rfl, ⟨z, rfl⟩, z, rfl, rfl, trivial, _, rfl, ?_⟩
          cases hB : Txt.isalpha z with
          | false => rw [hB] at q; exact iteF q
          | true =>
            rw [hB] at q
            refine iteT ⟨_, rfl, ⟨z, rfl⟩, z, rfl, rfl, trivial, _, rfl, ?_⟩
            cases hC : Txt.islower z with
            | false => rw [hC] at q; exact iteF q
            | true =>
              rw [hC] at q
              exact iteT ⟨_, rfl, aR, _, rfl, .inr hR.sq, rfl, rfl, q⟩
      · have e2 : decide (((z.length : Nat) : Int) ≤ 8) = false := decide_eq_false (by omega)
        rw [e2]
        have q : Q (.bl (nameT z)) H := q
        rw [nameT_no8 h8] at q
        exact iteT q
    · have e1 : decide ((1 : Int) ≤ (z.length : Nat)) = false := decide_eq_false (by omega)
      rw [e1]
      have q : Q (.bl (nameT z)) H := q
      rw [nameT_no1 h1] at q
      exact ⟨_, rfl, iteT q⟩
end
end K56
set_option maxHeartbeats 4000000
namespace K56
open PySem PySem.Spec PyProof.Rows L2 RL RE RN TL
section
variable {P : Program} {w : World} {K : PySem.W.Frag} {mg : Str → Option Value} {base : Heap} {f : Addr} {fd : FuncData}
theorem ok_is_taker {fN : Addr} {fdN : FuncData} (F : Fun K "is_taker" "is_taker" s_is_taker f fd) (N : FnOk P w K mg base CX0 1 fN fdN ["value"] (spP K isName)) (bN : Binds K fdN ["value"] []) (kN : PySem.W.keepIn K (.ref fN) = true) (gN : mg "is_name" = some (.ref fN)) :
    FnOk P w K mg base CX0 2 f fd ["value"] (spP K isTaker) := by
  refine F.ok sc_is_taker spP_len (fun cdv A outer s H vs Q E hr h => ?_)
  obtain ⟨v, rfl, hv, q⟩ := h
  refine ⟨_, PSs.nox (pss_one (ps_ret (pe_or (pe_call N hr (by rfl) gN kN bN .nil pass0 (pa_cons (pv 0) pa_nil)) (pe_one (pe_cmpR (op_odEq (Nat.lt_of_succ_lt (hu_of hr))) (pv 0) pe_str (nomark _)))))), ?_⟩
  refine ⟨_, rfl, v, rfl, hv, _, rfl, ?_⟩
  have q : Q (.bl (isName v || isT tPub v)) H := q
  cases hN : isName v with
  | true => rw [hN] at q; exact iteT q
  | false => rw [hN] at q; exact iteF ⟨_, rfl, _, rfl, hv.1, q⟩
theorem ok_is_right {d : Addr} (F : Fun K "is_right" "is_right" s_is_right f fd) (mi : mg "isinstance" = none) (ms : mg "str" = none) (mD : mg "KIND_BY_RIGHT" = some (.ref d)) (hD : KRight K w d) :
    FnOk P w K mg base CX0 1 f fd ["value"] (spP K isRight) := by
  obtain ⟨es, n, kd⟩ := hD.dict
  refine F.ok sc_is_right spP_len (fun cdv A outer s H vs Q E hr h => ?_)
  obtain ⟨v, rfl, hv, q⟩ := h
  refine ⟨_, PSs.nox (pss_one (ps_ret (pe_and (pe_callB call_isi (by rfl) mi boot_isinstance (pa_cons (pv 0) (pa_cons (pe_bltn (v := .ty "str") (by rfl) ms PyProof.Rows.boot_str rfl) pa_nil)))
    (pe_one (pe_cmpR (op_in_kd (d := d) (es := es) (n := n) kd) (pv 0) (pe_glob (v := .ref d) (by rfl) mD rfl) (by rfl)))))), ?_⟩
  obtain ⟨t, ht, hs, hb⟩ := od_ty hv.1
  refine ⟨_, rfl, v, .ty "str", t, .type "str", _, rfl, .ty _, ht, hs, _, rfl, ?_⟩
  cases hS : isS v with
  | false =>
    have e : isRight v = false := by
      cases v with
      | str z => exact absurd (show false = true from (show true = false from hS).symm) Bool.false_ne_true
      | _ => rfl
    rw [e] at q
    exact iteF q
  | true =>
    obtain ⟨z, rfl⟩ := isS_str hS
    obtain ⟨r, h1, h2, h3⟩ := hD.get z
    have q : Q (.bl (kindT z).isSome) H := q
    rw [← h2] at q
    exact iteT ⟨_, rfl, z, r, rfl, rfl, h1, q⟩
theorem ok_is_flag (F : Fun K "is_flag" "is_flag" s_is_flag f fd) : FnOk P w K mg base CX0 1 f fd ["value"] (spP K isFlag) := by
  refine F.ok sc_is_flag spP_len (fun cdv A outer s H vs Q E hr h => ?_)
  obtain ⟨v, rfl, hv, q⟩ := h
  refine ⟨_, PSs.nox (pss_one (ps_ret (pe_or (pe_cmpR op_isB (pv 0) pe_bl (by rfl)) (pe_one (pe_cmpR op_isB (pv 0) pe_bl (by rfl)))))), ?_⟩
  refine ⟨_, rfl, _, rfl, hv.1, _, rfl, ?_⟩
  by_cases h1 : v = .bl true
  · rw [decide_eq_true h1]
    rw [h1] at q
    exact iteT q
  · rw [decide_eq_false h1]
    refine iteF ⟨_, rfl, _, rfl, hv.1, ?_⟩
    have e : isFlag v = decide (v = .bl false) := by
      cases v with
      | bl b =>
        cases b with
        | true => exact absurd rfl h1
        | false => rfl
      | _ => exact (decide_eq_false (fun e => nomatch e)).symm
    rw [e] at q
    exact q
end
end K56
set_option maxHeartbeats 4000000
namespace K56
open PySem PySem.Spec PyProof.Rows L2 RL RE RN TL
/-! ### a def that is there, in short -/
def Df (P : Program) (w : World) (K : PySem.W.Frag) (mg : Str → Option Value) (base : Heap) (CX : CXT) (k : Nat) (x : Str) (ps : List Str) (sp : Sp) : Prop :=
  ∃ (f : Addr) (fd : FuncData), FnOk P w K mg base CX k f fd ps sp ∧ Binds K fd ps [] ∧ PySem.W.keepIn K (.ref f) = true ∧ mg x = some (.ref f)
section
variable {X : Cx} {k : Nat} {x : Str} {ps : List Str} {sp : Sp} {t : TA} {e : Expr} {es : List Expr} {p pos : Pos}
theorem pe_df0 (D : Df X.prog X.w X.K X.mg X.base CX0 k x ps sp) (hr : Room k X.A) (hg : Gl X x) (ha : PA X (e :: es) t) (hdb : (x == ("__debug__" : Str)) = false := by decide)
    (he : starEach (e :: es) X.env = (false, eval e X.env) :: starEach es X.env := by rfl) (hpl : (backTo pos (starEach es X.env)).any (·.1) = false := by rfl) : PE X (.Call (.Name x p) (e :: es) [] pos) (tCall sp [] (fun _ _ _ => False) t) := by
  obtain ⟨f, fd, F, b, kp, g⟩ := D
  exact pe_call F hr hg g kp b .nil pass0 ha hdb he hpl
end
/-! ### the checks, where nothing is due -/
section
variable {P : Program} {w : World} {K : PySem.W.Frag} {mg : Str → Option Value} {base : Heap} {f : Addr} {fd : FuncData}
def spG (K : PySem.W.Frag) (p : V → Bool) : Sp := fun vs H Q _ => ∃ v, vs = [v] ∧ Od K H v ∧ p v = true ∧ Q .non H
theorem spG_len {p : V → Bool} : ∀ vs H Q E, spG K p vs H Q E → vs.length = 1 := fun vs H Q E h => by
  obtain ⟨v, rfl, _⟩ := h
  rfl
theorem ok_check_name (F : Fun K "check_name" "check_name" s_check_name f fd) (N : Df P w K mg base CX0 1 "is_name" ["value"] (spP K isName)) : FnOk P w K mg base CX0 2 f fd ["value"] (spG K isName) := by
  refine F.ok sc_check_name spG_len (fun cdv A outer s H vs Q E hr h => ?_)
  obtain ⟨v, rfl, hv, hp, q⟩ := h
  refine ⟨_, PSs.nox (pss_one (ps_if (pt_not (pt_val (pe_df0 N hr (by rfl) (pa_cons (pv 0) pa_nil)))) (pss_one ps_never) pss_nil)), ?_⟩
  refine ⟨_, rfl, v, rfl, hv, _, rfl, ?_⟩
  rw [hp]
  exact iteF q
theorem ok_check_taker (F : Fun K "check_taker" "check_taker" s_check_taker f fd) (N : Df P w K mg base CX0 2 "is_taker" ["value"] (spP K isTaker)) : FnOk P w K mg base CX0 3 f fd ["value"] (spG K isTaker) := by
  refine F.ok sc_check_taker spG_len (fun cdv A outer s H vs Q E hr h => ?_)
  obtain ⟨v, rfl, hv, hp, q⟩ := h
  refine ⟨_, PSs.nox (pss_one (ps_if (pt_not (pt_val (pe_df0 N hr (by rfl) (pa_cons (pv 0) pa_nil)))) (pss_one ps_never) pss_nil)), ?_⟩
  refine ⟨_, rfl, v, rfl, hv, _, rfl, ?_⟩
  rw [hp]
  exact iteF q
theorem ok_check_right (F : Fun K "check_right" "check_right" s_check_right f fd) (N : Df P w K mg base CX0 1 "is_right" ["value"] (spP K isRight)) : FnOk P w K mg base CX0 2 f fd ["value"] (spG K isRight) := by
  refine F.ok sc_check_right spG_len (fun cdv A outer s H vs Q E hr h => ?_)
  obtain ⟨v, rfl, hv, hp, q⟩ := h
  refine ⟨_, PSs.nox (pss_one (ps_if (pt_not (pt_val (pe_df0 N hr (by rfl) (pa_cons (pv 0) pa_nil)))) (pss_one ps_never) pss_nil)), ?_⟩
  refine ⟨_, rfl, v, rfl, hv, _, rfl, ?_⟩
  rw [hp]
  exact iteF q
/-- check_option: a flag, False beside public -/
def spGO (K : PySem.W.Frag) : Sp := fun vs H Q _ => ∃ (b : Bool) (t : V), vs = [.bl b, t] ∧ Od K H t ∧ (b = true → isT tPub t = false) ∧ Q .non H
theorem ok_check_option (F : Fun K "check_option" "check_option" s_check_option f fd) (N : Df P w K mg base CX0 1 "is_flag" ["value"] (spP K isFlag)) : FnOk P w K mg base CX0 2 f fd ["value", "taker"] (spGO K) := by
  refine F.ok sc_check_option (fun vs H Q E h => by obtain ⟨b, t, rfl, _⟩ := h; rfl) (fun cdv A outer s H vs Q E hr h => ?_)
  obtain ⟨b, t, rfl, ht, hp, q⟩ := h
  refine ⟨_, PSs.nox (pss_one (ps_if (PW.pt (pw_or (pt_not (pt_val (pe_df0 N hr (by rfl) (pa_cons (pv 0) pa_nil)))) (pw_or1 (PW.pt (pw_and (pt_val (pv 0)) (pw_and1 (pt_cmpR (op_odEq (Nat.lt_of_succ_lt (hu_of hr))) (pv 1) pe_str (nomark _)))))))) (pss_one ps_never) pss_nil)), ?_⟩
  refine ⟨_, rfl, .bl b, rfl, ⟨.flat rfl, fun z e => nomatch e⟩, _, rfl, ?_⟩
  refine iteF ⟨_, rfl, _, rfl, ?_⟩
  cases b with
  | false => exact iteF (iteF q)
  | true =>
    refine iteT ⟨_, rfl, _, rfl, ht.1, _, rfl, ?_⟩
    rw [hp rfl]
    exact iteF q
end
end K56
set_option maxHeartbeats 4000000
namespace K56
open PySem PySem.Spec PyProof.Rows L2 RL RE RN TL RQ RC
/-! ### deeds -/
inductive Dm
  | call (n : Str)
  | give (w t k : Str) (o : Bool)
  deriving DecidableEq
def txt (z : Str) : Prop := z.length ≤ 1000 ∧ ∀ x ∈ tl z, x < 256
theorem txt.od {K : PySem.W.Frag} {H : Hp} {z : Str} (h : txt z) : Od K H (.str z) := ⟨.flat rfl, fun y e => by cases e; exact h⟩
def okD : Dm → Prop
  | .call n => txt n ∧ nameT n = true
  | .give w t k o => txt w ∧ txt t ∧ txt k ∧ (kindT w).isSome = true ∧ nameT t = true ∧ (isT tCal (.str k) = true ∨ isTaker (.str k) = true) ∧ (o = true → isT tPub (.str k) = false)
/-- where the classes are -/
structure Cs where
  call : Addr
  give : Addr
def fieldsD : Dm → List (Str × V)
  | .call n => [("function", .str n)]
  | .give w t k o => [("right", .str w), ("thing", .str t), ("taker", .str k), ("option", .bl o)]
def clsD (c : Cs) : Dm → Addr
  | .call _ => c.call
  | .give .. => c.give
def DeedAt (c : Cs) (H : Hp) (a : Addr) (d : Dm) : Prop := ∃ dx, H a = some (.ins (clsD c d) dx (fieldsD d))
section
variable {P : Program} {w : World} {K : PySem.W.Frag} {mg : Str → Option Value} {base : Heap} {f : Addr} {fd : FuncData}
def spInit (K : PySem.W.Frag) (C : Addr) (d : Dm → Option (List V)) : Sp := fun vs H Q _ => ∃ (a dx : Addr) (m : Dm) (xs : List V), vs = .ref a :: xs ∧ d m = some xs ∧ okD m ∧ H a = some (.ins C dx []) ∧ Q .non (upd H a (.ins C dx (fieldsD m)))
def argC : Dm → Option (List V)
  | .call n => some [.str n]
  | _ => none
def argG : Dm → Option (List V)
  | .give w t k o => some [.str w, .str t, .str k, .bl o]
  | _ => none
theorem ok_CallI {C : Addr} (F : Fun K "__init__" "Call.__init__" s_Call_init f fd) (G : Df P w K mg base CX0 2 "check_name" ["value"] (spG K isName)) (c : Cls K C) (n1 : NoAttr K C "function") :
    FnOk P w K mg base CX0 3 f fd ["self", "function"] (spInit K C argC) := by
  refine F.ok sc_Call_init (fun vs H Q E h => by obtain ⟨a, dx, m, xs, rfl, e, _⟩ := h; cases m <;> cases e; rfl) (fun cdv A outer s H vs Q E hr h => ?_)
  obtain ⟨a, dx, m, xs, rfl, e, ok, ea, q⟩ := h
  cases m <;> cases e
  refine ⟨_, PSs.nox (pss_cons (ps_expr (pe_df0 G hr (by rfl) (pa_cons (pv 1) pa_nil))) (pss_one (ps_fld (pv 0) (pv 1) rfl))), ?_⟩
  refine ⟨_, rfl, _, rfl, ok.1.od, ok.2, ?_⟩
  exact ⟨_, rfl, _, rfl, a, C, dx, _, rfl, ea, c, n1, by decide, q⟩
theorem ok_GiveI {C : Addr} {dvs : List V} {kws : List (Str × V)} (F : FunD K "__init__" "Give.__init__" (defArgs s_Give_init) (defBody s_Give_init) (defScope s_Give_init) dvs kws f fd) (GR : Df P w K mg base CX0 2 "check_right" ["value"] (spG K isRight)) (GN : Df P w K mg base CX0 2 "check_name" ["value"] (spG K isName)) (GT : Df P w K mg base CX0 3 "check_taker" ["value"] (spG K isTaker)) (GO : Df P w K mg base CX0 2 "check_option" ["value", "taker"] (spGO K))
    (c : Cls K C) (n1 : NoAttr K C "right") (n2 : NoAttr K C "thing") (n3 : NoAttr K C "taker") (n4 : NoAttr K C "option") :
    FnOk P w K mg base CX0 4 f fd ["self", "right", "thing", "taker", "option"] (spInit K C argG) := by
  refine F.ok sc_Give_init (fun vs H Q E h => by obtain ⟨a, dx, m, xs, rfl, e, _⟩ := h; cases m <;> cases e; rfl) (fun cdv A outer s H vs Q E hr h => ?_)
  obtain ⟨a, dx, m, xs, rfl, e, ok, ea, q⟩ := h
  cases m <;> cases e
  rename_i wd t k o
  obtain ⟨tw, tt, tk, h1, h2, h3, h4⟩ := ok
  refine ⟨_, PSs.nox (pss_cons (ps_expr (pe_df0 GR (hr.mono (by decide)) (by rfl) (pa_cons (pv 1) pa_nil)))
    (pss_cons (ps_expr (pe_df0 GN (hr.mono (by decide)) (by rfl) (pa_cons (pv 2) pa_nil)))
    (pss_cons (ps_if (pt_cmpR (op_odNe (Nat.lt_of_succ_lt (hu_of hr))) (pv 3) pe_str (nomark _)) (pss_one (ps_expr (pe_df0 GT hr (by rfl) (pa_cons (pv 3) pa_nil)))) pss_nil)
    (pss_cons (ps_expr (pe_df0 GO (hr.mono (by decide)) (by rfl) (pa_cons (pv 4) (pa_cons (pv 3) pa_nil))))
    (pss_cons (ps_fld (pv 0) (pv 1) rfl) (pss_cons (ps_fld (pv 0) (pv 2) rfl) (pss_cons (ps_fld (pv 0) (pv 3) rfl) (pss_one (ps_fld (pv 0) (pv 4) rfl))))))))), ?_⟩
  refine ⟨_, rfl, _, rfl, tw.od, h1, ?_⟩
  refine ⟨_, rfl, _, rfl, tt.od, h2, ?_⟩
  refine ⟨_, rfl, _, rfl, tk.od.1, _, rfl, ?_⟩
  have up : ∀ {u v x : HO}, upd (upd (upd (upd H a u) a v) a x) a (.ins C dx (fieldsD (.give wd t k o))) = upd H a (.ins C dx (fieldsD (.give wd t k o))) := by
    intro u v x
    rw [upd_upd, upd_upd, upd_upd]
  cases hc : isT tCal (.str k) with
  | true =>
    refine iteF ?_
    refine ⟨_, rfl, _, rfl, o, _, rfl, tk.od, h4, ?_⟩
    refine ⟨_, rfl, _, rfl, a, C, dx, _, rfl, ea, c, n1, by decide, ?_⟩
    refine ⟨_, rfl, _, rfl, a, C, dx, _, rfl, upd_same, c, n2, by show 1 < 1000; decide, ?_⟩
    refine ⟨_, rfl, _, rfl, a, C, dx, _, rfl, upd_same, c, n3, by show 2 < 1000; decide, ?_⟩
    refine ⟨_, rfl, _, rfl, a, C, dx, _, rfl, upd_same, c, n4, by show 3 < 1000; decide, ?_⟩
    rw [← up] at q
    exact q
  | false =>
    have ht : isTaker (.str k) = true := h3.resolve_left (by rw [hc]; exact Bool.false_ne_true)
    refine iteT ⟨_, rfl, _, rfl, tk.od, ht, ?_⟩
    refine ⟨_, rfl, _, rfl, o, _, rfl, tk.od, h4, ?_⟩
    refine ⟨_, rfl, _, rfl, a, C, dx, _, rfl, ea, c, n1, by decide, ?_⟩
    refine ⟨_, rfl, _, rfl, a, C, dx, _, rfl, upd_same, c, n2, by show 1 < 1000; decide, ?_⟩
    refine ⟨_, rfl, _, rfl, a, C, dx, _, rfl, upd_same, c, n3, by show 2 < 1000; decide, ?_⟩
    refine ⟨_, rfl, _, rfl, a, C, dx, _, rfl, upd_same, c, n4, by show 3 < 1000; decide, ?_⟩
    rw [← up] at q
    exact q
end
end K56
set_option maxHeartbeats 4000000
namespace K56
open PySem PySem.Spec PyProof.Rows L2 RL RE RN TL RQ RC
/-- an own class's instance has its class as its type -/
structure TyC (K : PySem.W.Frag) (C : Addr) : Prop where
  cl : Cls K C
  ha : PySem.W.findIn K (.ref C) "__class__" = some (some (.builtin "object.__class__"))
  hn : PySem.W.specialIn K (.builtin "object.__class__") "__get__" = some (some (.builtin "getset_descriptor.__get__"))
  ht : PySem.W.takesIn K (.builtin "object.__class__") = some true
  hm : PySem.W.mroIn K C (.type "object") = some true
theorem TyC.ty {K : PySem.W.Frag} {C : Addr} (t : TyC K C) {H : Hp} {a dx : Addr} {fs : List (Str × V)} (e : H a = some (.ins C dx fs)) : TyX K H (.ref a) (.ref C) := .base (.ins e t.cl t.ha t.hn t.ht t.hm)
/-- the two classes of deeds -/
structure DC (K : PySem.W.Frag) (mg : Str → Option Value) (c : Cs) : Prop where
  gC : mg "Call" = some (.ref c.call)
  gG : mg "Give" = some (.ref c.give)
  tC : TyC K c.call
  tG : TyC K c.give
  cc : PySem.W.kitOne K (.ref c.call) (.ref c.call) = some true
  cg : PySem.W.kitOne K (.ref c.call) (.ref c.give) = some false
  gc : PySem.W.kitOne K (.ref c.give) (.ref c.call) = some false
  gg : PySem.W.kitOne K (.ref c.give) (.ref c.give) = some true
  nC : NoAttr K c.call "function"
  n1 : NoAttr K c.give "right"
  n2 : NoAttr K c.give "thing"
  n3 : NoAttr K c.give "taker"
  n4 : NoAttr K c.give "option"
/-- how two deeds compare -/
def RD (c : Cs) : Addr → V → Hp → Bool → Prop := fun a y H k => ∃ (d d' : Dm) (b : Addr), DeedAt c H a d ∧ y = .ref b ∧ DeedAt c H b d' ∧ k = decide (d = d')
def RDC (c : Cs) : Addr → V → Hp → Bool → Prop := fun a y H k => ∃ (n : Str) (d' : Dm) (b : Addr), DeedAt c H a (.call n) ∧ y = .ref b ∧ DeedAt c H b d' ∧ k = decide (Dm.call n = d')
def RDG (c : Cs) : Addr → V → Hp → Bool → Prop := fun a y H k => ∃ (w t kk : Str) (o : Bool) (d' : Dm) (b : Addr), DeedAt c H a (.give w t kk o) ∧ y = .ref b ∧ DeedAt c H b d' ∧ k = decide (Dm.give w t kk o = d')
section
variable {P : Program} {w : World} {K : PySem.W.Frag} {mg : Str → Option Value} {base : Heap} {f : Addr} {fd : FuncData}
theorem spEqB_len {R : Addr → V → Hp → Bool → Prop} : ∀ vs H Q E, spEqB R vs H Q E → vs.length = 2 := fun vs H Q E h => by
  obtain ⟨a, y, k, rfl, _⟩ := h
  rfl
theorem ok_CallE {c : Cs} (F : Fun K "__eq__" "Call.__eq__" s_Call_eq f fd) (G : DC K mg c) (mi : mg "isinstance" = none) : FnOk P w K mg base CX0 1 f fd ["self", "other"] (spEqB (RDC c)) := by
  refine F.ok sc_Call_eq spEqB_len (fun cdv A outer s H vs Q E hr h => ?_)
  obtain ⟨a, y, k, rfl, ⟨n, d', b, ⟨dx, ea⟩, rfl, ⟨dy, eb⟩, rfl⟩, q⟩ := h
  refine ⟨_, PSs.nox (pss_one (ps_ret (pe_and (pe_callB call_isi (by rfl) mi boot_isinstance (pa_cons (pv 1) (pa_cons (pe_glob (v := .ref c.call) (by rfl) G.gC rfl) pa_nil)))
    (pe_one (pe_cmpR op_eq (pe_fld (pv 0) rfl) (pe_fld (pv 1) rfl) (by rfl)))))), ?_⟩
  cases d' with
  | give wd t kk o =>
    refine ⟨_, rfl, .ref b, .ref c.call, .ref c.give, .ref c.call, _, rfl, .own _, G.tG.ty eb, G.gc, _, rfl, ?_⟩
    exact iteF (q H Ext.rfl')
  | call n' =>
    refine ⟨_, rfl, .ref b, .ref c.call, .ref c.call, .ref c.call, _, rfl, .own _, G.tC.ty eb, G.cc, _, rfl, ?_⟩
    refine iteT ⟨_, rfl, a, c.call, dx, _, _, rfl, ea, G.tC.cl, G.nC, rfl, _, rfl, b, c.call, dy, _, _, rfl, eb, G.tC.cl, G.nC, rfl, rfl, ?_⟩
    have e : decide (V.str n = V.str n') = decide (Dm.call n = Dm.call n') := by
      rw [Bool.eq_iff_iff]
      simp
    show Q (.bl (decide (V.str n = V.str n'))) H
    rw [e]
    exact q H Ext.rfl'
theorem ok_GiveE {c : Cs} (F : Fun K "__eq__" "Give.__eq__" s_Give_eq f fd) (G : DC K mg c) (mi : mg "isinstance" = none) : FnOk P w K mg base CX0 1 f fd ["self", "other"] (spEqB (RDG c)) := by
  refine F.ok sc_Give_eq spEqB_len (fun cdv A outer s H vs Q E hr h => ?_)
  obtain ⟨a, y, k, rfl, ⟨wd, t, kk, o, d', b, ⟨dx, ea⟩, rfl, ⟨dy, eb⟩, rfl⟩, q⟩ := h
  refine ⟨_, PSs.nox (pss_one (ps_ret (pe_and (pe_callB call_isi (by rfl) mi boot_isinstance (pa_cons (pv 1) (pa_cons (pe_glob (v := .ref c.give) (by rfl) G.gG rfl) pa_nil)))
    (pe_and (pe_cmpR op_eq (pe_fld (pv 0) rfl) (pe_fld (pv 1) rfl) (by rfl)) (pe_and (pe_cmpR op_eq (pe_fld (pv 0) rfl) (pe_fld (pv 1) rfl) (by rfl)) (pe_and (pe_cmpR op_eq (pe_fld (pv 0) rfl) (pe_fld (pv 1) rfl) (by rfl)) (pe_one (pe_cmpR op_eq (pe_fld (pv 0) rfl) (pe_fld (pv 1) rfl) (by rfl))))))))), ?_⟩
  cases d' with
  | call n' =>
    refine ⟨_, rfl, .ref b, .ref c.give, .ref c.call, .ref c.give, _, rfl, .own _, G.tC.ty eb, G.cg, _, rfl, ?_⟩
    exact iteF (q H Ext.rfl')
  | give w' t' k' o' =>
    refine ⟨_, rfl, .ref b, .ref c.give, .ref c.give, .ref c.give, _, rfl, .own _, G.tG.ty eb, G.gg, _, rfl, ?_⟩
    refine iteT ⟨_, rfl, a, c.give, dx, _, _, rfl, ea, G.tG.cl, G.n1, rfl, _, rfl, b, c.give, dy, _, _, rfl, eb, G.tG.cl, G.n1, rfl, rfl, _, rfl, ?_⟩
    by_cases h1 : wd = w'
    case neg =>
      rw [decide_eq_false (fun e => h1 (V.str.inj e))]
      rw [decide_eq_false (fun e => by cases e; exact h1 rfl)] at q
      exact iteF (q H Ext.rfl')
    subst h1
    rw [decide_eq_true rfl]
    refine iteT ⟨_, rfl, a, c.give, dx, _, _, rfl, ea, G.tG.cl, G.n2, rfl, _, rfl, b, c.give, dy, _, _, rfl, eb, G.tG.cl, G.n2, rfl, rfl, _, rfl, ?_⟩
    by_cases h2 : t = t'
    case neg =>
      rw [decide_eq_false (fun e => h2 (V.str.inj e))]
      rw [decide_eq_false (fun e => by cases e; exact h2 rfl)] at q
      exact iteF (q H Ext.rfl')
    subst h2
    rw [decide_eq_true rfl]
    refine iteT ⟨_, rfl, a, c.give, dx, _, _, rfl, ea, G.tG.cl, G.n3, rfl, _, rfl, b, c.give, dy, _, _, rfl, eb, G.tG.cl, G.n3, rfl, rfl, _, rfl, ?_⟩
    by_cases h3 : kk = k'
    case neg =>
      rw [decide_eq_false (fun e => h3 (V.str.inj e))]
      rw [decide_eq_false (fun e => by cases e; exact h3 rfl)] at q
      exact iteF (q H Ext.rfl')
    subst h3
    rw [decide_eq_true rfl]
    refine iteT ⟨_, rfl, a, c.give, dx, _, _, rfl, ea, G.tG.cl, G.n4, rfl, _, rfl, b, c.give, dy, _, _, rfl, eb, G.tG.cl, G.n4, rfl, rfl, ?_⟩
    have e : decide (V.bl o = V.bl o') = decide (Dm.give wd t kk o = Dm.give wd t kk o') := by
      rw [Bool.eq_iff_iff]
      simp
    show Q (.bl (decide (V.bl o = V.bl o'))) H
    rw [e]
    exact q H Ext.rfl'
end
end K56
set_option maxHeartbeats 4000000
namespace K56
open PySem PySem.Spec PyProof.Rows L2 RL RE RN TL RQ RC
def wordsD : Dm → List Str
  | .call n => [Str.ofString "call", n]
  | .give w t k o => [Str.ofString "give", w, t, k] ++ (if o = true then [Str.ofString "option"] else [])
def strD (d : Dm) : Str := Txt.join (Str.ofString " ") (wordsD d)
section
variable {P : Program} {w : World} {K : PySem.W.Frag} {mg : Str → Option Value} {base : Heap} {f : Addr} {fd : FuncData}
def spStr (c : Cs) (p : Dm → Bool) : Sp := fun vs H Q _ => ∃ (a : Addr) (d : Dm), vs = [.ref a] ∧ DeedAt c H a d ∧ okD d ∧ p d = true ∧ ∀ H', Ext H H' → Q (.str (strD d)) H'
def isC : Dm → Bool
  | .call _ => true
  | _ => false
def isG : Dm → Bool
  | .give .. => true
  | _ => false
theorem ok_CallS {c : Cs} (F : Fun K "__str__" "Call.__str__" s_Call_str f fd) (G : DC K mg c) : FnOk P w K mg base CX0 1 f fd ["self"] (spStr c isC) := by
  refine F.ok sc_Call_str (fun vs H Q E h => by obtain ⟨a, d, rfl, _⟩ := h; rfl) (fun cdv A outer s H vs Q E hr h => ?_)
  obtain ⟨a, d, rfl, ⟨dx, ea⟩, ok, hp, q⟩ := h
  refine ⟨_, PSs.nox (pss_one (ps_ret (pe_join pe_str (pe_lst (pa_cons pe_str (pa_cons (pe_fld (pv 0) rfl) pa_nil)))))), ?_⟩
  cases d with
  | give wd t k o => exact absurd (show false = true from hp) Bool.false_ne_true
  | call n =>
    have hl := ok.1.1
    refine ⟨⟨_, rfl⟩, _, rfl, a, c.call, dx, _, _, rfl, ea, G.tC.cl, G.nC, rfl, by show 2 ≤ sizeLine; decide, fun p np => ?_⟩
    refine ⟨_, p, wordsD (.call n), rfl, rfl, .inl (SqL.of upd_same), ?_, q _ (Ext.upd np)⟩
    show (4 + (n.length + 0)) + 2 * 1 ≤ 16777216
    omega
theorem ok_GiveS {c : Cs} (F : Fun K "__str__" "Give.__str__" s_Give_str f fd) (G : DC K mg c) : FnOk P w K mg base CX0 1 f fd ["self"] (spStr c isG) := by
  refine F.ok sc_Give_str (fun vs H Q E h => by obtain ⟨a, d, rfl, _⟩ := h; rfl) (fun cdv A outer s H vs Q E hr h => ?_)
  obtain ⟨a, d, rfl, ⟨dx, ea⟩, ok, hp, q⟩ := h
  refine ⟨_, PSs.nox (pss_cons (ps_set (i := 1) sc_Give_str.nd rfl (.inl rfl) (pe_lst (pa_cons pe_str (pa_cons (pe_fld (pv 0) rfl) (pa_cons (pe_fld (pv 0) rfl) (pa_cons (pe_fld (pv 0) rfl) pa_nil))))))
    (pss_cons (ps_if (pt_val (pe_fld (pv 0) rfl)) (pss_one (ps_expr (pe_bm PySem.F.plainAttrs_list PySem.F.slot_list_append PySem.F.type_list_append mt_append (pv 1) (pa_cons pe_str pa_nil)))) pss_nil)
    (pss_one (ps_ret (pe_join pe_str (pv 1)))))), ?_⟩
  cases d with
  | call n => exact absurd (show false = true from hp) Bool.false_ne_true
  | give wd t k o =>
    obtain ⟨⟨l1, _⟩, ⟨l2, _⟩, ⟨l3, _⟩, _⟩ := ok
    refine ⟨_, rfl, a, c.give, dx, _, _, rfl, ea, G.tG.cl, G.n1, rfl, ?_⟩
    refine ⟨_, rfl, a, c.give, dx, _, _, rfl, ea, G.tG.cl, G.n2, rfl, ?_⟩
    refine ⟨_, rfl, a, c.give, dx, _, _, rfl, ea, G.tG.cl, G.n3, rfl, by show 4 ≤ sizeLine; decide, fun p np => ?_⟩
    have e1 : (upd H p (.lst [.str (Str.ofString "give"), .str wd, .str t, .str k])) p = some (.lst [.str (Str.ofString "give"), .str wd, .str t, .str k]) := upd_same
    have x1 : Ext H (upd H p (.lst [.str (Str.ofString "give"), .str wd, .str t, .str k])) := Ext.upd np
    generalize upd H p (.lst [.str (Str.ofString "give"), .str wd, .str t, .str k]) = H1 at e1 x1 ⊢
    refine ⟨_, rfl, a, c.give, dx, _, _, rfl, x1 _ _ ea, G.tG.cl, G.n4, rfl, _, rfl, ?_⟩
    cases o with
    | false =>
      refine iteF ⟨⟨_, rfl⟩, _, rfl, _, p, wordsD (.give wd t k false), rfl, rfl, .inl (SqL.of e1), ?_, q _ x1⟩
      show (4 + (wd.length + (t.length + (k.length + 0)))) + 4 * 1 ≤ 16777216
      omega
    | true =>
      refine iteT ⟨_, rfl, .inl ⟨rfl, _, .inl (.inl e1)⟩, p, _, _, rfl, rfl, e1, by show 4 < sizeLine; decide, ?_⟩
      have x2 : Ext H (upd H1 p (.lst ([.str (Str.ofString "give"), .str wd, .str t, .str k] ++ [.str (Str.ofString "option")]))) := fun b o e => by
        rw [upd_ne (fun z => by rw [z, np] at e; cases e)]
        exact x1 b o e
      refine ⟨⟨_, rfl⟩, _, rfl, _, p, wordsD (.give wd t k true), rfl, rfl, .inl (SqL.of upd_same), ?_, q _ x2⟩
      show (4 + (wd.length + (t.length + (k.length + (6 + 0))))) + 5 * 1 ≤ 16777216
      omega
end
end K56
set_option maxHeartbeats 4000000
namespace K56
open PySem PySem.Spec PyProof.Rows L2 RL RE RN TL RQ RC
theorem kl_list {K : PySem.W.Frag} : PySem.W.kitAny K (.type "list") [.type "list", .type "tuple"] = some true := kitAny_cons (kit_ty k_list_list) (fun h => nomatch h) (fun _ => rfl)
theorem k_tuple_tuple' : kitB "tuple" "tuple" = some true := by decide +kernel
theorem kl_tup {K : PySem.W.Frag} : PySem.W.kitAny K (.type "tuple") [.type "list", .type "tuple"] = some true := kitAny_cons (kit_ty k_tuple_list) (fun _ => kitAny_cons (kit_ty k_tuple_tuple') (fun h => nomatch h) (fun _ => rfl)) (fun h => nomatch h)
/-- a list or tuple -/
def Sq (K : PySem.W.Frag) (H : Hp) (b : Addr) (xs : List V) : Prop := SqL K H b xs ∨ SqT K H b xs
theorem Sq.ty {K : PySem.W.Frag} {H : Hp} {b : Addr} {xs : List V} (h : Sq K H b xs) : ∃ t, TyX K H (.ref b) t ∧ PySem.W.kitAny K t [.type "list", .type "tuple"] = some true := by
  rcases h with h | h
  · rcases h with h | ⟨o, its, n, h, c, _⟩
    · rcases h with h | ⟨o, h⟩
      · exact ⟨_, .base (.lst h), kl_list⟩
      · exact ⟨_, .base (.frz h), kl_list⟩
    · exact ⟨_, .kList h c, kl_list⟩
  · rcases h with h | ⟨o, its, n, h, c, _⟩
    · rcases h with h | ⟨o, h⟩
      · exact ⟨_, .base (.tup h), kl_tup⟩
      · exact ⟨_, .fTuple h, kl_tup⟩
    · exact ⟨_, .kTuple h c, kl_tup⟩
theorem Sq.ext {K : PySem.W.Frag} {H H' : Hp} {b : Addr} {xs : List V} (h : Sq K H b xs) (e : Ext H H') : Sq K H' b xs := h.imp (fun h => SqL.ext h e) (fun h => SqT.ext h e)
section
variable {P : Program} {w : World} {K : PySem.W.Frag} {mg : Str → Option Value} {base : Heap} {f : Addr} {fd : FuncData}
def spList (K : PySem.W.Frag) : Sp := fun vs H Q _ => ∃ (b : Addr) (xs : List V), vs = [.ref b] ∧ Sq K H b xs ∧ ∀ H', Ext H H' → Q (.bl true) H'
theorem ok_is_list (F : Fun K "is_list" "is_list" s_is_list f fd) (mi : mg "isinstance" = none) (ml : mg "list" = none) (mt : mg "tuple" = none) : FnOk P w K mg base CX0 1 f fd ["value"] (spList K) := by
  refine F.ok sc_is_list (fun vs H Q E h => by obtain ⟨b, xs, rfl, _⟩ := h; rfl) (fun cdv A outer s H vs Q E hr h => ?_)
  obtain ⟨b, xs, rfl, hS, q⟩ := h
  refine ⟨_, PSs.nox (pss_one (ps_ret (pe_callB call_isiT (by rfl) mi boot_isinstance (pa_cons (pv 0) (pa_cons (pe_tup (pa_cons (pe_bltn (v := .ty "list") (by rfl) ml (by decide +kernel) rfl) (pa_cons (pe_bltn (v := .ty "tuple") (by rfl) mt (by decide +kernel) rfl) pa_nil))) pa_nil))))), ?_⟩
  refine ⟨_, rfl, by show 2 ≤ sizeLine; decide, fun p np => ?_⟩
  obtain ⟨t, ht, hk⟩ := (hS.ext (Ext.upd (o := .tup [.ty "list", .ty "tuple"]) np)).ty
  exact ⟨.ref b, p, _, t, _, true, rfl, upd_same, .cons (.ty _) (.cons (.ty _) .nil), ht, hk, q _ (Ext.upd np)⟩
/-- names of an audience -/
def Aud (ys : List Str) : Prop := ys.length ≤ 8 ∧ ys.Nodup ∧ ∀ y ∈ ys, nameT y = true ∧ txt y
def spNms (K : PySem.W.Frag) : Sp := fun vs H Q _ => ∃ (b : Addr) (ys : List Str), vs = [.ref b, .int 8] ∧ Sq K H b (ys.map V.str) ∧ Aud ys ∧ ∀ H', Ext H H' → Q (.bl true) H'
theorem ok_is_names (F : Fun K "is_names" "is_names" s_is_names f fd) (L : Df P w K mg base CX0 1 "is_list" ["value"] (spList K)) (N : Df P w K mg base CX0 1 "is_name" ["value"] (spP K isName)) (ml : mg "len" = none) (ma : mg "all" = none) (ms : mg "set" = none) : FnOk P w K mg base CX0 2 f fd ["value", "most"] (spNms K) := by
  refine F.ok sc_is_names (fun vs H Q E h => by obtain ⟨b, ys, rfl, _⟩ := h; rfl) (fun cdv A outer s H vs Q E hr h => ?_)
  obtain ⟨b, ys, rfl, hS, hD, q⟩ := h
  obtain ⟨hl, nd, hN⟩ := hD
  have hm : (ys.map V.str).length = ys.length := List.length_map ..
  rcases hS with hS | hS
  · refine ⟨_, pss_cons (ps_if (PW.pt (pw_or (pt_not (pt_val (pe_df0 L hr (by rfl) (pa_cons (pv 0) pa_nil)))) (pw_or1 (pt_cmpR op_gt (pe_callB call_len_seq (by rfl) ml PySem.boot_len (pa_cons (pv 0) pa_nil)) (pv 1) (by rfl))))) (pss_one (ps_ret pe_bl)) pss_nil)
      (pss_one (ps_ret (pe_and (pe_callB (cr_all rfl) (by rfl) ma (by decide +kernel) (pa_cons (pe_lc (own := [("item", 2)]) (g := gName 2) (by rfl) sc_is_names.nd (pi_list (pv 0))
        (blkOk_by (own := [("item", 2)]) (N := N_is_names) (sc := defScope s_is_names) (by decide +kernel)) (fun _ _ _ _ _ => pg_name (i := 2) sc_is_names.nd rfl (Or.inl rfl)) (fun _ _ _ _ _ => pts_nil)
        (fun _ _ _ _ _ => pe_df0 N hr (by rfl) (pa_cons (pv 2) pa_nil))) pa_nil))
        (pe_one (pe_cmpR op_eq (pe_lenSetN rfl (by rfl) ml (by rfl) ms (pv 0)) (pe_callB call_len_seq (by rfl) ml PySem.boot_len (pa_cons (pv 0) pa_nil)) (by rfl)))))), ?_⟩
    refine ⟨_, rfl, b, _, rfl, .inl hS, fun H1 x1 => ⟨_, rfl, ?_⟩⟩
    refine iteF ⟨_, rfl, b, _, rfl, .inl (SqL.ext hS x1), _, rfl, ((ys.map V.str).length : Nat), 8, rfl, rfl, _, rfl, ?_⟩
    have e4 : decide ((8 : Int) < (((ys.map V.str).length : Nat) : Int)) = false := decide_eq_false (by omega)
    show if decide ((8 : Int) < (((ys.map V.str).length : Nat) : Int)) = true then _ else _
    rw [e4]
    refine iteF ?_
    refine ⟨_, rfl, b, rfl, ⟨_, SqL.ext hS x1⟩, fun D nD => lc_list (K := K) (xs := ys.map V.str) (fun i H' => H' D = some (.lst ((List.replicate i true).map V.bl)) ∧ Ext H1 H') ⟨upd_same, Ext.upd nD⟩ (fun i H' _ h => SqL.ext hS (x1.trans h.2)) ?_ ?_⟩
    · intro i x H2 hx h
      obtain ⟨eD, x2⟩ := h
      have hi : i < ys.length := by
        rw [← hm]
        exact (List.getElem?_eq_some_iff.mp hx).1
      have ex : x = .str ys[i] := by
        rw [List.getElem?_map, List.getElem?_eq_getElem hi] at hx
        exact (Option.some.inj hx).symm
      obtain ⟨n1, t1⟩ := hN _ (List.getElem_mem hi)
      refine ⟨rfl, ?_⟩
      unfold tYes
      refine iteT ?_
      refine ⟨_, rfl, _, rfl, by rw [ex]; exact t1.od, ?_⟩
      have en : isName x = true := by rw [ex]; exact n1
      rw [en]
      refine ⟨_, eD, ?_, ?_, ?_⟩
      · rw [List.length_map, List.length_replicate]
        exact Nat.lt_of_lt_of_le (show i < 1000 by omega) (by decide)
      · rw [upd_same, List.replicate_succ', List.map_append]; rfl
      · intro u o eu
        rw [upd_ne (fun z => by rw [z, nD] at eu; cases eu)]
        exact x2 _ _ eu
    · intro H2 h
      obtain ⟨eD, x2⟩ := h
      refine ⟨D, List.replicate (ys.map V.str).length true, rfl, SqL.of eD, ?_⟩
      have e : (List.replicate (ys.map V.str).length true).all id = true := by simp
      rw [e]
      refine ⟨_, rfl, iteT ?_⟩
      have x3 := x1.trans x2
      refine ⟨_, rfl, b, ys, rfl, .inl (SqL.ext hS x3), by omega, ?_⟩
      refine ⟨_, rfl, b, _, rfl, .inl (SqL.ext hS x3), rfl, ?_⟩
      rw [TS.fm_same ys nd, hm]
      have e5 : decide (V.int ((ys.length : Nat) : Int) = V.int ((ys.length : Nat) : Int)) = true := decide_eq_true rfl
      rw [e5]
      exact q _ x3
  · refine ⟨_, pss_cons (ps_if (PW.pt (pw_or (pt_not (pt_val (pe_df0 L hr (by rfl) (pa_cons (pv 0) pa_nil)))) (pw_or1 (pt_cmpR op_gt (pe_callB call_len_seq (by rfl) ml PySem.boot_len (pa_cons (pv 0) pa_nil)) (pv 1) (by rfl))))) (pss_one (ps_ret pe_bl)) pss_nil)
      (pss_one (ps_ret (pe_and (pe_callB (cr_all rfl) (by rfl) ma (by decide +kernel) (pa_cons (pe_lc (own := [("item", 2)]) (g := gName 2) (by rfl) sc_is_names.nd (pi_tup (pv 0))
        (blkOk_by (own := [("item", 2)]) (N := N_is_names) (sc := defScope s_is_names) (by decide +kernel)) (fun _ _ _ _ _ => pg_name (i := 2) sc_is_names.nd rfl (Or.inl rfl)) (fun _ _ _ _ _ => pts_nil)
        (fun _ _ _ _ _ => pe_df0 N hr (by rfl) (pa_cons (pv 2) pa_nil))) pa_nil))
        (pe_one (pe_cmpR op_eq (pe_lenSetN rfl (by rfl) ml (by rfl) ms (pv 0)) (pe_callB call_len_seq (by rfl) ml PySem.boot_len (pa_cons (pv 0) pa_nil)) (by rfl)))))), ?_⟩
    refine ⟨_, rfl, b, _, rfl, .inr hS, fun H1 x1 => ⟨_, rfl, ?_⟩⟩
    refine iteF ⟨_, rfl, b, _, rfl, .inr (SqT.ext hS x1), _, rfl, ((ys.map V.str).length : Nat), 8, rfl, rfl, _, rfl, ?_⟩
    have e4 : decide ((8 : Int) < (((ys.map V.str).length : Nat) : Int)) = false := decide_eq_false (by omega)
    show if decide ((8 : Int) < (((ys.map V.str).length : Nat) : Int)) = true then _ else _
    rw [e4]
    refine iteF ?_
    refine ⟨_, rfl, b, rfl, ⟨_, SqT.ext hS x1⟩, fun D nD => lc_tup (K := K) (xs := ys.map V.str) (fun i H' => H' D = some (.lst ((List.replicate i true).map V.bl)) ∧ Ext H1 H') ⟨upd_same, Ext.upd nD⟩ (fun i H' _ h => SqT.ext hS (x1.trans h.2)) ?_ ?_⟩
    · intro i x H2 hx h
      obtain ⟨eD, x2⟩ := h
      have hi : i < ys.length := by
        rw [← hm]
        exact (List.getElem?_eq_some_iff.mp hx).1
      have ex : x = .str ys[i] := by
        rw [List.getElem?_map, List.getElem?_eq_getElem hi] at hx
        exact (Option.some.inj hx).symm
      obtain ⟨n1, t1⟩ := hN _ (List.getElem_mem hi)
      refine ⟨rfl, ?_⟩
      unfold tYes
      refine iteT ?_
      refine ⟨_, rfl, _, rfl, by rw [ex]; exact t1.od, ?_⟩
      have en : isName x = true := by rw [ex]; exact n1
      rw [en]
      refine ⟨_, eD, ?_, ?_, ?_⟩
      · rw [List.length_map, List.length_replicate]
        exact Nat.lt_of_lt_of_le (show i < 1000 by omega) (by decide)
      · rw [upd_same, List.replicate_succ', List.map_append]; rfl
      · intro u o eu
        rw [upd_ne (fun z => by rw [z, nD] at eu; cases eu)]
        exact x2 _ _ eu
    · intro H2 h
      obtain ⟨eD, x2⟩ := h
      refine ⟨D, List.replicate (ys.map V.str).length true, rfl, SqL.of eD, ?_⟩
      have e : (List.replicate (ys.map V.str).length true).all id = true := by simp
      rw [e]
      refine ⟨_, rfl, iteT ?_⟩
      have x3 := x1.trans x2
      refine ⟨_, rfl, b, ys, rfl, .inr (SqT.ext hS x3), by omega, ?_⟩
      refine ⟨_, rfl, b, _, rfl, .inr (SqT.ext hS x3), rfl, ?_⟩
      rw [TS.fm_same ys nd, hm]
      have e5 : decide (V.int ((ys.length : Nat) : Int) = V.int ((ys.length : Nat) : Int)) = true := decide_eq_true rfl
      rw [e5]
      exact q _ x3
end
end K56
set_option maxHeartbeats 4000000
namespace K56
open PySem PySem.Spec PyProof.Rows L2 RL RE RN RM TL RQ RC
section
variable {P : Program} {w : World} {K : PySem.W.Frag} {mg : Str → Option Value} {base : Heap} {f : Addr} {fd : FuncData}
/-- a list of deeds -/
def Deeds (c : Cs) (H : Hp) (xs : List V) (ds : List Dm) : Prop := xs.length = ds.length ∧ ∀ (i : Nat) x d, xs[i]? = some x → ds[i]? = some d → ∃ a, x = .ref a ∧ DeedAt c H a d
theorem Deeds.ext {c : Cs} {H H' : Hp} {xs : List V} {ds : List Dm} (h : Deeds c H xs ds) (e : Ext H H') : Deeds c H' xs ds := ⟨h.1, fun i x d h1 h2 => by
  obtain ⟨a, rfl, dx, ea⟩ := h.2 i x d h1 h2
  exact ⟨a, rfl, dx, e _ _ ea⟩⟩
def spBody (K : PySem.W.Frag) (c : Cs) : Sp := fun vs H Q _ => ∃ (b : Addr) (xs : List V) (ds : List Dm), vs = [.ref b] ∧ Sq K H b xs ∧ Deeds c H xs ds ∧ ds.length ≤ 4 ∧ ∀ H', Ext H H' → Q (.bl true) H'
theorem ok_is_body {c : Cs} {tM : Tok} (F : Fun K "is_body" "is_body" s_is_body f fd) (G : DC K mg c) (L : Df P w K mg base CX0 1 "is_list" ["value"] (spList K)) (mi : mg "isinstance" = none) (ml : mg "len" = none) (ma : mg "all" = none) (mM : mg "MOST_IN_BODY" = some (.int 4 tM)) : FnOk P w K mg base CX0 2 f fd ["value"] (spBody K c) := by
  refine F.ok sc_is_body (fun vs H Q E h => by obtain ⟨b, xs, ds, rfl, _⟩ := h; rfl) (fun cdv A outer s H vs Q E hr h => ?_)
  obtain ⟨b, xs, ds, rfl, hS, hD, hl, q⟩ := h
  have hn : xs.length ≤ 4 := by rw [hD.1]; exact hl
  rcases hS with hS | hS
  · refine ⟨_, PSs.nox (pss_cons (ps_if (PW.pt (pw_or (pt_not (pt_val (pe_df0 L hr (by rfl) (pa_cons (pv 0) pa_nil)))) (pw_or1 (pt_cmpR op_gt (pe_callB call_len_seq (by rfl) ml PySem.boot_len (pa_cons (pv 0) pa_nil)) (pe_glob (v := .int 4) (by rfl) mM ⟨_, rfl⟩) (by rfl))))) (pss_one (ps_ret pe_bl)) pss_nil)
      (pss_one (ps_ret (pe_callB (cr_all rfl) (by rfl) ma (by decide +kernel) (pa_cons (pe_lc (own := [("deed", 1)]) (g := gName 1) (by rfl) sc_is_body.nd (pi_list (pv 0))
        (blkOk_by (own := [("deed", 1)]) (N := N_is_body) (sc := defScope s_is_body) (by decide +kernel)) (fun _ _ _ _ _ => pg_name (i := 1) sc_is_body.nd rfl (Or.inl rfl)) (fun _ _ _ _ _ => pts_nil)
        (fun _ _ _ _ _ => pe_callB (r := rIsiT K) call_isiT (by rfl) mi boot_isinstance (pa_cons (pv 1) (pa_cons (pe_tup (pa_cons (pe_glob (v := .ref c.give) (by rfl) G.gG rfl) (pa_cons (pe_glob (v := .ref c.call) (by rfl) G.gC rfl) pa_nil))) pa_nil)))) pa_nil))))), ?_⟩
    refine ⟨_, rfl, b, xs, rfl, .inl hS, fun H1 x1 => ⟨_, rfl, ?_⟩⟩
    refine iteF ⟨_, rfl, b, xs, rfl, .inl (hS.ext x1), (xs.length : Nat), 4, rfl, rfl, _, rfl, ?_⟩
    have e4 : decide ((4 : Int) < ((xs.length : Nat) : Int)) = false := decide_eq_false (by omega)
    show if decide ((4 : Int) < ((xs.length : Nat) : Int)) = true then _ else _
    rw [e4]
    refine iteF ?_
    refine ⟨_, rfl, b, rfl, ⟨xs, hS.ext x1⟩, fun D nD => lc_list (K := K) (xs := xs) (fun i H' => H' D = some (.lst ((List.replicate i true).map V.bl)) ∧ Ext H1 H') ⟨upd_same, Ext.upd nD⟩ (fun i H' _ h => hS.ext (x1.trans h.2)) ?_ ?_⟩
    · intro i x H2 hx h
      obtain ⟨eD, x2⟩ := h
      have hi : i < ds.length := by
        rw [← hD.1]
        exact (List.getElem?_eq_some_iff.mp hx).1
      obtain ⟨a, rfl, dx, ea⟩ := hD.2 i x _ hx (List.getElem?_eq_getElem hi)
      refine ⟨rfl, ?_⟩
      unfold tYes
      refine iteT ?_
      refine ⟨_, rfl, by show 2 ≤ sizeLine; decide, fun p np => ?_⟩
      have x3 := (x1.trans x2).trans (Ext.upd (o := .tup [.ref c.give, .ref c.call]) np)
      have kt : ∃ t, TyX K (upd H2 p (.tup [.ref c.give, .ref c.call])) (.ref a) t ∧ PySem.W.kitAny K t [.ref c.give, .ref c.call] = some true := by
        have e := x3 _ _ ea
        cases hd : ds[i] with
        | call n =>
          rw [hd] at e
          exact ⟨_, G.tC.ty e, kitAny_cons G.cg (fun _ => kitAny_cons G.cc (fun h => nomatch h) (fun _ => rfl)) (fun h => nomatch h)⟩
        | give wd t k o =>
          rw [hd] at e
          exact ⟨_, G.tG.ty e, kitAny_cons G.gg (fun h => nomatch h) (fun _ => rfl)⟩
      obtain ⟨t, ht, hk⟩ := kt
      refine ⟨.ref a, p, _, t, _, true, rfl, upd_same, .cons (.own _) (.cons (.own _) .nil), ht, hk, ?_⟩
      have nDp : D ≠ p := ne_of_none eD np
      refine ⟨_, by rw [upd_ne nDp]; exact eD, ?_, ?_, ?_⟩
      · rw [List.length_map, List.length_replicate]
        exact Nat.lt_of_lt_of_le (show i < 1000 by omega) (by decide)
      · rw [upd_same, List.replicate_succ', List.map_append]; rfl
      · intro u o eu
        have h2 := x2 _ _ eu
        rw [upd_ne (fun z => by rw [z, nD] at eu; cases eu), upd_ne (ne_of_none h2 np)]
        exact h2
    · intro H2 h
      obtain ⟨eD, x2⟩ := h
      refine ⟨D, List.replicate xs.length true, rfl, SqL.of eD, ?_⟩
      have e : (List.replicate xs.length true).all id = true := by simp
      rw [e]
      exact q _ (x1.trans x2)
  · refine ⟨_, PSs.nox (pss_cons (ps_if (PW.pt (pw_or (pt_not (pt_val (pe_df0 L hr (by rfl) (pa_cons (pv 0) pa_nil)))) (pw_or1 (pt_cmpR op_gt (pe_callB call_len_seq (by rfl) ml PySem.boot_len (pa_cons (pv 0) pa_nil)) (pe_glob (v := .int 4) (by rfl) mM ⟨_, rfl⟩) (by rfl))))) (pss_one (ps_ret pe_bl)) pss_nil)
      (pss_one (ps_ret (pe_callB (cr_all rfl) (by rfl) ma (by decide +kernel) (pa_cons (pe_lc (own := [("deed", 1)]) (g := gName 1) (by rfl) sc_is_body.nd (pi_tup (pv 0))
        (blkOk_by (own := [("deed", 1)]) (N := N_is_body) (sc := defScope s_is_body) (by decide +kernel)) (fun _ _ _ _ _ => pg_name (i := 1) sc_is_body.nd rfl (Or.inl rfl)) (fun _ _ _ _ _ => pts_nil)
        (fun _ _ _ _ _ => pe_callB (r := rIsiT K) call_isiT (by rfl) mi boot_isinstance (pa_cons (pv 1) (pa_cons (pe_tup (pa_cons (pe_glob (v := .ref c.give) (by rfl) G.gG rfl) (pa_cons (pe_glob (v := .ref c.call) (by rfl) G.gC rfl) pa_nil))) pa_nil)))) pa_nil))))), ?_⟩
    refine ⟨_, rfl, b, xs, rfl, .inr hS, fun H1 x1 => ⟨_, rfl, ?_⟩⟩
    refine iteF ⟨_, rfl, b, xs, rfl, .inr (SqT.ext hS x1), (xs.length : Nat), 4, rfl, rfl, _, rfl, ?_⟩
    have e4 : decide ((4 : Int) < ((xs.length : Nat) : Int)) = false := decide_eq_false (by omega)
    show if decide ((4 : Int) < ((xs.length : Nat) : Int)) = true then _ else _
    rw [e4]
    refine iteF ?_
    refine ⟨_, rfl, b, rfl, ⟨xs, SqT.ext hS x1⟩, fun D nD => lc_tup (K := K) (xs := xs) (fun i H' => H' D = some (.lst ((List.replicate i true).map V.bl)) ∧ Ext H1 H') ⟨upd_same, Ext.upd nD⟩ (fun i H' _ h => SqT.ext hS (x1.trans h.2)) ?_ ?_⟩
    · intro i x H2 hx h
      obtain ⟨eD, x2⟩ := h
      have hi : i < ds.length := by
        rw [← hD.1]
        exact (List.getElem?_eq_some_iff.mp hx).1
      obtain ⟨a, rfl, dx, ea⟩ := hD.2 i x _ hx (List.getElem?_eq_getElem hi)
      refine ⟨rfl, ?_⟩
      unfold tYes
      refine iteT ?_
      refine ⟨_, rfl, by show 2 ≤ sizeLine; decide, fun p np => ?_⟩
      have x3 := (x1.trans x2).trans (Ext.upd (o := .tup [.ref c.give, .ref c.call]) np)
      have kt : ∃ t, TyX K (upd H2 p (.tup [.ref c.give, .ref c.call])) (.ref a) t ∧ PySem.W.kitAny K t [.ref c.give, .ref c.call] = some true := by
        have e := x3 _ _ ea
        cases hd : ds[i] with
        | call n =>
          rw [hd] at e
          exact ⟨_, G.tC.ty e, kitAny_cons G.cg (fun _ => kitAny_cons G.cc (fun h => nomatch h) (fun _ => rfl)) (fun h => nomatch h)⟩
        | give wd t k o =>
          rw [hd] at e
          exact ⟨_, G.tG.ty e, kitAny_cons G.gg (fun h => nomatch h) (fun _ => rfl)⟩
      obtain ⟨t, ht, hk⟩ := kt
      refine ⟨.ref a, p, _, t, _, true, rfl, upd_same, .cons (.own _) (.cons (.own _) .nil), ht, hk, ?_⟩
      have nDp : D ≠ p := ne_of_none eD np
      refine ⟨_, by rw [upd_ne nDp]; exact eD, ?_, ?_, ?_⟩
      · rw [List.length_map, List.length_replicate]
        exact Nat.lt_of_lt_of_le (show i < 1000 by omega) (by decide)
      · rw [upd_same, List.replicate_succ', List.map_append]; rfl
      · intro u o eu
        have h2 := x2 _ _ eu
        rw [upd_ne (fun z => by rw [z, nD] at eu; cases eu), upd_ne (ne_of_none h2 np)]
        exact h2
    · intro H2 h
      obtain ⟨eD, x2⟩ := h
      refine ⟨D, List.replicate xs.length true, rfl, SqL.of eD, ?_⟩
      have e : (List.replicate xs.length true).all id = true := by simp
      rw [e]
      exact q _ (x1.trans x2)
end
end K56
set_option maxHeartbeats 4000000
namespace K56
open PySem PySem.Spec PyProof.Rows L2 RL RE RN RM TL
/-! ### sorted texts: one order only -/
theorem ltC_asym : ∀ a b : List Nat, ltCps a b = false → ltCps b a = false → a = b
  | [], [], _, _ => rfl
  | [], b :: bs, h, _ => by simp [ltCps] at h
  | a :: as, [], _, h => by simp [ltCps] at h
  | a :: as, b :: bs, h1, h2 => by
    simp only [ltCps, Bool.or_eq_false_iff, Bool.and_eq_false_iff, decide_eq_false_iff_not, beq_eq_false_iff_ne] at h1 h2
    have e : a = b := by omega
    subst e
    rcases h1.2 with h | h
    · exact absurd rfl h
    rcases h2.2 with h' | h'
    · exact absurd rfl h'
    rw [ltC_asym as bs h h']
theorem ltC_trans : ∀ a b c : List Nat, ltCps b a = false → ltCps c b = false → ltCps c a = false
  | [], _, [], _, _ => rfl
  | [], _, _ :: _, _, _ => rfl
  | _ :: _, [], _, h, _ => by simp [ltCps] at h
  | _ :: _, _ :: _, [], _, h => by simp [ltCps] at h
  | x :: as, y :: bs, z :: cs, h1, h2 => by
    simp only [ltCps, Bool.or_eq_false_iff, Bool.and_eq_false_iff, decide_eq_false_iff_not, beq_eq_false_iff_ne] at h1 h2 ⊢
    refine ⟨by omega, ?_⟩
    by_cases e : z = x
    · have e2 : y = x := by omega
      have e3 : z = y := by omega
      rcases h1.2 with h | h
      · exact absurd e2 h
      rcases h2.2 with h' | h'
      · exact absurd e3 h'
      exact .inr (ltC_trans as bs cs h h')
    · exact .inl e
/-- not above -/
def leS (x y : Str) : Prop := ltCps y.cps.toList x.cps.toList = false
theorem leS_anti {x y : Str} (h1 : leS x y) (h2 : leS y x) : x = y := by
  have e := ltC_asym _ _ h1 h2
  cases x with
  | mk a => cases y with
    | mk b =>
      have e : b.toList = a.toList := e
      rw [Array.toList_inj.mp e]
theorem leS_trans {x y z : Str} (h1 : leS x y) (h2 : leS y z) : leS x z := ltC_trans _ _ _ h1 h2
theorem rising_pw : ∀ (r : List Str) (p : Str), risingS p r = true → (∀ y ∈ r, leS p y) ∧ r.Pairwise leS
  | [], _, _ => ⟨(fun _ h => nomatch h), List.Pairwise.nil⟩
  | x :: r, p, h => by
    unfold risingS at h
    rw [Bool.and_eq_true] at h
    have h1 : leS p x := by
      unfold leS
      simpa using h.1
    obtain ⟨a, b⟩ := rising_pw r x h.2
    refine ⟨fun y hy => ?_, .cons a b⟩
    rcases List.mem_cons.mp hy with e | hy
    · rw [e]; exact h1
    · exact leS_trans h1 (a y hy)
theorem sorted_pw {r : List Str} (h : sortedS r = true) : r.Pairwise leS := by
  cases r with
  | nil => exact List.Pairwise.nil
  | cons x r =>
    obtain ⟨a, b⟩ := rising_pw r x h
    exact .cons a b
theorem srt_uniq : ∀ (xs ys : List Str), xs.Perm ys → xs.Pairwise leS → ys.Pairwise leS → xs = ys
  | [], ys, p, _, _ => p.nil_eq
  | x :: xs, [], p, _, _ => absurd p.length_eq (by simp)
  | x :: xs, y :: ys, p, h1, h2 => by
    have e : x = y := by
      by_cases e : x = y
      · exact e
      · have m1 : x ∈ ys := (List.mem_cons.mp (p.mem_iff.mp List.mem_cons_self)).resolve_left e
        have m2 : y ∈ xs := (List.mem_cons.mp (p.mem_iff.mpr List.mem_cons_self)).resolve_left (fun z => e z.symm)
        exact leS_anti ((List.pairwise_cons.mp h1).1 _ m2) ((List.pairwise_cons.mp h2).1 _ m1)
    subst e
    rw [srt_uniq xs ys (p.cons_inv) (List.pairwise_cons.mp h1).2 (List.pairwise_cons.mp h2).2]
/-- in order -/
def Srt (xs ys : List Str) : Prop := ys.Perm xs ∧ sortedS ys = true
theorem Srt.uniq {xs xs' ys ys' : List Str} (h : Srt xs ys) (h' : Srt xs' ys') (p : xs.Perm xs') : ys = ys' :=
  srt_uniq ys ys' ((h.1.trans p).trans h'.1.symm) (sorted_pw h.2) (sorted_pw h'.2)
end K56
set_option maxHeartbeats 4000000
namespace K56
open PySem PySem.Spec PyProof.Rows L2 RL RE RN RM TL RQ RC
theorem pt_never {X : Cx} {e : Expr} : PT X e (fun _ _ _ => False) := ⟨fun _ _ _ _ _ _ h => h.elim⟩
/-- the fields of any thing -/
def headT (kind name owner : Str) (au : V) : List (Str × V) := [("kind", .str kind), ("name", .str name), ("owner", .str owner), ("_audience", au)]
structure TF (K : PySem.W.Frag) (C : Addr) : Prop where
  cl : Cls K C
  n1 : NoAttr K C "kind"
  n2 : NoAttr K C "name"
  n3 : NoAttr K C "owner"
  n4 : NoAttr K C "_audience"
/-- all but a is kept -/
def But (a : Addr) (H H' : Hp) : Prop := ∀ u o, u ≠ a → H u = some o → H' u = some o
section
variable {P : Program} {w : World} {K : PySem.W.Frag} {mg : Str → Option Value} {base : Heap} {f : Addr} {fd : FuncData}
def spThing (K : PySem.W.Frag) : Sp := fun vs H Q _ => ∃ (a C dx : Addr) (kind name owner : Str) (x : V), vs = [.ref a, .str kind, .str name, .str owner, x] ∧ TF K C ∧ H a = some (.ins C dx []) ∧ txt name ∧ nameT name = true ∧ txt owner ∧ nameT owner = true ∧
  ((x = .non ∧ Q .non (upd H a (.ins C dx (headT kind name owner .non)))) ∨
   (∃ (b : Addr) (ys : List Str), x = .ref b ∧ ((∀ H', But a H H' → SqL K H' b (ys.map V.str)) ∨ (∀ H', But a H H' → SqT K H' b (ys.map V.str))) ∧ Aud ys ∧
     ∀ H' p zs, Srt ys zs → H p = none → But a H H' → H' a = some (.ins C dx (headT kind name owner (.ref p))) → H' p = some (.lst (zs.map V.str)) → Q .non H'))
theorem ok_Thing {tM : Tok} (F : Fun K "__init__" "Thing.__init__" s_Thing_init f fd) (G : Df P w K mg base CX0 2 "check_name" ["value"] (spG K isName)) (NM : Df P w K mg base CX0 2 "is_names" ["value", "most"] (spNms K)) (mM : mg "MOST_IN_AUDIENCE" = some (.int 8 tM)) (mso : mg "sorted" = none) (ms : mg "str" = none) : FnOk P w K mg base CX0 3 f fd ["self", "kind", "name", "owner", "audience"] (spThing K) := by
  refine F.ok sc_Thing_init (fun vs H Q E h => by obtain ⟨a, C, dx, kd, nm, ow, x, rfl, _⟩ := h; rfl) (fun cdv A outer s H vs Q E hr h => ?_)
  obtain ⟨a, C, dx, kd, nm, ow, x, rfl, T, ea, t1, n1, t2, n2, q⟩ := h
  rcases q with ⟨rfl, q⟩ | ⟨b, ys, rfl, hS, hA, q⟩
  · refine ⟨_, PSs.nox (pss_cons (ps_expr (pe_df0 G hr (by rfl) (pa_cons (pv 2) pa_nil))) (pss_cons (ps_expr (pe_df0 G hr (by rfl) (pa_cons (pv 3) pa_nil)))
      (pss_cons (ps_if (PW.pt (pw_and (pt_cmpR op_notN (pv 4) pe_non (by rfl)) (pw_and1 pt_never))) (pss_one ps_never) pss_nil)
      (pss_cons (ps_fld (pv 0) (pv 1) rfl) (pss_cons (ps_fld (pv 0) (pv 2) rfl) (pss_cons (ps_fld (pv 0) (pv 3) rfl) (pss_cons (ps_fld (pv 0) pe_non rfl)
      (pss_one (ps_if (pt_cmpR op_notN (pv 4) pe_non (by rfl)) (pss_one ps_never) pss_nil))))))))), ?_⟩
    refine ⟨_, rfl, _, rfl, t1.od, n1, ?_⟩
    refine ⟨_, rfl, _, rfl, t2.od, n2, ?_⟩
    refine ⟨_, rfl, rfl, _, rfl, ?_⟩
    refine iteF (iteF ?_)
    refine ⟨_, rfl, _, rfl, a, C, dx, _, rfl, ea, T.cl, T.n1, by decide, ?_⟩
    refine ⟨_, rfl, _, rfl, a, C, dx, _, rfl, upd_same, T.cl, T.n2, by show 1 < 1000; decide, ?_⟩
    refine ⟨_, rfl, _, rfl, a, C, dx, _, rfl, upd_same, T.cl, T.n3, by show 2 < 1000; decide, ?_⟩
    refine ⟨_, rfl, a, C, dx, _, rfl, upd_same, T.cl, T.n4, by show 3 < 1000; decide, ?_⟩
    refine ⟨_, rfl, rfl, _, rfl, ?_⟩
    refine iteF ?_
    have up : ∀ {u v x : HO}, upd (upd (upd (upd H a u) a v) a x) a (.ins C dx (headT kd nm ow .non)) = upd H a (.ins C dx (headT kd nm ow .non)) := by
      intro u v x
      rw [upd_upd, upd_upd, upd_upd]
    rw [← up] at q
    exact q
  · rcases hS with hS | hS
    · refine ⟨_, pss_cons (ps_expr (pe_df0 G hr (by rfl) (pa_cons (pv 2) pa_nil))) (pss_cons (ps_expr (pe_df0 G hr (by rfl) (pa_cons (pv 3) pa_nil)))
        (pss_cons (ps_if (PW.pt (pw_and (pt_cmpR op_notN (pv 4) pe_non (by rfl)) (pw_and1 (pt_not (pt_val (pe_df0 NM hr (by rfl) (pa_cons (pv 4) (pa_cons (pe_glob (v := .int 8) (by rfl) mM ⟨_, rfl⟩) pa_nil)))))))) (pss_one ps_never) pss_nil)
        (pss_cons (ps_fld (pv 0) (pv 1) rfl) (pss_cons (ps_fld (pv 0) (pv 2) rfl) (pss_cons (ps_fld (pv 0) (pv 3) rfl) (pss_cons (ps_fld (pv 0) pe_non rfl)
        (pss_one (ps_if (pt_cmpR op_notN (pv 4) pe_non (by rfl)) (pss_one (ps_fld (pv 0) (pe_callB cr_sortedS (by rfl) mso (by decide +kernel) (pa_cons (pe_lc (own := [("admitted", 5)]) (g := gName 5) (by rfl) sc_Thing_init.nd (pi_list (pv 4))
          (blkOk_by (own := [("admitted", 5)]) (N := N_Thing_init) (sc := defScope s_Thing_init) (by decide +kernel)) (fun _ _ _ _ _ => pg_name (i := 5) sc_Thing_init.nd rfl (Or.inl rfl)) (fun _ _ _ _ _ => pts_nil)
          (fun _ _ _ _ _ => pe_callTy SkE.call_str_str (by rfl) ms PyProof.Rows.boot_str (pa_cons (pv 5) pa_nil))) pa_nil)) rfl)) pss_nil)))))))), ?_⟩
      refine ⟨_, rfl, _, rfl, t1.od, n1, ?_⟩
      refine ⟨_, rfl, _, rfl, t2.od, n2, ?_⟩
      refine ⟨_, rfl, rfl, _, rfl, ?_⟩
      refine iteT ?_
      refine ⟨_, rfl, b, ys, rfl, .inl (hS H (fun _ _ _ e => e)), hA, fun H1 x1 => ⟨_, rfl, iteF ?_⟩⟩
      have ea1 : H1 a = some (.ins C dx []) := x1 _ _ ea
      refine ⟨_, rfl, _, rfl, a, C, dx, _, rfl, ea1, T.cl, T.n1, by decide, ?_⟩
      refine ⟨_, rfl, _, rfl, a, C, dx, _, rfl, upd_same, T.cl, T.n2, by show 1 < 1000; decide, ?_⟩
      refine ⟨_, rfl, _, rfl, a, C, dx, _, rfl, upd_same, T.cl, T.n3, by show 2 < 1000; decide, ?_⟩
      refine ⟨_, rfl, a, C, dx, _, rfl, upd_same, T.cl, T.n4, by show 3 < 1000; decide, ?_⟩
      refine ⟨_, rfl, rfl, _, rfl, ?_⟩
      refine iteT ?_
      rw [upd_upd, upd_upd, upd_upd]
      have bc : But a H (upd H1 a (.ins C dx (headT kd nm ow .non))) := fun u o n e => by
        rw [upd_ne n]
        exact x1 _ _ e
      have ec : (upd H1 a (.ins C dx (headT kd nm ow .non))) a = some (.ins C dx (headT kd nm ow .non)) := upd_same
      rw [show putF (Str.ofString "_audience") V.non (putF (Str.ofString "owner") (V.str ow) (putF (Str.ofString "name") (V.str nm) (putF (Str.ofString "kind") (V.str kd) []))) = headT kd nm ow .non from rfl]
      generalize upd H1 a (.ins C dx (headT kd nm ow .non)) = Hc at bc ec ⊢
      have hc := hS Hc bc
      obtain ⟨hl, nd, hN⟩ := hA
      have fin : ∀ (D : Addr), Hc D = none → ∀ H2 : Hp, H2 D = some (.lst ((ys.take (ys.map V.str).length).map V.str)) → Ext Hc H2 →
          rSortedS K [.ref D] H2 fun x H3 => ∃ (v : V), (L2.start N_Thing_init [V.ref a, V.str kd, V.str nm, V.str ow, V.ref b])[0]? = some (some v) ∧ ∃ (a' C' dx' : Addr) (fs' : List (Str × V)), v = .ref a' ∧ H3 a' = some (.ins C' dx' fs') ∧ Cls K C' ∧ NoAttr K C' "_audience" ∧ fs'.length < 1000 ∧ Q .non (upd H3 a' (.ins C' dx' (putF "_audience" x fs'))) := by
        intro D nD H2 eD x2
        rw [List.length_map, List.take_length] at eD
        refine ⟨D, ys, rfl, SqL.of eD, by omega, fun zs p pm so np => ?_⟩
        have ea2 : H2 a = some (.ins C dx (headT kd nm ow .non)) := x2 _ _ ec
        have npa : p ≠ a := fun z => by rw [z, ea2] at np; cases np
        have nHp : H p = none := by
          cases e : H p with
          | none => rfl
          | some o => rw [x2 _ _ (bc p o npa e)] at np; cases np
        refine ⟨_, rfl, a, C, dx, _, rfl, by rw [upd_ne (Ne.symm npa)]; exact ea2, T.cl, T.n4, by show 4 < 1000; decide, ?_⟩
        refine q _ p zs ⟨pm, so⟩ nHp (fun u o n e => ?_) (by rw [upd_same]; rfl) (by rw [upd_ne npa, upd_same])
        rw [upd_ne n, upd_ne (fun z => by rw [z, nHp] at e; cases e)]
        exact x2 _ _ (bc u o n e)
      refine ⟨_, rfl, b, rfl, ⟨_, hc⟩, fun D nD => lc_list (K := K) (xs := ys.map V.str) (fun i H' => H' D = some (.lst ((ys.take i).map V.str)) ∧ Ext Hc H') ⟨upd_same, Ext.upd nD⟩ (fun i H' _ h => SqL.ext hc h.2) ?_ ?_⟩
      · intro i x H2 hx h
        obtain ⟨eD, x2⟩ := h
        have hi : i < ys.length := by
          rw [← List.length_map (f := V.str)]
          exact (List.getElem?_eq_some_iff.mp hx).1
        have ex : x = .str ys[i] := by
          rw [List.getElem?_map, List.getElem?_eq_getElem hi] at hx
          exact (Option.some.inj hx).symm
        refine ⟨rfl, ?_⟩
        unfold tYes
        refine iteT ?_
        refine ⟨_, rfl, ys[i], by rw [ex], ?_⟩
        refine ⟨_, eD, ?_, ?_, ?_⟩
        · rw [List.length_map, List.length_take]
          exact Nat.lt_of_lt_of_le (show min i ys.length < 1000 by omega) (by decide)
        · rw [upd_same, List.take_succ, List.getElem?_eq_getElem hi, List.map_append]; rfl
        · intro u o eu
          rw [upd_ne (fun z => by rw [z, nD] at eu; cases eu)]
          exact x2 _ _ eu
      · intro H2 h
        exact fin D nD H2 h.1 h.2
    · refine ⟨_, pss_cons (ps_expr (pe_df0 G hr (by rfl) (pa_cons (pv 2) pa_nil))) (pss_cons (ps_expr (pe_df0 G hr (by rfl) (pa_cons (pv 3) pa_nil)))
        (pss_cons (ps_if (PW.pt (pw_and (pt_cmpR op_notN (pv 4) pe_non (by rfl)) (pw_and1 (pt_not (pt_val (pe_df0 NM hr (by rfl) (pa_cons (pv 4) (pa_cons (pe_glob (v := .int 8) (by rfl) mM ⟨_, rfl⟩) pa_nil)))))))) (pss_one ps_never) pss_nil)
        (pss_cons (ps_fld (pv 0) (pv 1) rfl) (pss_cons (ps_fld (pv 0) (pv 2) rfl) (pss_cons (ps_fld (pv 0) (pv 3) rfl) (pss_cons (ps_fld (pv 0) pe_non rfl)
        (pss_one (ps_if (pt_cmpR op_notN (pv 4) pe_non (by rfl)) (pss_one (ps_fld (pv 0) (pe_callB cr_sortedS (by rfl) mso (by decide +kernel) (pa_cons (pe_lc (own := [("admitted", 5)]) (g := gName 5) (by rfl) sc_Thing_init.nd (pi_tup (pv 4))
          (blkOk_by (own := [("admitted", 5)]) (N := N_Thing_init) (sc := defScope s_Thing_init) (by decide +kernel)) (fun _ _ _ _ _ => pg_name (i := 5) sc_Thing_init.nd rfl (Or.inl rfl)) (fun _ _ _ _ _ => pts_nil)
          (fun _ _ _ _ _ => pe_callTy SkE.call_str_str (by rfl) ms PyProof.Rows.boot_str (pa_cons (pv 5) pa_nil))) pa_nil)) rfl)) pss_nil)))))))), ?_⟩
      refine ⟨_, rfl, _, rfl, t1.od, n1, ?_⟩
      refine ⟨_, rfl, _, rfl, t2.od, n2, ?_⟩
      refine ⟨_, rfl, rfl, _, rfl, ?_⟩
      refine iteT ?_
      refine ⟨_, rfl, b, ys, rfl, .inr (hS H (fun _ _ _ e => e)), hA, fun H1 x1 => ⟨_, rfl, iteF ?_⟩⟩
      have ea1 : H1 a = some (.ins C dx []) := x1 _ _ ea
      refine ⟨_, rfl, _, rfl, a, C, dx, _, rfl, ea1, T.cl, T.n1, by decide, ?_⟩
      refine ⟨_, rfl, _, rfl, a, C, dx, _, rfl, upd_same, T.cl, T.n2, by show 1 < 1000; decide, ?_⟩
      refine ⟨_, rfl, _, rfl, a, C, dx, _, rfl, upd_same, T.cl, T.n3, by show 2 < 1000; decide, ?_⟩
      refine ⟨_, rfl, a, C, dx, _, rfl, upd_same, T.cl, T.n4, by show 3 < 1000; decide, ?_⟩
      refine ⟨_, rfl, rfl, _, rfl, ?_⟩
      refine iteT ?_
      rw [upd_upd, upd_upd, upd_upd]
      have bc : But a H (upd H1 a (.ins C dx (headT kd nm ow .non))) := fun u o n e => by
        rw [upd_ne n]
        exact x1 _ _ e
      have ec : (upd H1 a (.ins C dx (headT kd nm ow .non))) a = some (.ins C dx (headT kd nm ow .non)) := upd_same
      rw [show putF (Str.ofString "_audience") V.non (putF (Str.ofString "owner") (V.str ow) (putF (Str.ofString "name") (V.str nm) (putF (Str.ofString "kind") (V.str kd) []))) = headT kd nm ow .non from rfl]
      generalize upd H1 a (.ins C dx (headT kd nm ow .non)) = Hc at bc ec ⊢
      have hc := hS Hc bc
      obtain ⟨hl, nd, hN⟩ := hA
      have fin : ∀ (D : Addr), Hc D = none → ∀ H2 : Hp, H2 D = some (.lst ((ys.take (ys.map V.str).length).map V.str)) → Ext Hc H2 →
          rSortedS K [.ref D] H2 fun x H3 => ∃ (v : V), (L2.start N_Thing_init [V.ref a, V.str kd, V.str nm, V.str ow, V.ref b])[0]? = some (some v) ∧ ∃ (a' C' dx' : Addr) (fs' : List (Str × V)), v = .ref a' ∧ H3 a' = some (.ins C' dx' fs') ∧ Cls K C' ∧ NoAttr K C' "_audience" ∧ fs'.length < 1000 ∧ Q .non (upd H3 a' (.ins C' dx' (putF "_audience" x fs'))) := by
        intro D nD H2 eD x2
        rw [List.length_map, List.take_length] at eD
        refine ⟨D, ys, rfl, SqL.of eD, by omega, fun zs p pm so np => ?_⟩
        have ea2 : H2 a = some (.ins C dx (headT kd nm ow .non)) := x2 _ _ ec
        have npa : p ≠ a := fun z => by rw [z, ea2] at np; cases np
        have nHp : H p = none := by
          cases e : H p with
          | none => rfl
          | some o => rw [x2 _ _ (bc p o npa e)] at np; cases np
        refine ⟨_, rfl, a, C, dx, _, rfl, by rw [upd_ne (Ne.symm npa)]; exact ea2, T.cl, T.n4, by show 4 < 1000; decide, ?_⟩
        refine q _ p zs ⟨pm, so⟩ nHp (fun u o n e => ?_) (by rw [upd_same]; rfl) (by rw [upd_ne npa, upd_same])
        rw [upd_ne n, upd_ne (fun z => by rw [z, nHp] at e; cases e)]
        exact x2 _ _ (bc u o n e)
      refine ⟨_, rfl, b, rfl, ⟨_, hc⟩, fun D nD => lc_tup (K := K) (xs := ys.map V.str) (fun i H' => H' D = some (.lst ((ys.take i).map V.str)) ∧ Ext Hc H') ⟨upd_same, Ext.upd nD⟩ (fun i H' _ h => SqT.ext hc h.2) ?_ ?_⟩
      · intro i x H2 hx h
        obtain ⟨eD, x2⟩ := h
        have hi : i < ys.length := by
          rw [← List.length_map (f := V.str)]
          exact (List.getElem?_eq_some_iff.mp hx).1
        have ex : x = .str ys[i] := by
          rw [List.getElem?_map, List.getElem?_eq_getElem hi] at hx
          exact (Option.some.inj hx).symm
        refine ⟨rfl, ?_⟩
        unfold tYes
        refine iteT ?_
        refine ⟨_, rfl, ys[i], by rw [ex], ?_⟩
        refine ⟨_, eD, ?_, ?_, ?_⟩
        · rw [List.length_map, List.length_take]
          exact Nat.lt_of_lt_of_le (show min i ys.length < 1000 by omega) (by decide)
        · rw [upd_same, List.take_succ, List.getElem?_eq_getElem hi, List.map_append]; rfl
        · intro u o eu
          rw [upd_ne (fun z => by rw [z, nD] at eu; cases eu)]
          exact x2 _ _ eu
      · intro H2 h
        exact fin D nD H2 h.1 h.2
end
end K56
set_option maxHeartbeats 4000000
namespace K56
open PySem PySem.Spec PyProof.Rows L2 RL RE RN RM TL
section
variable {P : Program} {w : World} {K : PySem.W.Frag} {mg : Str → Option Value} {base : Heap}
/-! ### cells and boxes -/
def spCell (K : PySem.W.Frag) : Sp := fun vs H Q _ => ∃ (a : Addr) (ns : List Int) (k : Nat), vs = [.ref a, .int k] ∧ SqL K H a (ns.map V.int) ∧ k < 1000 ∧ ns.length < 1000 ∧ ∀ v : Int, Q (.int v) H
theorem ok_cell {f : Addr} {fd : FuncData} (F : Fun K "_law_cell" "_law_cell" s__law_cell f fd) (ml : mg "len" = none) : FnOk P w K mg base CX0 1 f fd ["_law_script", "_law_k"] (spCell K) := by
  refine F.ok sc__law_cell (fun vs H Q E h => ?_) (fun cdv A outer s H vs Q E hr h => ?_)
  · obtain ⟨a, ns, k, rfl, _⟩ := h
    rfl
  · obtain ⟨a, ns, k, rfl, hS, hk, hl, q⟩ := h
    refine ⟨_, pss_cons (ps_if (pt_cmpR op_lt (pv 1) (pe_callB call_len_seq (by rfl) ml PySem.boot_len (pa_cons (pv 0) pa_nil)) (nomark _)) (pss_one (ps_ret (pe_ix ix_list (pv 0) (pv 1) (fun _ _ => rfl)))) pss_nil) (pss_one (ps_ret (pe_op op_add (pe_op op_mul pe_int (pv 1)) pe_int))), ?_⟩
    refine ⟨_, rfl, .ref a, rfl, a, ns.map V.int, rfl, .inl hS, (k : Int), _, rfl, rfl, _, rfl, ?_⟩
    refine ite2 (fun e => ?_) (fun e => ?_)
    · have h1 := of_decide_eq_true e
      rw [List.length_map] at h1
      have h2 : k < ns.length := by omega
      refine ⟨_, rfl, _, rfl, a, _, (k : Int), .int ns[k], rfl, rfl, hS, ?_, q _⟩
      exact atI_nat (by rw [List.getElem?_map, List.getElem?_eq_getElem h2]; rfl)
    · exact ⟨_, rfl, 15490573, (k : Int), rfl, rfl, .inl ⟨by decide, by decide⟩, 15490573 * (k : Int), 311, rfl, rfl, q _⟩
def Bx (H : Hp) (b : Addr) (n : Int) : Prop := ∃ g m k : Int, H b = some (.lst [.int g, .int m, .int k]) ∧ 0 ≤ g ∧ 0 ≤ m ∧ m < 2147483629 ∧ 0 ≤ k ∧ k ≤ n
theorem Bx.mono {H : Hp} {b : Addr} {n n' : Int} (h : Bx H b n) (hn : n ≤ n') : Bx H b n' := by
  obtain ⟨g, m, k, e, h1, h2, h3, h4, h5⟩ := h
  exact ⟨g, m, k, e, h1, h2, h3, h4, by omega⟩
theorem Bx.same {H H' : Hp} {b : Addr} {n : Int} (h : Bx H b n) (s : Same H H') : Bx H' b n := by
  obtain ⟨g, m, k, e, r⟩ := h
  exact ⟨g, m, k, s _ _ e, r⟩
def spBox : Sp := fun vs H Q _ => ∃ v : Int, vs = [.int v] ∧ ∀ p H', H p = none → Same H H' → Bx H' p 0 → Q (.ref p) H'
theorem ok_box {f : Addr} {fd : FuncData} (F : Fun K "_law_box" "_law_box" s__law_box f fd) (mm : mg "max" = none) : FnOk P w K mg base CX0 1 f fd ["_law_cell_here"] spBox := by
  refine F.ok sc__law_box (fun vs H Q E h => ?_) (fun cdv A outer s H vs Q E hr h => ?_)
  · obtain ⟨v, rfl, _⟩ := h
    rfl
  · obtain ⟨v, rfl, q⟩ := h
    refine ⟨_, pss_one (ps_ret (pe_lst (pa_cons (pe_callB (call_max2 rfl) (by rfl) mm PyProof.Rows.boot_max (pa_cons pe_int (pa_cons (pe_op op_sub (pv 0) (pe_op op_pow pe_int pe_int)) pa_nil))) (pa_cons (pe_op op_mod (pv 0) pe_int) (pa_cons pe_int pa_nil))))), ?_⟩
    refine ⟨_, rfl, 10, 18, rfl, rfl, ⟨by decide, by decide, by decide⟩, v, _, rfl, rfl, 0, _, rfl, ?_⟩
    refine ⟨_, rfl, v, 2147483629, rfl, rfl, by show (0 : Int) < 2147483629; decide, ?_⟩
    refine ⟨by show 3 ≤ sizeLine; decide, fun p np => ?_⟩
    refine q p _ np (same_upd np) ⟨_, _, 0, upd_same, ?_, Int.emod_nonneg _ (by decide), Int.emod_lt_of_pos _ (by decide), by decide, by decide⟩
    split <;> omega
/-! ### a draw -/
def spTake : Sp := fun vs H Q _ => ∃ (b : Addr) (q : Int) (n : Int), vs = [.ref b, .int q] ∧ 1 ≤ q ∧ q ≤ 1000000 ∧ 0 ≤ n ∧ n ≤ 100000 ∧ Bx H b n ∧ ∀ d H', 0 ≤ d → d < q → Keep b H H' → Bx H' b (n + 1) → Q (.int d) H'
theorem ok_take {f : Addr} {fd : FuncData} (F : Fun K "_law_take" "_law_take" s__law_take f fd) : FnOk P w K mg base CX0 1 f fd ["_law_box_here", "_law_many"] spTake := by
  refine F.ok sc__law_take (fun vs H Q E h => ?_) (fun cdv A outer s H vs Q E hr h => ?_)
  · obtain ⟨b, q, n, rfl, _⟩ := h
    rfl
  · obtain ⟨b, m, n, rfl, m1, m2, n1, n2, ⟨g, x, k, eb, g0, x0, x1, k0, k1⟩, q⟩ := h
    refine ⟨_, pss_cons (ps_if (pt_cmpR op_gt (pe_ix ix_list (pv 0) pe_int (fun _ _ => rfl)) pe_int (nomark _))
        (pss_cons (ps_set (i := 2) sc__law_take.nd rfl (.inl rfl) (pe_op op_mod (pe_ix ix_list (pv 0) pe_int (fun _ _ => rfl)) (pv 1)))
        (pss_cons (ps_asg (pe_op op_fdiv (pe_ix ix_list (pv 0) pe_int (fun _ _ => rfl)) (pv 1)) (pg_sub (pv 0) pe_int set_list))
        (pss_one (ps_ret (pv 2))))) pss_nil)
      (pss_cons (ps_asg (pe_op op_add (pe_ix ix_list (pv 0) pe_int (fun _ _ => rfl)) pe_int) (pg_sub (pv 0) pe_int set_list))
      (pss_cons (ps_set (i := 3) sc__law_take.nd rfl (.inl rfl) (pe_op op_mod (pe_op op_pow (pe_op op_add (pe_op op_add (pe_ix ix_list (pv 0) pe_int (fun _ _ => rfl)) (pe_op op_mul pe_int (pe_ix ix_list (pv 0) pe_int (fun _ _ => rfl)))) pe_int) pe_int) pe_int))
      (pss_cons (ps_set (i := 3) sc__law_take.nd rfl (.inl rfl) (pe_op op_mod (pe_op op_pow (pe_op op_add (pv 3) (pe_op op_mul pe_int (pe_ix ix_list (pv 0) pe_int (fun _ _ => rfl)))) pe_int) pe_int))
      (pss_one (ps_ret (pe_op op_mod (pe_op op_fdiv (pv 3) pe_int) (pv 1))))))), ?_⟩
    have L : SqL K H b [.int g, .int x, .int k] := SqL.of eb
    refine ⟨_, rfl, b, _, 0, .int g, rfl, rfl, L, atI_nat (j := 0) rfl, g, 0, rfl, rfl, _, rfl, ite2 (fun e => ?_) (fun e => ?_)⟩
    · have hg := of_decide_eq_true e
      refine ⟨_, rfl, b, _, 0, .int g, rfl, rfl, L, atI_nat (j := 0) rfl, _, rfl, g, m, rfl, rfl, by show 0 < m; omega, ?_⟩
      refine ⟨_, rfl, b, _, 0, .int g, rfl, rfl, L, atI_nat (j := 0) rfl, _, rfl, g, m, rfl, rfl, ⟨by omega, by omega⟩, ?_⟩
      refine ⟨_, rfl, b, _, _, 0, rfl, rfl, eb, rfl, ?_⟩
      refine ⟨_, rfl, q _ _ (Int.emod_nonneg _ (by omega)) (Int.emod_lt_of_pos _ (by omega)) Keep.upd ⟨g / m, x, k, upd_same, Int.ediv_nonneg (by omega) (by omega), x0, x1, k0, by omega⟩⟩
    · refine ⟨_, rfl, b, _, 2, .int k, rfl, rfl, L, atI_nat (j := 2) rfl, k, 1, rfl, rfl, ?_⟩
      refine ⟨_, rfl, b, _, _, 2, rfl, rfl, eb, rfl, ?_⟩
      have L2 : SqL K (upd H b (.lst [.int g, .int x, .int (k + 1)])) b [.int g, .int x, .int (k + 1)] := SqL.of upd_same
      refine ⟨_, rfl, b, _, 1, .int x, rfl, rfl, L2, atI_nat (j := 1) rfl, _, rfl, b, _, 2, .int (k + 1), rfl, rfl, L2, atI_nat (j := 2) rfl, 6287, k + 1, rfl, rfl, .inl ⟨by decide, by decide⟩, x, _, rfl, rfl, _, 263, rfl, rfl, _, 5, rfl, rfl, ⟨by decide, by decide, by omega⟩, _, 2147483647, rfl, rfl, by show (0 : Int) < 2147483647; decide, ?_⟩
      have b0 := Int.emod_nonneg ((x + 6287 * (k + 1) + 263) ^ (5 : Int).toNat) (show (2147483647 : Int) ≠ 0 by decide)
      have b1 := Int.emod_lt_of_pos ((x + 6287 * (k + 1) + 263) ^ (5 : Int).toNat) (show (0 : Int) < 2147483647 by decide)
      generalize hy : (x + 6287 * (k + 1) + 263) ^ (5 : Int).toNat % 2147483647 = y at b0 b1
      refine ⟨_, rfl, _, rfl, b, _, 2, .int (k + 1), rfl, rfl, L2, atI_nat (j := 2) rfl, 104729, k + 1, rfl, rfl, .inl ⟨by decide, by decide⟩, y, _, by show V.int (_ % _) = _; rw [hy], rfl, _, 3, rfl, rfl, ⟨by decide, by decide, by omega⟩, _, 2147483587, rfl, rfl, by show (0 : Int) < 2147483587; decide, ?_⟩
      refine ⟨_, rfl, _, 16, rfl, rfl, ⟨by decide, by decide⟩, _, rfl, _, m, rfl, rfl, by show 0 < m; omega, ?_⟩
      exact q _ _ (Int.emod_nonneg _ (by omega)) (Int.emod_lt_of_pos _ (by omega)) Keep.upd ⟨g, x, k + 1, upd_same, g0, x0, x1, by omega, by omega⟩
end
end K56
set_option maxHeartbeats 4000000
namespace K56
open PySem PySem.Spec PyProof.Rows L2 RL RE RN RM TL RQ RC
abbrev tRol : Str := Str.ofString "role"
abbrev tTab : Str := Str.ofString "table"
abbrev tFun : Str := Str.ofString "function"
/-! ### audiences as data -/
theorem hu64 {A : Around} {k : Nat} (hr : Room k A) : A.units + 64 < cLine := by
  have := hr.un
  omega
def strsP (ys : List Str) : List PyData := ys.map PyData.str
theorem strs_all {K : PySem.W.Frag} {H : Hp} : ∀ ys : List Str, DpAll K H (ys.map V.str) (strsP ys)
  | [] => .nil
  | _ :: r => .cons (.str _) (strs_all r)
theorem txt_strOk {y : Str} (h : txt y) : PyData.strOk y = true := by
  unfold PyData.strOk
  rw [← Array.all_toList, List.all_eq_true]
  exact fun x hx => decide_eq_true (Nat.lt_trans (h.2 x hx) (by decide))
theorem strs_lay : ∀ ys : List Str, (∀ y ∈ ys, txt y) → PyData.canLayAll0 (strsP ys) = true
  | [], _ => rfl
  | y :: r, h => by
    show (PyData.canLay0 (.str y) && PyData.canLayAll0 (strsP r)) = true
    rw [strs_lay r fun x hx => h x (List.mem_cons_of_mem _ hx)]
    simp [PyData.canLay0, txt_strOk (h y (List.mem_cons_self ..))]
theorem strs_depth : ∀ ys : List Str, PyData.depthAll (strsP ys) = 0
  | [] => rfl
  | _ :: r => by
    show max (PyData.depth _) (PyData.depthAll (strsP r)) = 0
    rw [strs_depth r]; simp [PyData.depth]
theorem strs_shaped {ys : List Str} (h : ∀ y ∈ ys, txt y) : SeqAt.shaped (.list (strsP ys)) = true := by
  simp [SeqAt.shaped, PyData.canLay0, PyData.depth, strs_lay ys h, strs_depth]
theorem strs_eqvA : ∀ xs ys : List Str, PyData.eqvAll (strsP xs) (strsP ys) = decide (xs = ys)
  | [], [] => rfl
  | [], _ :: _ => rfl
  | _ :: _, [] => rfl
  | x :: xs, y :: ys => by
    have ih := strs_eqvA xs ys
    show (PyData.eqv (.str x) (.str y) && PyData.eqvAll (strsP xs) (strsP ys)) = _
    rw [ih, Bool.eq_iff_iff]
    simp [PyData.eqv]
theorem strs_eqv (xs ys : List Str) : PyData.eqv (.list (strsP xs)) (.list (strsP ys)) = decide (xs = ys) := strs_eqvA xs ys
/-- an audience at hand: the names in order, or none -/
def AuAt (H : Hp) (v : V) : Option (List Str) → Prop
  | none => v = .non
  | some zs => (∃ p, v = .ref p ∧ H p = some (.lst (zs.map V.str))) ∧ ∀ z ∈ zs, nameT z = true ∧ txt z
def auP : Option (List Str) → PyData
  | none => .none
  | some zs => .list (strsP zs)
theorem AuAt.dp {K : PySem.W.Frag} {H : Hp} {v : V} {au : Option (List Str)} (h : AuAt H v au) : Dp K H v (auP au) := by
  cases au with
  | none => rw [show v = V.non from h]; exact .non
  | some zs =>
    obtain ⟨⟨p, rfl, e⟩, _⟩ := h
    exact .lst (SqL.of e) (strs_all zs)
theorem AuAt.shaped {H : Hp} {v : V} {au : Option (List Str)} (h : AuAt H v au) : SeqAt.shaped (auP au) = true := by
  cases au with
  | none => decide +kernel
  | some zs => exact strs_shaped fun y hy => (h.2 y hy).2
theorem auP_eqv (x y : Option (List Str)) : PyData.eqv (auP x) (auP y) = decide (x = y) := by
  cases x with
  | none => cases y with
    | none => rfl
    | some zs => simp [auP, PyData.eqv]
  | some xs => cases y with
    | none => simp [auP, PyData.eqv]
    | some ys =>
      show PyData.eqv (.list (strsP xs)) (.list (strsP ys)) = _
      rw [strs_eqv, Bool.eq_iff_iff]
      simp
theorem AuAt.same {H H' : Hp} {v : V} {au : Option (List Str)} (h : AuAt H v au) (s : Ext H H') : AuAt H' v au := by
  cases au with
  | none => exact h
  | some zs =>
    obtain ⟨⟨p, rfl, e⟩, n⟩ := h
    exact ⟨⟨p, rfl, s _ _ e⟩, n⟩
/-- a thing: kind, name, owner, audience in order -/
structure Tm where
  kind : Str
  name : Str
  owner : Str
  au : Option (List Str)
  deriving DecidableEq
def HeadAt (C : Addr) (H : Hp) (a : Addr) (m : Tm) : Prop := ∃ dx fs v, H a = some (.ins C dx fs) ∧ fs.lookup (Str.ofString "kind") = some (.str m.kind) ∧ fs.lookup (Str.ofString "name") = some (.str m.name) ∧ fs.lookup (Str.ofString "owner") = some (.str m.owner) ∧ fs.lookup (Str.ofString "_audience") = some v ∧ AuAt H v m.au
theorem HeadAt.same {C : Addr} {H H' : Hp} {a : Addr} {m : Tm} (h : HeadAt C H a m) (s : Ext H H') : HeadAt C H' a m := by
  obtain ⟨dx, fs, v, e, f1, f2, f3, f4, g⟩ := h
  exact ⟨dx, fs, v, s _ _ e, f1, f2, f3, f4, g.same s⟩
theorem decS (x y : Str) : decide (V.str x = V.str y) = decide (x = y) := by
  rw [Bool.eq_iff_iff]
  simp
section
variable {P : Program} {w : World} {K : PySem.W.Frag} {mg : Str → Option Value} {base : Heap} {f : Addr} {fd : FuncData}
def spHead (K : PySem.W.Frag) : Sp := fun vs H Q _ => ∃ (a b C C' : Addr) (m m' : Tm), vs = [.ref a, .ref b] ∧ TF K C ∧ TF K C' ∧ HeadAt C H a m ∧ HeadAt C' H b m' ∧ Q (.bl (decide (m = m'))) H
theorem ok_head (F : Fun K "same_head" "Thing.same_head" s_Thing_same_head f fd) : FnOk P w K mg base CX0 2 f fd ["self", "other"] (spHead K) := by
  refine F.ok sc_Thing_same_head (fun vs H Q E h => by obtain ⟨a, b, C, C', m, m', rfl, _⟩ := h; rfl) (fun cdv A outer s H vs Q E hr h => ?_)
  obtain ⟨a, b, C, C', ⟨k, n, o, u⟩, ⟨k', n', o', u'⟩, rfl, T, T', ⟨dx, fs, v, ea, f1, f2, f3, f4, f5⟩, ⟨dy, gs, v', eb, g1, g2, g3, g4, g5⟩, q⟩ := h
  refine ⟨_, PSs.nox (pss_one (ps_ret (pe_and (pe_cmpR op_eq (pe_fld (pv 0) rfl) (pe_fld (pv 1) rfl) (by rfl)) (pe_and (pe_cmpR op_eq (pe_fld (pv 0) rfl) (pe_fld (pv 1) rfl) (by rfl)) (pe_and (pe_cmpR op_eq (pe_fld (pv 0) rfl) (pe_fld (pv 1) rfl) (by rfl)) (pe_one (pe_cmpR (op_eqD (hu64 hr)) (pe_fld (pv 0) rfl) (pe_fld (pv 1) rfl) (by rfl)))))))), ?_⟩
  have em : decide ((⟨k, n, o, u⟩ : Tm) = ⟨k', n', o', u'⟩) = (decide (k = k') && (decide (n = n') && (decide (o = o') && decide (u = u')))) := by
    rw [Bool.eq_iff_iff]
    simp
  rw [em] at q
  refine ⟨_, rfl, a, C, dx, fs, _, rfl, ea, T.cl, T.n1, f1, _, rfl, b, C', dy, gs, _, rfl, eb, T'.cl, T'.n1, g1, rfl, _, rfl, ?_⟩
  rw [decS]
  cases h1 : decide (k = k') with
  | false => rw [h1] at q; exact iteF q
  | true =>
    rw [h1] at q
    refine iteT ⟨_, rfl, a, C, dx, fs, _, rfl, ea, T.cl, T.n2, f2, _, rfl, b, C', dy, gs, _, rfl, eb, T'.cl, T'.n2, g2, rfl, _, rfl, ?_⟩
    rw [decS]
    cases h2 : decide (n = n') with
    | false => rw [h2] at q; exact iteF q
    | true =>
      rw [h2] at q
      refine iteT ⟨_, rfl, a, C, dx, fs, _, rfl, ea, T.cl, T.n3, f3, _, rfl, b, C', dy, gs, _, rfl, eb, T'.cl, T'.n3, g3, rfl, _, rfl, ?_⟩
      rw [decS]
      cases h3 : decide (o = o') with
      | false => rw [h3] at q; exact iteF q
      | true =>
        rw [h3] at q
        refine iteT ⟨_, rfl, a, C, dx, fs, _, rfl, ea, T.cl, T.n4, f4, _, rfl, b, C', dy, gs, _, rfl, eb, T'.cl, T'.n4, g4, auP u, auP u', f5.dp, g5.dp, f5.shaped, g5.shaped, ?_⟩
        rw [auP_eqv]
        exact q
/-- the audience, new each time -/
def spAud (K : PySem.W.Frag) : Sp := fun vs H Q _ => ∃ (a C : Addr) (m : Tm), vs = [.ref a] ∧ TF K C ∧ HeadAt C H a m ∧ (m.au = none → Q .non H) ∧ ∀ zs, m.au = some zs → ∀ p, H p = none → Q (.ref p) (upd H p (.lst (zs.map V.str)))
theorem ok_audience (F : Fun K "audience" "Thing.audience" s_Thing_audience f fd) (mli : mg "list" = none) : FnOk P w K mg base CX0 1 f fd ["self"] (spAud K) := by
  refine F.ok sc_Thing_audience (fun vs H Q E h => by obtain ⟨a, C, m, rfl, _⟩ := h; rfl) (fun cdv A outer s H vs Q E hr h => ?_)
  obtain ⟨a, C, ⟨k, n, o, u⟩, rfl, T, ⟨dx, fs, v, ea, f1, f2, f3, f4, f5⟩, q1, q2⟩ := h
  refine ⟨_, PSs.nox (pss_cons (ps_if (pt_cmpR op_isN (pe_fld (pv 0) rfl) pe_non (by rfl)) (pss_one (ps_ret pe_non)) pss_nil)
    (pss_one (ps_ret (pe_callTy call_list_of (by rfl) mli (by decide +kernel) (pa_cons (pe_fld (pv 0) rfl) pa_nil))))), ?_⟩
  refine ⟨_, rfl, a, C, dx, fs, _, rfl, ea, T.cl, T.n4, f4, rfl, _, rfl, ?_⟩
  cases u with
  | none =>
    rw [show v = V.non from f5]
    exact iteT (q1 rfl)
  | some zs =>
    obtain ⟨⟨p, rfl, ep⟩, _⟩ := f5
    exact iteF ⟨_, rfl, a, C, dx, fs, _, rfl, ea, T.cl, T.n4, f4, p, _, rfl, .inl (SqL.of ep), fun l hl => q2 zs rfl l hl⟩
end
end K56
set_option maxHeartbeats 4000000
namespace K56
open PySem PySem.Spec PyProof.Rows L2 RL RE RN RM TL RQ RC
/-! ### things made -/
/-- an audience before and behind the ordering -/
def SrtO : Option (List Str) → Option (List Str) → Prop
  | none, none => True
  | some ys, some zs => Srt ys zs
  | _, _ => False
/-- an audience as it is handed in -/
def Given (K : PySem.W.Frag) (H : Hp) (a : Addr) (x : V) : Option (List Str) → Prop
  | none => x = .non
  | some ys => Aud ys ∧ ∃ b, x = .ref b ∧ ((∀ H', But a H H' → SqL K H' b (ys.map V.str)) ∨ (∀ H', But a H H' → SqT K H' b (ys.map V.str)))
/-- a heap behind a making -/
structure Made (H H' : Hp) (a C dx : Addr) (kd nm ow : Str) (v : V) (au : Option (List Str)) (fs : List (Str × V)) : Prop where
  but : But a H H'
  fresh : ∀ p, v = .ref p → H p = none
  at_ : H' a = some (.ins C dx (headT kd nm ow v ++ fs))
  aud : AuAt H' v au
theorem Made.head {H H' : Hp} {a C dx : Addr} {kd nm ow : Str} {v : V} {au : Option (List Str)} {fs : List (Str × V)} (m : Made H H' a C dx kd nm ow v au fs) : HeadAt C H' a ⟨kd, nm, ow, au⟩ :=
  ⟨dx, _, v, m.at_, rfl, rfl, rfl, rfl, m.aud⟩
theorem aud_names {ys zs : List Str} (h : Aud ys) (s : Srt ys zs) : ∀ z ∈ zs, nameT z = true ∧ txt z := fun z hz => h.2.2 z (s.1.mem_iff.mp hz)
/-- what Thing.__init__ promises, in one -/
theorem thing_or {K : PySem.W.Frag} {H : Hp} {a C dx : Addr} {kd nm ow : Str} {x : V} {au : Option (List Str)} {R : Hp → Prop} (g : Given K H a x au)
    (q : ∀ H' v au', SrtO au au' → Made H H' a C dx kd nm ow v au' [] → R H') :
    ((x = .non ∧ R (upd H a (.ins C dx (headT kd nm ow .non)))) ∨
     (∃ (b : Addr) (ys : List Str), x = .ref b ∧ ((∀ H', But a H H' → SqL K H' b (ys.map V.str)) ∨ (∀ H', But a H H' → SqT K H' b (ys.map V.str))) ∧ Aud ys ∧
       ∀ H' p zs, Srt ys zs → H p = none → But a H H' → H' a = some (.ins C dx (headT kd nm ow (.ref p))) → H' p = some (.lst (zs.map V.str)) → R H')) := by
  cases au with
  | none =>
    rw [show x = V.non from g]
    exact .inl ⟨rfl, q (upd H a (.ins C dx (headT kd nm ow .non))) .non none trivial ⟨(fun u o n e => (upd_ne n).trans e), (fun p e => nomatch e), upd_same, rfl⟩⟩
  | some ys =>
    obtain ⟨hA, b, rfl, hS⟩ := g
    exact .inr ⟨b, ys, rfl, hS, hA, fun H' p zs s np bt e ep => q H' (.ref p) (some zs) s ⟨bt, (fun p' e' => by cases e'; exact np), (by rw [e]; rfl), ⟨⟨p, rfl, ep⟩, aud_names hA s⟩⟩⟩
section
variable {P : Program} {w : World} {K : PySem.W.Frag} {mg : Str → Option Value} {base : Heap} {f : Addr} {fd : FuncData}
def spMk (K : PySem.W.Frag) (C : Addr) (kd : Str) : Sp := fun vs H Q _ => ∃ (a dx : Addr) (nm ow : Str) (x : V) (au : Option (List Str)), vs = [.ref a, .str nm, .str ow, x] ∧ H a = some (.ins C dx []) ∧ txt nm ∧ nameT nm = true ∧ txt ow ∧ nameT ow = true ∧ Given K H a x au ∧
  ∀ H' v au', SrtO au au' → Made H H' a C dx kd nm ow v au' [] → Q .non H'
abbrev psT : List Str := ["self", "kind", "name", "owner", "audience"]
theorem ok_Role {C CT gT : Addr} {fdT : FuncData} {mc : Value} {dvs : List V} {kws : List (Str × V)} (F : FunD K "__init__" "Role.__init__" (defArgs s_Role_init) (defBody s_Role_init) (defScope s_Role_init) dvs kws f fd) (B : CDef K mg "Thing" CT mc "__init__" gT) (FT : FnOk P w K mg base CX0 3 gT fdT psT (spThing K)) (bT : Binds K fdT psT []) (T : TF K C) :
    FnOk P w K mg base CX0 4 f fd ["self", "name", "owner", "audience"] (spMk K C tRol) := by
  refine F.ok sc_Role_init (fun vs H Q E h => by obtain ⟨a, dx, nm, ow, x, au, rfl, _⟩ := h; rfl) (fun cdv A outer s H vs Q E hr h => ?_)
  obtain ⟨a, dx, nm, ow, x, au, rfl, ea, t1, n1, t2, n2, g, q⟩ := h
  refine ⟨_, PSs.nox (pss_one (ps_expr (pe_ccall B FT hr bT .nil pass0 (by rfl) (pa_cons (pv 0) (pa_cons pe_str (pa_cons (pv 1) (pa_cons (pv 2) (pa_cons (pv 3) pa_nil)))))))), ?_⟩
  exact ⟨_, rfl, _, rfl, _, rfl, _, rfl, a, C, dx, _, nm, ow, x, rfl, T, ea, t1, n1, t2, n2, thing_or g q⟩
theorem ok_Table {C CT gT : Addr} {fdT : FuncData} {mc : Value} {dvs : List V} {kws : List (Str × V)} (F : FunD K "__init__" "Table.__init__" (defArgs s_Table_init) (defBody s_Table_init) (defScope s_Table_init) dvs kws f fd) (B : CDef K mg "Thing" CT mc "__init__" gT) (FT : FnOk P w K mg base CX0 3 gT fdT psT (spThing K)) (bT : Binds K fdT psT []) (T : TF K C) :
    FnOk P w K mg base CX0 4 f fd ["self", "name", "owner", "audience"] (spMk K C tTab) := by
  refine F.ok sc_Table_init (fun vs H Q E h => by obtain ⟨a, dx, nm, ow, x, au, rfl, _⟩ := h; rfl) (fun cdv A outer s H vs Q E hr h => ?_)
  obtain ⟨a, dx, nm, ow, x, au, rfl, ea, t1, n1, t2, n2, g, q⟩ := h
  refine ⟨_, PSs.nox (pss_one (ps_expr (pe_ccall B FT hr bT .nil pass0 (by rfl) (pa_cons (pv 0) (pa_cons pe_str (pa_cons (pv 1) (pa_cons (pv 2) (pa_cons (pv 3) pa_nil)))))))), ?_⟩
  exact ⟨_, rfl, _, rfl, _, rfl, _, rfl, a, C, dx, _, nm, ow, x, rfl, T, ea, t1, n1, t2, n2, thing_or g q⟩
structure FF (K : PySem.W.Frag) (C : Addr) : Prop where
  t : TF K C
  n5 : NoAttr K C "mode"
  n6 : NoAttr K C "_body"
abbrev tOwn : Str := Str.ofString "owner"
end
end K56
set_option maxHeartbeats 4000000
namespace K56
open PySem PySem.Spec PyProof.Rows L2 RL RE RN RM TL RQ RC
def isMd (md : Str) : Prop := md = tOwn ∨ md = Str.ofString "caller"
section
variable {P : Program} {w : World} {K : PySem.W.Frag} {mg : Str → Option Value} {base : Heap} {f : Addr} {fd : FuncData}
def spMkF (K : PySem.W.Frag) (c : Cs) (C : Addr) : Sp := fun vs H Q _ => ∃ (a dx b : Addr) (nm ow md : Str) (x : V) (au : Option (List Str)) (xs : List V) (ds : List Dm), vs = [.ref a, .str nm, .str ow, x, .str md, .ref b] ∧ H a = some (.ins C dx []) ∧ txt nm ∧ nameT nm = true ∧ txt ow ∧ nameT ow = true ∧ Given K H a x au ∧ isMd md ∧ (∀ H', But a H H' → Sq K H' b xs) ∧ Deeds c H xs ds ∧ ds.length ≤ 4 ∧
  ∀ H' v au' p, SrtO au au' → H p = none → Made H H' a C dx tFun nm ow v au' [("mode", .str md), ("_body", .ref p)] → H' p = some (.lst xs) → Deeds c H' xs ds → Q .non H'
theorem ok_Function {c : Cs} {C CT gT aM : Addr} {fdT : FuncData} {mc : Value} {dvs : List V} {kws : List (Str × V)} (F : FunD K "__init__" "Function.__init__" (defArgs s_Function_init) (defBody s_Function_init) (defScope s_Function_init) dvs kws f fd) (B : CDef K mg "Thing" CT mc "__init__" gT) (FT : FnOk P w K mg base CX0 3 gT fdT psT (spThing K)) (bT : Binds K fdT psT [])
    (L : Df P w K mg base CX0 2 "is_body" ["value"] (spBody K c)) (T : FF K C) (gM : mg "MODES" = some (.ref aM)) (hM : KTup K aM [tOwn, Str.ofString "caller"]) (mli : mg "list" = none) :
    FnOk P w K mg base CX0 4 f fd ["self", "name", "owner", "audience", "mode", "body"] (spMkF K c C) := by
  refine F.ok sc_Function_init (fun vs H Q E h => by obtain ⟨a, dx, b, nm, ow, md, x, au, xs, ds, rfl, _⟩ := h; rfl) (fun cdv A outer s H vs Q E hr h => ?_)
  obtain ⟨a, dx, b, nm, ow, md, x, au, xs, ds, rfl, ea, t1, n1, t2, n2, g, hm, hS, hD, hl, q⟩ := h
  refine ⟨_, PSs.nox (pss_cons (ps_expr (pe_ccall B FT hr bT .nil pass0 (by rfl) (pa_cons (pv 0) (pa_cons pe_str (pa_cons (pv 1) (pa_cons (pv 2) (pa_cons (pv 3) pa_nil)))))))
    (pss_cons (ps_if (pt_cmpR op_notIn_seq (pv 4) (pe_glob (v := .ref aM) (by rfl) gM rfl) (by rfl)) (pss_one ps_never) pss_nil)
    (pss_cons (ps_if (pt_not (pt_val (pe_df0 L (hr.mono (by decide)) (by rfl) (pa_cons (pv 5) pa_nil)))) (pss_one ps_never) pss_nil)
    (pss_cons (ps_fld (pv 0) (pv 4) rfl) (pss_one (ps_fld (pv 0) (pe_callTy call_list_of (by rfl) mli (by decide +kernel) (pa_cons (pv 5) pa_nil)) rfl)))))), ?_⟩
  refine ⟨_, rfl, _, rfl, _, rfl, _, rfl, a, C, dx, _, nm, ow, x, rfl, T.t, ea, t1, n1, t2, n2, thing_or g fun H1 v au' so m => ?_⟩
  refine ⟨_, rfl, aM, _, rfl, .inr hM.sq, rfl, rfl, _, rfl, ?_⟩
  have e0 : (if true = true then !inV (.str md) [.str tOwn, .str (Str.ofString "caller")] else inV (.str md) [.str tOwn, .str (Str.ofString "caller")]) = false := by
    rw [if_pos rfl, inV2]
    rcases hm with e | e <;> rw [e] <;> decide +kernel
  show if (if true = true then !inV (.str md) [.str tOwn, .str (Str.ofString "caller")] else inV (.str md) [.str tOwn, .str (Str.ofString "caller")]) = true then _ else _
  rw [e0]
  refine iteF ?_
  have nda : ∀ {u : Addr} {d : Dm}, DeedAt c H u d → u ≠ a := fun {u d} h z => by
    obtain ⟨dy, e⟩ := h
    rw [z, ea] at e
    have e2 := Option.some.inj e
    cases d <;> cases e2
  have d1 : ∀ {H' : Hp}, But a H H' → Deeds c H' xs ds := fun k => ⟨hD.1, fun i x d g1 g2 => by
    obtain ⟨u, rfl, h⟩ := hD.2 i x d g1 g2
    have n := nda h
    obtain ⟨dy, e⟩ := h
    exact ⟨u, rfl, dy, k _ _ n e⟩⟩
  refine ⟨_, rfl, b, xs, ds, rfl, hS _ m.but, d1 m.but, hl, fun H2 x2 => ⟨_, rfl, ?_⟩⟩
  refine iteF ?_
  have ea2 : H2 a = some (.ins C dx (headT tFun nm ow v ++ [])) := x2 _ _ m.at_
  have k2 : But a H H2 := fun u o n e => x2 _ _ (m.but u o n e)
  refine ⟨_, rfl, _, rfl, a, C, dx, _, rfl, ea2, T.t.cl, T.n5, by show 4 < 1000; decide, ?_⟩
  have k3 : ∀ {w : HO}, But a H (upd H2 a w) := fun u o n e => by rw [upd_ne n]; exact k2 u o n e
  refine ⟨_, rfl, b, xs, rfl, hS _ k3, fun p np => ?_⟩
  have npa : p ≠ a := fun z => by rw [z, upd_same] at np; cases np
  have nH2p : H2 p = none := by rw [upd_ne npa] at np; exact np
  have nHp : H p = none := by
    cases e : H p with
    | none => rfl
    | some o => rw [k2 p o npa e] at nH2p; cases nH2p
  refine ⟨_, rfl, a, C, dx, _, rfl, by rw [upd_ne (Ne.symm npa)]; exact upd_same, T.t.cl, T.n6, by show 5 < 1000; decide, ?_⟩
  have k4 : ∀ {w1 w2 w3 : HO}, But a H2 (upd (upd (upd H2 a w1) p w2) a w3) := fun u o n e => by
    rw [upd_ne n, upd_ne (fun z => by rw [z, nH2p] at e; cases e), upd_ne n]
    exact e
  refine q _ v au' p so nHp ⟨(fun u o n e => k4 u o n (k2 u o n e)), m.fresh, ?_, ?_⟩ ?_ (d1 fun u o n e => k4 u o n (k2 u o n e))
  · rw [upd_same]; rfl
  · have h2 := m.aud.same x2
    cases au' with
    | none => exact h2
    | some zs =>
      obtain ⟨⟨p', rfl, e'⟩, ns⟩ := h2
      refine ⟨⟨p', rfl, k4 p' _ (fun z => ?_) e'⟩, ns⟩
      rw [z, ea2] at e'
      cases e'
  · rw [upd_ne npa, upd_same]
end
end K56
set_option maxHeartbeats 4000000
namespace K56
open PySem PySem.Spec PyProof.Rows L2 RL RE RN RM TL RQ RC
/-! ### words and texts -/
abbrev tSp : Str := Str.ofString " "
abbrev tCo : Str := Str.ofString ":"
abbrev tSe : Str := Str.ofString ";"
abbrev tSSS : Str := Str.ofString " ; "
abbrev tAu : Str := Str.ofString "audience"
abbrev tGiv : Str := Str.ofString "give"
abbrev tCll : Str := Str.ofString "call"
abbrev tOpt : Str := Str.ofString "option"
/-- a word: no space, no line feed, not empty, short -/
structure wOk (w : Str) : Prop where
  ne : tl w ≠ []
  ok : ∀ c ∈ tl w, c ≠ 32 ∧ c ≠ 10 ∧ c < 256
  len : w.length ≤ 8
def txtW (ws : List Str) : Str := Txt.join tSp ws
theorem joinL_app (S : List Nat) : ∀ (xs ys : List (List Nat)), xs ≠ [] → ys ≠ [] → joinL S (xs ++ ys) = joinL S xs ++ (S ++ joinL S ys)
  | [], _, h, _ => absurd rfl h
  | [x], y :: r, _, _ => rfl
  | [_], [], _, h => absurd rfl h
  | x :: x' :: r, ys, _, h => by
    show x ++ (S ++ joinL S ((x' :: r) ++ ys)) = (x ++ (S ++ joinL S (x' :: r))) ++ (S ++ joinL S ys)
    rw [joinL_app S (x' :: r) ys (by simp) h]
    simp [List.append_assoc]
theorem tl_txtW (ws : List Str) : tl (txtW ws) = joinL [32] (ws.map tl) := by
  unfold txtW
  rw [join_eq, tl_join]
  rfl
theorem split_txtW {ws : List Str} (h : ws ≠ []) (ok : ∀ w ∈ ws, 32 ∉ tl w) : Txt.split (txtW ws) tSp = ws :=
  split_join (s := 32) (S := []) rfl (by decide +kernel) h ok
/-- pieces between " ; " -/
theorem pre3 {p r : List Nat} (h : 59 ∉ p) {i : Nat} (hi : i < p.length) : pre [32, 59, 32] ((p ++ ([32, 59, 32] ++ r)).drop i) = false := by
  have e : ((p ++ ([32, 59, 32] ++ r)).drop i)[1]? ≠ some 59 := by
    rw [List.getElem?_drop]
    by_cases hj : i + 1 < p.length
    · rw [List.getElem?_append_left hj]
      intro z
      exact h (List.mem_of_getElem? z)
    · have e1 : i + 1 = p.length := by omega
      rw [List.getElem?_append_right (by omega), e1, Nat.sub_self]
      simp
  generalize (p ++ ([32, 59, 32] ++ r)).drop i = l at e
  cases hp : pre [32, 59, 32] l with
  | false => rfl
  | true =>
    exfalso
    have hp : l.take 3 = [32, 59, 32] := by
      unfold pre at hp
      simpa using hp
    have e2 : (l.take 3)[1]? = some 59 := by rw [hp]; rfl
    rw [List.getElem?_take] at e2
    simp at e2
    exact e e2
theorem pre3_last {p : List Nat} (h : 59 ∉ p) {i : Nat} (hi : i < p.length) : pre [32, 59, 32] (p.drop i) = false := by
  cases hp : pre [32, 59, 32] (p.drop i) with
  | false => rfl
  | true =>
    exfalso
    have hp : (p.drop i).take 3 = [32, 59, 32] := by
      unfold pre at hp
      simpa using hp
    have hm : 59 ∈ (p.drop i).take 3 := by rw [hp]; simp
    exact h (List.mem_of_mem_drop (List.mem_of_mem_take hm))
theorem spl3 : ∀ {parts : List (List Nat)}, parts ≠ [] → (∀ p ∈ parts, 59 ∉ p) → spl [32, 59, 32] 0 [] (joinL [32, 59, 32] parts) = parts
  | [], h, _ => absurd rfl h
  | [p], _, hp => by
    show spl [32, 59, 32] 0 [] p = [p]
    rw [spl_last fun i hi => pre3_last (hp p (List.mem_singleton.mpr rfl)) hi, List.nil_append]
  | p :: q :: r, _, hp => by
    show spl [32, 59, 32] 0 [] (p ++ ([32, 59, 32] ++ joinL [32, 59, 32] (q :: r))) = p :: q :: r
    rw [spl_part (by simp) (fun i hi => pre3 (hp p (List.mem_cons_self ..)) hi), List.nil_append, spl3 (by simp) fun z hz => hp z (List.mem_cons_of_mem _ hz)]
theorem split_SSS {parts : List Str} (h : parts ≠ []) (ok : ∀ p ∈ parts, 59 ∉ tl p) : Txt.split (Txt.join tSSS parts) tSSS = parts := by
  refine map_tl_inj ?_
  rw [split_spl _ tSSS (by decide +kernel) (kind_ok (by decide +kernel)), join_eq, tl_join]
  have e : tl tSSS = [32, 59, 32] := by decide +kernel
  rw [e]
  refine spl3 (by simpa using h) fun p hp => ?_
  obtain ⟨z, hz, rfl⟩ := List.mem_map.mp hp
  exact ok z hz
/-! ### the words of a body, of a thing -/
def moreW : List Dm → List Str
  | [] => []
  | d :: ds => tSe :: (wordsD d ++ moreW ds)
def bodyW : List Dm → List Str
  | [] => []
  | d :: ds => tCo :: (wordsD d ++ moreW ds)
/-- a thing -/
structure Th where
  kind : Str
  name : Str
  owner : Str
  au : Option (List Str)
  mode : Str
  body : List Dm
  deriving DecidableEq
def auW : Option (List Str) → List Str
  | none => []
  | some zs => tAu :: zs
def headW (t : Th) : List Str := [t.kind, t.name, t.owner] ++ ((if t.kind = tFun then [t.mode] else []) ++ auW t.au)
def thW (t : Th) : List Str := headW t ++ bodyW t.body
/-- the text of a body, as it is made: the texts between " ; " -/
theorem more_join : ∀ (ds : List Dm) (d : Dm), joinL [32] ((wordsD d ++ moreW ds).map tl) = joinL [32, 59, 32] ((d :: ds).map fun d => tl (strD d))
  | [], d => by
    show joinL [32] ((wordsD d ++ []).map tl) = tl (strD d)
    rw [List.append_nil]
    exact (tl_txtW (wordsD d)).symm
  | d2 :: ds, d => by
    have ih := more_join ds d2
    have e1 : (wordsD d ++ moreW (d2 :: ds)).map tl = (wordsD d).map tl ++ ([59] :: (wordsD d2 ++ moreW ds).map tl) := by
      show (wordsD d ++ tSe :: (wordsD d2 ++ moreW ds)).map tl = _
      rw [List.map_append, List.map_cons]
      rfl
    have ne1 : (wordsD d).map tl ≠ [] := by cases d <;> simp [wordsD]
    have ne2 : (wordsD d2 ++ moreW ds).map tl ≠ [] := by cases d2 <;> simp [wordsD]
    rw [e1, joinL_app _ _ _ ne1 (by simp)]
    have e2 : joinL [32] ([59] :: (wordsD d2 ++ moreW ds).map tl) = [59] ++ ([32] ++ joinL [32] ((wordsD d2 ++ moreW ds).map tl)) := by
      cases h : (wordsD d2 ++ moreW ds).map tl with
      | nil => exact absurd h ne2
      | cons y r => rfl
    rw [e2, ih]
    show _ = tl (strD d) ++ ([32, 59, 32] ++ joinL [32, 59, 32] (tl (strD d2) :: ds.map fun d => tl (strD d)))
    rw [show tl (strD d) = joinL [32] ((wordsD d).map tl) from tl_txtW (wordsD d)]
    simp [List.append_assoc]
theorem txt_body {hd : List Str} (h : hd ≠ []) (d : Dm) (ds : List Dm) : Txt.join tSp (hd ++ [tCo, Txt.join tSSS ((d :: ds).map strD)]) = txtW (hd ++ bodyW (d :: ds)) := by
  refine TL.ext_tl ?_
  rw [tl_txtW]
  show tl (txtW _) = _
  rw [tl_txtW]
  have ne1 : hd.map tl ≠ [] := by simpa using h
  have ne2 : (wordsD d ++ moreW ds).map tl ≠ [] := by cases d <;> simp [wordsD]
  rw [List.map_append, List.map_append, joinL_app _ _ _ ne1 (by simp), joinL_app _ _ _ ne1 (by simp [bodyW])]
  congr 2
  show joinL [32] [[58], tl (Txt.join tSSS ((d :: ds).map strD))] = joinL [32] ([58] :: (wordsD d ++ moreW ds).map tl)
  have e2 : joinL [32] ([58] :: (wordsD d ++ moreW ds).map tl) = [58] ++ ([32] ++ joinL [32] ((wordsD d ++ moreW ds).map tl)) := by
    cases h : (wordsD d ++ moreW ds).map tl with
    | nil => exact absurd h ne2
    | cons y r => rfl
  rw [e2, more_join, join_eq, tl_join]
  show [58] ++ ([32] ++ joinL (tl tSSS) (((d :: ds).map strD).map tl)) = _
  rw [show tl tSSS = [32, 59, 32] by decide +kernel, List.map_map]
  rfl
end K56
set_option maxHeartbeats 4000000
namespace K56
open PySem PySem.Spec PyProof.Rows L2 RL RE RN RM TL RQ RC
/-! ### good things -/
structure Ks where
  rol : Addr
  tab : Addr
  fn : Addr
def clsK (k : Ks) (x : Str) : Addr := if x = tRol then k.rol else if x = tTab then k.tab else k.fn
def isKd (k : Str) : Prop := k = tRol ∨ k = tTab ∨ k = tFun
theorem tab_ne : ¬ tTab = tRol := by decide +kernel
theorem fun_ne : ¬ tFun = tRol := by decide +kernel
theorem fun_ne2 : ¬ tFun = tTab := by decide +kernel
theorem cls_rol (k : Ks) : clsK k tRol = k.rol := if_pos rfl
theorem cls_tab (k : Ks) : clsK k tTab = k.tab := by unfold clsK; rw [if_neg tab_ne, if_pos rfl]
theorem cls_fun (k : Ks) : clsK k tFun = k.fn := by unfold clsK; rw [if_neg fun_ne, if_neg fun_ne2]
abbrev tNul : Str := Str.ofString ""
structure okT (t : Th) : Prop where
  kd : isKd t.kind
  n1 : nameT t.name = true ∧ txt t.name
  n2 : nameT t.owner = true ∧ txt t.owner
  au : ∀ zs, t.au = some zs → Aud zs ∧ sortedS zs = true
  fn : t.kind = tFun → isMd t.mode ∧ t.body.length ≤ 4 ∧ ∀ d ∈ t.body, okD d
  no : t.kind ≠ tFun → t.mode = tNul ∧ t.body = []
theorem name_w {z : Str} (h : nameT z = true) : wOk z := by
  unfold nameT at h
  simp only [Bool.and_eq_true, decide_eq_true_eq] at h
  obtain ⟨⟨⟨⟨h1, h8⟩, hl⟩, _⟩, _⟩ := h
  refine ⟨fun e => ?_, fun c hc => ?_, h8⟩
  · rw [len_tl, e] at h1
    exact absurd h1 (by decide)
  · have := List.all_eq_true.mp hl c hc
    unfold lowC at this
    simp only [Bool.and_eq_true, decide_eq_true_eq] at this
    omega
theorem w_dec {z : Str} (h : (decide (tl z ≠ []) && (tl z).all (fun c => decide (c ≠ 32) && decide (c ≠ 10) && decide (c < 256)) && decide (z.length ≤ 8)) = true) : wOk z := by
  simp only [Bool.and_eq_true, decide_eq_true_eq] at h
  exact ⟨h.1.1, fun c hc => by
    have := List.all_eq_true.mp h.1.2 c hc
    simp only [Bool.and_eq_true, decide_eq_true_eq] at this
    exact ⟨this.1.1, this.1.2, this.2⟩, h.2⟩
theorem kd_w {k : Str} (h : isKd k) : wOk k := by
  rcases h with rfl | rfl | rfl <;> exact w_dec (by decide +kernel)
theorem md_w {k : Str} (h : isMd k) : wOk k := by
  rcases h with rfl | rfl <;> exact w_dec (by decide +kernel)
theorem right_w {w : Str} (h : (kindT w).isSome = true) : wOk w := by
  unfold kindT at h
  by_cases g1 : w = Str.ofString "inherit"
  · subst g1; exact w_dec (by decide +kernel)
  rw [if_neg g1] at h
  by_cases g2 : w = Str.ofString "act"
  · subst g2; exact w_dec (by decide +kernel)
  rw [if_neg g2] at h
  by_cases g3 : w = Str.ofString "read"
  · subst g3; exact w_dec (by decide +kernel)
  rw [if_neg g3] at h
  by_cases g4 : w = Str.ofString "write"
  · subst g4; exact w_dec (by decide +kernel)
  rw [if_neg g4] at h
  by_cases g5 : w = Str.ofString "call"
  · subst g5; exact w_dec (by decide +kernel)
  rw [if_neg g5] at h
  cases h
theorem isT_eq {a b : Str} (h : isT a (.str b) = true) : b = a := by
  unfold isT at h
  simpa using h
theorem taker_w {k : Str} (h : isT tCal (.str k) = true ∨ isTaker (.str k) = true) : wOk k := by
  rcases h with h | h
  · rw [isT_eq h]; exact w_dec (by decide +kernel)
  · have h : (nameT k || isT tPub (.str k)) = true := h
    rcases Bool.or_eq_true_iff.mp h with h | h
    · exact name_w h
    · rw [isT_eq h]; exact w_dec (by decide +kernel)
theorem deed_w {d : Dm} (h : okD d) : ∀ w ∈ wordsD d, wOk w := by
  cases d with
  | call n =>
    intro w hw
    have hw : w ∈ [tCll, n] := hw
    simp only [List.mem_cons, List.not_mem_nil, or_false] at hw
    rcases hw with rfl | rfl
    · exact w_dec (by decide +kernel)
    · exact name_w h.2
  | give r t k o =>
    obtain ⟨_, _, _, h4, h5, h6, _⟩ := h
    intro w hw
    have hw : w ∈ [tGiv, r, t, k] ++ (if o = true then [tOpt] else []) := hw
    rcases List.mem_append.mp hw with hw | hw
    · simp only [List.mem_cons, List.not_mem_nil, or_false] at hw
      rcases hw with rfl | rfl | rfl | rfl
      · exact w_dec (by decide +kernel)
      · exact right_w h4
      · exact name_w h5
      · exact taker_w h6
    · split at hw
      · rw [List.mem_singleton.mp hw]; exact w_dec (by decide +kernel)
      · cases hw
theorem more_w : ∀ {ds : List Dm}, (∀ d ∈ ds, okD d) → ∀ w ∈ moreW ds, wOk w
  | [], _, w, h => nomatch h
  | d :: ds, ok, w, h => by
    rcases List.mem_cons.mp h with rfl | h
    · exact w_dec (by decide +kernel)
    · rcases List.mem_append.mp h with h | h
      · exact deed_w (ok d (List.mem_cons_self ..)) w h
      · exact more_w (fun z hz => ok z (List.mem_cons_of_mem _ hz)) w h
theorem body_w {ds : List Dm} (ok : ∀ d ∈ ds, okD d) : ∀ w ∈ bodyW ds, wOk w := by
  cases ds with
  | nil => exact fun w h => nomatch h
  | cons d ds =>
    intro w h
    rcases List.mem_cons.mp h with rfl | h
    · exact w_dec (by decide +kernel)
    · rcases List.mem_append.mp h with h | h
      · exact deed_w (ok d (List.mem_cons_self ..)) w h
      · exact more_w (fun z hz => ok z (List.mem_cons_of_mem _ hz)) w h
theorem au_w {u : Option (List Str)} (h : ∀ zs, u = some zs → Aud zs ∧ sortedS zs = true) : ∀ w ∈ auW u, wOk w := by
  cases u with
  | none => exact fun w h => nomatch h
  | some zs =>
    intro w hw
    rcases List.mem_cons.mp hw with rfl | hw
    · exact w_dec (by decide +kernel)
    · exact name_w ((h zs rfl).1.2.2 w hw).1
theorem okT.okb {t : Th} (h : okT t) : ∀ d ∈ t.body, okD d := by
  by_cases e : t.kind = tFun
  · exact (h.fn e).2.2
  · rw [(h.no e).2]; exact fun d hd => nomatch hd
theorem okT.len4 {t : Th} (h : okT t) : t.body.length ≤ 4 := by
  by_cases e : t.kind = tFun
  · exact (h.fn e).2.1
  · rw [(h.no e).2]; exact Nat.zero_le _
theorem head_w {t : Th} (h : okT t) : ∀ w ∈ headW t, wOk w := by
  intro w hw
  unfold headW at hw
  rcases List.mem_append.mp hw with hw | hw
  · simp only [List.mem_cons, List.not_mem_nil, or_false] at hw
    rcases hw with rfl | rfl | rfl
    · exact kd_w h.kd
    · exact name_w h.n1.1
    · exact name_w h.n2.1
  · rcases List.mem_append.mp hw with hw | hw
    · split at hw
      · rename_i e
        rw [List.mem_singleton.mp hw]; exact md_w (h.fn e).1
      · cases hw
    · exact au_w h.au w hw
theorem th_w {t : Th} (h : okT t) : ∀ w ∈ thW t, wOk w := fun w hw => (List.mem_append.mp hw).elim (head_w h w) (body_w h.okb w)
theorem wordsD_len (d : Dm) : (wordsD d).length ≤ 5 := by
  cases d with
  | call n => show 2 ≤ 5; decide
  | give r t k o =>
    cases o with
    | false => show 4 ≤ 5; decide
    | true => show 5 ≤ 5; decide
theorem moreW_len : ∀ ds : List Dm, (moreW ds).length ≤ 6 * ds.length
  | [] => Nat.le_refl _
  | d :: ds => by
    have a := wordsD_len d
    have b := moreW_len ds
    show ((wordsD d ++ moreW ds).length + 1) ≤ 6 * (ds.length + 1)
    rw [List.length_append]
    omega
theorem bodyW_len (ds : List Dm) : (bodyW ds).length ≤ 6 * ds.length := by
  cases ds with
  | nil => exact Nat.le_refl _
  | cons d ds =>
    have a := wordsD_len d
    have b := moreW_len ds
    show ((wordsD d ++ moreW ds).length + 1) ≤ 6 * (ds.length + 1)
    rw [List.length_append]
    omega
theorem headW_len {t : Th} (h : okT t) : (headW t).length ≤ 13 := by
  have a : (auW t.au).length ≤ 9 := by
    cases e : t.au with
    | none => exact Nat.zero_le _
    | some zs =>
      have := (h.au zs e).1.1
      show zs.length + 1 ≤ 9
      omega
  unfold headW
  rw [List.length_append, List.length_append]
  have b : (if t.kind = tFun then [t.mode] else []).length ≤ 1 := by split <;> simp
  show 3 + _ ≤ 13
  omega
theorem thW_len {t : Th} (h : okT t) : (thW t).length ≤ 37 := by
  have a := headW_len h
  have b := bodyW_len t.body
  have c := h.len4
  unfold thW
  rw [List.length_append]
  omega
theorem sum_w : ∀ {ws : List Str}, (∀ w ∈ ws, wOk w) → (ws.map (·.length)).sum ≤ 8 * ws.length
  | [], _ => Nat.le_refl _
  | w :: ws, h => by
    have a := (h w (List.mem_cons_self ..)).len
    have b := sum_w fun z hz => h z (List.mem_cons_of_mem _ hz)
    simp only [List.map_cons, List.sum_cons, List.length_cons]
    omega
theorem join_fits {ws : List Str} (h : ∀ w ∈ ws, wOk w) (l : ws.length ≤ 1000) (z : Str) (lz : z.length ≤ 3) : (ws.map (·.length)).sum + ws.length * z.length ≤ 16777216 := by
  have a := sum_w h
  have b : ws.length * z.length ≤ 1000 * 3 := Nat.mul_le_mul l lz
  omega
end K56
set_option maxHeartbeats 4000000
namespace K56
open PySem PySem.Spec PyProof.Rows L2 RL RE RN RM TL RQ RC
/-! ### things at hand, their texts -/
structure ThAt (c : Cs) (k : Ks) (H : Hp) (a : Addr) (t : Th) : Prop where
  fn : t.kind = tFun → ∃ dx v p xs, H a = some (.ins k.fn dx (headT tFun t.name t.owner v ++ ([("mode", .str t.mode), ("_body", .ref p)] : List (Str × V)))) ∧ AuAt H v t.au ∧ H p = some (.lst xs) ∧ Deeds c H xs t.body
  ot : t.kind ≠ tFun → ∃ dx v, H a = some (.ins (clsK k t.kind) dx (headT t.kind t.name t.owner v)) ∧ AuAt H v t.au
theorem ThAt.same {c : Cs} {k : Ks} {H H' : Hp} {a : Addr} {t : Th} (h : ThAt c k H a t) (s : Same H H') : ThAt c k H' a t :=
  ⟨fun e => by
    obtain ⟨dx, v, p, xs, ea, u, ep, d⟩ := h.fn e
    exact ⟨dx, v, p, xs, s _ _ ea, u.same s, s _ _ ep, d.ext s⟩, fun e => by
    obtain ⟨dx, v, ea, u⟩ := h.ot e
    exact ⟨dx, v, s _ _ ea, u.same s⟩⟩
def tmT (t : Th) : Tm := ⟨t.kind, t.name, t.owner, t.au⟩
theorem ThAt.head {c : Cs} {k : Ks} {H : Hp} {a : Addr} {t : Th} (h : ThAt c k H a t) : HeadAt (clsK k t.kind) H a (tmT t) := by
  by_cases e : t.kind = tFun
  · obtain ⟨dx, v, p, xs, ea, u, ep, d⟩ := h.fn e
    refine ⟨dx, _, v, by rw [e, cls_fun]; exact ea, ?_, rfl, rfl, rfl, u⟩
    show some (V.str tFun) = some (V.str t.kind)
    rw [e]
  · obtain ⟨dx, v, ea, u⟩ := h.ot e
    exact ⟨dx, _, v, ea, rfl, rfl, rfl, rfl, u⟩
/-- no field stands for a method -/
theorem ThAt.nom {c : Cs} {k : Ks} {H : Hp} {a : Addr} {t : Th} (h : ThAt c k H a t) : ∀ C dx fs, H a = some (.ins C dx fs) → fs.lookup (Str.ofString "same_head") = none ∧ fs.lookup (Str.ofString "audience_words") = none ∧ fs.lookup (Str.ofString "body") = none := by
  intro C dx fs e
  by_cases ek : t.kind = tFun
  · obtain ⟨dx', v, p, xs, ea, _⟩ := h.fn ek
    rw [ea] at e
    cases e
    exact ⟨rfl, rfl, rfl⟩
  · obtain ⟨dx', v, ea, _⟩ := h.ot ek
    rw [ea] at e
    cases e
    exact ⟨rfl, rfl, rfl⟩
section
variable {P : Program} {w : World} {K : PySem.W.Frag} {mg : Str → Option Value} {base : Heap} {f : Addr} {fd : FuncData}
def spAuW (K : PySem.W.Frag) : Sp := fun vs H Q _ => ∃ (a C : Addr) (m : Tm), vs = [.ref a] ∧ TF K C ∧ HeadAt C H a m ∧ (∀ zs, m.au = some zs → zs.length ≤ 8) ∧ ∀ p H', Same H H' → H p = none → H' p = some (.lst ((auW m.au).map V.str)) → Q (.ref p) H'
theorem ok_audw (F : Fun K "audience_words" "Thing.audience_words" s_Thing_audience_words f fd) : FnOk P w K mg base CX0 1 f fd ["self"] (spAuW K) := by
  refine F.ok sc_Thing_audience_words (fun vs H Q E h => by obtain ⟨a, C, m, rfl, _⟩ := h; rfl) (fun cdv A outer s H vs Q E hr h => ?_)
  obtain ⟨a, C, ⟨k, n, o, u⟩, rfl, T, ⟨dx, fs, v, ea, f1, f2, f3, f4, f5⟩, l8, q⟩ := h
  refine ⟨_, PSs.nox (pss_cons (ps_if (pt_cmpR op_isN (pe_fld (pv 0) rfl) pe_non (by rfl)) (pss_one (ps_ret (pe_lst pa_nil))) pss_nil)
    (pss_one (ps_ret (pe_op op_cat (pe_lst (pa_cons pe_str pa_nil)) (pe_fld (pv 0) rfl))))), ?_⟩
  refine ⟨_, rfl, a, C, dx, fs, _, rfl, ea, T.cl, T.n4, f4, rfl, _, rfl, ?_⟩
  cases u with
  | none =>
    rw [show v = V.non from f5]
    exact iteT ⟨by show 0 ≤ sizeLine; decide, fun p np => q p _ (same_upd np) np upd_same⟩
  | some zs =>
    obtain ⟨⟨p, rfl, ep⟩, _⟩ := f5
    refine iteF ?_
    refine ⟨by show 1 ≤ sizeLine; decide, fun l nl => ?_⟩
    have s1 := same_upd (o := .lst [.str tAu]) nl
    have e1 : (upd H l (.lst [.str tAu])) l = some (.lst [.str tAu]) := upd_same
    generalize upd H l (.lst [.str tAu]) = H1 at s1 e1 ⊢
    refine ⟨_, rfl, a, C, dx, fs, _, rfl, s1 _ _ ea, T.cl, T.n4, f4, l, p, [.str tAu], zs.map V.str, rfl, rfl, e1, s1 _ _ ep, ?_, fun r nr => ?_⟩
    · rw [List.length_map]
      have := l8 zs rfl
      exact Nat.le_trans (show 1 + zs.length ≤ 9 by omega) (by decide)
    · have nr0 : H r = none := by
        cases e : H r with
        | none => rfl
        | some o => rw [s1 _ _ e] at nr; cases nr
      exact q r _ (fun x y e => same_upd nr _ _ (s1 _ _ e)) nr0 upd_same
/-- what is known of a class of things -/
structure KTh (P : Program) (w : World) (K : PySem.W.Frag) (mg : Str → Option Value) (base : Heap) (C : Addr) : Prop where
  T : TF K C
  aw : ∃ f fd, Meth K C "audience_words" f ∧ FnOk P w K mg base CX0 1 f fd ["self"] (spAuW K) ∧ Binds K fd ["self"] []
def spStrH (c : Cs) (k : Ks) (C : Addr) : Sp := fun vs H Q _ => ∃ (a : Addr) (t : Th), vs = [.ref a] ∧ ThAt c k H a t ∧ okT t ∧ t.kind ≠ tFun ∧ clsK k t.kind = C ∧ ∀ H', Same H H' → Q (.str (txtW (thW t))) H'
theorem ok_strH {c : Cs} {k : Ks} {C : Addr} (F : Fun K "__str__" "Thing.__str__" s_Thing_str f fd) (KT : KTh P w K mg base C) : FnOk P w K mg base CX0 2 f fd ["self"] (spStrH c k C) := by
  refine F.ok sc_Thing_str (fun vs H Q E h => by obtain ⟨a, t, rfl, _⟩ := h; rfl) (fun cdv A outer s H vs Q E hr h => ?_)
  obtain ⟨a, t, rfl, hT, ok, nf, eC, q⟩ := h
  obtain ⟨T, fw, fdw, MW, FW, bW⟩ := KT
  refine ⟨_, PSs.nox (pss_cons (ps_set (i := 1) sc_Thing_str.nd rfl (.inl rfl) (pe_op op_cat (pe_lst (pa_cons (pe_fld (pv 0) rfl) (pa_cons (pe_fld (pv 0) rfl) (pa_cons (pe_fld (pv 0) rfl) pa_nil)))) (pe_meth0 (pv 0) T.cl MW FW hr bW .nil pass0)))
    (pss_one (ps_ret (pe_join pe_str (pv 1))))), ?_⟩
  have hh := hT.head
  rw [eC] at hh
  have nom := hT.nom
  obtain ⟨dx, fs, v, ea, f1, f2, f3, f4, f5⟩ := hh
  have f1 : fs.lookup (Str.ofString "kind") = some (.str t.kind) := f1
  have f2 : fs.lookup (Str.ofString "name") = some (.str t.name) := f2
  have f3 : fs.lookup (Str.ofString "owner") = some (.str t.owner) := f3
  refine ⟨_, rfl, a, C, dx, fs, _, rfl, ea, T.cl, T.n1, f1, _, rfl, a, C, dx, fs, _, rfl, ea, T.cl, T.n2, f2, _, rfl, a, C, dx, fs, _, rfl, ea, T.cl, T.n3, f3, by show 3 ≤ sizeLine; decide, fun l nl => ?_⟩
  have s1 := same_upd (o := .lst [.str t.kind, .str t.name, .str t.owner]) nl
  have e1 : (upd H l (.lst [.str t.kind, .str t.name, .str t.owner])) l = some (.lst [.str t.kind, .str t.name, .str t.owner]) := upd_same
  generalize upd H l (.lst [.str t.kind, .str t.name, .str t.owner]) = H1 at s1 e1 ⊢
  refine ⟨_, rfl, a, dx, fs, rfl, s1 _ _ ea, (nom _ _ _ ea).2.1, a, C, tmT t, rfl, T, HeadAt.same ⟨dx, fs, v, ea, f1, f2, f3, f4, f5⟩ s1, (fun zs e => (ok.au zs e).1.1), fun p H2 s2 np e2 => ?_⟩
  have lw := headW_len ok
  have eh : headW t = [t.kind, t.name, t.owner] ++ auW t.au := by
    unfold headW
    rw [if_neg nf, List.nil_append]
  refine ⟨l, p, [.str t.kind, .str t.name, .str t.owner], (auW t.au).map V.str, rfl, rfl, s2 _ _ e1, e2, ?_, fun r nr => ?_⟩
  · rw [List.length_map]
    rw [eh, List.length_append] at lw
    have lw : 3 + (auW t.au).length ≤ 13 := lw
    exact Nat.le_trans (show 3 + (auW t.au).length ≤ 13 from lw) (by decide)
  have s3 := same_upd (o := .lst ([.str t.kind, .str t.name, .str t.owner] ++ (auW t.au).map V.str)) nr
  have e3 : (upd H2 r (.lst ([.str t.kind, .str t.name, .str t.owner] ++ (auW t.au).map V.str))) r = some (.lst ((headW t).map V.str)) := by
    rw [upd_same, eh, List.map_append]
    rfl
  have ew : thW t = headW t := by
    unfold thW
    rw [(ok.no nf).2]
    exact List.append_nil _
  refine ⟨⟨_, rfl⟩, _, rfl, _, r, headW t, rfl, rfl, .inl (SqL.of e3), join_fits (head_w ok) (by omega) _ (by decide), ?_⟩
  have q2 := q _ (fun x y e => s3 _ _ (s2 _ _ (s1 _ _ e)))
  rw [ew] at q2
  exact q2
end
end K56
set_option maxHeartbeats 4000000
namespace K56
open PySem PySem.Spec PyProof.Rows L2 RL RE RN RM TL RQ RC
/-! ### the text of a function -/
/-- the deeds' own __str__ -/
structure DS (P : Program) (w : World) (K : PySem.W.Frag) (mg : Str → Option Value) (base : Heap) (c : Cs) : Prop where
  C : ∃ (f : Addr) (fd : FuncData), FnOk P w K mg base CX0 1 f fd ["self"] (spStr c isC) ∧ PySem.W.findIn K (.ref c.call) "__str__" = some (some (.ref f)) ∧ PySem.W.isFn K (.ref f) = true ∧ Binds K fd ["self"] []
  G : ∃ (f : Addr) (fd : FuncData), FnOk P w K mg base CX0 1 f fd ["self"] (spStr c isG) ∧ PySem.W.findIn K (.ref c.give) "__str__" = some (some (.ref f)) ∧ PySem.W.isFn K (.ref f) = true ∧ Binds K fd ["self"] []
def rStrD (c : Cs) : List V → Hp → VK → Prop := fun xs H Q => ∃ (a : Addr) (d : Dm), xs = [.ref a] ∧ DeedAt c H a d ∧ okD d ∧ ∀ H', Ext H H' → Q (.str (strD d)) H'
theorem call_strD {X : Cx} {c : Cs} (D : DS X.prog X.w X.K X.mg X.base c) (hr : Room 3 X.A) : CallR X (.type "str") (rStrD c) := by
  intro pins s σ H xs us Q I r h
  obtain ⟨a, d, rfl, ⟨dx, ea⟩, ok, q⟩ := h
  obtain ⟨f1, fd1, F1, s1, i1, b1⟩ := D.C
  obtain ⟨f2, fd2, F2, s2, i2, b2⟩ := D.G
  cases d with
  | call n => exact call_strO F1 hr s1 i1 b1 pass0 pins s σ H _ us Q I r ⟨a, dx, _, rfl, ea, a, .call n, rfl, ⟨dx, ea⟩, ok, rfl, fun H' x => ⟨_, rfl, q H' x⟩⟩
  | give wd t k o => exact call_strO F2 hr s2 i2 b2 pass0 pins s σ H _ us Q I r ⟨a, dx, _, rfl, ea, a, .give wd t k o, rfl, ⟨dx, ea⟩, ok, rfl, fun H' x => ⟨_, rfl, q H' x⟩⟩
theorem joinL_len (S : List Nat) : ∀ ps : List (List Nat), (joinL S ps).length ≤ (ps.map (·.length)).sum + ps.length * S.length
  | [] => Nat.zero_le _
  | [p] => by
    show p.length ≤ (p.length + 0) + 1 * S.length
    omega
  | p :: q :: r => by
    have ih := joinL_len S (q :: r)
    show (p ++ (S ++ joinL S (q :: r))).length ≤ _
    rw [List.length_append, List.length_append]
    simp only [List.map_cons, List.sum_cons, List.length_cons, Nat.add_mul, Nat.one_mul] at ih ⊢
    omega
theorem map_len (ws : List Str) : ((ws.map tl).map (·.length)) = ws.map (·.length) := by
  rw [List.map_map]
  exact List.map_congr_left fun w _ => (len_tl w).symm
theorem txtW_len {ws : List Str} (h : ∀ w ∈ ws, wOk w) : (txtW ws).length ≤ 9 * ws.length := by
  rw [len_tl, tl_txtW]
  have a := joinL_len [32] (ws.map tl)
  rw [map_len, List.length_map] at a
  have b := sum_w h
  have e : ws.length * [32].length = ws.length := Nat.mul_one _
  omega
theorem strD_len {d : Dm} (h : okD d) : (strD d).length ≤ 45 := by
  have a := txtW_len (deed_w h)
  have b := wordsD_len d
  show (txtW (wordsD d)).length ≤ 45
  omega
theorem strs_sum : ∀ {ds : List Dm}, (∀ d ∈ ds, okD d) → ((ds.map strD).map (·.length)).sum ≤ 45 * ds.length
  | [], _ => Nat.le_refl _
  | d :: ds, h => by
    have a := strD_len (h d (List.mem_cons_self ..))
    have b := strs_sum fun z hz => h z (List.mem_cons_of_mem _ hz)
    simp only [List.map_cons, List.sum_cons, List.length_cons]
    omega
theorem body_txt_len {ds : List Dm} (h : ∀ d ∈ ds, okD d) (l : ds.length ≤ 4) : (Txt.join tSSS (ds.map strD)).length ≤ 200 := by
  rw [len_tl, join_eq, tl_join]
  have a := joinL_len (tl tSSS) ((ds.map strD).map tl)
  rw [map_len, List.length_map, List.length_map] at a
  have b := strs_sum h
  have e : (tl tSSS).length = 3 := by decide +kernel
  rw [e] at a
  omega
def strsV (ds : List Dm) : List V := ds.map fun d => V.str (strD d)
section
variable {P : Program} {w : World} {K : PySem.W.Frag} {mg : Str → Option Value} {base : Heap} {f : Addr} {fd : FuncData}
def spStrF (c : Cs) (k : Ks) : Sp := fun vs H Q _ => ∃ (a : Addr) (t : Th), vs = [.ref a] ∧ ThAt c k H a t ∧ okT t ∧ t.kind = tFun ∧ ∀ H', Same H H' → Q (.str (txtW (thW t))) H'
theorem ok_strF {c : Cs} {k : Ks} (F : Fun K "__str__" "Function.__str__" s_Function_str f fd) (FF_ : FF K k.fn) (KT : KTh P w K mg base k.fn) (D : DS P w K mg base c) (ml : mg "len" = none) (ms : mg "str" = none) : FnOk P w K mg base CX0 4 f fd ["self"] (spStrF c k) := by
  refine F.ok sc_Function_str (fun vs H Q E h => by obtain ⟨a, t, rfl, _⟩ := h; rfl) (fun cdv A outer s H vs Q E hr h => ?_)
  obtain ⟨a, t, rfl, hT, ok, ek, q⟩ := h
  obtain ⟨T, fw, fdw, MW, FW, bW⟩ := KT
  refine ⟨_, PSs.nox (pss_cons (ps_set (i := 1) sc_Function_str.nd rfl (.inl rfl) (pe_op op_cat (pe_lst (pa_cons pe_str (pa_cons (pe_fld (pv 0) rfl) (pa_cons (pe_fld (pv 0) rfl) (pa_cons (pe_fld (pv 0) rfl) pa_nil))))) (pe_meth0 (pv 0) T.cl MW FW (hr.mono (by decide)) bW .nil pass0)))
    (pss_cons (ps_if (pt_cmpR op_gt (pe_callB call_len_seq (by rfl) ml PySem.boot_len (pa_cons (pe_fld (pv 0) rfl) pa_nil)) pe_int (nomark _))
      (pss_cons (ps_expr (pe_bm PySem.F.plainAttrs_list PySem.F.slot_list_append PySem.F.type_list_append mt_append (pv 1) (pa_cons pe_str pa_nil)))
      (pss_one (ps_expr (pe_bm PySem.F.plainAttrs_list PySem.F.slot_list_append PySem.F.type_list_append mt_append (pv 1) (pa_cons (pe_join pe_str (pe_lc (own := [("deed", 2)]) (g := gName 2) (by rfl) sc_Function_str.nd (pi_list (pe_fld (pv 0) rfl))
        (blkOk_by (own := [("deed", 2)]) (N := N_Function_str) (sc := defScope s_Function_str) (by decide +kernel)) (fun _ _ _ _ _ => pg_name (i := 2) sc_Function_str.nd rfl (Or.inl rfl)) (fun _ _ _ _ _ => pts_nil)
        (fun _ _ _ _ _ => pe_callTy (r := rStrD c) (call_strD D hr) (by rfl) ms PyProof.Rows.boot_str (pa_cons (pv 2) pa_nil)))) pa_nil))))) pss_nil)
    (pss_one (ps_ret (pe_join pe_str (pv 1)))))), ?_⟩
  have nom := hT.nom
  have hh := hT.head
  obtain ⟨dx, v, pb, xs, ea, ua, ep, hD⟩ := hT.fn ek
  rw [ek, cls_fun] at hh
  refine ⟨_, rfl, a, k.fn, dx, _, _, rfl, ea, T.cl, T.n2, rfl, _, rfl, a, k.fn, dx, _, _, rfl, ea, T.cl, T.n3, rfl, _, rfl, a, k.fn, dx, _, _, rfl, ea, T.cl, FF_.n5, rfl, by show 4 ≤ sizeLine; decide, fun l nl => ?_⟩
  have s1 := same_upd (o := .lst [.str tFun, .str t.name, .str t.owner, .str t.mode]) nl
  have e1 : (upd H l (.lst [.str tFun, .str t.name, .str t.owner, .str t.mode])) l = some (.lst [.str tFun, .str t.name, .str t.owner, .str t.mode]) := upd_same
  generalize upd H l (.lst [.str tFun, .str t.name, .str t.owner, .str t.mode]) = H1 at s1 e1 ⊢
  refine ⟨_, rfl, a, dx, _, rfl, s1 _ _ ea, (nom _ _ _ ea).2.1, a, k.fn, tmT t, rfl, T, hh.same s1, (fun zs e => (ok.au zs e).1.1), fun p H2 s2 np e2 => ?_⟩
  have lw := headW_len ok
  have eh : headW t = [tFun, t.name, t.owner, t.mode] ++ auW t.au := by
    unfold headW
    rw [if_pos ek, ek]
    rfl
  refine ⟨l, p, [.str tFun, .str t.name, .str t.owner, .str t.mode], (auW t.au).map V.str, rfl, rfl, s2 _ _ e1, e2, ?_, fun r nr => ?_⟩
  · rw [List.length_map]
    rw [eh, List.length_append] at lw
    have lw : 4 + (auW t.au).length ≤ 13 := lw
    exact Nat.le_trans (show 4 + (auW t.au).length ≤ 13 from lw) (by decide)
  have s3 := same_upd (o := .lst ([.str tFun, .str t.name, .str t.owner, .str t.mode] ++ (auW t.au).map V.str)) nr
  have e3 : (upd H2 r (.lst ([.str tFun, .str t.name, .str t.owner, .str t.mode] ++ (auW t.au).map V.str))) r = some (.lst ((headW t).map V.str)) := by
    rw [upd_same, eh, List.map_append]
    rfl
  have s03 : Same H (upd H2 r (.lst ([.str tFun, .str t.name, .str t.owner, .str t.mode] ++ (auW t.au).map V.str))) := fun x y e => s3 _ _ (s2 _ _ (s1 _ _ e))
  have nr0 : H r = none := by
    cases e : H r with
    | none => rfl
    | some o => rw [s2 _ _ (s1 _ _ e)] at nr; cases nr
  generalize upd H2 r (.lst ([.str tFun, .str t.name, .str t.owner, .str t.mode] ++ (auW t.au).map V.str)) = H3 at s3 e3 s03 ⊢
  have elen : xs.length = t.body.length := hD.1
  refine ⟨_, rfl, a, k.fn, dx, _, _, rfl, s03 _ _ ea, T.cl, FF_.n6, rfl, pb, xs, rfl, .inl (SqL.of (s03 _ _ ep)), (xs.length : Int), 0, rfl, rfl, _, rfl, ?_⟩
  refine ite2 (fun e => ?_) (fun e => ?_)
  · have h1 : (0 : Int) < xs.length := of_decide_eq_true e
    obtain ⟨d, ds, eb⟩ : ∃ d ds, t.body = d :: ds := by
      cases hb : t.body with
      | nil => rw [hb] at elen; rw [elen] at h1; exact absurd h1 (by decide)
      | cons d ds => exact ⟨d, ds, rfl⟩
    refine ⟨_, rfl, .inl ⟨rfl, _, .inl (.inl e3)⟩, r, (headW t).map V.str, .str tCo, rfl, rfl, e3, ?_, ?_⟩
    · rw [List.length_map]
      exact Nat.lt_of_le_of_lt lw (by decide)
    have e4 : (upd H3 r (.lst ((headW t).map V.str ++ [.str tCo]))) r = some (.lst ((headW t).map V.str ++ [.str tCo])) := upd_same
    have s04 : Same H (upd H3 r (.lst ((headW t).map V.str ++ [.str tCo]))) := fun x y e => by
      rw [upd_ne (fun z => by rw [z, nr0] at e; cases e)]
      exact s03 _ _ e
    generalize upd H3 r (.lst ((headW t).map V.str ++ [.str tCo])) = H4 at e4 s04 ⊢
    refine ⟨_, rfl, .inl ⟨rfl, _, .inl (.inl e4)⟩, ⟨_, rfl⟩, _, rfl, a, k.fn, dx, _, _, rfl, s04 _ _ ea, T.cl, FF_.n6, rfl, pb, rfl, ⟨xs, SqL.of (s04 _ _ ep)⟩, fun D' nD => lc_list (K := K) (xs := xs) (fun i H' => H' D' = some (.lst (strsV (t.body.take i))) ∧ Same H4 H') ⟨by rw [upd_same, List.take_zero]; rfl, same_upd nD⟩ (fun i H' _ h => SqL.of (h.2 _ _ (s04 _ _ ep))) ?_ ?_⟩
    · intro i x H5 hx h
      obtain ⟨eD, s5⟩ := h
      have hi : i < t.body.length := by rw [← elen]; exact (List.getElem?_eq_some_iff.mp hx).1
      obtain ⟨u, rfl, dy, eu⟩ := hD.2 i x _ hx (List.getElem?_eq_getElem hi)
      refine ⟨rfl, ?_⟩
      unfold tYes
      refine iteT ?_
      refine ⟨_, rfl, u, t.body[i], rfl, ⟨dy, s5 _ _ (s04 _ _ eu)⟩, ok.okb _ (List.getElem_mem hi), fun H6 x6 => ?_⟩
      refine ⟨_, x6 _ _ eD, ?_, ?_, ?_⟩
      · unfold strsV
        rw [List.length_map, List.length_take]
        have := ok.len4
        exact Nat.lt_of_lt_of_le (show min i t.body.length < 1000 by omega) (by decide)
      · rw [upd_same, List.take_add_one, List.getElem?_eq_getElem hi]
        unfold strsV
        rw [List.map_append]
        rfl
      · intro y o ey
        rw [upd_ne (fun z => by rw [z, nD] at ey; cases ey)]
        exact x6 _ _ (s5 _ _ ey)
    · intro H6 h6
      obtain ⟨eD, s6⟩ := h6
      rw [elen, List.take_length] at eD
      have eD : H6 D' = some (.lst ((t.body.map strD).map V.str)) := by
        rw [eD]
        unfold strsV
        rw [List.map_map]
        rfl
      refine ⟨_, D', t.body.map strD, rfl, rfl, .inl (SqL.of eD), ?_, ?_⟩
      · have a1 := strs_sum ok.okb
        have a2 := ok.len4
        rw [List.length_map]
        show _ + t.body.length * 3 ≤ 16777216
        omega
      have er := s6 _ _ e4
      refine ⟨r, _, .str (Txt.join tSSS (t.body.map strD)), rfl, rfl, er, ?_, ?_⟩
      · rw [List.length_append, List.length_map]
        exact Nat.lt_of_le_of_lt (show (headW t).length + 1 ≤ 14 by omega) (by decide)
      have e7 : (upd H6 r (.lst ((headW t).map V.str ++ [.str tCo] ++ [.str (Txt.join tSSS (t.body.map strD))]))) r = some (.lst ((headW t ++ [tCo, Txt.join tSSS (t.body.map strD)]).map V.str)) := by
        rw [upd_same, List.append_assoc, List.map_append]
        rfl
      refine ⟨⟨_, rfl⟩, _, rfl, _, r, _, rfl, rfl, .inl (SqL.of e7), ?_, ?_⟩
      · have a1 := sum_w (head_w ok)
        have a2 := body_txt_len ok.okb ok.len4
        rw [List.map_append, List.sum_append, List.length_append]
        show _ + (1 + ((Txt.join tSSS (t.body.map strD)).length + 0)) + ((headW t).length + 2) * 1 ≤ 16777216
        omega
      · have q2 := q (upd H6 r (.lst ((headW t).map V.str ++ [.str tCo] ++ [.str (Txt.join tSSS (t.body.map strD))]))) fun x y e => by
          rw [upd_ne (fun z => by rw [z, nr0] at e; cases e)]
          exact s6 _ _ (s04 _ _ e)
        have et : Txt.join tSp (headW t ++ [tCo, Txt.join tSSS (t.body.map strD)]) = txtW (thW t) := by
          rw [eb]
          rw [txt_body (by unfold headW; simp) d ds]
          unfold thW
          rw [eb]
        rw [← et] at q2
        exact q2
  · have h0 : t.body = [] := by
      cases hb : t.body with
      | nil => rfl
      | cons d ds =>
        exact absurd (decide_eq_true (show (0 : Int) < (xs.length : Int) by rw [elen, hb, List.length_cons]; omega)) e
    have ew : thW t = headW t := by
      unfold thW
      rw [h0]
      exact List.append_nil _
    refine ⟨⟨_, rfl⟩, _, rfl, _, r, headW t, rfl, rfl, .inl (SqL.of e3), join_fits (head_w ok) (by omega) _ (by decide), ?_⟩
    have q2 := q _ s03
    rw [ew] at q2
    exact q2
end
end K56
set_option maxHeartbeats 4000000
namespace K56
open PySem PySem.Spec PyProof.Rows L2 RL RE RN RM TL RQ RC
/-! ### cuts of lists of texts -/
theorem cutV_front {xs : List V} {a : Int} (h : 0 ≤ a) : cutV xs none (some a) = xs.take a.toNat := by
  unfold cutV
  have e2 : HT.sIx xs.length xs.length (some a) = min a.toNat xs.length := by
    show (if a < 0 then _ else _) = _
    rw [if_neg (by omega)]
  have e3 : HT.sIx xs.length 0 none = 0 := rfl
  rw [e2, e3, List.drop_zero, Nat.sub_zero]
  exact List.take_eq_take_min.symm
theorem cutV_back {xs : List V} {a : Int} (h : 0 ≤ a) : cutV xs (some a) none = xs.drop a.toNat := by
  unfold cutV
  have e2 : HT.sIx xs.length 0 (some a) = min a.toNat xs.length := by
    show (if a < 0 then _ else _) = _
    rw [if_neg (by omega)]
  have e3 : HT.sIx xs.length xs.length none = xs.length := rfl
  rw [e2, e3, List.take_of_length_le (by rw [List.length_drop]; exact Nat.le_refl _)]
  by_cases hl : a.toNat ≤ xs.length
  · rw [Nat.min_eq_left hl]
  · rw [Nat.min_eq_right (by omega), List.drop_length, List.drop_eq_nil_of_le (by omega)]
theorem rep_len (x : V) : ∀ n : Nat, (List.replicate n [x]).flatten.length = n
  | 0 => rfl
  | n + 1 => by
    show ([x] ++ (List.replicate n [x]).flatten).length = n + 1
    rw [List.length_append, rep_len x n]
    show 1 + n = n + 1
    omega
theorem same_none {H H' : Hp} (s : Same H H') {p : Addr} (n : H' p = none) : H p = none := by
  cases e : H p with
  | none => rfl
  | some o => rw [s _ _ e] at n; cases n
section
variable {P : Program} {w : World} {K : PySem.W.Frag} {mg : Str → Option Value} {base : Heap} {f : Addr} {fd : FuncData}
/-- the n words behind the first -/
def spBF (K : PySem.W.Frag) : Sp := fun vs H Q _ => ∃ (p : Addr) (ws : List Str) (n : Nat), vs = [.ref p, .int n] ∧ SqL K H p (ws.map V.str) ∧ 1 ≤ n ∧ n ≤ 4 ∧ n + 1 ≤ ws.length ∧ ws.length ≤ 60 ∧
  ∀ r H', Same H H' → H r = none → H' r = some (.lst (((ws.drop 1).take n).map V.str)) → Q (.ref r) H'
theorem ok_bf (F : Fun K "behind_first" "behind_first" s_behind_first f fd) : FnOk P w K mg base CX0 1 f fd ["words", "count"] (spBF K) := by
  refine F.ok sc_behind_first (fun vs H Q E h => by obtain ⟨p, ws, n, rfl, _⟩ := h; rfl) (fun cdv A outer s H vs Q E hr h => ?_)
  obtain ⟨p, ws, n, rfl, hS, n1, n4, hl, h60, q⟩ := h
  refine ⟨_, PSs.nox (pss_one (ps_ret (pe_slice sl_list (pe_op op_cat (pe_slice sl_list (pv 0) (po_some pe_int) po_none) (pe_op op_rep (pe_lst (pa_cons pe_str pa_nil)) (pv 1))) po_none (po_some (pv 1))))), ?_⟩
  refine ⟨_, rfl, 1, rfl, p, _, rfl, hS, fun r1 nr1 => ?_⟩
  rw [cutV_back (by decide), show (1 : Int).toNat = 1 from rfl, ← List.map_drop]
  have s1 := same_upd (o := .lst ((ws.drop 1).map V.str)) nr1
  have e1 : (upd H r1 (.lst ((ws.drop 1).map V.str))) r1 = some (.lst ((ws.drop 1).map V.str)) := upd_same
  generalize upd H r1 (.lst ((ws.drop 1).map V.str)) = H1 at s1 e1 ⊢
  refine ⟨by show 1 ≤ sizeLine; decide, fun r2 nr2 => ?_⟩
  have s2 := same_upd (o := .lst [.str tNul]) nr2
  have e2 : (upd H1 r2 (.lst [.str tNul])) r2 = some (.lst [.str tNul]) := upd_same
  have e12 := s2 _ _ e1
  generalize upd H1 r2 (.lst [.str tNul]) = H2 at s2 e2 e12 ⊢
  refine ⟨_, rfl, r2, (n : Int), [.str tNul], rfl, rfl, e2, by omega, by omega, ?_, fun r3 nr3 => ?_⟩
  · show 1 * n ≤ sizeLine
    exact Nat.le_trans (show 1 * n ≤ 4 by omega) (by decide)
  have s3 := same_upd (o := .lst (List.replicate (n : Int).toNat [V.str tNul]).flatten) nr3
  have e3 : (upd H2 r3 (.lst (List.replicate (n : Int).toNat [V.str tNul]).flatten)) r3 = some (.lst (List.replicate (n : Int).toNat [V.str tNul]).flatten) := upd_same
  have e13 := s3 _ _ e12
  have lf : (List.replicate (n : Int).toNat [V.str tNul]).flatten.length = n := rep_len _ n
  generalize (List.replicate (n : Int).toNat [V.str tNul]).flatten = fl at s3 e3 e13 lf ⊢
  generalize upd H2 r3 (.lst fl) = H3 at s3 e3 e13 ⊢
  refine ⟨r1, r3, _, _, rfl, rfl, e13, e3, ?_, fun r4 nr4 => ?_⟩
  · rw [List.length_map, List.length_drop, lf]
    exact Nat.le_trans (show ws.length - 1 + n ≤ 64 by omega) (by decide)
  have s4 := same_upd (o := .lst ((ws.drop 1).map V.str ++ fl)) nr4
  have e4 : (upd H3 r4 (.lst ((ws.drop 1).map V.str ++ fl))) r4 = some (.lst ((ws.drop 1).map V.str ++ fl)) := upd_same
  generalize upd H3 r4 (.lst ((ws.drop 1).map V.str ++ fl)) = H4 at s4 e4 ⊢
  refine ⟨_, rfl, n, rfl, r4, _, rfl, SqL.of e4, fun r5 nr5 => ?_⟩
  have s04 : Same H H4 := fun x y e => s4 _ _ (s3 _ _ (s2 _ _ (s1 _ _ e)))
  have ec : cutV ((ws.drop 1).map V.str ++ fl) none (some (n : Int)) = ((ws.drop 1).take n).map V.str := by
    rw [cutV_front (by omega), show (n : Int).toNat = n from rfl, List.take_append_of_le_length (by rw [List.length_map, List.length_drop]; omega), List.map_take]
  rw [ec]
  exact q r5 _ (fun x y e => same_upd nr5 _ _ (s04 _ _ e)) (same_none s04 nr5) upd_same
/-- the audience that words tell -/
def spAI (K : PySem.W.Frag) : Sp := fun vs H Q _ => ∃ (p : Addr) (u : Option (List Str)), vs = [.ref p] ∧ SqL K H p ((auW u).map V.str) ∧ (∀ zs, u = some zs → zs.length ≤ 8 ∧ ∀ y ∈ zs, nameT y = true ∧ txt y) ∧
  ∀ x H', Same H H' → AuAt H' x u → Q x H'
theorem ok_ai (F : Fun K "audience_in" "audience_in" s_audience_in f fd) : FnOk P w K mg base CX0 1 f fd ["words"] (spAI K) := by
  refine F.ok sc_audience_in (fun vs H Q E h => by obtain ⟨p, u, rfl, _⟩ := h; rfl) (fun cdv A outer s H vs Q E hr h => ?_)
  obtain ⟨p, u, rfl, hS, hu, q⟩ := h
  refine ⟨_, PSs.nox (pss_one (ps_ret (pe_ifExp (pt_cmpR (op_eqD (hu64 hr)) (pe_slice sl_list (pv 0) po_none (po_some pe_int)) (pe_lst (pa_cons pe_str pa_nil)) (by rfl)) (pe_slice sl_list (pv 0) (po_some pe_int) po_none) pe_non))), ?_⟩
  refine ⟨_, rfl, 1, rfl, p, _, rfl, hS, fun r1 nr1 => ?_⟩
  rw [cutV_front (by decide), show (1 : Int).toNat = 1 from rfl, ← List.map_take]
  have s1 := same_upd (o := .lst (((auW u).take 1).map V.str)) nr1
  have e1 : (upd H r1 (.lst (((auW u).take 1).map V.str))) r1 = some (.lst (((auW u).take 1).map V.str)) := upd_same
  generalize upd H r1 (.lst (((auW u).take 1).map V.str)) = H1 at s1 e1 ⊢
  refine ⟨by show 1 ≤ sizeLine; decide, fun r2 nr2 => ?_⟩
  have s2 := same_upd (o := .lst [.str tAu]) nr2
  have e2 : (upd H1 r2 (.lst [.str tAu])) r2 = some (.lst [.str tAu]) := upd_same
  have e12 := s2 _ _ e1
  generalize upd H1 r2 (.lst [.str tAu]) = H2 at s2 e2 e12 ⊢
  have s02 : Same H H2 := fun x y e => s2 _ _ (s1 _ _ e)
  have tA : txt tAu := ⟨by decide +kernel, by decide +kernel⟩
  have t1 : ∀ y ∈ (auW u).take 1, txt y := fun y hy => by
    cases u with
    | none => cases hy
    | some zs => rw [List.mem_singleton.mp hy]; exact tA
  refine ⟨.list (strsP ((auW u).take 1)), .list (strsP [tAu]), .lst (SqL.of e12) (strs_all _), .lst (SqL.of e2) (strs_all [tAu]), strs_shaped t1, strs_shaped (ys := [tAu]) (fun y hy => by rw [List.mem_singleton.mp hy]; exact tA), _, rfl, ?_⟩
  rw [strs_eqv]
  cases u with
  | none => exact iteF (q .non H2 s02 rfl)
  | some zs =>
    refine iteT ?_
    refine ⟨_, rfl, 1, rfl, p, _, rfl, SqL.ext hS s02, fun r3 nr3 => ?_⟩
    rw [cutV_back (by decide), show (1 : Int).toNat = 1 from rfl, ← List.map_drop]
    exact q (.ref r3) _ (fun x y e => same_upd nr3 _ _ (s02 _ _ e)) ⟨⟨r3, rfl, upd_same⟩, (hu zs rfl).2⟩
end
end K56
set_option maxHeartbeats 4000000
namespace K56
open PySem PySem.Spec PyProof.Rows L2 RL RE RN RM TL RQ RC
/-! ### deeds read -/
theorem own_same {H : Hp} {x dx : Addr} {u o v : HO} (nx : H x = none) (nd : H dx = none) : Same H (upd (upd (upd H dx o) x u) x v) := fun a y e => by
  rw [upd_ne (ne_of_none e nx), upd_ne (ne_of_none e nx), upd_ne (ne_of_none e nd)]
  exact e
/-- deeds made -/
structure MkD (P : Program) (w : World) (K : PySem.W.Frag) (mg : Str → Option Value) (base : Heap) (c : Cs) : Prop where
  C : ∃ (f : Addr) (fd : FuncData), Mk K c.call f ∧ FnOk P w K mg base CX0 4 f fd ["self", "function"] (spInit K c.call argC) ∧ mg "Call" = some (.ref c.call) ∧ Binds K fd ["self", "function"] []
  G : ∃ (f : Addr) (fd : FuncData), Mk K c.give f ∧ FnOk P w K mg base CX0 4 f fd ["self", "right", "thing", "taker", "option"] (spInit K c.give argG) ∧ mg "Give" = some (.ref c.give) ∧ KBn K fd ["self", "right", "thing", "taker", "option"] 4 ["option"] (fun us ws => us ++ ws) (fun vs zs => vs ++ zs)
theorem txt_opt (o : Bool) : inV (.str tOpt) ((if o = true then [tOpt] else []).map V.str) = o := by
  cases o
  · rfl
  · show (eqV (.str tOpt) (.str tOpt) || false) = true
    decide +kernel
section
variable {P : Program} {w : World} {K : PySem.W.Frag} {mg : Str → Option Value} {base : Heap} {f : Addr} {fd : FuncData}
/-- a deed of its words -/
def spRdD (K : PySem.W.Frag) (c : Cs) (p : Dm → Bool) : Sp := fun vs H Q _ => ∃ (q : Addr) (d : Dm), vs = [.ref q] ∧ SqL K H q ((wordsD d).map V.str) ∧ okD d ∧ p d = true ∧ ∀ a H', Same H H' → H a = none → DeedAt c H' a d → Q (.ref a) H'
theorem ok_call_of {c : Cs} (F : Fun K "call_of" "call_of" s_call_of f fd) (M : MkD P w K mg base c) (B : Df P w K mg base CX0 1 "behind_first" ["words", "count"] (spBF K)) : FnOk P w K mg base CX0 6 f fd ["words"] (spRdD K c isC) := by
  obtain ⟨f1, fd1, M1, F1, g1, b1⟩ := M.C
  refine F.ok sc_call_of (fun vs H Q E h => by obtain ⟨p, d, rfl, _⟩ := h; rfl) (fun cdv A outer s H vs Q E hr h => ?_)
  obtain ⟨p, d, rfl, hS, ok, hp, q⟩ := h
  refine ⟨_, PSs.nox (pss_one (ps_ret (pe_make M1 F1 hr (by rfl) g1 b1 .nil pass0 (pa_cons (pe_ix ix_list (pe_df0 B (hr.mono (by decide)) (by rfl) (pa_cons (pv 0) (pa_cons pe_int pa_nil))) pe_int (fun _ _ => rfl)) pa_nil)))), ?_⟩
  cases d with
  | give => exact absurd (show false = true from hp) Bool.false_ne_true
  | call n =>
    refine ⟨_, rfl, p, [tCll, n], 1, rfl, hS, by decide, by decide, by show 2 ≤ 2; decide, by show 2 ≤ 60; decide, fun r H1 s1 nr e1 => ?_⟩
    refine ⟨r, _, 0, .str n, rfl, rfl, SqL.of e1, atI_nat (j := 0) rfl, fun x dx nx nd ne => ?_⟩
    refine ⟨x, dx, .call n, [.str n], rfl, rfl, ok, upd_same, ?_⟩
    exact ⟨rfl, q x _ (fun y o e => own_same nx nd _ _ (s1 _ _ e)) (same_none s1 nx) ⟨dx, upd_same⟩⟩
theorem ok_give_of {c : Cs} (F : Fun K "give_of" "give_of" s_give_of f fd) (M : MkD P w K mg base c) (B : Df P w K mg base CX0 1 "behind_first" ["words", "count"] (spBF K)) : FnOk P w K mg base CX0 6 f fd ["words"] (spRdD K c isG) := by
  obtain ⟨f1, fd1, M1, F1, g1, b1⟩ := M.G
  refine F.ok sc_give_of (fun vs H Q E h => by obtain ⟨p, d, rfl, _⟩ := h; rfl) (fun cdv A outer s H vs Q E hr h => ?_)
  obtain ⟨p, d, rfl, hS, ok, hp, q⟩ := h
  refine ⟨_, PSs.nox (pss_cons (ps_asg (pe_df0 B (hr.mono (by decide)) (by rfl) (pa_cons (pv 0) (pa_cons pe_int pa_nil))) (pg_lst (n := 3) rfl (pgs_cons (pg_name (i := 1) sc_give_of.nd rfl (.inl rfl)) (pgs_cons (pg_name (i := 2) sc_give_of.nd rfl (.inl rfl)) (pgs_cons (pg_name (i := 3) sc_give_of.nd rfl (.inl rfl)) pgs_nil)))))
    (pss_one (ps_ret (pe_makeK (n := 3) M1 F1 hr (by rfl) g1 b1 pass0 (pa_cons (pv 1) (pa_cons (pv 2) (pa_cons (pv 3) pa_nil))) (pk_cons (pe_cmpR op_in_seq pe_str (pe_slice sl_list (pv 0) (po_some pe_int) po_none) (by rfl)) pk_nil))))), ?_⟩
  cases d with
  | call n => exact absurd (show false = true from hp) Bool.false_ne_true
  | give r t k o =>
    have lw : (wordsD (.give r t k o)).length ≤ 5 := wordsD_len _
    have l4 : 4 ≤ (wordsD (.give r t k o)).length := by
      show 4 ≤ ([tGiv, r, t, k] ++ _).length
      rw [List.length_append]
      show 4 ≤ 4 + _
      omega
    refine ⟨_, rfl, p, wordsD (.give r t k o), 3, rfl, hS, by decide, by decide, l4, by omega, fun r1 H1 s1 nr e1 => ?_⟩
    have e1 : H1 r1 = some (.lst [.str r, .str t, .str k]) := e1
    refine ⟨r1, _, rfl, SqL.of e1, rfl, ?_⟩
    refine ⟨_, _, rfl, _, _, rfl, _, _, rfl, rfl, ?_⟩
    refine ⟨_, rfl, _, rfl, _, rfl, _, rfl, 4, rfl, p, _, rfl, SqL.ext hS s1, fun r2 nr2 => ?_⟩
    rw [cutV_back (by decide), show (4 : Int).toNat = 4 from rfl, ← List.map_drop]
    have ed : (wordsD (.give r t k o)).drop 4 = if o = true then [tOpt] else [] := rfl
    rw [ed]
    have s2 := same_upd (o := .lst ((if o = true then [tOpt] else []).map V.str)) nr2
    have e2 : (upd H1 r2 (.lst ((if o = true then [tOpt] else []).map V.str))) r2 = some (.lst ((if o = true then [tOpt] else []).map V.str)) := upd_same
    generalize upd H1 r2 (.lst ((if o = true then [tOpt] else []).map V.str)) = H2 at s2 e2 ⊢
    refine ⟨r2, _, rfl, .inl (SqL.of e2), rfl, ?_, ?_⟩
    · rw [List.all_map, List.all_eq_true]
      exact fun _ _ => rfl
    · rw [txt_opt]
      refine ⟨rfl, rfl, fun x dx nx nd ne => ?_⟩
      refine ⟨x, dx, .give r t k o, [.str r, .str t, .str k, .bl o], rfl, rfl, ok, upd_same, ?_⟩
      exact ⟨rfl, q x _ (fun y o e => own_same nx nd _ _ (s2 _ _ (s1 _ _ e))) (same_none s1 (same_none s2 nx)) ⟨dx, upd_same⟩⟩
end
end K56
set_option maxHeartbeats 4000000
namespace K56
open PySem PySem.Spec PyProof.Rows L2 RL RE RN RM TL RQ RC
/-! ### the parts of a body -/
abbrev St2 := List (List Str) × List Str
def stepS (a : St2) (w : Str) : St2 := if w = tSe then (a.1 ++ [a.2], []) else (a.1, a.2 ++ [w])
theorem fold_no : ∀ (ws : List Str) (f : List (List Str)) (l : List Str), (∀ w ∈ ws, w ≠ tSe) → ws.foldl stepS (f, l) = (f, l ++ ws)
  | [], f, l, _ => by rw [List.append_nil]; rfl
  | w :: ws, f, l, h => by
    have e : stepS (f, l) w = (f, l ++ [w]) := if_neg (h w (List.mem_cons_self ..))
    rw [List.foldl_cons, e, fold_no ws _ _ fun z hz => h z (List.mem_cons_of_mem _ hz), List.append_assoc]
    rfl
theorem w_ne_se {w : Str} (h : 59 ∉ tl w) : w ≠ tSe := fun e => h (by rw [e]; decide +kernel)
theorem low_no {z : Str} (h : nameT z = true) : 59 ∉ tl z ∧ 58 ∉ tl z := by
  unfold nameT at h
  simp only [Bool.and_eq_true, decide_eq_true_eq] at h
  obtain ⟨⟨⟨⟨h1, h8⟩, hl⟩, _⟩, _⟩ := h
  constructor <;> intro hc
  · have := List.all_eq_true.mp hl _ hc
    revert this; decide
  · have := List.all_eq_true.mp hl _ hc
    revert this; decide
theorem n_dec {z : Str} (h : (tl z).all (fun c => decide (c ≠ 59) && decide (c ≠ 58)) = true) : 59 ∉ tl z ∧ 58 ∉ tl z := by
  constructor <;> intro hc
  · have := List.all_eq_true.mp h _ hc
    revert this; decide
  · have := List.all_eq_true.mp h _ hc
    revert this; decide
theorem right_no {w : Str} (h : (kindT w).isSome = true) : 59 ∉ tl w ∧ 58 ∉ tl w := by
  unfold kindT at h
  by_cases g1 : w = Str.ofString "inherit"
  · subst g1; exact n_dec (by decide +kernel)
  rw [if_neg g1] at h
  by_cases g2 : w = Str.ofString "act"
  · subst g2; exact n_dec (by decide +kernel)
  rw [if_neg g2] at h
  by_cases g3 : w = Str.ofString "read"
  · subst g3; exact n_dec (by decide +kernel)
  rw [if_neg g3] at h
  by_cases g4 : w = Str.ofString "write"
  · subst g4; exact n_dec (by decide +kernel)
  rw [if_neg g4] at h
  by_cases g5 : w = Str.ofString "call"
  · subst g5; exact n_dec (by decide +kernel)
  rw [if_neg g5] at h
  cases h
theorem taker_no {k : Str} (h : isT tCal (.str k) = true ∨ isTaker (.str k) = true) : 59 ∉ tl k ∧ 58 ∉ tl k := by
  rcases h with h | h
  · rw [isT_eq h]; exact n_dec (by decide +kernel)
  · have h : (nameT k || isT tPub (.str k)) = true := h
    rcases Bool.or_eq_true_iff.mp h with h | h
    · exact low_no h
    · rw [isT_eq h]; exact n_dec (by decide +kernel)
theorem deed_no {d : Dm} (h : okD d) : ∀ w ∈ wordsD d, 59 ∉ tl w ∧ 58 ∉ tl w := by
  cases d with
  | call n =>
    intro w hw
    have hw : w ∈ [tCll, n] := hw
    simp only [List.mem_cons, List.not_mem_nil, or_false] at hw
    rcases hw with rfl | rfl
    · exact n_dec (by decide +kernel)
    · exact low_no h.2
  | give r t k o =>
    obtain ⟨_, _, _, h4, h5, h6, _⟩ := h
    intro w hw
    have hw : w ∈ [tGiv, r, t, k] ++ (if o = true then [tOpt] else []) := hw
    rcases List.mem_append.mp hw with hw | hw
    · simp only [List.mem_cons, List.not_mem_nil, or_false] at hw
      rcases hw with rfl | rfl | rfl | rfl
      · exact n_dec (by decide +kernel)
      · exact right_no h4
      · exact low_no h5
      · exact taker_no h6
    · split at hw
      · rw [List.mem_singleton.mp hw]; exact n_dec (by decide +kernel)
      · cases hw
theorem fold_more : ∀ (ds : List Dm) (f : List (List Str)) (l : List Str), (∀ d ∈ ds, okD d) → ((moreW ds).foldl stepS (f, l)).1 ++ [((moreW ds).foldl stepS (f, l)).2] = f ++ [l] ++ ds.map wordsD
  | [], f, l, _ => by rw [List.map_nil, List.append_nil]; rfl
  | d :: ds, f, l, h => by
    have e : (moreW (d :: ds)).foldl stepS (f, l) = (moreW ds).foldl stepS (f ++ [l], wordsD d) := by
      show (tSe :: (wordsD d ++ moreW ds)).foldl stepS (f, l) = _
      have e1 : stepS (f, l) tSe = (f ++ [l], []) := if_pos rfl
      rw [List.foldl_cons, e1, List.foldl_append, fold_no _ _ _ (fun w hw => w_ne_se (deed_no (h d (List.mem_cons_self ..)) w hw).1), List.nil_append]
    rw [e, fold_more ds _ _ fun z hz => h z (List.mem_cons_of_mem _ hz), List.map_cons]
    simp [List.append_assoc]
def tailW : List Dm → List Str
  | [] => []
  | d :: ds => wordsD d ++ moreW ds
theorem fold_tail (d : Dm) (ds : List Dm) (h : ∀ z ∈ d :: ds, okD z) : ((tailW (d :: ds)).foldl stepS ([], [])).1 ++ [((tailW (d :: ds)).foldl stepS ([], [])).2] = (d :: ds).map wordsD := by
  have e : (tailW (d :: ds)).foldl stepS ([], []) = (moreW ds).foldl stepS ([], wordsD d) := by
    show (wordsD d ++ moreW ds).foldl stepS ([], []) = _
    rw [List.foldl_append, fold_no _ _ _ (fun w hw => w_ne_se (deed_no (h d (List.mem_cons_self ..)) w hw).1), List.nil_append]
  rw [e, fold_more ds _ _ fun z hz => h z (List.mem_cons_of_mem _ hz)]
  rfl
/-- lists of words at hand -/
def Lw (H : Hp) (rs : List Addr) (fs : List (List Str)) : Prop := rs.length = fs.length ∧ ∀ (i : Nat) q ws, rs[i]? = some q → fs[i]? = some ws → H q = some (.lst (ws.map V.str))
theorem Lw.snoc {H : Hp} {rs : List Addr} {fs : List (List Str)} {q : Addr} {ws : List Str} (h : Lw H rs fs) (e : H q = some (.lst (ws.map V.str))) : Lw H (rs ++ [q]) (fs ++ [ws]) := by
  refine ⟨by rw [List.length_append, List.length_append, h.1]; rfl, fun i p vs h1 h2 => ?_⟩
  by_cases hi : i < rs.length
  · rw [List.getElem?_append_left hi] at h1
    rw [List.getElem?_append_left (by rw [← h.1]; exact hi)] at h2
    exact h.2 i p vs h1 h2
  · rw [List.getElem?_append_right (by omega)] at h1
    rw [List.getElem?_append_right (by rw [← h.1]; omega), ← h.1] at h2
    cases hj : i - rs.length with
    | zero =>
      rw [hj] at h1 h2
      have h1 : some q = some p := h1
      have h2 : some ws = some vs := h2
      cases h1
      cases h2
      exact e
    | succ j => rw [hj] at h1; simp at h1
theorem Lw.upd {H : Hp} {rs : List Addr} {fs : List (List Str)} {r : Addr} {o : HO} (h : Lw H rs fs) (n : r ∉ rs) : Lw (L2.upd H r o) rs fs := ⟨h.1, fun i p vs h1 h2 => by
  rw [upd_ne (fun z => n (by rw [← z]; exact List.mem_of_getElem? h1))]
  exact h.2 i p vs h1 h2⟩
theorem Lw.same {H H' : Hp} {rs : List Addr} {fs : List (List Str)} (h : Lw H rs fs) (s : Same H H') : Lw H' rs fs := ⟨h.1, fun i p vs h1 h2 => s _ _ (h.2 i p vs h1 h2)⟩
theorem atI_last {α : Type} (xs : List α) (x : α) : atI (xs ++ [x]) (-1) = some x := by
  have e : ixN (xs ++ [x]).length (-1) = some xs.length := by
    rw [List.length_append]
    show ixN (xs.length + 1) (-1) = some xs.length
    unfold ixN
    rw [if_neg (by decide), if_pos (by omega)]
    congr 1
    omega
  unfold atI
  rw [e]
  show (xs ++ [x])[xs.length]? = some x
  simp
structure PI (H0 H : Hp) (r : Addr) (a : St2) : Prop where
  ex : ∃ (rs : List Addr) (p : Addr), H r = some (.lst ((rs ++ [p]).map V.ref)) ∧ Lw H rs a.1 ∧ H p = some (.lst (a.2.map V.str)) ∧ p ∉ rs ∧ r ≠ p ∧ r ∉ rs ∧ H0 p = none ∧ ∀ q ∈ rs, H0 q = none
  s : Same H0 H
  nr : H0 r = none
section
variable {P : Program} {w : World} {K : PySem.W.Frag} {mg : Str → Option Value} {base : Heap} {f : Addr} {fd : FuncData}
def spPO (K : PySem.W.Frag) : Sp := fun vs H Q _ => ∃ (p : Addr) (ds : List Dm), vs = [.ref p] ∧ SqL K H p ((tailW ds).map V.str) ∧ (∀ d ∈ ds, okD d) ∧ ds.length ≤ 4 ∧
  ∀ r rs H', Same H H' → H' r = some (.lst (rs.map V.ref)) → Lw H' rs (ds.map wordsD) → Q (.ref r) H'
theorem tailW_len (ds : List Dm) : (tailW ds).length ≤ 6 * ds.length := by
  cases ds with
  | nil => exact Nat.le_refl _
  | cons d ds =>
    have a := wordsD_len d
    have b := moreW_len ds
    show (wordsD d ++ moreW ds).length ≤ 6 * (ds.length + 1)
    rw [List.length_append]
    omega
theorem fold_len : ∀ (ws : List Str) (a : St2), (ws.foldl stepS a).1.length ≤ a.1.length + ws.length ∧ (ws.foldl stepS a).2.length ≤ a.2.length + ws.length
  | [], a => ⟨Nat.le_refl _, Nat.le_refl _⟩
  | w :: ws, a => by
    obtain ⟨h1, h2⟩ := fold_len ws (stepS a w)
    have b : (stepS a w).1.length ≤ a.1.length + 1 ∧ (stepS a w).2.length ≤ a.2.length + 1 := by
      unfold stepS
      split
      · rw [List.length_append]
        exact ⟨Nat.le_refl _, Nat.zero_le _⟩
      · rw [List.length_append]
        exact ⟨Nat.le_succ _, Nat.le_refl _⟩
    rw [List.foldl_cons, List.length_cons]
    omega
theorem ok_parts (F : Fun K "parts_of" "parts_of" s_parts_of f fd) (ml : mg "len" = none) : FnOk P w K mg base CX0 1 f fd ["words"] (spPO K) := by
  refine F.ok sc_parts_of (fun vs H Q E h => by obtain ⟨p, ds, rfl, _⟩ := h; rfl) (fun cdv A outer s H vs Q E hr h => ?_)
  obtain ⟨p, ds, rfl, hS, ok, l4, q⟩ := h
  refine ⟨_, PSs.nox (pss_cons (ps_set (i := 1) sc_parts_of.nd rfl (.inl rfl) (pe_ifExp (pt_cmpR op_gt (pe_callB call_len_seq (by rfl) ml PySem.boot_len (pa_cons (pv 0) pa_nil)) pe_int (nomark _)) (pe_lst (pa_cons (pe_lst pa_nil) pa_nil)) (pe_lst pa_nil)))
    (pss_cons (ps_for PassesOwn.never rfl (pi_list (pv 0)) (pg_name (i := 2) sc_parts_of.nd rfl (Or.inl rfl))
      (pss_one (ps_if (pt_cmpR op_eq (pv 2) pe_str (nomark _)) (pss_one (ps_expr (pe_bm PySem.F.plainAttrs_list PySem.F.slot_list_append PySem.F.type_list_append mt_append (pv 1) (pa_cons (pe_lst pa_nil) pa_nil))))
        (pss_one (ps_expr (pe_bm PySem.F.plainAttrs_list PySem.F.slot_list_append PySem.F.type_list_append mt_append (pe_ix ix_list (pv 1) (pe_un un_neg pe_int) (fun _ _ => rfl)) (pa_cons (pv 2) pa_nil)))))))
    (pss_one (ps_ret (pv 1))))), ?_⟩
  have lt := tailW_len ds
  refine ⟨_, rfl, p, _, rfl, .inl hS, (((tailW ds).map V.str).length : Nat), 0, rfl, rfl, _, rfl, ?_⟩
  cases ds with
  | nil =>
    refine iteF ?_
    refine ⟨by show 0 ≤ sizeLine; decide, fun r nr => ?_⟩
    have s1 := same_upd (o := .lst []) nr
    have e1 : (upd H r (.lst [])) r = some (.lst []) := upd_same
    generalize upd H r (.lst []) = H1 at s1 e1 ⊢
    refine ⟨_, rfl, p, rfl, ⟨_, SqL.ext hS s1⟩, for_list (K := K) (xs := []) (fun i σ H' => ∃ y2, σ = [some (.ref p), some (.ref r), y2] ∧ H' = H1) ⟨_, rfl, rfl⟩ (fun i σ H' _ h => by
      obtain ⟨_, _, eH⟩ := h
      rw [eH]
      exact SqL.ext hS s1) (fun i x σ H' hx h => by cases hx) ?_⟩
    intro σ H' h
    obtain ⟨y2, rfl, eH⟩ := h
    rw [eH]
    exact ⟨_, rfl, q r [] H1 s1 e1 ⟨rfl, fun i q ws h1 h2 => by cases h1⟩⟩
  | cons d ds =>
    have hw : ∀ z, z ∈ d :: ds → okD z := ok
    have lw1 : 1 ≤ (tailW (d :: ds)).length := by
      show 1 ≤ (wordsD d ++ moreW ds).length
      rw [List.length_append]
      cases d with
      | call n => show 1 ≤ 2 + _; omega
      | give r t k o => show 1 ≤ ([tGiv, r, t, k] ++ _).length + _; rw [List.length_append]; show 1 ≤ 4 + _ + _; omega
    have l24 : (tailW (d :: ds)).length ≤ 24 := by omega
    generalize hWS : tailW (d :: ds) = ws at hS lw1 l24 ⊢
    refine ite2 (fun _ => ?_) (fun e => ?_)
    · refine ⟨by show 0 ≤ sizeLine; decide, fun p0 np0 => ?_⟩
      have s0 := same_upd (o := .lst []) np0
      have e0 : (upd H p0 (.lst [])) p0 = some (.lst []) := upd_same
      generalize upd H p0 (.lst []) = H1 at s0 e0 ⊢
      refine ⟨by show 1 ≤ sizeLine; decide, fun r nr => ?_⟩
      have s1 := same_upd (o := .lst [.ref p0]) nr
      have e1 : (upd H1 r (.lst [.ref p0])) r = some (.lst [.ref p0]) := upd_same
      have e01 := s1 _ _ e0
      have npr : r ≠ p0 := fun z => by rw [z, e0] at nr; cases nr
      have nrH := same_none s0 nr
      generalize upd H1 r (.lst [.ref p0]) = H2 at s1 e1 e01 ⊢
      have s02 : Same H H2 := fun x y e => s1 _ _ (s0 _ _ e)
      refine ⟨_, rfl, p, rfl, ⟨_, SqL.ext hS s02⟩, for_list (K := K) (xs := ws.map V.str) (fun i σ H' => ∃ y2, σ = [some (.ref p), some (.ref r), y2] ∧ PI H H' r ((ws.take i).foldl stepS ([], []))) ⟨_, rfl, ⟨⟨[], p0, e1, ⟨rfl, fun i q ws h1 h2 => by cases h1⟩, e01, by simp, npr, by simp, np0, fun q h => by cases h⟩, s02, nrH⟩⟩ (fun i σ H' _ h => by
        obtain ⟨_, _, pi⟩ := h
        exact SqL.ext hS pi.s) ?_ ?_⟩
      · intro i x σ H3 hx h
        obtain ⟨y2, rfl, pi⟩ := h
        have hi : i < ws.length := by
          rw [← List.length_map (f := V.str)]
          exact (List.getElem?_eq_some_iff.mp hx).1
        have ex : x = .str ws[i] := by
          rw [List.getElem?_map, List.getElem?_eq_getElem hi] at hx
          exact (Option.some.inj hx).symm
        subst ex
        have ef : (ws.take (i + 1)).foldl stepS ([], []) = stepS ((ws.take i).foldl stepS ([], [])) ws[i] := by
          rw [List.take_add_one, List.getElem?_eq_getElem hi, List.foldl_append]
          rfl
        obtain ⟨fl1, fl2⟩ := fold_len (ws.take i) (([], []) : St2)
        rw [List.length_take] at fl1 fl2
        have fl1 : ((ws.take i).foldl stepS ([], [])).1.length ≤ 0 + min i ws.length := fl1
        have fl2 : ((ws.take i).foldl stepS ([], [])).2.length ≤ 0 + min i ws.length := fl2
        rw [ef]
        generalize (ws.take i).foldl stepS ([], []) = a at pi fl1 fl2
        obtain ⟨⟨rs, pl, er, hL, ep, n1, n2, n3, f1, f2⟩, sH, nr0⟩ := pi
        refine ⟨_, rfl, rfl, _, rfl, ?_⟩
        refine ite2 (fun e => ?_) (fun e => ?_)
        · have ew : ws[i] = tSe := V.str.inj (of_decide_eq_true e)
          refine ⟨_, rfl, .inl ⟨rfl, _, .inl (.inl er)⟩, by show 0 ≤ sizeLine; decide, fun q1 nq1 => ?_⟩
          have sq := same_upd (o := .lst []) nq1
          have eq1 : (upd H3 q1 (.lst [])) q1 = some (.lst []) := upd_same
          have nqr : q1 ≠ r := fun z => by rw [z, er] at nq1; cases nq1
          have nqp : q1 ≠ pl := fun z => by rw [z, ep] at nq1; cases nq1
          have nqs : q1 ∉ rs := fun z => by
            obtain ⟨j, hj, ej⟩ := List.getElem_of_mem z
            have hj2 : j < a.1.length := by rw [← hL.1]; exact hj
            have := hL.2 j q1 _ (by rw [List.getElem?_eq_getElem hj, ej]) (List.getElem?_eq_getElem hj2)
            rw [this] at nq1
            cases nq1
          have nqH := same_none sH nq1
          have hL4 := hL.same sq
          have er4 := sq _ _ er
          have ep4 := sq _ _ ep
          generalize upd H3 q1 (.lst []) = H4 at sq eq1 hL4 er4 ep4 ⊢
          refine ⟨r, _, .ref q1, rfl, rfl, er4, ?_, ?_⟩
          · rw [List.length_map, List.length_append, hL.1]
            exact Nat.lt_of_le_of_lt (show a.1.length + 1 ≤ 30 by omega) (by decide)
          · refine ⟨_, rfl, ⟨⟨rs ++ [pl], q1, ?_, ?_, ?_, ?_, Ne.symm nqr, ?_, nqH, ?_⟩, fun x y e => ?_, nr0⟩⟩
            · rw [upd_same, List.map_append (l₁ := rs ++ [pl])]
              rfl
            · have e5 : (stepS a ws[i]).1 = a.1 ++ [a.2] := by unfold stepS; rw [if_pos ew]
              rw [e5]
              refine Lw.upd (hL4.snoc ep4) ?_
              intro z
              rcases List.mem_append.mp z with z | z
              · exact n3 z
              · exact n2 (List.mem_singleton.mp z)
            · have e5 : (stepS a ws[i]).2 = [] := by unfold stepS; rw [if_pos ew]
              rw [e5, upd_ne nqr]
              exact eq1
            · intro z
              rcases List.mem_append.mp z with z | z
              · exact nqs z
              · exact nqp (List.mem_singleton.mp z)
            · intro z
              rcases List.mem_append.mp z with z | z
              · exact n3 z
              · exact n2 (List.mem_singleton.mp z)
            · intro y hy
              rcases List.mem_append.mp hy with hy | hy
              · exact f2 y hy
              · rw [List.mem_singleton.mp hy]; exact f1
            · rw [upd_ne (fun z => by rw [z, nr0] at e; cases e)]
              exact sq _ _ (sH _ _ e)
        · have ew : ¬ ws[i] = tSe := fun z => e (decide_eq_true (by rw [z]))
          have el : atI ((rs ++ [pl]).map V.ref) (-1) = some (.ref pl) := by
            rw [List.map_append]
            exact atI_last _ _
          refine ⟨_, rfl, 1, rfl, r, _, -1, .ref pl, rfl, rfl, SqL.of er, el, .inl ⟨rfl, _, .inl (.inl ep)⟩, _, rfl, pl, _, .str ws[i], rfl, rfl, ep, ?_, ?_⟩
          · rw [List.length_map]
            exact Nat.lt_of_le_of_lt (show a.2.length ≤ 30 by omega) (by decide)
          · have e5 : stepS a ws[i] = (a.1, a.2 ++ [ws[i]]) := if_neg ew
            rw [e5]
            refine ⟨_, rfl, ⟨⟨rs, pl, ?_, hL.upd n1, ?_, n1, n2, n3, f1, f2⟩, fun x y e => ?_, nr0⟩⟩
            · rw [upd_ne n2]
              exact er
            · rw [upd_same, List.map_append]
              rfl
            · rw [upd_ne (fun z => by rw [z, f1] at e; cases e)]
              exact sH _ _ e
      · intro σ H3 h
        obtain ⟨y2, rfl, pi⟩ := h
        rw [List.length_map, List.take_length] at pi
        obtain ⟨⟨rs, pl, er, hL, ep, n1, n2, n3, f1, f2⟩, sH, nr0⟩ := pi
        have fin := fold_tail d ds ok
        rw [hWS] at fin
        refine ⟨_, rfl, q r (rs ++ [pl]) H3 sH er ?_⟩
        rw [← fin]
        exact hL.snoc ep
    · exact absurd (decide_eq_true (show (0 : Int) < ((ws.map V.str).length : Nat) by rw [List.length_map]; omega)) e
end
end K56
set_option maxHeartbeats 4000000
namespace K56
open PySem PySem.Spec PyProof.Rows L2 RL RE RN RM TL RQ RC
/-! ### read_from: by the first word -/
theorem FnOk_or {P : Program} {w : World} {K : PySem.W.Frag} {mg : Str → Option Value} {base : Heap} {CX : CXT} {k : Nat} {f : Addr} {fd : FuncData} {ps : List Str} {s1 s2 : Sp}
    (F1 : FnOk P w K mg base CX k f fd ps s1) (F2 : FnOk P w K mg base CX k f fd ps s2) : FnOk P w K mg base CX k f fd ps (fun vs H Q E => s1 vs H Q E ∨ s2 vs H Q E) :=
  ⟨fun vs H Q E h => h.elim (F1.len vs H Q E) (F2.len vs H Q E), fun A o s H ar us vs Q E hr e0 hb r h => h.elim (F1.run A o s H ar us vs Q E hr e0 hb r) (F2.run A o s H ar us vs Q E hr e0 hb r)⟩
section
variable {X : Cx} {d : Addr} {es : Array DictEntry} {n : Nat}
theorem ix_kd (D : KDict X.K X.w d es n) : IxR X (fun x y H Q => ∃ (z : Str) (u0 : Value) (v0 : V), x = .ref d ∧ y = .str z ∧ PySem.W.nsIn X.K d z = some (some u0) ∧ RelV v0 u0 ∧ Q v0 H) := by
  intro value slice pins s σ H x y v u Q I rx ry h hs
  have h0 := h
  obtain ⟨z, u0, v0, rfl, rfl, _⟩ := h0
  cases rx
  exact tail_any (kd_type D I) PySem.F.slot_dict_getitem.lookup (op_item_kd D pins s σ H (.ref d) (.str z) _ _ Q I rfl ry h) hs
end
section
variable {P : Program} {w : World} {K : PySem.W.Frag} {mg : Str → Option Value} {base : Heap} {f : Addr} {fd : FuncData}
/-- a reader at a word of READERS -/
structure KRd (K : PySem.W.Frag) (w : World) (d : Addr) (z : Str) (fr : Addr) : Prop where
  dict : ∃ es n, KDict K w d es n
  get : PySem.W.nsIn K d z = some (some (.ref fr))
def spRF (K : PySem.W.Frag) (z : Str) (sp : Sp) : Sp := fun vs H Q _ => ∃ (p al : Addr) (ws ys : List Str), vs = [.ref p, .ref al] ∧ SqL K H p (ws.map V.str) ∧ ws[0]? = some z ∧ SqT K H al (ys.map V.str) ∧ z ∈ ys ∧ sp [.ref p] H Q (fun _ _ _ => False)
theorem ok_rf {k : Nat} {d fr : Addr} {fdr : FuncData} {z : Str} {sp : Sp} (F : Fun K "read_from" "read_from" s_read_from f fd) (FR : FnOk P w K mg base CX0 k fr fdr ["words"] sp) (bR : Binds K fdr ["words"] []) (kR : PySem.W.keepIn K (.ref fr) = true)
    (D : KRd K w d z fr) (ml : mg "len" = none) (gD : mg "READERS" = some (.ref d)) : FnOk P w K mg base CX0 (k + 1) f fd ["words", "allowed"] (spRF K z sp) := by
  refine F.ok sc_read_from (fun vs H Q E h => by obtain ⟨p, al, ws, ys, rfl, _⟩ := h; rfl) (fun cdv A outer s H vs Q E hr h => ?_)
  obtain ⟨p, al, ws, ys, rfl, hS, h0, hA, hz, q⟩ := h
  obtain ⟨⟨es, n, KD⟩, get⟩ := D
  refine ⟨_, PSs.nox (pss_cons (ps_if (PW.pt (pw_or (pt_cmpR op_eq (pe_callB call_len_seq (by rfl) ml PySem.boot_len (pa_cons (pv 0) pa_nil)) pe_int (nomark _)) (pw_or1 (pt_cmpR op_notIn_seq (pe_ix ix_list (pv 0) pe_int (fun _ _ => rfl)) (pv 1) (by rfl))))) (pss_one (ps_ret pe_non)) pss_nil)
    (pss_cons (ps_set (i := 2) sc_read_from.nd rfl (.inl rfl) (pe_ix (ix_kd KD) (pe_glob (v := .ref d) (by rfl) gD rfl) (pe_ix ix_list (pv 0) pe_int (fun _ _ => rfl)) (fun _ _ => rfl)))
    (pss_one (ps_try_never (fun _ _ h => h) (pss_one (ps_ret (pe_callL (i := 2) FR hr rfl (.inl rfl) kR bR .nil pass0 (pa_cons (pv 0) pa_nil)))) pss_nil)))), ?_⟩
  have e0 : atI (ws.map V.str) 0 = some (.str z) := atI_nat (j := 0) (by rw [List.getElem?_map, h0]; rfl)
  have l1 : 1 ≤ ws.length := by
    cases ws with
    | nil => cases h0
    | cons a b => exact Nat.succ_le_succ (Nat.zero_le _)
  refine ⟨_, rfl, p, _, rfl, .inl hS, rfl, _, rfl, ?_⟩
  refine ite2 (fun e => ?_) (fun _ => ?_)
  · have e := V.int.inj (of_decide_eq_true e)
    rw [List.length_map] at e
    omega
  refine ⟨_, rfl, p, _, 0, .str z, rfl, rfl, hS, e0, _, rfl, al, _, rfl, .inr hA, rfl, ?_, _, rfl, ?_⟩
  · rw [List.all_map, List.all_eq_true]
    exact fun _ _ => rfl
  · have ei : inV (.str z) (ys.map V.str) = true := by
      unfold inV
      rw [List.any_map, List.any_eq_true]
      exact ⟨z, hz, by show (z == z) = true; simp⟩
    refine ite2 (fun e => ?_) (fun _ => ?_)
    · have e : (if true = true then !inV (.str z) (ys.map V.str) else inV (.str z) (ys.map V.str)) = true := e
      rw [if_pos rfl, ei] at e
      cases e
    refine ⟨_, rfl, p, _, 0, .str z, rfl, rfl, hS, e0, z, .ref fr, .ref fr, rfl, rfl, get, rfl, ?_⟩
    exact ⟨rfl, _, rfl, q⟩
end
end K56
set_option maxHeartbeats 4000000
namespace K56
open PySem PySem.Spec PyProof.Rows L2 RL RE RN RM TL RQ RC
/-! ### things made -/
theorem PEw {X : Cx} {e : Expr} {t u : TE} (h : PE X e t) (w : ∀ σ H Q, u σ H Q → t σ H Q) : PE X e u := ⟨fun pins s σ H Q I q => h.run pins s σ H Q I (w σ H Q q)⟩
theorem PSw {X : Cx} {st : Stmt} {t u : TS} (h : PS X st t) (w : ∀ D σ H, u D σ H → t D σ H) : PS X st u := ⟨fun pins s σ H D I q => h.run pins s σ H D I (w D σ H q)⟩
def GivenC (H : Hp) (x : V) : Option (List Str) → Prop
  | none => x = .non
  | some ys => Aud ys ∧ ∃ b, x = .ref b ∧ (H b = some (.lst (ys.map V.str)) ∨ H b = some (.tup (ys.map V.str)))
theorem GivenC.to {K : PySem.W.Frag} {H : Hp} {x : V} {au : Option (List Str)} (g : GivenC H x au) {a dx C : Addr} (na : H a = none) (nd : H dx = none) : Given K (upd (upd H dx (.own a)) a (.ins C dx [])) a x au := by
  cases au with
  | none => exact g
  | some ys =>
    obtain ⟨hA, b, rfl, e⟩ := g
    have up : ∀ {o : HO}, H b = some o → ∀ H', But a (upd (upd H dx (.own a)) a (.ins C dx [])) H' → H' b = some o := fun {o} e H' k => by
      have n1 := ne_of_none e na
      have n2 := ne_of_none e nd
      exact k b o n1 (by rw [upd_ne n1, upd_ne n2]; exact e)
    rcases e with e | e
    · exact ⟨hA, b, rfl, .inl fun H' k => SqL.of (up e H' k)⟩
    · exact ⟨hA, b, rfl, .inr fun H' k => SqT.of (up e H' k)⟩
theorem given_of {H : Hp} {v : V} {u : Option (List Str)} (h : AuAt H v u) (hA : ∀ zs, u = some zs → Aud zs) : GivenC H v u := by
  cases u with
  | none => exact h
  | some zs =>
    obtain ⟨⟨p, rfl, e⟩, _⟩ := h
    exact ⟨hA _ rfl, p, rfl, .inl e⟩
abbrev psR : List Str := ["self", "name", "owner", "audience"]
abbrev psF : List Str := ["self", "name", "owner", "audience", "mode", "body"]
structure MkR (P : Program) (w : World) (K : PySem.W.Frag) (mg : Str → Option Value) (base : Heap) (x : Str) (kd : Str) (C f : Addr) (fd : FuncData) (g1 : List Value → List Value → List Value) : Prop where
  M : Mk K C f
  F : FnOk P w K mg base CX0 4 f fd psR (spMk K C kd)
  g : mg x = some (.ref C)
  b1 : KBn K fd psR 3 ["audience"] g1 (fun vs zs => vs ++ zs)
structure MkFn (P : Program) (w : World) (K : PySem.W.Frag) (mg : Str → Option Value) (base : Heap) (c : Cs) (C f : Addr) (fd : FuncData) (g1 : List Value → List Value → List Value) : Prop where
  M : Mk K C f
  F : FnOk P w K mg base CX0 4 f fd psF (spMkF K c C)
  g : mg "Function" = some (.ref C)
  b1 : KBn K fd psF 3 ["audience", "mode", "body"] g1 (fun vs zs => vs ++ zs)
theorem new_same {H : Hp} {x dx : Addr} {u v : HO} (nx : H x = none) (nd : H dx = none) : Same H (upd (upd H dx u) x v) := fun a y e => by
  rw [upd_ne (ne_of_none e nx), upd_ne (ne_of_none e nd)]
  exact e
theorem srt_self {u au' : Option (List Str)} (h : SrtO u au') (s : ∀ zs, u = some zs → sortedS zs = true) : au' = u := by
  cases u with
  | none => cases au' with
    | none => rfl
    | some _ => exact False.elim h
  | some zs => cases au' with
    | none => exact False.elim h
    | some ws =>
      have h : Srt zs ws := h
      exact congrArg some (Srt.uniq h (⟨.refl _, s zs rfl⟩ : Srt zs zs) (.refl _))
theorem mk_init {K : PySem.W.Frag} {C : Addr} {H : Hp} {kd n o : Str} {v : V} {au : Option (List Str)} {x dx : Addr} {R : Hp → Prop} {E : XK} (n1 : nameT n = true ∧ txt n) (n2 : nameT o = true ∧ txt o) (g : GivenC H v au)
    (q : ∀ H' au' v', SrtO au au' → Same H H' → H' x = some (.ins C dx (headT kd n o v')) → AuAt H' v' au' → R H') (nx : H x = none) (nd : H dx = none) (ne : dx ≠ x) :
    spMk K C kd [.ref x, .str n, .str o, v] (upd (upd H dx (.own x)) x (.ins C dx [])) (fun v H3 => v = .non ∧ R H3) E := by
  refine ⟨x, dx, n, o, v, au, rfl, upd_same, n1.2, n1.1, n2.2, n2.1, g.to nx nd, fun H' v' au' so m => ⟨rfl, q H' au' v' so ?_ ?_ m.aud⟩⟩
  · intro u y e
    exact m.but u y (ne_of_none e nx) (new_same nx nd u y e)
  · have e2 := m.at_
    rw [List.append_nil] at e2
    exact e2
theorem mk_initF {K : PySem.W.Frag} {c : Cs} {C b : Addr} {H : Hp} {n o md : Str} {v : V} {au : Option (List Str)} {xs : List V} {ds : List Dm} {x dx : Addr} {R : Hp → Prop} {E : XK} (n1 : nameT n = true ∧ txt n) (n2 : nameT o = true ∧ txt o) (g : GivenC H v au) (hm : isMd md)
    (hb : H b = some (.lst xs) ∨ H b = some (.tup xs)) (hD : Deeds c H xs ds) (l4 : ds.length ≤ 4)
    (q : ∀ H' au' v' p ys, SrtO au au' → Same H H' → H' x = some (.ins C dx (headT tFun n o v' ++ ([("mode", .str md), ("_body", .ref p)] : List (Str × V)))) → AuAt H' v' au' → H' p = some (.lst ys) → Deeds c H' ys ds → R H') (nx : H x = none) (nd : H dx = none) (ne : dx ≠ x) :
    spMkF K c C [.ref x, .str n, .str o, v, .str md, .ref b] (upd (upd H dx (.own x)) x (.ins C dx [])) (fun v H3 => v = .non ∧ R H3) E := by
  have up : ∀ {o : HO}, H b = some o → ∀ H', But x (upd (upd H dx (.own x)) x (.ins C dx [])) H' → H' b = some o := fun {o} e H' k => by
    have n1 := ne_of_none e nx
    have n2 := ne_of_none e nd
    exact k b o n1 (by rw [upd_ne n1, upd_ne n2]; exact e)
  refine ⟨x, dx, b, n, o, md, v, au, xs, ds, rfl, upd_same, n1.2, n1.1, n2.2, n2.1, g.to nx nd, hm, fun H' k => ?_, hD.ext (new_same nx nd), l4, fun H' v' au' p so np m ep dd => ⟨rfl, q H' au' v' p xs so ?_ m.at_ m.aud ep dd⟩⟩
  · rcases hb with e | e
    · exact .inl (SqL.of (up e H' k))
    · exact .inr (SqT.of (up e H' k))
  · intro u y e
    exact m.but u y (ne_of_none e nx) (new_same nx nd u y e)
theorem made_none {H : Hp} {x dx p : Addr} {u v : HO} (h : (upd (upd H dx u) x v) p = none) : H p = none := by
  by_cases e : p = x
  · rw [e, upd_same] at h; cases h
  · rw [upd_ne e] at h
    by_cases e2 : p = dx
    · rw [e2, upd_same] at h; cases h
    · rw [upd_ne e2] at h; exact h
theorem mk_initN {K : PySem.W.Frag} {C : Addr} {H : Hp} {kd n o : Str} {v : V} {au : Option (List Str)} {x dx : Addr} {R : Hp → Prop} {E : XK} (n1 : nameT n = true ∧ txt n) (n2 : nameT o = true ∧ txt o) (g : GivenC H v au)
    (q : ∀ H' au' v', SrtO au au' → Same H H' → H' x = some (.ins C dx (headT kd n o v')) → AuAt H' v' au' → (∀ p, v' = .ref p → H p = none) → R H') (nx : H x = none) (nd : H dx = none) (ne : dx ≠ x) :
    spMk K C kd [.ref x, .str n, .str o, v] (upd (upd H dx (.own x)) x (.ins C dx [])) (fun v H3 => v = .non ∧ R H3) E := by
  refine ⟨x, dx, n, o, v, au, rfl, upd_same, n1.2, n1.1, n2.2, n2.1, g.to nx nd, fun H' v' au' so m => ⟨rfl, q H' au' v' so ?_ ?_ m.aud fun p e => made_none (m.fresh p e)⟩⟩
  · intro u y e
    exact m.but u y (ne_of_none e nx) (new_same nx nd u y e)
  · have e2 := m.at_
    rw [List.append_nil] at e2
    exact e2
theorem mk_initFN {K : PySem.W.Frag} {c : Cs} {C b : Addr} {H : Hp} {n o md : Str} {v : V} {au : Option (List Str)} {xs : List V} {ds : List Dm} {x dx : Addr} {R : Hp → Prop} {E : XK} (n1 : nameT n = true ∧ txt n) (n2 : nameT o = true ∧ txt o) (g : GivenC H v au) (hm : isMd md)
    (hb : H b = some (.lst xs) ∨ H b = some (.tup xs)) (hD : Deeds c H xs ds) (l4 : ds.length ≤ 4)
    (q : ∀ H' au' v' p ys, SrtO au au' → Same H H' → H' x = some (.ins C dx (headT tFun n o v' ++ ([("mode", .str md), ("_body", .ref p)] : List (Str × V)))) → AuAt H' v' au' → H' p = some (.lst ys) → Deeds c H' ys ds → (∀ p, v' = .ref p → H p = none) → H p = none → R H') (nx : H x = none) (nd : H dx = none) (ne : dx ≠ x) :
    spMkF K c C [.ref x, .str n, .str o, v, .str md, .ref b] (upd (upd H dx (.own x)) x (.ins C dx [])) (fun v H3 => v = .non ∧ R H3) E := by
  have up : ∀ {o : HO}, H b = some o → ∀ H', But x (upd (upd H dx (.own x)) x (.ins C dx [])) H' → H' b = some o := fun {o} e H' k => by
    have n1 := ne_of_none e nx
    have n2 := ne_of_none e nd
    exact k b o n1 (by rw [upd_ne n1, upd_ne n2]; exact e)
  refine ⟨x, dx, b, n, o, md, v, au, xs, ds, rfl, upd_same, n1.2, n1.1, n2.2, n2.1, g.to nx nd, hm, fun H' k => ?_, hD.ext (new_same nx nd), l4, fun H' v' au' p so np m ep dd => ⟨rfl, q H' au' v' p xs so ?_ m.at_ m.aud ep dd (fun p e => made_none (m.fresh p e)) (made_none np)⟩⟩
  · rcases hb with e | e
    · exact .inl (SqL.of (up e H' k))
    · exact .inr (SqT.of (up e H' k))
  · intro u y e
    exact m.but u y (ne_of_none e nx) (new_same nx nd u y e)
/-- a thing whose lists are its own -/
structure ThN (c : Cs) (k : Ks) (H H' : Hp) (a : Addr) (t : Th) : Prop where
  th : ThAt c k H' a t
  own : ∀ D xs ys, H D = some (.lst xs) → ThAt c k (L2.upd H' D (.lst ys)) a t
theorem ThN.pre {c : Cs} {k : Ks} {H H1 H' : Hp} {a : Addr} {t : Th} (h : ThN c k H1 H' a t) (s : Same H H1) : ThN c k H H' a t := ⟨h.th, fun D xs ys e => h.own D xs ys (s _ _ e)⟩
theorem same_both {H H' : Hp} {D : Addr} {o : HO} (s : Same H H') : Same (L2.upd H D o) (L2.upd H' D o) := fun y u e => by
  by_cases z : y = D
  · rw [z, upd_same] at e ⊢; exact e
  · rw [upd_ne z] at e ⊢; exact s _ _ e
theorem ThN.post {c : Cs} {k : Ks} {H H' H2 : Hp} {a : Addr} {t : Th} (h : ThN c k H H' a t) (s : Same H' H2) : ThN c k H H2 a t := ⟨h.th.same s, fun D xs ys e => (h.own D xs ys e).same (same_both s)⟩
theorem au_own {H H' : Hp} {v : V} {u : Option (List Str)} {D : Addr} {xs : List V} {o : HO} (h : AuAt H' v u) (fr : ∀ p, v = .ref p → H p = none) (e : H D = some (.lst xs)) : AuAt (L2.upd H' D o) v u := by
  cases u with
  | none => exact h
  | some zs =>
    obtain ⟨⟨p, rfl, ep⟩, n⟩ := h
    exact ⟨⟨p, rfl, by rw [upd_ne (fun z => by rw [← z, fr p rfl] at e; cases e)]; exact ep⟩, n⟩
theorem ins_own {H H' : Hp} {a D C dx : Addr} {fs : List (Str × V)} {xs : List V} {o : HO} (ea : H' a = some (.ins C dx fs)) (s : Same H H') (e : H D = some (.lst xs)) : (L2.upd H' D o) a = some (.ins C dx fs) := by
  rw [upd_ne (fun z => by rw [z, s _ _ e] at ea; cases ea)]
  exact ea
theorem plainN {c : Cs} {k : Ks} {H H' : Hp} {a dx : Addr} {t : Th} {v : V} (nf : t.kind ≠ tFun) (e : H' a = some (.ins (clsK k t.kind) dx (headT t.kind t.name t.owner v))) (u : AuAt H' v t.au) (fr : ∀ p, v = .ref p → H p = none) (s : Same H H') : ThN c k H H' a t :=
  ⟨⟨fun z => absurd z nf, fun _ => ⟨dx, v, e, u⟩⟩, fun D xs ys eD => ⟨fun z => absurd z nf, fun _ => ⟨dx, v, ins_own e s eD, au_own u fr eD⟩⟩⟩
theorem deeds_own {c : Cs} {H H' : Hp} {D : Addr} {xs ys : List V} {ds : List Dm} {o : HO} (h : Deeds c H' ys ds) (s : Same H H') (e : H D = some (.lst xs)) : Deeds c (L2.upd H' D o) ys ds := ⟨h.1, fun i x d h1 h2 => by
  obtain ⟨a, rfl, dx, ea⟩ := h.2 i x d h1 h2
  exact ⟨a, rfl, dx, ins_own ea s e⟩⟩
theorem funN {c : Cs} {k : Ks} {H H' : Hp} {a dx pb : Addr} {t : Th} {v : V} {xs : List V} (ek : t.kind = tFun) (e : H' a = some (.ins k.fn dx (headT tFun t.name t.owner v ++ ([("mode", .str t.mode), ("_body", .ref pb)] : List (Str × V))))) (u : AuAt H' v t.au) (ep : H' pb = some (.lst xs)) (hd : Deeds c H' xs t.body) (fr : ∀ p, v = .ref p → H p = none) (np : H pb = none) (s : Same H H') : ThN c k H H' a t :=
  ⟨⟨fun _ => ⟨dx, v, pb, xs, e, u, ep, hd⟩, fun n => absurd ek n⟩, fun D zs ys eD => ⟨fun _ => ⟨dx, v, pb, xs, ins_own e s eD, au_own u fr eD, by rw [upd_ne (fun z => by rw [← z, np] at eD; cases eD)]; exact ep, deeds_own hd s eD⟩, fun n => absurd ek n⟩⟩
section
variable {P : Program} {w : World} {K : PySem.W.Frag} {mg : Str → Option Value} {base : Heap} {f : Addr} {fd : FuncData}
/-- a thing of its words -/
def spRdT (K : PySem.W.Frag) (c : Cs) (k : Ks) (kd : Str) : Sp := fun vs H Q _ => ∃ (p : Addr) (t : Th), vs = [.ref p] ∧ SqL K H p ((thW t).map V.str) ∧ okT t ∧ t.kind = kd ∧ ∀ a H', Same H H' → ThN c k H H' a t → Q (.ref a) H'
theorem plain_w {t : Th} (ok : okT t) (nf : t.kind ≠ tFun) : thW t = [t.kind, t.name, t.owner] ++ auW t.au := by
  unfold thW headW
  rw [(ok.no nf).2, if_neg nf]
  show [t.kind, t.name, t.owner] ++ ([] ++ auW t.au) ++ [] = _
  rw [List.append_nil, List.nil_append]
theorem au_names {u : Option (List Str)} (h : ∀ zs, u = some zs → Aud zs ∧ sortedS zs = true) : ∀ zs, u = some zs → zs.length ≤ 8 ∧ ∀ y ∈ zs, nameT y = true ∧ txt y := fun zs e => ⟨(h zs e).1.1, (h zs e).1.2.2⟩
theorem th_plain {c : Cs} {k : Ks} {H : Hp} {a dx : Addr} {t : Th} {v : V} (nf : t.kind ≠ tFun) (e : H a = some (.ins (clsK k t.kind) dx (headT t.kind t.name t.owner v))) (u : AuAt H v t.au) : ThAt c k H a t :=
  ⟨fun z => absurd z nf, fun _ => ⟨dx, v, e, u⟩⟩
theorem ok_role_of {c : Cs} {k : Ks} {fR : Addr} {dR : FuncData} {gR : List Value → List Value → List Value} (F : Fun K "role_of" "role_of" s_role_of f fd) (MR : MkR P w K mg base "Role" tRol k.rol fR dR gR)
    (B : Df P w K mg base CX0 1 "behind_first" ["words", "count"] (spBF K)) (AI : Df P w K mg base CX0 1 "audience_in" ["words"] (spAI K)) : FnOk P w K mg base CX0 6 f fd ["words"] (spRdT K c k tRol) := by
  refine F.ok sc_role_of (fun vs H Q E h => by obtain ⟨p, t, rfl, _⟩ := h; rfl) (fun cdv A outer s H vs Q E hr h => ?_)
  obtain ⟨p, t, rfl, hS, ok, ek, q⟩ := h
  have hr1 := hr.mono (show 1 ≤ 5 by decide)
  refine ⟨_, PSs.nox (pss_cons (ps_asg (pe_df0 B hr1 (by rfl) (pa_cons (pv 0) (pa_cons pe_int pa_nil))) (pg_lst (n := 2) rfl (pgs_cons (pg_name (i := 1) sc_role_of.nd rfl (.inl rfl)) (pgs_cons (pg_name (i := 2) sc_role_of.nd rfl (.inl rfl)) pgs_nil))))
    (pss_one (ps_ret (pe_makeK (n := 2) MR.M MR.F hr (by rfl) MR.g MR.b1 pass0 (pa_cons (pv 1) (pa_cons (pv 2) pa_nil)) (pk_cons (pe_df0 AI hr1 (by rfl) (pa_cons (pe_slice sl_list (pv 0) (po_some pe_int) po_none) pa_nil)) pk_nil))))), ?_⟩
  have nf : t.kind ≠ tFun := by rw [ek]; exact fun z => fun_ne z.symm
  have ew := plain_w ok nf
  have lw := thW_len ok
  refine ⟨_, rfl, p, thW t, 2, rfl, hS, by decide, by decide, by rw [ew, List.length_append]; show 3 ≤ 3 + _; omega, by omega, fun r1 H1 s1 nr e1 => ?_⟩
  have e1 : H1 r1 = some (.lst [.str t.name, .str t.owner]) := by
    rw [e1, ew]
    rfl
  refine ⟨r1, _, rfl, SqL.of e1, rfl, ?_⟩
  refine ⟨_, _, rfl, _, _, rfl, rfl, ?_⟩
  refine ⟨_, rfl, _, rfl, _, rfl, 3, rfl, p, _, rfl, SqL.ext hS s1, fun r2 nr2 => ?_⟩
  rw [cutV_back (by decide), show (3 : Int).toNat = 3 from rfl, ← List.map_drop, ew]
  have ed : ([t.kind, t.name, t.owner] ++ auW t.au).drop 3 = auW t.au := rfl
  rw [ed]
  have s2 := same_upd (o := .lst ((auW t.au).map V.str)) nr2
  have e2 : (upd H1 r2 (.lst ((auW t.au).map V.str))) r2 = some (.lst ((auW t.au).map V.str)) := upd_same
  generalize upd H1 r2 (.lst ((auW t.au).map V.str)) = H2 at s2 e2 ⊢
  refine ⟨r2, t.au, rfl, SqL.of e2, au_names ok.au, fun xv H3 s3 ax => ⟨rfl, rfl, fun x dx nx nd ne => ?_⟩⟩
  refine mk_initN ok.n1 ok.n2 (given_of ax fun zs e => (ok.au zs e).1) (fun H' au' v' so sm ea ua fr => ?_) nx nd ne
  have eau := srt_self so fun zs e => (ok.au zs e).2
  rw [eau] at ua
  have s03 : Same H H3 := fun y o e => s3 _ _ (s2 _ _ (s1 _ _ e))
  refine q x H' (s03.trans sm) ((plainN (H := H3) (dx := dx) (v := v') nf ?_ ua fr sm).pre s03)
  rw [ek, cls_rol]
  exact ea
theorem ok_table_of {c : Cs} {k : Ks} {fR : Addr} {dR : FuncData} {gR : List Value → List Value → List Value} (F : Fun K "table_of" "table_of" s_table_of f fd) (MR : MkR P w K mg base "Table" tTab k.tab fR dR gR)
    (B : Df P w K mg base CX0 1 "behind_first" ["words", "count"] (spBF K)) (AI : Df P w K mg base CX0 1 "audience_in" ["words"] (spAI K)) : FnOk P w K mg base CX0 6 f fd ["words"] (spRdT K c k tTab) := by
  refine F.ok sc_table_of (fun vs H Q E h => by obtain ⟨p, t, rfl, _⟩ := h; rfl) (fun cdv A outer s H vs Q E hr h => ?_)
  obtain ⟨p, t, rfl, hS, ok, ek, q⟩ := h
  have hr1 := hr.mono (show 1 ≤ 5 by decide)
  refine ⟨_, PSs.nox (pss_cons (ps_asg (pe_df0 B hr1 (by rfl) (pa_cons (pv 0) (pa_cons pe_int pa_nil))) (pg_lst (n := 2) rfl (pgs_cons (pg_name (i := 1) sc_table_of.nd rfl (.inl rfl)) (pgs_cons (pg_name (i := 2) sc_table_of.nd rfl (.inl rfl)) pgs_nil))))
    (pss_one (ps_ret (pe_makeK (n := 2) MR.M MR.F hr (by rfl) MR.g MR.b1 pass0 (pa_cons (pv 1) (pa_cons (pv 2) pa_nil)) (pk_cons (pe_df0 AI hr1 (by rfl) (pa_cons (pe_slice sl_list (pv 0) (po_some pe_int) po_none) pa_nil)) pk_nil))))), ?_⟩
  have nf : t.kind ≠ tFun := by rw [ek]; exact fun z => fun_ne2 z.symm
  have ew := plain_w ok nf
  have lw := thW_len ok
  refine ⟨_, rfl, p, thW t, 2, rfl, hS, by decide, by decide, by rw [ew, List.length_append]; show 3 ≤ 3 + _; omega, by omega, fun r1 H1 s1 nr e1 => ?_⟩
  have e1 : H1 r1 = some (.lst [.str t.name, .str t.owner]) := by
    rw [e1, ew]
    rfl
  refine ⟨r1, _, rfl, SqL.of e1, rfl, ?_⟩
  refine ⟨_, _, rfl, _, _, rfl, rfl, ?_⟩
  refine ⟨_, rfl, _, rfl, _, rfl, 3, rfl, p, _, rfl, SqL.ext hS s1, fun r2 nr2 => ?_⟩
  rw [cutV_back (by decide), show (3 : Int).toNat = 3 from rfl, ← List.map_drop, ew]
  have ed : ([t.kind, t.name, t.owner] ++ auW t.au).drop 3 = auW t.au := rfl
  rw [ed]
  have s2 := same_upd (o := .lst ((auW t.au).map V.str)) nr2
  have e2 : (upd H1 r2 (.lst ((auW t.au).map V.str))) r2 = some (.lst ((auW t.au).map V.str)) := upd_same
  generalize upd H1 r2 (.lst ((auW t.au).map V.str)) = H2 at s2 e2 ⊢
  refine ⟨r2, t.au, rfl, SqL.of e2, au_names ok.au, fun xv H3 s3 ax => ⟨rfl, rfl, fun x dx nx nd ne => ?_⟩⟩
  refine mk_initN ok.n1 ok.n2 (given_of ax fun zs e => (ok.au zs e).1) (fun H' au' v' so sm ea ua fr => ?_) nx nd ne
  have eau := srt_self so fun zs e => (ok.au zs e).2
  rw [eau] at ua
  have s03 : Same H H3 := fun y o e => s3 _ _ (s2 _ _ (s1 _ _ e))
  refine q x H' (s03.trans sm) ((plainN (H := H3) (dx := dx) (v := v') nf ?_ ua fr sm).pre s03)
  rw [ek, cls_tab]
  exact ea
end
end K56
set_option maxHeartbeats 4000000
namespace K56
open PySem PySem.Spec PyProof.Rows L2 RL RE RN RM TL RQ RC
/-! ### a function read -/
theorem head_no {t : Th} (h : okT t) : ∀ w ∈ headW t, 58 ∉ tl w ∧ 59 ∉ tl w := by
  intro w hw
  have kd : 59 ∉ tl t.kind ∧ 58 ∉ tl t.kind := by
    rcases h.kd with e | e | e <;> rw [e] <;> exact n_dec (by decide +kernel)
  unfold headW at hw
  rcases List.mem_append.mp hw with hw | hw
  · simp only [List.mem_cons, List.not_mem_nil, or_false] at hw
    rcases hw with rfl | rfl | rfl
    · exact kd.symm
    · exact (low_no h.n1.1).symm
    · exact (low_no h.n2.1).symm
  · rcases List.mem_append.mp hw with hw | hw
    · split at hw
      · rename_i e
        rw [List.mem_singleton.mp hw]
        rcases (h.fn e).1 with e | e <;> rw [e]
        · exact (n_dec (by decide +kernel)).symm
        · exact (n_dec (by decide +kernel)).symm
      · cases hw
    · cases e : t.au with
      | none => rw [e] at hw; cases hw
      | some zs =>
        rw [e] at hw
        rcases List.mem_cons.mp hw with rfl | hw
        · exact (n_dec (by decide +kernel)).symm
        · exact (low_no ((h.au zs e).1.2.2 w hw).1).symm
theorem tyl {K : PySem.W.Frag} {H : Hp} {p : Addr} {xs : List V} (h : SqL K H p xs) : tyV K "list" (.ref p) H := .inl ⟨rfl, _, h⟩
theorem ne_co {w : Str} (h : 58 ∉ tl w) : w ≠ tCo := fun e => h (by rw [e]; decide +kernel)
theorem eqV_str (a b : Str) : eqV (.str a) (.str b) = (a == b) := rfl
theorem co_in (ws : List Str) : inV (.str tCo) (ws.map V.str) = ws.any fun w => w == tCo := by
  unfold inV
  rw [List.any_map]
  rfl
theorem bodyW_tail (ds : List Dm) : (bodyW ds).drop 1 = tailW ds := by
  cases ds with
  | nil => rfl
  | cons d ds => rfl
def tHead (K : PySem.W.Frag) (p : Addr) (t : Th) : TE := fun σ H Q => σ[0]? = some (some (.ref p)) ∧ SqL K H p ((thW t).map V.str) ∧ okT t ∧ ∀ ph H', Same H H' → SqL K H' ph ((headW t).map V.str) → Q (.ref ph) H'
section
variable {P : Program} {w : World} {K : PySem.W.Frag} {mg : Str → Option Value} {base : Heap} {f : Addr} {fd : FuncData}
/-- read_from of a deed -/
def spRFD (K : PySem.W.Frag) (c : Cs) : Sp := fun vs H Q E => spRF K tGiv (spRdD K c isG) vs H Q E ∨ spRF K tCll (spRdD K c isC) vs H Q E
theorem rfd {c : Cs} {H : Hp} {p al : Addr} {d : Dm} {Q : VK} {E : XK} (hS : SqL K H p ((wordsD d).map V.str)) (ok : okD d) (hA : SqT K H al ([tGiv, tCll].map V.str)) (q : ∀ a H', Same H H' → H a = none → DeedAt c H' a d → Q (.ref a) H') : spRFD K c [.ref p, .ref al] H Q E := by
  cases d with
  | call n => exact .inr ⟨p, al, _, _, rfl, hS, rfl, hA, by simp, p, .call n, rfl, hS, ok, rfl, q⟩
  | give r t k o => exact .inl ⟨p, al, _, _, rfl, hS, rfl, hA, by simp, p, .give r t k o, rfl, hS, ok, rfl, q⟩
theorem head_case {t : Th} (ok : okT t) {X : Cx} {p : Addr} {e1 e2 : Expr} : True := trivial
theorem ok_function_of {c : Cs} {k : Ks} {fF : Addr} {dF : FuncData} {gF : List Value → List Value → List Value} (F : Fun K "function_of" "function_of" s_function_of f fd) (MF : MkFn P w K mg base c k.fn fF dF gF)
    (B : Df P w K mg base CX0 1 "behind_first" ["words", "count"] (spBF K)) (AI : Df P w K mg base CX0 1 "audience_in" ["words"] (spAI K)) (PO_ : Df P w K mg base CX0 1 "parts_of" ["words"] (spPO K)) (RF : Df P w K mg base CX0 7 "read_from" ["words", "allowed"] (spRFD K c)) (ml : mg "len" = none) :
    FnOk P w K mg base CX0 8 f fd ["words"] (spRdT K c k tFun) := by
  refine F.ok sc_function_of (fun vs H Q E h => by obtain ⟨p, t, rfl, _⟩ := h; rfl) (fun cdv A outer s H vs Q E hr h => ?_)
  obtain ⟨p, t, rfl, hS, ok, ek, q⟩ := h
  have hr1 := hr.mono (show 1 ≤ 7 by decide)
  have hr5 := hr.mono (show 5 ≤ 7 by decide)
  refine ⟨_, PSs.nox (pss_cons (ps_set (i := 1) sc_function_of.nd rfl (.inl rfl) (PEw (u := tHead K p t) (pe_ifExp (pt_cmpR op_in_seq pe_str (pv 0) (by rfl)) (pe_slice sl_list (pv 0) po_none (po_some (pe_bm PySem.F.plainAttrs_list PySem.F.slot_list_index PySem.F.type_list_index mt_index (pv 0) (pa_cons pe_str pa_nil)))) (pv 0)) ?w1))
    (pss_cons (ps_asg (pe_df0 B hr1 (by rfl) (pa_cons (pv 1) (pa_cons pe_int pa_nil))) (pg_lst (n := 3) rfl (pgs_cons (pg_name (i := 2) sc_function_of.nd rfl (.inl rfl)) (pgs_cons (pg_name (i := 3) sc_function_of.nd rfl (.inl rfl)) (pgs_cons (pg_name (i := 4) sc_function_of.nd rfl (.inl rfl)) pgs_nil)))))
    (pss_cons (ps_setLc (i := 5) (own := [("part", 6)]) (g := gName 6) (by rfl) sc_function_of.nd rfl rfl (sw_true rfl rfl rfl (by decide +kernel)) (pi_list (pe_df0 PO_ hr1 (by rfl) (pa_cons (pe_slice sl_list (pv 0) (po_some (pe_op op_add (pe_callB call_len_seq (by rfl) ml PySem.boot_len (pa_cons (pv 1) pa_nil)) pe_int)) po_none) pa_nil)))
        (blkOk_by (own := [("part", 6)]) (N := N_function_of) (sc := defScope s_function_of) (by decide +kernel)) (fun _ _ _ _ _ => pg_name (i := 6) sc_function_of.nd rfl (Or.inl rfl)) (fun _ _ _ _ _ => pts_nil)
        (fun _ _ _ _ _ => pe_df0 RF hr (by rfl) (pa_cons (pv 6) (pa_cons (pe_tup (pa_cons pe_str (pa_cons pe_str pa_nil))) pa_nil))))
    (pss_one (ps_ret (pe_makeK (n := 2) MF.M MF.F hr5 (by rfl) MF.g MF.b1 pass0 (pa_cons (pv 2) (pa_cons (pv 3) pa_nil)) (pk_cons (pe_df0 AI hr1 (by rfl) (pa_cons (pe_slice sl_list (pv 1) (po_some pe_int) po_none) pa_nil)) (pk_cons (pv 4) (pk_cons (pv 5) pk_nil))))))))), ?main⟩
  case w1 =>
    intro σ H1 Q1 h
    obtain ⟨e0, hS1, _, q1⟩ := h
    refine ⟨_, e0, p, _, rfl, .inl hS1, rfl, ?_, _, rfl, ?_⟩
    · rw [List.all_map, List.all_eq_true]
      exact fun _ _ => rfl
    have hn : ∀ w ∈ headW t, (w == tCo) = false := fun w hw => beq_eq_false_iff_ne.mpr (ne_co (head_no ok w hw).1)
    cases hb : t.body with
    | nil =>
      have ew : thW t = headW t := by
        unfold thW
        rw [hb]
        exact List.append_nil _
      refine ite2 (fun e => ?_) (fun _ => ?_)
      · have e : inV (.str tCo) ((thW t).map V.str) = true := e
        rw [co_in, ew, List.any_eq_true] at e
        obtain ⟨w, hw, e⟩ := e
        rw [hn w hw] at e
        cases e
      · refine ⟨_, e0, q1 p H1 (fun _ _ e => e) ?_⟩
        rw [← ew]
        exact hS1
    | cons d ds =>
      have ew : thW t = headW t ++ tCo :: (wordsD d ++ moreW ds) := by
        unfold thW
        rw [hb]
        rfl
      refine ite2 (fun _ => ?_) (fun e => ?_)
      · refine ⟨_, e0, _, e0, tyl hS1, p, _, .str tCo, (headW t).length, .str tCo, rfl, rfl, hS1, rfl, ?_, ?_, ?_, ?_, ?_⟩
        · rw [List.all_map, List.all_eq_true]
          exact fun _ _ => rfl
        · rw [ew, List.getElem?_map, List.getElem?_append_right (Nat.le_refl _), Nat.sub_self]
          rfl
        · rw [eqV_str]
          exact beq_self_eq_true _
        · intro m z' hm hz
          rw [ew, List.getElem?_map, List.getElem?_append_left hm, List.getElem?_eq_getElem hm] at hz
          cases hz
          rw [eqV_str]
          exact hn _ (List.getElem_mem hm)
        · refine ⟨_, rfl, p, _, rfl, hS1, fun r nr => ?_⟩
          rw [cutV_front (by omega), show (((headW t).length : Nat) : Int).toNat = (headW t).length from rfl, ← List.map_take, ew, List.take_left]
          exact q1 r _ (same_upd nr) (SqL.of upd_same)
      · refine absurd ?_ e
        show inV (.str tCo) ((thW t).map V.str) = true
        rw [co_in, ew, List.any_eq_true]
        exact ⟨tCo, by simp, beq_self_eq_true _⟩
  case main =>
    have lw := headW_len ok
    have lt := thW_len ok
    have eh : headW t = [t.kind, t.name, t.owner, t.mode] ++ auW t.au := by
      unfold headW
      rw [if_pos ek]
      rfl
    refine ⟨rfl, hS, ok, fun ph H1 s1 hH => ?_⟩
    refine ⟨_, rfl, ph, headW t, 3, rfl, hH, by decide, by decide, by rw [eh, List.length_append]; show 4 ≤ 4 + _; omega, by omega, fun r1 H2 s2 nr e1 => ?_⟩
    have e1 : H2 r1 = some (.lst [.str t.name, .str t.owner, .str t.mode]) := by
      rw [e1, eh]
      rfl
    refine ⟨r1, _, rfl, SqL.of e1, rfl, ?_⟩
    refine ⟨_, _, rfl, _, _, rfl, _, _, rfl, rfl, ?_⟩
    have s02 : Same H H2 := fun x y e => s2 _ _ (s1 _ _ e)
    refine ⟨_, rfl, _, rfl, ph, _, rfl, .inl (SqL.ext hH s2), _, 1, rfl, rfl, _, rfl, p, _, rfl, SqL.ext hS s02, fun r2 nr2 => ?_⟩
    have ec : cutV ((thW t).map V.str) (some ((((headW t).map V.str).length : Nat) + 1)) none = (tailW t.body).map V.str := by
      rw [cutV_back (by omega), List.length_map, show ((((headW t).length : Nat) : Int) + 1).toNat = (headW t).length + 1 from rfl, ← List.map_drop]
      congr 1
      unfold thW
      rw [← List.drop_drop, List.drop_left, bodyW_tail]
    rw [ec]
    have s3 := same_upd (o := .lst ((tailW t.body).map V.str)) nr2
    have e2 : (upd H2 r2 (.lst ((tailW t.body).map V.str))) r2 = some (.lst ((tailW t.body).map V.str)) := upd_same
    generalize upd H2 r2 (.lst ((tailW t.body).map V.str)) = H3 at s3 e2 ⊢
    refine ⟨r2, t.body, rfl, SqL.of e2, ok.okb, ok.len4, fun rp rs H4 s4 erp hL => ?_⟩
    have l4 := ok.len4
    have hl : rs.length = t.body.length := by rw [hL.1, List.length_map]
    refine ⟨rp, rfl, ⟨_, SqL.of erp⟩, fun D nD => lc_list (K := K) (xs := rs.map V.ref) (fun i H' => ∃ as, H' D = some (.lst as) ∧ Deeds c H' as (t.body.take i) ∧ Same H4 H') ⟨[], upd_same, ⟨rfl, fun i x d h1 h2 => by cases h1⟩, same_upd nD⟩ (fun i H' _ h => by
      obtain ⟨_, _, _, s5⟩ := h
      exact SqL.of (s5 _ _ erp)) ?_ ?_⟩
    · intro i x H5 hx h
      obtain ⟨as, eD, hD, s5⟩ := h
      have hi : i < rs.length := by
        rw [← List.length_map (f := V.ref)]
        exact (List.getElem?_eq_some_iff.mp hx).1
      have ex : x = .ref rs[i] := by
        rw [List.getElem?_map, List.getElem?_eq_getElem hi] at hx
        exact (Option.some.inj hx).symm
      have hi2 : i < t.body.length := by omega
      have ep := hL.2 i rs[i] (wordsD t.body[i]) (List.getElem?_eq_getElem hi) (by rw [List.getElem?_map, List.getElem?_eq_getElem hi2]; rfl)
      refine ⟨rfl, ?_⟩
      unfold tYes
      refine iteT ?_
      refine ⟨_, rfl, by show 2 ≤ sizeLine; decide, fun al nal => ?_⟩
      rw [ex]
      have s6 := same_upd (o := .tup [.str tGiv, .str tCll]) nal
      have ea : (upd H5 al (.tup [.str tGiv, .str tCll])) al = some (.tup [.str tGiv, .str tCll]) := upd_same
      generalize upd H5 al (.tup [.str tGiv, .str tCll]) = H6 at s6 ea ⊢
      refine rfd (SqL.of (s6 _ _ (s5 _ _ ep))) (ok.okb _ (List.getElem_mem hi2)) (SqT.of ea) fun a H7 s7 na hd => ?_
      refine ⟨as, s7 _ _ (s6 _ _ eD), ?_, as ++ [.ref a], ?_, ?_, ?_⟩
      · have := hD.1
        rw [this, List.length_take]
        exact Nat.lt_of_lt_of_le (show min i t.body.length < 1000 by omega) (by decide)
      · rw [upd_same]
      · have nDs : ∀ u d, DeedAt c H7 u d → u ≠ D := fun u d h z => by
          obtain ⟨dy, e⟩ := h
          rw [z, s7 _ _ (s6 _ _ eD)] at e
          cases e
        refine ⟨by rw [List.length_append, hD.1, List.take_add_one, List.getElem?_eq_getElem hi2, List.length_append]; rfl, fun j x d h1 h2 => ?_⟩
        rw [List.take_add_one, List.getElem?_eq_getElem hi2] at h2
        have up : ∀ u, DeedAt c H7 u d → DeedAt c (L2.upd H7 D (.lst (as ++ [.ref a]))) u d := fun u h => by
          have n := nDs u d h
          obtain ⟨dy, e⟩ := h
          exact ⟨dy, by rw [upd_ne n]; exact e⟩
        by_cases hj : j < as.length
        · rw [List.getElem?_append_left hj] at h1
          rw [List.getElem?_append_left (by rw [← hD.1]; exact hj)] at h2
          obtain ⟨u, e, hu⟩ := hD.2 j x d h1 h2
          obtain ⟨dy, eu⟩ := hu
          exact ⟨u, e, up u ⟨dy, s7 _ _ (s6 _ _ eu)⟩⟩
        · rw [List.getElem?_append_right (by omega)] at h1
          rw [List.getElem?_append_right (by rw [← hD.1]; omega), ← hD.1] at h2
          cases hjj : j - as.length with
          | zero =>
            rw [hjj] at h1 h2
            have h1 : some (V.ref a) = some x := h1
            have h2 : some t.body[i] = some d := h2
            cases h1
            cases h2
            exact ⟨a, rfl, up a hd⟩
          | succ j => rw [hjj] at h1; simp at h1
      · intro y o ey
        rw [upd_ne (fun z => by rw [z, nD] at ey; cases ey)]
        exact s7 _ _ (s6 _ _ (s5 _ _ ey))
    · intro H5 h
      obtain ⟨as, eD, hD, s5⟩ := h
      rw [List.length_map, hl, List.take_length] at hD
      have s05 : Same H1 H5 := fun x y e => s5 _ _ (s4 _ _ (s3 _ _ (s2 _ _ e)))
      refine ⟨_, rfl, _, rfl, _, rfl, 4, rfl, ph, _, rfl, SqL.ext hH s05, fun r3 nr3 => ?_⟩
      rw [cutV_back (by decide), show (4 : Int).toNat = 4 from rfl, ← List.map_drop, eh]
      have ed : ([t.kind, t.name, t.owner, t.mode] ++ auW t.au).drop 4 = auW t.au := rfl
      rw [ed]
      have s6 := same_upd (o := .lst ((auW t.au).map V.str)) nr3
      have e3 : (upd H5 r3 (.lst ((auW t.au).map V.str))) r3 = some (.lst ((auW t.au).map V.str)) := upd_same
      generalize upd H5 r3 (.lst ((auW t.au).map V.str)) = H6 at s6 e3 ⊢
      refine ⟨r3, t.au, rfl, SqL.of e3, au_names ok.au, fun xv H7 s7 ax => ⟨_, rfl, _, rfl, rfl, rfl, fun x dx nx nd ne => ?_⟩⟩
      have s57 : Same H5 H7 := fun x y e => s7 _ _ (s6 _ _ e)
      refine mk_initFN ok.n1 ok.n2 (given_of ax fun zs e => (ok.au zs e).1) (ok.fn ek).1 (.inl (s57 _ _ eD)) (hD.ext s57) ok.len4 (fun H' au' v' pb ys so sm ea ua epb hd fr np => ?_) nx nd ne
      have eau := srt_self so fun zs e => (ok.au zs e).2
      rw [eau] at ua
      have s07 : Same H H7 := fun y o e => s57 _ _ (s05 _ _ (s1 _ _ e))
      exact q x H' (s07.trans sm) ((funN ek ea ua epb hd fr np sm).pre s07)
end
end K56
set_option maxHeartbeats 4000000
namespace K56
open PySem PySem.Spec PyProof.Rows L2 RL RE RN RM TL RQ RC
/-! ### texts read back -/
theorem mem_joinL {S : List Nat} {x : Nat} : ∀ {ps : List (List Nat)}, x ∈ joinL S ps → x ∈ S ∨ ∃ q ∈ ps, x ∈ q
  | [], h => by cases h
  | [q], h => .inr ⟨q, List.mem_singleton.mpr rfl, h⟩
  | q :: r :: t, h => by
    have h : x ∈ q ++ (S ++ joinL S (r :: t)) := h
    rcases List.mem_append.mp h with h | h
    · exact .inr ⟨q, List.mem_cons_self .., h⟩
    · rcases List.mem_append.mp h with h | h
      · exact .inl h
      · rcases mem_joinL h with h | ⟨z, hz, h⟩
        · exact .inl h
        · exact .inr ⟨z, List.mem_cons_of_mem _ hz, h⟩
theorem no_lf {ws : List Str} (h : ∀ w ∈ ws, wOk w) : 10 ∉ tl (txtW ws) := fun hm => by
  rw [tl_txtW] at hm
  rcases mem_joinL hm with hm | ⟨q, hq, hm⟩
  · simp at hm
  · obtain ⟨w, hw, rfl⟩ := List.mem_map.mp hq
    exact ((h w hw).ok 10 hm).2.1 rfl
theorem no_empty {ws : List Str} (h : ∀ w ∈ ws, wOk w) : inV (.str (Str.ofString "")) (ws.map V.str) = false := by
  unfold inV
  rw [List.any_map, List.any_eq_false]
  intro w hw e
  have e : (w == Str.ofString "") = true := e
  have e2 := beq_iff_eq.mp e
  exact (h w hw).ne (by rw [e2]; rfl)
section
variable {P : Program} {w : World} {K : PySem.W.Frag} {mg : Str → Option Value} {base : Heap} {f : Addr} {fd : FuncData}
def spSW (K : PySem.W.Frag) : Sp := fun vs H Q _ => ∃ (ws : List Str), vs = [.str (txtW ws), .str ⟨#[32]⟩] ∧ ws ≠ [] ∧ (∀ w ∈ ws, wOk w) ∧ ws.length ≤ 60 ∧ ∀ H' p, Same H H' → H p = none → H' p = some (.lst (ws.map V.str)) → Q (.ref p) H'
theorem ok_split {dvs : List V} {kws : List (Str × V)} (F : FunD K "split_words" "split_words" (defArgs s_split_words) (defBody s_split_words) (defScope s_split_words) dvs kws f fd) (mi : mg "isinstance" = none) (ms : mg "str" = none) : FnOk P w K mg base CX0 1 f fd ["text", "separator"] (spSW K) := by
  refine F.ok sc_split_words (fun vs H Q E h => by obtain ⟨ws, rfl, _⟩ := h; rfl) (fun cdv A outer s H vs Q E hr h => ?_)
  obtain ⟨ws, rfl, ne, ok, l60, q⟩ := h
  refine ⟨_, PSs.nox (pss_cons (ps_if (PW.pt (pw_or (pt_not (pt_val (pe_callB call_isi (by rfl) mi boot_isinstance (pa_cons (pv 0) (pa_cons (pe_bltn (v := .ty "str") (by rfl) ms PyProof.Rows.boot_str rfl) pa_nil))))) (pw_or1 (pt_cmpR op_in_sign pe_str (pv 0) (by rfl))))) (pss_one (ps_ret pe_non)) pss_nil)
      (pss_cons (ps_set (i := 2) sc_split_words.nd rfl (.inl rfl) (pe_split (pv 0) (pv 1)))
      (pss_cons (ps_if (pt_cmpR op_in_seq pe_str (pv 2) (by rfl)) (pss_one (ps_ret pe_non)) pss_nil)
      (pss_one (ps_ret (pv 2)))))), ?_⟩
  refine ⟨_, rfl, .str _, .ty "str", .type "str", .type "str", true, rfl, .ty _, .base (.str _), kit_ty (by decide +kernel), true, rfl, ?_⟩
  show if (!true) = true then _ else _
  refine iteF ?_
  refine ⟨_, rfl, 10, _, rfl, rfl, _, rfl, ?_⟩
  refine ite2 (fun e => ?_) (fun e => ?_)
  · exact absurd (of_decide_eq_true e) (no_lf ok)
  have hl := txtW_len ok
  refine ⟨_, rfl, ⟨_, rfl⟩, _, rfl, _, ⟨#[32]⟩, rfl, rfl, rfl, ?_, fun p np => ?_⟩
  · show (txtW ws).length + 2 ≤ 2 ^ 24
    omega
  have es : Txt.split (txtW ws) ⟨#[32]⟩ = ws := split_txtW ne fun w hw hc => ((ok w hw).ok 32 hc).1 rfl
  rw [es]
  have s1 := same_upd (o := .lst (ws.map V.str)) np
  have e1 : (upd H p (.lst (ws.map V.str))) p = some (.lst (ws.map V.str)) := upd_same
  generalize upd H p (.lst (ws.map V.str)) = H1 at s1 e1 ⊢
  refine ⟨_, rfl, p, ws.map V.str, rfl, .inl (SqL.of e1), rfl, ?_, _, rfl, ?_⟩
  · rw [List.all_map, List.all_eq_true]
    exact fun _ _ => rfl
  refine ite2 (fun e2 => ?_) (fun _ => ?_)
  · have e2 : inV (.str (Str.ofString "")) (ws.map V.str) = true := e2
    rw [no_empty ok] at e2
    cases e2
  · exact ⟨_, rfl, q H1 p s1 np e1⟩
/-- str of a thing of any kind -/
structure SS (P : Program) (w : World) (K : PySem.W.Frag) (mg : Str → Option Value) (base : Heap) (c : Cs) (k : Ks) : Prop where
  H : ∀ kd, isKd kd → kd ≠ tFun → ∃ (f : Addr) (fd : FuncData), FnOk P w K mg base CX0 2 f fd ["self"] (spStrH c k (clsK k kd)) ∧ PySem.W.findIn K (.ref (clsK k kd)) "__str__" = some (some (.ref f)) ∧ PySem.W.isFn K (.ref f) = true ∧ Binds K fd ["self"] []
  F : ∃ (f : Addr) (fd : FuncData), FnOk P w K mg base CX0 4 f fd ["self"] (spStrF c k) ∧ PySem.W.findIn K (.ref k.fn) "__str__" = some (some (.ref f)) ∧ PySem.W.isFn K (.ref f) = true ∧ Binds K fd ["self"] []
end
def rStrT (c : Cs) (k : Ks) : List V → Hp → VK → Prop := fun xs H Q => ∃ (a : Addr) (t : Th), xs = [.ref a] ∧ ThAt c k H a t ∧ okT t ∧ ∀ H', Ext H H' → Q (.str (txtW (thW t))) H'
theorem call_strT {X : Cx} {c : Cs} {k : Ks} (D : SS X.prog X.w X.K X.mg X.base c k) (hr : Room 6 X.A) : CallR X (.type "str") (rStrT c k) := by
  intro pins s σ H xs us Q I r h
  obtain ⟨a, t, rfl, hT, ok, q⟩ := h
  by_cases ek : t.kind = tFun
  · obtain ⟨f1, fd1, F1, s1, i1, b1⟩ := D.F
    obtain ⟨dx, v, p, xs, ea, _⟩ := hT.fn ek
    exact call_strO F1 hr s1 i1 b1 pass0 pins s σ H _ us Q I r ⟨a, dx, _, rfl, ea, a, t, rfl, hT, ok, ek, fun H' x => ⟨_, rfl, q H' x⟩⟩
  · obtain ⟨f1, fd1, F1, s1, i1, b1⟩ := D.H _ ok.kd ek
    obtain ⟨dx, v, ea, _⟩ := hT.ot ek
    exact call_strO F1 (hr.mono (by decide)) s1 i1 b1 pass0 pins s σ H _ us Q I r ⟨a, dx, _, rfl, ea, a, t, rfl, hT, ok, ek, rfl, fun H' x => ⟨_, rfl, q H' x⟩⟩
section
variable {P : Program} {w : World} {K : PySem.W.Frag} {mg : Str → Option Value} {base : Heap} {f : Addr} {fd : FuncData}
/-- the classes of things, as isinstance sees them -/
structure KI (K : PySem.W.Frag) (mg : Str → Option Value) (k : Ks) (cD cT : Addr) : Prop where
  t : ∀ kd, isKd kd → TyC K (clsK k kd)
  gD : mg "Deed" = some (.ref cD)
  gT : mg "Thing" = some (.ref cT)
  gRol : mg "Role" = some (.ref k.rol)
  gTab : mg "Table" = some (.ref k.tab)
  gFun : mg "Function" = some (.ref k.fn)
  dt : ∀ kd, isKd kd → PySem.W.kitAny K (.ref (clsK k kd)) [.ref cD, .ref cT] = some true
  rtf : ∀ kd, isKd kd → PySem.W.kitAny K (.ref (clsK k kd)) [.ref k.rol, .ref k.tab, .ref k.fn] = some true
theorem ThAt.ty {c : Cs} {k : Ks} {cD cT : Addr} {H : Hp} {a : Addr} {t : Th} (I : KI K mg k cD cT) (h : ThAt c k H a t) (ok : okT t) : TyX K H (.ref a) (.ref (clsK k t.kind)) := by
  obtain ⟨dx, fs, v, ea, _⟩ := h.head
  exact (I.t _ ok.kd).ty ea
def spTO (c : Cs) (k : Ks) : Sp := fun vs H Q _ => ∃ (a : Addr) (t : Th), vs = [.ref a] ∧ ThAt c k H a t ∧ okT t ∧ ∀ H', Same H H' → Q (.str (txtW (thW t))) H'
theorem ok_text_of {c : Cs} {k : Ks} {cD cT : Addr} (F : Fun K "text_of" "text_of" s_text_of f fd) (I : KI K mg k cD cT) (D : SS P w K mg base c k) (mi : mg "isinstance" = none) (ms : mg "str" = none) : FnOk P w K mg base CX0 7 f fd ["item"] (spTO c k) := by
  refine F.ok sc_text_of (fun vs H Q E h => by obtain ⟨a, t, rfl, _⟩ := h; rfl) (fun cdv A outer s H vs Q E hr h => ?_)
  obtain ⟨a, t, rfl, hT, ok, q⟩ := h
  refine ⟨_, PSs.nox (pss_cons (ps_if (pt_val (pe_callB call_isiT (by rfl) mi boot_isinstance (pa_cons (pv 0) (pa_cons (pe_tup (pa_cons (pe_glob (v := .ref cD) (by rfl) I.gD rfl) (pa_cons (pe_glob (v := .ref cT) (by rfl) I.gT rfl) pa_nil))) pa_nil))))
      (pss_one (ps_ret (pe_callTy (r := rStrT c k) (call_strT D hr) (by rfl) ms PyProof.Rows.boot_str (pa_cons (pv 0) pa_nil)))) pss_nil)
    (pss_cons (ps_if pt_never (pss_one ps_never) pss_nil) (pss_one ps_never))), ?_⟩
  refine ⟨_, rfl, by show 2 ≤ sizeLine; decide, fun p np => ?_⟩
  have s1 := same_upd (o := .tup [.ref cD, .ref cT]) np
  have e1 : (upd H p (.tup [.ref cD, .ref cT])) p = some (.tup [.ref cD, .ref cT]) := upd_same
  generalize upd H p (.tup [.ref cD, .ref cT]) = H1 at s1 e1 ⊢
  refine ⟨.ref a, p, _, _, _, true, rfl, e1, .cons (.own _) (.cons (.own _) .nil), (hT.same s1).ty I ok, I.dt _ ok.kd, _, rfl, ?_⟩
  refine iteT ⟨_, rfl, a, t, rfl, hT.same s1, ok, fun H' x => ?_⟩
  exact q H' fun y o e => x _ _ (s1 _ _ e)
end
end K56
set_option maxHeartbeats 4000000
namespace K5F
open PySem PySem.Spec PyProof.Rows L2 RL RE RN RM TL RQ K56
/-- a tuple or list of the module with these texts -/
def KTup (K : PySem.W.Frag) (a : Addr) (zs : List Str) : Prop :=
  ∃ (o : Obj) (its : Array Value) (n : Nat), K.lookup a = some o ∧ o.cls = .type "tuple" ∧ o.data = .seq its n ∧ its.size ≤ sizeLine ∧ Vals (zs.map V.str) its.toList
theorem KTup.sq {K : PySem.W.Frag} {a : Addr} {zs : List Str} {H : Hp} (h : KTup K a zs) : SqT K H a (zs.map V.str) := .inr h
/-- KIND_BY_RIGHT -/
structure KRight (K : PySem.W.Frag) (w : World) (d : Addr) : Prop where
  dict : ∃ es n, KDict K w d es n
  get : ∀ z, ∃ r, PySem.W.nsIn K d z = some r ∧ r.isSome = (kindT z).isSome ∧ ∀ k, kindT z = some k → ∃ t, r = some (.str k t)
/-- a value of a row -/
def Od (K : PySem.W.Frag) (H : Hp) (v : V) : Prop := OdV K H v ∧ ∀ z, v = .str z → z.length ≤ 1000 ∧ ∀ x ∈ tl z, x < 256
theorem le_ite {z : Str} {n : Nat} (h : z.length ≤ 1000) (hn : 1000 ≤ n) : z.length ≤ n := Nat.le_trans h hn
theorem nameT_no1 {z : Str} (h : ¬ 1 ≤ z.length) : nameT z = false := by
  unfold nameT
  rw [decide_eq_false h]
  simp
theorem nameT_no8 {z : Str} (h : ¬ z.length ≤ 8) : nameT z = false := by
  unfold nameT
  rw [decide_eq_false h]
  simp
theorem inV2 (z a b : Str) : inV (.str z) [.str a, .str b] = (z == a || z == b) := by
  show ((a == z) || ((b == z) || false)) = _
  rw [Bool.or_false, BEq.comm (a := a), BEq.comm (a := b)]
theorem nameT_eq {z : Str} (h1 : 1 ≤ z.length) (h8 : z.length ≤ 8) : nameT z = (Txt.isascii z && (Txt.isalpha z && (Txt.islower z && !(inV (.str z) [.str tPub, .str tCal])))) := by
  have e := low_eq z
  have h0 : decide (0 < z.length) = true := decide_eq_true (by omega)
  rw [h0, Bool.true_and] at e
  unfold nameT
  rw [decide_eq_true h1, decide_eq_true h8, ← e, inV2]
  cases Txt.isascii z <;> cases Txt.isalpha z <;> cases Txt.islower z <;> cases (z == tPub) <;> cases (z == tCal) <;> rfl
section
variable {P : Program} {w : World} {K : PySem.W.Frag} {mg : Str → Option Value} {base : Heap} {f : Addr} {fd : FuncData}
def spP (K : PySem.W.Frag) (p : V → Bool) : Sp := fun vs H Q _ => ∃ v, vs = [v] ∧ Od K H v ∧ Q (.bl (p v)) H
theorem spP_len {p : V → Bool} : ∀ vs H Q E, spP K p vs H Q E → vs.length = 1 := fun vs H Q E h => by
  obtain ⟨v, rfl, _⟩ := h
  rfl
theorem ok_is_name {aR : Addr} {tL : Tok} (F : Fun K "is_name" "is_name" s_is_name f fd) (mi : mg "isinstance" = none) (ms : mg "str" = none) (ml : mg "len" = none) (mL : mg "LONGEST_NAME" = some (.int 8 tL)) (mR : mg "RESERVED" = some (.ref aR)) (hR : KTup K aR [tPub, tCal]) :
    FnOk P w K mg base CX0 1 f fd ["value"] (spP K isName) := by
  refine F.ok sc_is_name spP_len (fun cdv A outer s H vs Q E hr h => ?_)
  obtain ⟨v, rfl, hv, q⟩ := h
  refine ⟨_, PSs.nox (pss_cons (ps_if (PW.pt (pw_or (pt_not (pt_val (pe_callB call_isi (by rfl) mi boot_isinstance (pa_cons (pv 0) (pa_cons (pe_bltn (v := .ty "str") (by rfl) ms PyProof.Rows.boot_str rfl) pa_nil)))))
      (pw_or1 (pt_not (pt_chain op_le op_le pe_int (pe_callB call_len_str (by rfl) ml PySem.boot_len (pa_cons (pv 0) pa_nil)) (pe_glob (v := .int 8) (by rfl) mL ⟨_, rfl⟩)))))) (pss_one (ps_ret pe_bl)) pss_nil)
    (pss_one (ps_ret (pe_and (pe_m0 PySem.F.slot_str_isascii PySem.F.type_str_isascii mt_isascii (pv 0)) (pe_and (pe_m0 PySem.F.slot_str_isalpha PySem.F.type_str_isalpha mt_isalpha (pv 0)) (pe_and (pe_m0 PySem.F.slot_str_islower PySem.F.type_str_islower mt_islower (pv 0))
      (pe_one (pe_cmpR op_notIn_seq (pv 0) (pe_glob (v := .ref aR) (by rfl) mR rfl) (by rfl))))))))), ?_⟩
  obtain ⟨t, ht, hs, hb⟩ := od_ty hv.1
  refine ⟨_, rfl, v, .ty "str", t, .type "str", _, rfl, .ty _, ht, hs, _, rfl, ?_⟩
  cases hS : isS v with
  | false =>
    rw [notS_name hS] at q
    exact iteT q
  | true =>
    obtain ⟨z, rfl⟩ := isS_str hS
    have hz := (hv.2 z rfl).1
    refine iteF ?_
    refine ⟨_, rfl, z, rfl, Nat.le_trans hz (by decide), 1, z.length, rfl, rfl, _, rfl, ?_⟩
    by_cases h1 : 1 ≤ z.length
    · have e1 : decide ((1 : Int) ≤ (z.length : Nat)) = true := decide_eq_true (by omega)
      rw [e1]
      refine iteT ⟨z.length, 8, rfl, rfl, _, rfl, ?_⟩
      by_cases h8 : z.length ≤ 8
      · have e2 : decide (((z.length : Nat) : Int) ≤ 8) = true := decide_eq_true (by omega)
        rw [e2]
        refine iteF ?_
        have e := nameT_eq h1 h8
        have q : Q (.bl (nameT z)) H := q
        rw [e] at q
        refine ⟨_, rfl, ⟨z, rfl⟩, z, rfl, rfl, trivial, _, rfl, ?_⟩
        cases hA : Txt.isascii z with
        | false => rw [hA] at q; exact iteF q
        | true =>
          rw [hA] at q
          refine iteT ⟨_, rfl, ⟨z, rfl⟩, z, rfl, rfl, trivial, _, rfl, ?_⟩
          cases hB : Txt.isalpha z with
          | false => rw [hB] at q; exact iteF q
          | true =>
            rw [hB] at q
            refine iteT ⟨_, rfl, ⟨z, rfl⟩, z, rfl, rfl, trivial, _, rfl, ?_⟩
            cases hC : Txt.islower z with
            | false => rw [hC] at q; exact iteF q
            | true =>
              rw [hC] at q
              exact iteT ⟨_, rfl, aR, _, rfl, .inr hR.sq, rfl, rfl, q⟩
      · have e2 : decide (((z.length : Nat) : Int) ≤ 8) = false := decide_eq_false (by omega)
        rw [e2]
        have q : Q (.bl (nameT z)) H := q
        rw [nameT_no8 h8] at q
        exact iteT q
    · have e1 : decide ((1 : Int) ≤ (z.length : Nat)) = false := decide_eq_false (by omega)
      rw [e1]
      have q : Q (.bl (nameT z)) H := q
      rw [nameT_no1 h1] at q
      exact ⟨_, rfl, iteT q⟩
end
end K5F
set_option maxHeartbeats 4000000
namespace K5F
open PySem PySem.Spec PyProof.Rows L2 RL RE RN RM TL RQ K56
section
variable {P : Program} {w : World} {K : PySem.W.Frag} {mg : Str → Option Value} {base : Heap} {f : Addr} {fd : FuncData}
theorem ok_is_taker {fN : Addr} {fdN : FuncData} (F : Fun K "is_taker" "is_taker" s_is_taker f fd) (N : FnOk P w K mg base CX0 1 fN fdN ["value"] (spP K isName)) (bN : Binds K fdN ["value"] []) (kN : PySem.W.keepIn K (.ref fN) = true) (gN : mg "is_name" = some (.ref fN)) :
    FnOk P w K mg base CX0 2 f fd ["value"] (spP K isTaker) := by
  refine F.ok sc_is_taker spP_len (fun cdv A outer s H vs Q E hr h => ?_)
  obtain ⟨v, rfl, hv, q⟩ := h
  refine ⟨_, PSs.nox (pss_one (ps_ret (pe_or (pe_call N hr (by rfl) gN kN bN .nil pass0 (pa_cons (pv 0) pa_nil)) (pe_one (pe_cmpR (op_odEq (Nat.lt_of_succ_lt (hu_of hr))) (pv 0) pe_str (nomark _)))))), ?_⟩
  refine ⟨_, rfl, v, rfl, hv, _, rfl, ?_⟩
  have q : Q (.bl (isName v || isT tPub v)) H := q
  cases hN : isName v with
  | true => rw [hN] at q; exact iteT q
  | false => rw [hN] at q; exact iteF ⟨_, rfl, _, rfl, hv.1, q⟩
theorem ok_is_right {d : Addr} (F : Fun K "is_right" "is_right" s_is_right f fd) (mi : mg "isinstance" = none) (ms : mg "str" = none) (mD : mg "KIND_BY_RIGHT" = some (.ref d)) (hD : KRight K w d) :
    FnOk P w K mg base CX0 1 f fd ["value"] (spP K isRight) := by
  obtain ⟨es, n, kd⟩ := hD.dict
  refine F.ok sc_is_right spP_len (fun cdv A outer s H vs Q E hr h => ?_)
  obtain ⟨v, rfl, hv, q⟩ := h
  refine ⟨_, PSs.nox (pss_one (ps_ret (pe_and (pe_callB call_isi (by rfl) mi boot_isinstance (pa_cons (pv 0) (pa_cons (pe_bltn (v := .ty "str") (by rfl) ms PyProof.Rows.boot_str rfl) pa_nil)))
    (pe_one (pe_cmpR (op_in_kd (d := d) (es := es) (n := n) kd) (pv 0) (pe_glob (v := .ref d) (by rfl) mD rfl) (by rfl)))))), ?_⟩
  obtain ⟨t, ht, hs, hb⟩ := od_ty hv.1
  refine ⟨_, rfl, v, .ty "str", t, .type "str", _, rfl, .ty _, ht, hs, _, rfl, ?_⟩
  cases hS : isS v with
  | false =>
    have e : isRight v = false := by
      cases v with
      | str z => exact absurd (show false = true from (show true = false from hS).symm) Bool.false_ne_true
      | _ => rfl
    rw [e] at q
    exact iteF q
  | true =>
    obtain ⟨z, rfl⟩ := isS_str hS
    obtain ⟨r, h1, h2, h3⟩ := hD.get z
    have q : Q (.bl (kindT z).isSome) H := q
    rw [← h2] at q
    exact iteT ⟨_, rfl, z, r, rfl, rfl, h1, q⟩
theorem ok_is_made {aM : Addr} (F : Fun K "is_made_kind" "is_made_kind" s_is_made_kind f fd) (mM : mg "MADE_KINDS" = some (.ref aM)) (hM : KTup K aM [Str.ofString "table", Str.ofString "function"]) :
    FnOk P w K mg base CX0 1 f fd ["value"] (spP K isMade) := by
  refine F.ok sc_is_made_kind spP_len (fun cdv A outer s H vs Q E hr h => ?_)
  obtain ⟨v, rfl, hv, q⟩ := h
  refine ⟨_, PSs.nox (pss_one (ps_ret (pe_cmpR (op_odIn (hu_of hr)) (pv 0) (pe_glob (v := .ref aM) (by rfl) mM rfl) (by rfl)))), ?_⟩
  refine ⟨_, rfl, aM, _, rfl, .inr hM.sq, hv.1, ?_⟩
  have e : inT v [Str.ofString "table", Str.ofString "function"] = isMade v := by
    show (isT _ v || (isT _ v || false)) = _
    rw [Bool.or_false]
    rfl
  show Q (.bl (inT v _)) H
  rw [e]
  exact q
theorem ok_is_flag (F : Fun K "is_flag" "is_flag" s_is_flag f fd) : FnOk P w K mg base CX0 1 f fd ["value"] (spP K isFlag) := by
  refine F.ok sc_is_flag spP_len (fun cdv A outer s H vs Q E hr h => ?_)
  obtain ⟨v, rfl, hv, q⟩ := h
  refine ⟨_, PSs.nox (pss_one (ps_ret (pe_or (pe_cmpR op_isB (pv 0) pe_bl (by rfl)) (pe_one (pe_cmpR op_isB (pv 0) pe_bl (by rfl)))))), ?_⟩
  refine ⟨_, rfl, _, rfl, hv.1, _, rfl, ?_⟩
  by_cases h1 : v = .bl true
  · rw [decide_eq_true h1]
    rw [h1] at q
    exact iteT q
  · rw [decide_eq_false h1]
    refine iteF ⟨_, rfl, _, rfl, hv.1, ?_⟩
    have e : isFlag v = decide (v = .bl false) := by
      cases v with
      | bl b =>
        cases b with
        | true => exact absurd rfl h1
        | false => rfl
      | _ => exact (decide_eq_false (fun e => nomatch e)).symm
    rw [e] at q
    exact q
end
end K5F
set_option maxHeartbeats 4000000
namespace K5F
open PySem PySem.Spec PyProof.Rows L2 RL RE RN RM TL RQ K56
/-! ### a def that is there, in short -/
def Df (P : Program) (w : World) (K : PySem.W.Frag) (mg : Str → Option Value) (base : Heap) (CX : CXT) (k : Nat) (x : Str) (ps : List Str) (sp : Sp) : Prop :=
  ∃ (f : Addr) (fd : FuncData), FnOk P w K mg base CX k f fd ps sp ∧ Binds K fd ps [] ∧ PySem.W.keepIn K (.ref f) = true ∧ mg x = some (.ref f)
section
variable {X : Cx} {k : Nat} {x : Str} {ps : List Str} {sp : Sp} {t : TA} {e : Expr} {es : List Expr} {p pos : Pos}
theorem pe_df0 (D : Df X.prog X.w X.K X.mg X.base CX0 k x ps sp) (hr : Room k X.A) (hg : Gl X x) (ha : PA X (e :: es) t) (hdb : (x == ("__debug__" : Str)) = false := by decide)
    (he : starEach (e :: es) X.env = (false, eval e X.env) :: starEach es X.env := by rfl) (hpl : (backTo pos (starEach es X.env)).any (·.1) = false := by rfl) : PE X (.Call (.Name x p) (e :: es) [] pos) (tCall sp [] (fun _ _ _ => False) t) := by
  obtain ⟨f, fd, F, b, kp, g⟩ := D
  exact pe_call F hr hg g kp b .nil pass0 ha hdb he hpl
end
/-! ### the checks, where nothing is due -/
section
variable {P : Program} {w : World} {K : PySem.W.Frag} {mg : Str → Option Value} {base : Heap} {f : Addr} {fd : FuncData}
def spG (K : PySem.W.Frag) (p : V → Bool) : Sp := fun vs H Q _ => ∃ v, vs = [v] ∧ Od K H v ∧ p v = true ∧ Q .non H
theorem spG_len {p : V → Bool} : ∀ vs H Q E, spG K p vs H Q E → vs.length = 1 := fun vs H Q E h => by
  obtain ⟨v, rfl, _⟩ := h
  rfl
theorem ok_check_name (F : Fun K "check_name" "check_name" s_check_name f fd) (N : Df P w K mg base CX0 1 "is_name" ["value"] (spP K isName)) : FnOk P w K mg base CX0 2 f fd ["value"] (spG K isName) := by
  refine F.ok sc_check_name spG_len (fun cdv A outer s H vs Q E hr h => ?_)
  obtain ⟨v, rfl, hv, hp, q⟩ := h
  refine ⟨_, PSs.nox (pss_one (ps_if (pt_not (pt_val (pe_df0 N hr (by rfl) (pa_cons (pv 0) pa_nil)))) (pss_one ps_never) pss_nil)), ?_⟩
  refine ⟨_, rfl, v, rfl, hv, _, rfl, ?_⟩
  rw [hp]
  exact iteF q
theorem ok_check_taker (F : Fun K "check_taker" "check_taker" s_check_taker f fd) (N : Df P w K mg base CX0 2 "is_taker" ["value"] (spP K isTaker)) : FnOk P w K mg base CX0 3 f fd ["value"] (spG K isTaker) := by
  refine F.ok sc_check_taker spG_len (fun cdv A outer s H vs Q E hr h => ?_)
  obtain ⟨v, rfl, hv, hp, q⟩ := h
  refine ⟨_, PSs.nox (pss_one (ps_if (pt_not (pt_val (pe_df0 N hr (by rfl) (pa_cons (pv 0) pa_nil)))) (pss_one ps_never) pss_nil)), ?_⟩
  refine ⟨_, rfl, v, rfl, hv, _, rfl, ?_⟩
  rw [hp]
  exact iteF q
theorem ok_check_right (F : Fun K "check_right" "check_right" s_check_right f fd) (N : Df P w K mg base CX0 1 "is_right" ["value"] (spP K isRight)) : FnOk P w K mg base CX0 2 f fd ["value"] (spG K isRight) := by
  refine F.ok sc_check_right spG_len (fun cdv A outer s H vs Q E hr h => ?_)
  obtain ⟨v, rfl, hv, hp, q⟩ := h
  refine ⟨_, PSs.nox (pss_one (ps_if (pt_not (pt_val (pe_df0 N hr (by rfl) (pa_cons (pv 0) pa_nil)))) (pss_one ps_never) pss_nil)), ?_⟩
  refine ⟨_, rfl, v, rfl, hv, _, rfl, ?_⟩
  rw [hp]
  exact iteF q
/-- check_option: a flag, False beside public -/
def spGO (K : PySem.W.Frag) : Sp := fun vs H Q _ => ∃ (b : Bool) (t : V), vs = [.bl b, t] ∧ Od K H t ∧ (b = true → isT tPub t = false) ∧ Q .non H
theorem ok_check_option (F : Fun K "check_option" "check_option" s_check_option f fd) (N : Df P w K mg base CX0 1 "is_flag" ["value"] (spP K isFlag)) : FnOk P w K mg base CX0 2 f fd ["value", "taker"] (spGO K) := by
  refine F.ok sc_check_option (fun vs H Q E h => by obtain ⟨b, t, rfl, _⟩ := h; rfl) (fun cdv A outer s H vs Q E hr h => ?_)
  obtain ⟨b, t, rfl, ht, hp, q⟩ := h
  refine ⟨_, PSs.nox (pss_one (ps_if (PW.pt (pw_or (pt_not (pt_val (pe_df0 N hr (by rfl) (pa_cons (pv 0) pa_nil)))) (pw_or1 (PW.pt (pw_and (pt_val (pv 0)) (pw_and1 (pt_cmpR (op_odEq (Nat.lt_of_succ_lt (hu_of hr))) (pv 1) pe_str (nomark _)))))))) (pss_one ps_never) pss_nil)), ?_⟩
  refine ⟨_, rfl, .bl b, rfl, ⟨.flat rfl, fun z e => nomatch e⟩, _, rfl, ?_⟩
  refine iteF ⟨_, rfl, _, rfl, ?_⟩
  cases b with
  | false => exact iteF (iteF q)
  | true =>
    refine iteT ⟨_, rfl, _, rfl, ht.1, _, rfl, ?_⟩
    rw [hp rfl]
    exact iteF q
theorem ok_check_flag (F : Fun K "check_flag" "check_flag" s_check_flag f fd) (N : Df P w K mg base CX0 1 "is_flag" ["value"] (spP K isFlag)) : FnOk P w K mg base CX0 2 f fd ["value"] (spG K isFlag) := by
  refine F.ok sc_check_flag spG_len (fun cdv A outer s H vs Q E hr h => ?_)
  obtain ⟨v, rfl, hv, hp, q⟩ := h
  refine ⟨_, PSs.nox (pss_one (ps_if (pt_not (pt_val (pe_df0 N hr (by rfl) (pa_cons (pv 0) pa_nil)))) (pss_one ps_never) pss_nil)), ?_⟩
  refine ⟨_, rfl, v, rfl, hv, _, rfl, ?_⟩
  rw [hp]
  exact iteF q
theorem ok_check_made (F : Fun K "check_made_kind" "check_made_kind" s_check_made_kind f fd) (N : Df P w K mg base CX0 1 "is_made_kind" ["value"] (spP K isMade)) : FnOk P w K mg base CX0 2 f fd ["value"] (spG K isMade) := by
  refine F.ok sc_check_made_kind spG_len (fun cdv A outer s H vs Q E hr h => ?_)
  obtain ⟨v, rfl, hv, hp, q⟩ := h
  refine ⟨_, PSs.nox (pss_one (ps_if (pt_not (pt_val (pe_df0 N hr (by rfl) (pa_cons (pv 0) pa_nil)))) (pss_one ps_never) pss_nil)), ?_⟩
  refine ⟨_, rfl, v, rfl, hv, _, rfl, ?_⟩
  rw [hp]
  exact iteF q
/-- the kind of a right -/
def spKind (K : PySem.W.Frag) : Sp := fun vs H Q _ => ∃ (z k : Str), vs = [.str z] ∧ Od K H (.str z) ∧ kindT z = some k ∧ Q (.str k) H
theorem ok_kind_of {d : Addr} (F : Fun K "kind_of" "kind_of" s_kind_of f fd) (N : Df P w K mg base CX0 1 "is_right" ["value"] (spP K isRight)) (mD : mg "KIND_BY_RIGHT" = some (.ref d)) (hD : KRight K w d) :
    FnOk P w K mg base CX0 2 f fd ["right"] (spKind K) := by
  obtain ⟨es, n, kd⟩ := hD.dict
  refine F.ok sc_kind_of (fun vs H Q E h => by obtain ⟨z, k, rfl, _⟩ := h; rfl) (fun cdv A outer s H vs Q E hr h => ?_)
  obtain ⟨z, k, rfl, hv, hk, q⟩ := h
  refine ⟨_, PSs.nox (pss_cons (ps_if (pt_not (pt_val (pe_df0 N hr (by rfl) (pa_cons (pv 0) pa_nil)))) (pss_one ps_never) pss_nil)
    (pss_one (ps_ret (pe_ix ix_kdict (pe_glob (v := .ref d) (by rfl) mD rfl) (pv 0) (fun _ _ => rfl))))), ?_⟩
  refine ⟨_, rfl, _, rfl, hv, _, rfl, ?_⟩
  have e : isRight (.str z) = true := by
    show (kindT z).isSome = true
    rw [hk]; rfl
  rw [e]
  refine iteF ?_
  obtain ⟨r, h1, h2, h3⟩ := hD.get z
  obtain ⟨t, rfl⟩ := h3 k hk
  exact ⟨_, rfl, d, z, .str k, rfl, rfl, ⟨es, n, _, kd.at_, kd.lit, h1, ⟨_, rfl⟩⟩, q⟩
def spOn (K : PySem.W.Frag) : Sp := fun vs H Q _ => ∃ (z k : Str), vs = [.str k, .str z] ∧ Od K H (.str z) ∧ kindT z = some k ∧ Q .non H
theorem ok_check_right_on (F : Fun K "check_right_on" "check_right_on" s_check_right_on f fd) (N : Df P w K mg base CX0 2 "kind_of" ["right"] (spKind K)) : FnOk P w K mg base CX0 3 f fd ["kind", "value"] (spOn K) := by
  refine F.ok sc_check_right_on (fun vs H Q E h => by obtain ⟨z, k, rfl, _⟩ := h; rfl) (fun cdv A outer s H vs Q E hr h => ?_)
  obtain ⟨z, k, rfl, hv, hk, q⟩ := h
  refine ⟨_, PSs.nox (pss_one (ps_if (pt_cmpR op_ne (pe_df0 N hr (by rfl) (pa_cons (pv 1) pa_nil)) (pv 0) (nomark _)) (pss_one ps_never) pss_nil)), ?_⟩
  refine ⟨_, rfl, z, k, rfl, hv, hk, _, rfl, rfl, _, rfl, ?_⟩
  rw [decide_eq_true rfl]
  exact iteF q
/-- a taker that is not the giver -/
def spFrom (K : PySem.W.Frag) : Sp := fun vs H Q _ => ∃ (g z : Str), vs = [.str g, .str z] ∧ Od K H (.str z) ∧ isTaker (.str z) = true ∧ z ≠ g ∧ Q .non H
theorem ok_check_from (F : Fun K "check_taker_from" "check_taker_from" s_check_taker_from f fd) (N : Df P w K mg base CX0 2 "is_taker" ["value"] (spP K isTaker)) : FnOk P w K mg base CX0 3 f fd ["giver", "value"] (spFrom K) := by
  refine F.ok sc_check_taker_from (fun vs H Q E h => by obtain ⟨z, k, rfl, _⟩ := h; rfl) (fun cdv A outer s H vs Q E hr h => ?_)
  obtain ⟨g, z, rfl, hv, hk, ne, q⟩ := h
  refine ⟨_, PSs.nox (pss_one (ps_if (PW.pt (pw_or (pt_not (pt_val (pe_df0 N hr (by rfl) (pa_cons (pv 1) pa_nil)))) (pw_or1 (pt_cmpR op_eq (pv 1) (pv 0) (nomark _))))) (pss_one ps_never) pss_nil)), ?_⟩
  refine ⟨_, rfl, _, rfl, hv, _, rfl, ?_⟩
  rw [hk]
  refine iteF ⟨_, rfl, _, rfl, rfl, _, rfl, ?_⟩
  rw [decide_eq_false (fun e => ne (V.str.inj e))]
  exact iteF q
end
end K5F
set_option maxHeartbeats 4000000
namespace K5F
open PySem PySem.Spec PyProof.Rows L2 RL RE RN RM TL RQ K56
/-! ### the deeds -/
inductive Cl | give | take | call | preset | use
  deriving DecidableEq
inductive Dm
  | give (w t k : Str) (o : Bool)
  | take (w t k : Str) (g : Option Str) (p c : Bool)
  | call (n : Str)
  | preset (s w k : Str) (o : Bool)
  | use (w t : Str)
  deriving DecidableEq
def txt (z : Str) : Prop := z.length ≤ 1000 ∧ ∀ x ∈ tl z, x < 256
theorem txt.od {K : PySem.W.Frag} {H : Hp} {z : Str} (h : txt z) : Od K H (.str z) := ⟨.flat rfl, fun y e => by cases e; exact h⟩
abbrev tTab : Str := Str.ofString "table"
abbrev tFun : Str := Str.ofString "function"
def okD : Dm → Prop
  | .give w t k o => txt w ∧ txt t ∧ txt k ∧ (kindT w).isSome = true ∧ nameT t = true ∧ (isT tCal (.str k) = true ∨ isTaker (.str k) = true) ∧ (o = true → isT tPub (.str k) = false)
  | .take w t k g p c => txt w ∧ txt t ∧ txt k ∧ (kindT w).isSome = true ∧ nameT t = true ∧ isTaker (.str k) = true ∧ ∀ y, g = some y → txt y ∧ nameT y = true
  | .call n => txt n ∧ nameT n = true
  | .preset s w k o => txt s ∧ txt w ∧ txt k ∧ (s = tTab ∨ s = tFun) ∧ kindT w = some s ∧ isTaker (.str k) = true ∧ (o = true → isT tPub (.str k) = false)
  | .use w t => txt w ∧ txt t ∧ (kindT w).isSome = true ∧ nameT t = true
def gV : Option Str → V
  | none => .non
  | some y => .str y
def fieldsD : Dm → List (Str × V)
  | .give w t k o => [("right", .str w), ("thing", .str t), ("taker", .str k), ("option", .bl o)]
  | .take w t k g p c => [("right", .str w), ("thing", .str t), ("taker", .str k), ("giver", gV g), ("only_option", .bl p), ("cascade", .bl c)]
  | .call n => [("function", .str n)]
  | .preset s w k o => [("kind", .str s), ("right", .str w), ("taker", .str k), ("option", .bl o)]
  | .use w t => [("right", .str w), ("thing", .str t)]
def argsD (d : Dm) : List V := (fieldsD d).map (·.2)
def clD : Dm → Cl
  | .give .. => .give
  | .take .. => .take
  | .call .. => .call
  | .preset .. => .preset
  | .use .. => .use
abbrev Cs := Cl → Addr
def DeedAt (c : Cs) (H : Hp) (a : Addr) (d : Dm) : Prop := ∃ dx, H a = some (.ins (c (clD d)) dx (fieldsD d))
section
variable {P : Program} {w : World} {K : PySem.W.Frag} {mg : Str → Option Value} {base : Heap} {f : Addr} {fd : FuncData}
/-- the checks -/
structure Chk (P : Program) (w : World) (K : PySem.W.Frag) (mg : Str → Option Value) (base : Heap) : Prop where
  R : Df P w K mg base CX0 2 "check_right" ["value"] (spG K isRight)
  N : Df P w K mg base CX0 2 "check_name" ["value"] (spG K isName)
  T : Df P w K mg base CX0 3 "check_taker" ["value"] (spG K isTaker)
  O : Df P w K mg base CX0 2 "check_option" ["value", "taker"] (spGO K)
  F : Df P w K mg base CX0 2 "check_flag" ["value"] (spG K isFlag)
  M : Df P w K mg base CX0 2 "check_made_kind" ["value"] (spG K isMade)
  On : Df P w K mg base CX0 3 "check_right_on" ["kind", "value"] (spOn K)
  Fr : Df P w K mg base CX0 3 "check_taker_from" ["giver", "value"] (spFrom K)
def spInit (K : PySem.W.Frag) (C : Addr) (cl : Cl) : Sp := fun vs H Q _ => ∃ (a dx : Addr) (m : Dm), vs = .ref a :: argsD m ∧ clD m = cl ∧ okD m ∧ H a = some (.ins C dx []) ∧ Q .non (upd H a (.ins C dx (fieldsD m)))
theorem ok_CallI {C : Addr} (F : Fun K "__init__" "Call.__init__" s_Call_init f fd) (G : Chk P w K mg base) (c : Cls K C) (n1 : NoAttr K C "function") :
    FnOk P w K mg base CX0 4 f fd ["self", "function"] (spInit K C .call) := by
  refine F.ok sc_Call_init (fun vs H Q E h => by obtain ⟨a, dx, m, rfl, e, _⟩ := h; cases m <;> cases e; rfl) (fun cdv A outer s H vs Q E hr h => ?_)
  obtain ⟨a, dx, m, rfl, e, ok, ea, q⟩ := h
  cases m <;> cases e
  refine ⟨_, PSs.nox (pss_cons (ps_expr (pe_df0 G.N (hr.mono (by decide)) (by rfl) (pa_cons (pv 1) pa_nil))) (pss_one (ps_fld (pv 0) (pv 1) rfl))), ?_⟩
  refine ⟨_, rfl, _, rfl, ok.1.od, ok.2, ?_⟩
  exact ⟨_, rfl, _, rfl, a, C, dx, _, rfl, ea, c, n1, by decide, q⟩
theorem ok_UseI {C : Addr} (F : Fun K "__init__" "Use.__init__" s_Use_init f fd) (G : Chk P w K mg base) (c : Cls K C) (n1 : NoAttr K C "right") (n2 : NoAttr K C "thing") :
    FnOk P w K mg base CX0 4 f fd ["self", "right", "thing"] (spInit K C .use) := by
  refine F.ok sc_Use_init (fun vs H Q E h => by obtain ⟨a, dx, m, rfl, e, _⟩ := h; cases m <;> cases e; rfl) (fun cdv A outer s H vs Q E hr h => ?_)
  obtain ⟨a, dx, m, rfl, e, ok, ea, q⟩ := h
  cases m <;> cases e
  rename_i wd t
  obtain ⟨tw, tt, h1, h2⟩ := ok
  refine ⟨_, PSs.nox (pss_cons (ps_expr (pe_df0 G.R (hr.mono (by decide)) (by rfl) (pa_cons (pv 1) pa_nil)))
    (pss_cons (ps_expr (pe_df0 G.N (hr.mono (by decide)) (by rfl) (pa_cons (pv 2) pa_nil))) (pss_cons (ps_fld (pv 0) (pv 1) rfl) (pss_one (ps_fld (pv 0) (pv 2) rfl))))), ?_⟩
  refine ⟨_, rfl, _, rfl, tw.od, h1, ?_⟩
  refine ⟨_, rfl, _, rfl, tt.od, h2, ?_⟩
  refine ⟨_, rfl, _, rfl, a, C, dx, _, rfl, ea, c, n1, by decide, ?_⟩
  refine ⟨_, rfl, _, rfl, a, C, dx, _, rfl, upd_same, c, n2, by show 1 < 1000; decide, ?_⟩
  have up : ∀ {u : HO}, upd (upd H a u) a (.ins C dx (fieldsD (.use wd t))) = upd H a (.ins C dx (fieldsD (.use wd t))) := by
    intro u
    rw [upd_upd]
  rw [← up] at q
  exact q
theorem ok_GiveI {C : Addr} {dvs : List V} {kws : List (Str × V)} (F : FunD K "__init__" "Give.__init__" (defArgs s_Give_init) (defBody s_Give_init) (defScope s_Give_init) dvs kws f fd) (G : Chk P w K mg base)
    (c : Cls K C) (n1 : NoAttr K C "right") (n2 : NoAttr K C "thing") (n3 : NoAttr K C "taker") (n4 : NoAttr K C "option") :
    FnOk P w K mg base CX0 4 f fd ["self", "right", "thing", "taker", "option"] (spInit K C .give) := by
  refine F.ok sc_Give_init (fun vs H Q E h => by obtain ⟨a, dx, m, rfl, e, _⟩ := h; cases m <;> cases e; rfl) (fun cdv A outer s H vs Q E hr h => ?_)
  obtain ⟨a, dx, m, rfl, e, ok, ea, q⟩ := h
  cases m <;> cases e
  rename_i wd t k o
  obtain ⟨tw, tt, tk, h1, h2, h3, h4⟩ := ok
  refine ⟨_, PSs.nox (pss_cons (ps_expr (pe_df0 G.R (hr.mono (by decide)) (by rfl) (pa_cons (pv 1) pa_nil)))
    (pss_cons (ps_expr (pe_df0 G.N (hr.mono (by decide)) (by rfl) (pa_cons (pv 2) pa_nil)))
    (pss_cons (ps_if (pt_cmpR (op_odNe (Nat.lt_of_succ_lt (hu_of hr))) (pv 3) pe_str (nomark _)) (pss_one (ps_expr (pe_df0 G.T hr (by rfl) (pa_cons (pv 3) pa_nil)))) pss_nil)
    (pss_cons (ps_expr (pe_df0 G.O (hr.mono (by decide)) (by rfl) (pa_cons (pv 4) (pa_cons (pv 3) pa_nil))))
    (pss_cons (ps_fld (pv 0) (pv 1) rfl) (pss_cons (ps_fld (pv 0) (pv 2) rfl) (pss_cons (ps_fld (pv 0) (pv 3) rfl) (pss_one (ps_fld (pv 0) (pv 4) rfl))))))))), ?_⟩
  refine ⟨_, rfl, _, rfl, tw.od, h1, ?_⟩
  refine ⟨_, rfl, _, rfl, tt.od, h2, ?_⟩
  refine ⟨_, rfl, _, rfl, tk.od.1, _, rfl, ?_⟩
  have up : ∀ {u v x : HO}, upd (upd (upd (upd H a u) a v) a x) a (.ins C dx (fieldsD (.give wd t k o))) = upd H a (.ins C dx (fieldsD (.give wd t k o))) := by
    intro u v x
    rw [upd_upd, upd_upd, upd_upd]
  cases hc : isT tCal (.str k) with
  | true =>
    refine iteF ?_
    refine ⟨_, rfl, _, rfl, o, _, rfl, tk.od, h4, ?_⟩
    refine ⟨_, rfl, _, rfl, a, C, dx, _, rfl, ea, c, n1, by decide, ?_⟩
    refine ⟨_, rfl, _, rfl, a, C, dx, _, rfl, upd_same, c, n2, by show 1 < 1000; decide, ?_⟩
    refine ⟨_, rfl, _, rfl, a, C, dx, _, rfl, upd_same, c, n3, by show 2 < 1000; decide, ?_⟩
    refine ⟨_, rfl, _, rfl, a, C, dx, _, rfl, upd_same, c, n4, by show 3 < 1000; decide, ?_⟩
    rw [← up] at q
    exact q
  | false =>
    have ht : isTaker (.str k) = true := h3.resolve_left (by rw [hc]; exact Bool.false_ne_true)
    refine iteT ⟨_, rfl, _, rfl, tk.od, ht, ?_⟩
    refine ⟨_, rfl, _, rfl, o, _, rfl, tk.od, h4, ?_⟩
    refine ⟨_, rfl, _, rfl, a, C, dx, _, rfl, ea, c, n1, by decide, ?_⟩
    refine ⟨_, rfl, _, rfl, a, C, dx, _, rfl, upd_same, c, n2, by show 1 < 1000; decide, ?_⟩
    refine ⟨_, rfl, _, rfl, a, C, dx, _, rfl, upd_same, c, n3, by show 2 < 1000; decide, ?_⟩
    refine ⟨_, rfl, _, rfl, a, C, dx, _, rfl, upd_same, c, n4, by show 3 < 1000; decide, ?_⟩
    rw [← up] at q
    exact q
theorem ok_PresetI {C : Addr} {dvs : List V} {kws : List (Str × V)} (F : FunD K "__init__" "Preset.__init__" (defArgs s_Preset_init) (defBody s_Preset_init) (defScope s_Preset_init) dvs kws f fd) (G : Chk P w K mg base)
    (c : Cls K C) (n1 : NoAttr K C "kind") (n2 : NoAttr K C "right") (n3 : NoAttr K C "taker") (n4 : NoAttr K C "option") :
    FnOk P w K mg base CX0 4 f fd ["self", "kind", "right", "taker", "option"] (spInit K C .preset) := by
  refine F.ok sc_Preset_init (fun vs H Q E h => by obtain ⟨a, dx, m, rfl, e, _⟩ := h; cases m <;> cases e; rfl) (fun cdv A outer s H vs Q E hr h => ?_)
  obtain ⟨a, dx, m, rfl, e, ok, ea, q⟩ := h
  cases m <;> cases e
  rename_i sd wd k o
  obtain ⟨ts, tw, tk, h1, h2, h3, h4⟩ := ok
  have hm : isMade (.str sd) = true := by
    rcases h1 with e | e <;> rw [e] <;> decide +kernel
  refine ⟨_, PSs.nox (pss_cons (ps_expr (pe_df0 G.M (hr.mono (by decide)) (by rfl) (pa_cons (pv 1) pa_nil)))
    (pss_cons (ps_expr (pe_df0 G.On hr (by rfl) (pa_cons (pv 1) (pa_cons (pv 2) pa_nil))))
    (pss_cons (ps_expr (pe_df0 G.T hr (by rfl) (pa_cons (pv 3) pa_nil)))
    (pss_cons (ps_expr (pe_df0 G.O (hr.mono (by decide)) (by rfl) (pa_cons (pv 4) (pa_cons (pv 3) pa_nil))))
    (pss_cons (ps_fld (pv 0) (pv 1) rfl) (pss_cons (ps_fld (pv 0) (pv 2) rfl) (pss_cons (ps_fld (pv 0) (pv 3) rfl) (pss_one (ps_fld (pv 0) (pv 4) rfl))))))))), ?_⟩
  refine ⟨_, rfl, _, rfl, ts.od, hm, ?_⟩
  refine ⟨_, rfl, _, rfl, wd, sd, rfl, tw.od, h2, ?_⟩
  refine ⟨_, rfl, _, rfl, tk.od, h3, ?_⟩
  refine ⟨_, rfl, _, rfl, o, _, rfl, tk.od, h4, ?_⟩
  refine ⟨_, rfl, _, rfl, a, C, dx, _, rfl, ea, c, n1, by decide, ?_⟩
  refine ⟨_, rfl, _, rfl, a, C, dx, _, rfl, upd_same, c, n2, by show 1 < 1000; decide, ?_⟩
  refine ⟨_, rfl, _, rfl, a, C, dx, _, rfl, upd_same, c, n3, by show 2 < 1000; decide, ?_⟩
  refine ⟨_, rfl, _, rfl, a, C, dx, _, rfl, upd_same, c, n4, by show 3 < 1000; decide, ?_⟩
  have up : ∀ {u v x : HO}, upd (upd (upd (upd H a u) a v) a x) a (.ins C dx (fieldsD (.preset sd wd k o))) = upd H a (.ins C dx (fieldsD (.preset sd wd k o))) := by
    intro u v x
    rw [upd_upd, upd_upd, upd_upd]
  rw [← up] at q
  exact q
theorem ok_TakeI {C : Addr} {dvs : List V} {kws : List (Str × V)} (F : FunD K "__init__" "Take.__init__" (defArgs s_Take_init) (defBody s_Take_init) (defScope s_Take_init) dvs kws f fd) (G : Chk P w K mg base)
    (c : Cls K C) (n1 : NoAttr K C "right") (n2 : NoAttr K C "thing") (n3 : NoAttr K C "taker") (n4 : NoAttr K C "giver") (n5 : NoAttr K C "only_option") (n6 : NoAttr K C "cascade") :
    FnOk P w K mg base CX0 4 f fd ["self", "right", "thing", "taker", "giver", "only_option", "cascade"] (spInit K C .take) := by
  refine F.ok sc_Take_init (fun vs H Q E h => by obtain ⟨a, dx, m, rfl, e, _⟩ := h; cases m <;> cases e; rfl) (fun cdv A outer s H vs Q E hr h => ?_)
  obtain ⟨a, dx, m, rfl, e, ok, ea, q⟩ := h
  cases m <;> cases e
  rename_i wd t k g p cc
  obtain ⟨tw, tt, tk, h1, h2, h3, h4⟩ := ok
  refine ⟨_, PSs.nox (pss_cons (ps_expr (pe_df0 G.R (hr.mono (by decide)) (by rfl) (pa_cons (pv 1) pa_nil)))
    (pss_cons (ps_expr (pe_df0 G.N (hr.mono (by decide)) (by rfl) (pa_cons (pv 2) pa_nil)))
    (pss_cons (ps_expr (pe_df0 G.T hr (by rfl) (pa_cons (pv 3) pa_nil)))
    (pss_cons (ps_if (pt_cmpR op_notN (pv 4) pe_non (by rfl)) (pss_one (ps_expr (pe_df0 G.N (hr.mono (by decide)) (by rfl) (pa_cons (pv 4) pa_nil)))) pss_nil)
    (pss_cons (ps_expr (pe_df0 G.F (hr.mono (by decide)) (by rfl) (pa_cons (pv 5) pa_nil)))
    (pss_cons (ps_expr (pe_df0 G.F (hr.mono (by decide)) (by rfl) (pa_cons (pv 6) pa_nil)))
    (pss_cons (ps_fld (pv 0) (pv 1) rfl) (pss_cons (ps_fld (pv 0) (pv 2) rfl) (pss_cons (ps_fld (pv 0) (pv 3) rfl) (pss_cons (ps_fld (pv 0) (pv 4) rfl) (pss_cons (ps_fld (pv 0) (pv 5) rfl) (pss_one (ps_fld (pv 0) (pv 6) rfl))))))))))))), ?_⟩
  refine ⟨_, rfl, _, rfl, tw.od, h1, ?_⟩
  refine ⟨_, rfl, _, rfl, tt.od, h2, ?_⟩
  refine ⟨_, rfl, _, rfl, tk.od, h3, ?_⟩
  have up : ∀ {u v x y z : HO}, upd (upd (upd (upd (upd (upd H a u) a v) a x) a y) a z) a (.ins C dx (fieldsD (.take wd t k g p cc))) = upd H a (.ins C dx (fieldsD (.take wd t k g p cc))) := by
    intro u v x y z
    rw [upd_upd, upd_upd, upd_upd, upd_upd, upd_upd]
  cases g with
  | none =>
    refine ⟨_, rfl, rfl, _, rfl, ?_⟩
    refine iteF ?_
    refine ⟨_, rfl, _, rfl, ⟨.flat rfl, fun z e => nomatch e⟩, rfl, ?_⟩
    refine ⟨_, rfl, _, rfl, ⟨.flat rfl, fun z e => nomatch e⟩, rfl, ?_⟩
    refine ⟨_, rfl, _, rfl, a, C, dx, _, rfl, ea, c, n1, by decide, ?_⟩
    refine ⟨_, rfl, _, rfl, a, C, dx, _, rfl, upd_same, c, n2, by show 1 < 1000; decide, ?_⟩
    refine ⟨_, rfl, _, rfl, a, C, dx, _, rfl, upd_same, c, n3, by show 2 < 1000; decide, ?_⟩
    refine ⟨_, rfl, _, rfl, a, C, dx, _, rfl, upd_same, c, n4, by show 3 < 1000; decide, ?_⟩
    refine ⟨_, rfl, _, rfl, a, C, dx, _, rfl, upd_same, c, n5, by show 4 < 1000; decide, ?_⟩
    refine ⟨_, rfl, _, rfl, a, C, dx, _, rfl, upd_same, c, n6, by show 5 < 1000; decide, ?_⟩
    rw [← up] at q
    exact q
  | some y =>
    obtain ⟨ty, ny⟩ := h4 y rfl
    refine ⟨_, rfl, rfl, _, rfl, ?_⟩
    refine iteT ⟨_, rfl, _, rfl, ty.od, ny, ?_⟩
    refine ⟨_, rfl, _, rfl, ⟨.flat rfl, fun z e => nomatch e⟩, rfl, ?_⟩
    refine ⟨_, rfl, _, rfl, ⟨.flat rfl, fun z e => nomatch e⟩, rfl, ?_⟩
    refine ⟨_, rfl, _, rfl, a, C, dx, _, rfl, ea, c, n1, by decide, ?_⟩
    refine ⟨_, rfl, _, rfl, a, C, dx, _, rfl, upd_same, c, n2, by show 1 < 1000; decide, ?_⟩
    refine ⟨_, rfl, _, rfl, a, C, dx, _, rfl, upd_same, c, n3, by show 2 < 1000; decide, ?_⟩
    refine ⟨_, rfl, _, rfl, a, C, dx, _, rfl, upd_same, c, n4, by show 3 < 1000; decide, ?_⟩
    refine ⟨_, rfl, _, rfl, a, C, dx, _, rfl, upd_same, c, n5, by show 4 < 1000; decide, ?_⟩
    refine ⟨_, rfl, _, rfl, a, C, dx, _, rfl, upd_same, c, n6, by show 5 < 1000; decide, ?_⟩
    rw [← up] at q
    exact q
end
end K5F
set_option maxHeartbeats 4000000
namespace K5F
open PySem PySem.Spec PyProof.Rows L2 RL RE RN RM TL RQ K56
structure TyC (K : PySem.W.Frag) (C : Addr) : Prop where
  cl : Cls K C
  ha : PySem.W.findIn K (.ref C) "__class__" = some (some (.builtin "object.__class__"))
  hn : PySem.W.specialIn K (.builtin "object.__class__") "__get__" = some (some (.builtin "getset_descriptor.__get__"))
  ht : PySem.W.takesIn K (.builtin "object.__class__") = some true
  hm : PySem.W.mroIn K C (.type "object") = some true
theorem TyC.ty {K : PySem.W.Frag} {C : Addr} (t : TyC K C) {H : Hp} {a dx : Addr} {fs : List (Str × V)} (e : H a = some (.ins C dx fs)) : TyX K H (.ref a) (.ref C) := .base (.ins e t.cl t.ha t.hn t.ht t.hm)
/-- the classes of deeds -/
structure DC (K : PySem.W.Frag) (mg : Str → Option Value) (c : Cs) : Prop where
  t : ∀ x, TyC K (c x)
  kk : ∀ x y, PySem.W.kitOne K (.ref (c x)) (.ref (c y)) = some (decide (x = y))
  gGive : mg "Give" = some (.ref (c .give))
  nGive0 : NoAttr K (c .give) "right"
  nGive1 : NoAttr K (c .give) "thing"
  nGive2 : NoAttr K (c .give) "taker"
  nGive3 : NoAttr K (c .give) "option"
  gTake : mg "Take" = some (.ref (c .take))
  nTake0 : NoAttr K (c .take) "right"
  nTake1 : NoAttr K (c .take) "thing"
  nTake2 : NoAttr K (c .take) "taker"
  nTake3 : NoAttr K (c .take) "giver"
  nTake4 : NoAttr K (c .take) "only_option"
  nTake5 : NoAttr K (c .take) "cascade"
  gCall : mg "Call" = some (.ref (c .call))
  nCall0 : NoAttr K (c .call) "function"
  gPreset : mg "Preset" = some (.ref (c .preset))
  nPreset0 : NoAttr K (c .preset) "kind"
  nPreset1 : NoAttr K (c .preset) "right"
  nPreset2 : NoAttr K (c .preset) "taker"
  nPreset3 : NoAttr K (c .preset) "option"
  gUse : mg "Use" = some (.ref (c .use))
  nUse0 : NoAttr K (c .use) "right"
  nUse1 : NoAttr K (c .use) "thing"
theorem gV_inj {g g' : Option Str} (h : gV g = gV g') : g = g' := by
  cases g <;> cases g' <;> cases h <;> rfl
theorem gV_scal (g g' : Option Str) : scal (gV g) (gV g') = true := by
  cases g <;> cases g' <;> rfl
/-- how a deed of the class x compares: with another deed, or with a value of another class -/
def RD (K : PySem.W.Frag) (c : Cs) (x : Cl) : Addr → V → Hp → Bool → Prop := fun a y H k => ∃ d, clD d = x ∧ DeedAt c H a d ∧ ((∃ (d' : Dm) (b : Addr), y = .ref b ∧ DeedAt c H b d' ∧ k = decide (d = d')) ∨ (∃ t, TyX K H y t ∧ PySem.W.kitOne K t (.ref (c x)) = some false ∧ k = false))
section
variable {P : Program} {w : World} {K : PySem.W.Frag} {mg : Str → Option Value} {base : Heap} {f : Addr} {fd : FuncData}
theorem spEqB_len {R : Addr → V → Hp → Bool → Prop} : ∀ vs H Q E, spEqB R vs H Q E → vs.length = 2 := fun vs H Q E h => by
  obtain ⟨a, y, k, rfl, _⟩ := h
  rfl
theorem ok_GiveE {c : Cs} (F : Fun K "__eq__" "Give.__eq__" s_Give_eq f fd) (G : DC K mg c) (mi : mg "isinstance" = none) : FnOk P w K mg base CX0 1 f fd ["self", "other"] (spEqB (RD K c .give)) := by
  refine F.ok sc_Give_eq spEqB_len (fun cdv A outer s H vs Q E hr h => ?_)
  obtain ⟨a, y, kb, rfl, ⟨d, hd, ⟨dx, ea⟩, hk⟩, q⟩ := h
  refine ⟨_, PSs.nox (pss_one (ps_ret (pe_and (pe_callB call_isi (by rfl) mi boot_isinstance (pa_cons (pv 1) (pa_cons (pe_glob (v := .ref (c .give)) (by rfl) G.gGive rfl) pa_nil))) (pe_and (pe_cmpR op_eq (pe_fld (pv 0) rfl) (pe_fld (pv 1) rfl) (by rfl)) (pe_and (pe_cmpR op_eq (pe_fld (pv 0) rfl) (pe_fld (pv 1) rfl) (by rfl)) (pe_and (pe_cmpR op_eq (pe_fld (pv 0) rfl) (pe_fld (pv 1) rfl) (by rfl)) (pe_one (pe_cmpR op_eq (pe_fld (pv 0) rfl) (pe_fld (pv 1) rfl) (by rfl))))))))), ?_⟩
  cases d <;> cases hd
  rename_i wd t k o
  rcases hk with ⟨d', b, rfl, ⟨dy, eb⟩, rfl⟩ | ⟨t0, ty, kf, rfl⟩
  · refine ⟨_, rfl, .ref b, .ref (c .give), .ref (c (clD d')), .ref (c .give), _, rfl, .own _, (G.t _).ty eb, G.kk _ _, _, rfl, ?_⟩
    by_cases hc : clD d' = .give
    case neg =>
      rw [decide_eq_false hc]
      rw [decide_eq_false (fun e => hc (by rw [← e]; rfl))] at q
      exact iteF (q H Ext.rfl')
    rw [decide_eq_true hc]
    cases d' <;> cases hc
    rename_i wd' t' k' o'
    refine iteT ⟨_, rfl, a, c .give, dx, _, _, rfl, ea, (G.t .give).cl, G.nGive0, rfl, _, rfl, b, c .give, dy, _, _, rfl, eb, (G.t .give).cl, G.nGive0, rfl, rfl, _, rfl, ?_⟩
    by_cases h0 : wd = wd'
    case neg =>
      rw [decide_eq_false (fun e => h0 (V.str.inj e))]
      rw [decide_eq_false (fun e => by cases e; exact h0 rfl)] at q
      exact iteF (q H Ext.rfl')
    subst h0
    rw [decide_eq_true rfl]
    refine iteT ⟨_, rfl, a, c .give, dx, _, _, rfl, ea, (G.t .give).cl, G.nGive1, rfl, _, rfl, b, c .give, dy, _, _, rfl, eb, (G.t .give).cl, G.nGive1, rfl, rfl, _, rfl, ?_⟩
    by_cases h1 : t = t'
    case neg =>
      rw [decide_eq_false (fun e => h1 (V.str.inj e))]
      rw [decide_eq_false (fun e => by cases e; exact h1 rfl)] at q
      exact iteF (q H Ext.rfl')
    subst h1
    rw [decide_eq_true rfl]
    refine iteT ⟨_, rfl, a, c .give, dx, _, _, rfl, ea, (G.t .give).cl, G.nGive2, rfl, _, rfl, b, c .give, dy, _, _, rfl, eb, (G.t .give).cl, G.nGive2, rfl, rfl, _, rfl, ?_⟩
    by_cases h2 : k = k'
    case neg =>
      rw [decide_eq_false (fun e => h2 (V.str.inj e))]
      rw [decide_eq_false (fun e => by cases e; exact h2 rfl)] at q
      exact iteF (q H Ext.rfl')
    subst h2
    rw [decide_eq_true rfl]
    refine iteT ⟨_, rfl, a, c .give, dx, _, _, rfl, ea, (G.t .give).cl, G.nGive3, rfl, _, rfl, b, c .give, dy, _, _, rfl, eb, (G.t .give).cl, G.nGive3, rfl, rfl, ?_⟩
    have e : decide (V.bl o = V.bl o') = decide (Dm.give wd t k o = Dm.give wd t k o') := by
      rw [Bool.eq_iff_iff]
      simp
    show Q (.bl (decide (V.bl o = V.bl o'))) H
    rw [e]
    exact q H Ext.rfl'
  · refine ⟨_, rfl, y, .ref (c .give), t0, .ref (c .give), _, rfl, .own _, ty, kf, _, rfl, ?_⟩
    exact iteF (q H Ext.rfl')
theorem ok_TakeE {c : Cs} (F : Fun K "__eq__" "Take.__eq__" s_Take_eq f fd) (G : DC K mg c) (mi : mg "isinstance" = none) : FnOk P w K mg base CX0 1 f fd ["self", "other"] (spEqB (RD K c .take)) := by
  refine F.ok sc_Take_eq spEqB_len (fun cdv A outer s H vs Q E hr h => ?_)
  obtain ⟨a, y, kb, rfl, ⟨d, hd, ⟨dx, ea⟩, hk⟩, q⟩ := h
  refine ⟨_, PSs.nox (pss_one (ps_ret (pe_and (pe_callB call_isi (by rfl) mi boot_isinstance (pa_cons (pv 1) (pa_cons (pe_glob (v := .ref (c .take)) (by rfl) G.gTake rfl) pa_nil))) (pe_and (pe_cmpR op_eq (pe_fld (pv 0) rfl) (pe_fld (pv 1) rfl) (by rfl)) (pe_and (pe_cmpR op_eq (pe_fld (pv 0) rfl) (pe_fld (pv 1) rfl) (by rfl)) (pe_and (pe_cmpR op_eq (pe_fld (pv 0) rfl) (pe_fld (pv 1) rfl) (by rfl)) (pe_and (pe_cmpR op_eq (pe_fld (pv 0) rfl) (pe_fld (pv 1) rfl) (by rfl)) (pe_and (pe_cmpR op_eq (pe_fld (pv 0) rfl) (pe_fld (pv 1) rfl) (by rfl)) (pe_one (pe_cmpR op_eq (pe_fld (pv 0) rfl) (pe_fld (pv 1) rfl) (by rfl))))))))))), ?_⟩
  cases d <;> cases hd
  rename_i wd t k g p cc
  rcases hk with ⟨d', b, rfl, ⟨dy, eb⟩, rfl⟩ | ⟨t0, ty, kf, rfl⟩
  · refine ⟨_, rfl, .ref b, .ref (c .take), .ref (c (clD d')), .ref (c .take), _, rfl, .own _, (G.t _).ty eb, G.kk _ _, _, rfl, ?_⟩
    by_cases hc : clD d' = .take
    case neg =>
      rw [decide_eq_false hc]
      rw [decide_eq_false (fun e => hc (by rw [← e]; rfl))] at q
      exact iteF (q H Ext.rfl')
    rw [decide_eq_true hc]
    cases d' <;> cases hc
    rename_i wd' t' k' g' p' cc'
    refine iteT ⟨_, rfl, a, c .take, dx, _, _, rfl, ea, (G.t .take).cl, G.nTake0, rfl, _, rfl, b, c .take, dy, _, _, rfl, eb, (G.t .take).cl, G.nTake0, rfl, rfl, _, rfl, ?_⟩
    by_cases h0 : wd = wd'
    case neg =>
      rw [decide_eq_false (fun e => h0 (V.str.inj e))]
      rw [decide_eq_false (fun e => by cases e; exact h0 rfl)] at q
      exact iteF (q H Ext.rfl')
    subst h0
    rw [decide_eq_true rfl]
    refine iteT ⟨_, rfl, a, c .take, dx, _, _, rfl, ea, (G.t .take).cl, G.nTake1, rfl, _, rfl, b, c .take, dy, _, _, rfl, eb, (G.t .take).cl, G.nTake1, rfl, rfl, _, rfl, ?_⟩
    by_cases h1 : t = t'
    case neg =>
      rw [decide_eq_false (fun e => h1 (V.str.inj e))]
      rw [decide_eq_false (fun e => by cases e; exact h1 rfl)] at q
      exact iteF (q H Ext.rfl')
    subst h1
    rw [decide_eq_true rfl]
    refine iteT ⟨_, rfl, a, c .take, dx, _, _, rfl, ea, (G.t .take).cl, G.nTake2, rfl, _, rfl, b, c .take, dy, _, _, rfl, eb, (G.t .take).cl, G.nTake2, rfl, rfl, _, rfl, ?_⟩
    by_cases h2 : k = k'
    case neg =>
      rw [decide_eq_false (fun e => h2 (V.str.inj e))]
      rw [decide_eq_false (fun e => by cases e; exact h2 rfl)] at q
      exact iteF (q H Ext.rfl')
    subst h2
    rw [decide_eq_true rfl]
    refine iteT ⟨_, rfl, a, c .take, dx, _, _, rfl, ea, (G.t .take).cl, G.nTake3, rfl, _, rfl, b, c .take, dy, _, _, rfl, eb, (G.t .take).cl, G.nTake3, rfl, gV_scal _ _, _, rfl, ?_⟩
    by_cases h3 : g = g'
    case neg =>
      rw [decide_eq_false (fun e => h3 (gV_inj e))]
      rw [decide_eq_false (fun e => by cases e; exact h3 rfl)] at q
      exact iteF (q H Ext.rfl')
    subst h3
    rw [decide_eq_true rfl]
    refine iteT ⟨_, rfl, a, c .take, dx, _, _, rfl, ea, (G.t .take).cl, G.nTake4, rfl, _, rfl, b, c .take, dy, _, _, rfl, eb, (G.t .take).cl, G.nTake4, rfl, rfl, _, rfl, ?_⟩
    by_cases h4 : p = p'
    case neg =>
      rw [decide_eq_false (fun e => h4 (V.bl.inj e))]
      rw [decide_eq_false (fun e => by cases e; exact h4 rfl)] at q
      exact iteF (q H Ext.rfl')
    subst h4
    rw [decide_eq_true rfl]
    refine iteT ⟨_, rfl, a, c .take, dx, _, _, rfl, ea, (G.t .take).cl, G.nTake5, rfl, _, rfl, b, c .take, dy, _, _, rfl, eb, (G.t .take).cl, G.nTake5, rfl, rfl, ?_⟩
    have e : decide (V.bl cc = V.bl cc') = decide (Dm.take wd t k g p cc = Dm.take wd t k g p cc') := by
      rw [Bool.eq_iff_iff]
      simp
    show Q (.bl (decide (V.bl cc = V.bl cc'))) H
    rw [e]
    exact q H Ext.rfl'
  · refine ⟨_, rfl, y, .ref (c .take), t0, .ref (c .take), _, rfl, .own _, ty, kf, _, rfl, ?_⟩
    exact iteF (q H Ext.rfl')
theorem ok_CallE {c : Cs} (F : Fun K "__eq__" "Call.__eq__" s_Call_eq f fd) (G : DC K mg c) (mi : mg "isinstance" = none) : FnOk P w K mg base CX0 1 f fd ["self", "other"] (spEqB (RD K c .call)) := by
  refine F.ok sc_Call_eq spEqB_len (fun cdv A outer s H vs Q E hr h => ?_)
  obtain ⟨a, y, kb, rfl, ⟨d, hd, ⟨dx, ea⟩, hk⟩, q⟩ := h
  refine ⟨_, PSs.nox (pss_one (ps_ret (pe_and (pe_callB call_isi (by rfl) mi boot_isinstance (pa_cons (pv 1) (pa_cons (pe_glob (v := .ref (c .call)) (by rfl) G.gCall rfl) pa_nil))) (pe_one (pe_cmpR op_eq (pe_fld (pv 0) rfl) (pe_fld (pv 1) rfl) (by rfl)))))), ?_⟩
  cases d <;> cases hd
  rename_i n
  rcases hk with ⟨d', b, rfl, ⟨dy, eb⟩, rfl⟩ | ⟨t0, ty, kf, rfl⟩
  · refine ⟨_, rfl, .ref b, .ref (c .call), .ref (c (clD d')), .ref (c .call), _, rfl, .own _, (G.t _).ty eb, G.kk _ _, _, rfl, ?_⟩
    by_cases hc : clD d' = .call
    case neg =>
      rw [decide_eq_false hc]
      rw [decide_eq_false (fun e => hc (by rw [← e]; rfl))] at q
      exact iteF (q H Ext.rfl')
    rw [decide_eq_true hc]
    cases d' <;> cases hc
    rename_i n'
    refine iteT ⟨_, rfl, a, c .call, dx, _, _, rfl, ea, (G.t .call).cl, G.nCall0, rfl, _, rfl, b, c .call, dy, _, _, rfl, eb, (G.t .call).cl, G.nCall0, rfl, rfl, ?_⟩
    have e : decide (V.str n = V.str n') = decide (Dm.call  n = Dm.call  n') := by
      rw [Bool.eq_iff_iff]
      simp
    show Q (.bl (decide (V.str n = V.str n'))) H
    rw [e]
    exact q H Ext.rfl'
  · refine ⟨_, rfl, y, .ref (c .call), t0, .ref (c .call), _, rfl, .own _, ty, kf, _, rfl, ?_⟩
    exact iteF (q H Ext.rfl')
theorem ok_PresetE {c : Cs} (F : Fun K "__eq__" "Preset.__eq__" s_Preset_eq f fd) (G : DC K mg c) (mi : mg "isinstance" = none) : FnOk P w K mg base CX0 1 f fd ["self", "other"] (spEqB (RD K c .preset)) := by
  refine F.ok sc_Preset_eq spEqB_len (fun cdv A outer s H vs Q E hr h => ?_)
  obtain ⟨a, y, kb, rfl, ⟨d, hd, ⟨dx, ea⟩, hk⟩, q⟩ := h
  refine ⟨_, PSs.nox (pss_one (ps_ret (pe_and (pe_callB call_isi (by rfl) mi boot_isinstance (pa_cons (pv 1) (pa_cons (pe_glob (v := .ref (c .preset)) (by rfl) G.gPreset rfl) pa_nil))) (pe_and (pe_cmpR op_eq (pe_fld (pv 0) rfl) (pe_fld (pv 1) rfl) (by rfl)) (pe_and (pe_cmpR op_eq (pe_fld (pv 0) rfl) (pe_fld (pv 1) rfl) (by rfl)) (pe_and (pe_cmpR op_eq (pe_fld (pv 0) rfl) (pe_fld (pv 1) rfl) (by rfl)) (pe_one (pe_cmpR op_eq (pe_fld (pv 0) rfl) (pe_fld (pv 1) rfl) (by rfl))))))))), ?_⟩
  cases d <;> cases hd
  rename_i sd wd k o
  rcases hk with ⟨d', b, rfl, ⟨dy, eb⟩, rfl⟩ | ⟨t0, ty, kf, rfl⟩
  · refine ⟨_, rfl, .ref b, .ref (c .preset), .ref (c (clD d')), .ref (c .preset), _, rfl, .own _, (G.t _).ty eb, G.kk _ _, _, rfl, ?_⟩
    by_cases hc : clD d' = .preset
    case neg =>
      rw [decide_eq_false hc]
      rw [decide_eq_false (fun e => hc (by rw [← e]; rfl))] at q
      exact iteF (q H Ext.rfl')
    rw [decide_eq_true hc]
    cases d' <;> cases hc
    rename_i sd' wd' k' o'
    refine iteT ⟨_, rfl, a, c .preset, dx, _, _, rfl, ea, (G.t .preset).cl, G.nPreset0, rfl, _, rfl, b, c .preset, dy, _, _, rfl, eb, (G.t .preset).cl, G.nPreset0, rfl, rfl, _, rfl, ?_⟩
    by_cases h0 : sd = sd'
    case neg =>
      rw [decide_eq_false (fun e => h0 (V.str.inj e))]
      rw [decide_eq_false (fun e => by cases e; exact h0 rfl)] at q
      exact iteF (q H Ext.rfl')
    subst h0
    rw [decide_eq_true rfl]
    refine iteT ⟨_, rfl, a, c .preset, dx, _, _, rfl, ea, (G.t .preset).cl, G.nPreset1, rfl, _, rfl, b, c .preset, dy, _, _, rfl, eb, (G.t .preset).cl, G.nPreset1, rfl, rfl, _, rfl, ?_⟩
    by_cases h1 : wd = wd'
    case neg =>
      rw [decide_eq_false (fun e => h1 (V.str.inj e))]
      rw [decide_eq_false (fun e => by cases e; exact h1 rfl)] at q
      exact iteF (q H Ext.rfl')
    subst h1
    rw [decide_eq_true rfl]
    refine iteT ⟨_, rfl, a, c .preset, dx, _, _, rfl, ea, (G.t .preset).cl, G.nPreset2, rfl, _, rfl, b, c .preset, dy, _, _, rfl, eb, (G.t .preset).cl, G.nPreset2, rfl, rfl, _, rfl, ?_⟩
    by_cases h2 : k = k'
    case neg =>
      rw [decide_eq_false (fun e => h2 (V.str.inj e))]
      rw [decide_eq_false (fun e => by cases e; exact h2 rfl)] at q
      exact iteF (q H Ext.rfl')
    subst h2
    rw [decide_eq_true rfl]
    refine iteT ⟨_, rfl, a, c .preset, dx, _, _, rfl, ea, (G.t .preset).cl, G.nPreset3, rfl, _, rfl, b, c .preset, dy, _, _, rfl, eb, (G.t .preset).cl, G.nPreset3, rfl, rfl, ?_⟩
    have e : decide (V.bl o = V.bl o') = decide (Dm.preset sd wd k o = Dm.preset sd wd k o') := by
      rw [Bool.eq_iff_iff]
      simp
    show Q (.bl (decide (V.bl o = V.bl o'))) H
    rw [e]
    exact q H Ext.rfl'
  · refine ⟨_, rfl, y, .ref (c .preset), t0, .ref (c .preset), _, rfl, .own _, ty, kf, _, rfl, ?_⟩
    exact iteF (q H Ext.rfl')
theorem ok_UseE {c : Cs} (F : Fun K "__eq__" "Use.__eq__" s_Use_eq f fd) (G : DC K mg c) (mi : mg "isinstance" = none) : FnOk P w K mg base CX0 1 f fd ["self", "other"] (spEqB (RD K c .use)) := by
  refine F.ok sc_Use_eq spEqB_len (fun cdv A outer s H vs Q E hr h => ?_)
  obtain ⟨a, y, kb, rfl, ⟨d, hd, ⟨dx, ea⟩, hk⟩, q⟩ := h
  refine ⟨_, PSs.nox (pss_one (ps_ret (pe_and (pe_callB call_isi (by rfl) mi boot_isinstance (pa_cons (pv 1) (pa_cons (pe_glob (v := .ref (c .use)) (by rfl) G.gUse rfl) pa_nil))) (pe_and (pe_cmpR op_eq (pe_fld (pv 0) rfl) (pe_fld (pv 1) rfl) (by rfl)) (pe_one (pe_cmpR op_eq (pe_fld (pv 0) rfl) (pe_fld (pv 1) rfl) (by rfl))))))), ?_⟩
  cases d <;> cases hd
  rename_i wd t
  rcases hk with ⟨d', b, rfl, ⟨dy, eb⟩, rfl⟩ | ⟨t0, ty, kf, rfl⟩
  · refine ⟨_, rfl, .ref b, .ref (c .use), .ref (c (clD d')), .ref (c .use), _, rfl, .own _, (G.t _).ty eb, G.kk _ _, _, rfl, ?_⟩
    by_cases hc : clD d' = .use
    case neg =>
      rw [decide_eq_false hc]
      rw [decide_eq_false (fun e => hc (by rw [← e]; rfl))] at q
      exact iteF (q H Ext.rfl')
    rw [decide_eq_true hc]
    cases d' <;> cases hc
    rename_i wd' t'
    refine iteT ⟨_, rfl, a, c .use, dx, _, _, rfl, ea, (G.t .use).cl, G.nUse0, rfl, _, rfl, b, c .use, dy, _, _, rfl, eb, (G.t .use).cl, G.nUse0, rfl, rfl, _, rfl, ?_⟩
    by_cases h0 : wd = wd'
    case neg =>
      rw [decide_eq_false (fun e => h0 (V.str.inj e))]
      rw [decide_eq_false (fun e => by cases e; exact h0 rfl)] at q
      exact iteF (q H Ext.rfl')
    subst h0
    rw [decide_eq_true rfl]
    refine iteT ⟨_, rfl, a, c .use, dx, _, _, rfl, ea, (G.t .use).cl, G.nUse1, rfl, _, rfl, b, c .use, dy, _, _, rfl, eb, (G.t .use).cl, G.nUse1, rfl, rfl, ?_⟩
    have e : decide (V.str t = V.str t') = decide (Dm.use wd t = Dm.use wd t') := by
      rw [Bool.eq_iff_iff]
      simp
    show Q (.bl (decide (V.str t = V.str t'))) H
    rw [e]
    exact q H Ext.rfl'
  · refine ⟨_, rfl, y, .ref (c .use), t0, .ref (c .use), _, rfl, .own _, ty, kf, _, rfl, ?_⟩
    exact iteF (q H Ext.rfl')
end
end K5F
set_option maxHeartbeats 4000000
namespace K5F
open PySem PySem.Spec PyProof.Rows L2 RL RE RN RM TL RQ K56
def opt (b : Bool) (z : Str) : List Str := if b then [z] else []
def wordsD : Dm → List Str
  | .give w t k o => [Str.ofString "give", w, t, k] ++ opt o (Str.ofString "option")
  | .take w t k g p c => [Str.ofString "take", w, t, k] ++ (match g with | none => [] | some y => [Str.ofString "by", y]) ++ opt p (Str.ofString "option") ++ opt c (Str.ofString "cascade")
  | .call n => [Str.ofString "call", n]
  | .preset s w k o => [Str.ofString "preset", s, w, k] ++ opt o (Str.ofString "option")
  | .use w t => [Str.ofString "use", w, t]
def strD (d : Dm) : Str := Txt.join (Str.ofString " ") (wordsD d)
def spStr (c : Cs) (x : Cl) : Sp := fun vs H Q _ => ∃ (a : Addr) (d : Dm), vs = [.ref a] ∧ DeedAt c H a d ∧ okD d ∧ clD d = x ∧ ∀ H', Ext H H' → Q (.str (strD d)) H'
theorem words_sz : ∀ ws : List Str, (∀ y ∈ ws, y.length ≤ 1000) → ws.length ≤ 20 → (ws.map (·.length)).sum + ws.length * 1 ≤ 16777216 := fun ws h hl => by
  have key : ∀ l : List Str, (∀ y ∈ l, y.length ≤ 1000) → (l.map (·.length)).sum ≤ 1000 * l.length := fun l => by
    induction l with
    | nil => intro _; simp
    | cons a r ih =>
      intro h
      have h1 := h a (List.mem_cons_self ..)
      have h2 := ih fun y hy => h y (List.mem_cons_of_mem _ hy)
      rw [List.map_cons, List.sum_cons, List.length_cons]
      omega
  have := key ws h
  omega
section
variable {P : Program} {w : World} {K : PySem.W.Frag} {mg : Str → Option Value} {base : Heap} {f : Addr} {fd : FuncData}
theorem ok_CallS {c : Cs} (F : Fun K "__str__" "Call.__str__" s_Call_str f fd) (G : DC K mg c) : FnOk P w K mg base CX0 1 f fd ["self"] (spStr c .call) := by
  refine F.ok sc_Call_str (fun vs H Q E h => by obtain ⟨a, d, rfl, _⟩ := h; rfl) (fun cdv A outer s H vs Q E hr h => ?_)
  obtain ⟨a, d, rfl, ⟨dx, ea⟩, ok, hp, q⟩ := h
  refine ⟨_, PSs.nox (pss_one (ps_ret (pe_join pe_str (pe_lst (pa_cons pe_str (pa_cons (pe_fld (pv 0) rfl) pa_nil)))))), ?_⟩
  cases d <;> cases hp
  rename_i n
  have hl := ok.1.1
  refine ⟨⟨_, rfl⟩, _, rfl, a, c .call, dx, _, _, rfl, ea, (G.t .call).cl, G.nCall0, rfl, by show 2 ≤ sizeLine; decide, fun p np => ?_⟩
  refine ⟨_, p, wordsD (.call n), rfl, rfl, .inl (SqL.of upd_same), ?_, q _ (Ext.upd np)⟩
  show (4 + (n.length + 0)) + 2 * 1 ≤ 16777216
  omega
theorem ok_UseS {c : Cs} (F : Fun K "__str__" "Use.__str__" s_Use_str f fd) (G : DC K mg c) : FnOk P w K mg base CX0 1 f fd ["self"] (spStr c .use) := by
  refine F.ok sc_Use_str (fun vs H Q E h => by obtain ⟨a, d, rfl, _⟩ := h; rfl) (fun cdv A outer s H vs Q E hr h => ?_)
  obtain ⟨a, d, rfl, ⟨dx, ea⟩, ok, hp, q⟩ := h
  refine ⟨_, PSs.nox (pss_one (ps_ret (pe_join pe_str (pe_lst (pa_cons pe_str (pa_cons (pe_fld (pv 0) rfl) (pa_cons (pe_fld (pv 0) rfl) pa_nil))))))), ?_⟩
  cases d <;> cases hp
  rename_i wd t
  obtain ⟨⟨l1, _⟩, ⟨l2, _⟩, _⟩ := ok
  refine ⟨⟨_, rfl⟩, _, rfl, a, c .use, dx, _, _, rfl, ea, (G.t .use).cl, G.nUse0, rfl, _, rfl, a, c .use, dx, _, _, rfl, ea, (G.t .use).cl, G.nUse1, rfl, by show 3 ≤ sizeLine; decide, fun p np => ?_⟩
  refine ⟨_, p, wordsD (.use wd t), rfl, rfl, .inl (SqL.of upd_same), ?_, q _ (Ext.upd np)⟩
  show (3 + (wd.length + (t.length + 0))) + 3 * 1 ≤ 16777216
  omega
theorem ok_GiveS {c : Cs} (F : Fun K "__str__" "Give.__str__" s_Give_str f fd) (G : DC K mg c) : FnOk P w K mg base CX0 1 f fd ["self"] (spStr c .give) := by
  refine F.ok sc_Give_str (fun vs H Q E h => by obtain ⟨a, d, rfl, _⟩ := h; rfl) (fun cdv A outer s H vs Q E hr h => ?_)
  obtain ⟨a, d, rfl, ⟨dx, ea⟩, ok, hp, q⟩ := h
  refine ⟨_, PSs.nox (pss_cons (ps_set (i := 1) sc_Give_str.nd rfl (.inl rfl) (pe_lst (pa_cons pe_str (pa_cons (pe_fld (pv 0) rfl) (pa_cons (pe_fld (pv 0) rfl) (pa_cons (pe_fld (pv 0) rfl) pa_nil))))))
    (pss_cons (ps_if (pt_val (pe_fld (pv 0) rfl)) (pss_one (ps_expr (pe_bm PySem.F.plainAttrs_list PySem.F.slot_list_append PySem.F.type_list_append mt_append (pv 1) (pa_cons pe_str pa_nil)))) pss_nil)
    (pss_one (ps_ret (pe_join pe_str (pv 1)))))), ?_⟩
  cases d <;> cases hp
  rename_i wd t k o
  obtain ⟨⟨l1, _⟩, ⟨l2, _⟩, ⟨l3, _⟩, _⟩ := ok
  refine ⟨_, rfl, a, c .give, dx, _, _, rfl, ea, (G.t .give).cl, G.nGive0, rfl, ?_⟩
  refine ⟨_, rfl, a, c .give, dx, _, _, rfl, ea, (G.t .give).cl, G.nGive1, rfl, ?_⟩
  refine ⟨_, rfl, a, c .give, dx, _, _, rfl, ea, (G.t .give).cl, G.nGive2, rfl, by show 4 ≤ sizeLine; decide, fun p np => ?_⟩
  have e1 : (upd H p (.lst [.str (Str.ofString "give"), .str wd, .str t, .str k])) p = some (.lst [.str (Str.ofString "give"), .str wd, .str t, .str k]) := upd_same
  have x1 : Ext H (upd H p (.lst [.str (Str.ofString "give"), .str wd, .str t, .str k])) := Ext.upd np
  generalize upd H p (.lst [.str (Str.ofString "give"), .str wd, .str t, .str k]) = H1 at e1 x1 ⊢
  refine ⟨_, rfl, a, c .give, dx, _, _, rfl, x1 _ _ ea, (G.t .give).cl, G.nGive3, rfl, _, rfl, ?_⟩
  cases o with
  | false =>
    refine iteF ⟨⟨_, rfl⟩, _, rfl, _, p, wordsD (.give wd t k false), rfl, rfl, .inl (SqL.of e1), ?_, q _ x1⟩
    show (4 + (wd.length + (t.length + (k.length + 0)))) + 4 * 1 ≤ 16777216
    omega
  | true =>
    refine iteT ⟨_, rfl, .inl ⟨rfl, _, .inl (.inl e1)⟩, p, _, _, rfl, rfl, e1, by show 4 < sizeLine; decide, ?_⟩
    have x2 : Ext H (upd H1 p (.lst ([.str (Str.ofString "give"), .str wd, .str t, .str k] ++ [.str (Str.ofString "option")]))) := fun b o e => by
      rw [upd_ne (fun z => by rw [z, np] at e; cases e)]
      exact x1 b o e
    refine ⟨⟨_, rfl⟩, _, rfl, _, p, wordsD (.give wd t k true), rfl, rfl, .inl (SqL.of upd_same), ?_, q _ x2⟩
    show (4 + (wd.length + (t.length + (k.length + (6 + 0))))) + 5 * 1 ≤ 16777216
    omega
theorem ok_PresetS {c : Cs} (F : Fun K "__str__" "Preset.__str__" s_Preset_str f fd) (G : DC K mg c) : FnOk P w K mg base CX0 1 f fd ["self"] (spStr c .preset) := by
  refine F.ok sc_Preset_str (fun vs H Q E h => by obtain ⟨a, d, rfl, _⟩ := h; rfl) (fun cdv A outer s H vs Q E hr h => ?_)
  obtain ⟨a, d, rfl, ⟨dx, ea⟩, ok, hp, q⟩ := h
  refine ⟨_, PSs.nox (pss_cons (ps_set (i := 1) sc_Preset_str.nd rfl (.inl rfl) (pe_lst (pa_cons pe_str (pa_cons (pe_fld (pv 0) rfl) (pa_cons (pe_fld (pv 0) rfl) (pa_cons (pe_fld (pv 0) rfl) pa_nil))))))
    (pss_cons (ps_if (pt_val (pe_fld (pv 0) rfl)) (pss_one (ps_expr (pe_bm PySem.F.plainAttrs_list PySem.F.slot_list_append PySem.F.type_list_append mt_append (pv 1) (pa_cons pe_str pa_nil)))) pss_nil)
    (pss_one (ps_ret (pe_join pe_str (pv 1)))))), ?_⟩
  cases d <;> cases hp
  rename_i sd wd k o
  obtain ⟨⟨l1, _⟩, ⟨l2, _⟩, ⟨l3, _⟩, _⟩ := ok
  refine ⟨_, rfl, a, c .preset, dx, _, _, rfl, ea, (G.t .preset).cl, G.nPreset0, rfl, ?_⟩
  refine ⟨_, rfl, a, c .preset, dx, _, _, rfl, ea, (G.t .preset).cl, G.nPreset1, rfl, ?_⟩
  refine ⟨_, rfl, a, c .preset, dx, _, _, rfl, ea, (G.t .preset).cl, G.nPreset2, rfl, by show 4 ≤ sizeLine; decide, fun p np => ?_⟩
  have e1 : (upd H p (.lst [.str (Str.ofString "preset"), .str sd, .str wd, .str k])) p = some (.lst [.str (Str.ofString "preset"), .str sd, .str wd, .str k]) := upd_same
  have x1 : Ext H (upd H p (.lst [.str (Str.ofString "preset"), .str sd, .str wd, .str k])) := Ext.upd np
  generalize upd H p (.lst [.str (Str.ofString "preset"), .str sd, .str wd, .str k]) = H1 at e1 x1 ⊢
  refine ⟨_, rfl, a, c .preset, dx, _, _, rfl, x1 _ _ ea, (G.t .preset).cl, G.nPreset3, rfl, _, rfl, ?_⟩
  cases o with
  | false =>
    refine iteF ⟨⟨_, rfl⟩, _, rfl, _, p, wordsD (.preset sd wd k false), rfl, rfl, .inl (SqL.of e1), ?_, q _ x1⟩
    show (6 + (sd.length + (wd.length + (k.length + 0)))) + 4 * 1 ≤ 16777216
    omega
  | true =>
    refine iteT ⟨_, rfl, .inl ⟨rfl, _, .inl (.inl e1)⟩, p, _, _, rfl, rfl, e1, by show 4 < sizeLine; decide, ?_⟩
    have x2 : Ext H (upd H1 p (.lst ([.str (Str.ofString "preset"), .str sd, .str wd, .str k] ++ [.str (Str.ofString "option")]))) := fun b o e => by
      rw [upd_ne (fun z => by rw [z, np] at e; cases e)]
      exact x1 b o e
    refine ⟨⟨_, rfl⟩, _, rfl, _, p, wordsD (.preset sd wd k true), rfl, rfl, .inl (SqL.of upd_same), ?_, q _ x2⟩
    show (6 + (sd.length + (wd.length + (k.length + (6 + 0))))) + 5 * 1 ≤ 16777216
    omega
/-- a growing list of words -/
structure Gr (H0 H : Hp) (p : Addr) (ws : List Str) : Prop where
  at_ : H p = some (.lst (ws.map V.str))
  ex : Ext H0 H
  new : H0 p = none
theorem Gr.app {H0 H : Hp} {p : Addr} {ws : List Str} (g : Gr H0 H p ws) (y : Str) : Gr H0 (upd H p (.lst (ws.map V.str ++ [.str y]))) p (ws ++ [y]) :=
  ⟨by rw [upd_same, List.map_append]; rfl, fun b o e => by rw [upd_ne (fun z => by rw [z, g.new] at e; cases e)]; exact g.ex b o e, g.new⟩
theorem ok_TakeS {c : Cs} (F : Fun K "__str__" "Take.__str__" s_Take_str f fd) (G : DC K mg c) : FnOk P w K mg base CX0 1 f fd ["self"] (spStr c .take) := by
  refine F.ok sc_Take_str (fun vs H Q E h => by obtain ⟨a, d, rfl, _⟩ := h; rfl) (fun cdv A outer s H vs Q E hr h => ?_)
  obtain ⟨a, d, rfl, ⟨dx, ea⟩, ok, hp, q⟩ := h
  refine ⟨_, PSs.nox (pss_cons (ps_set (i := 1) sc_Take_str.nd rfl (.inl rfl) (pe_lst (pa_cons pe_str (pa_cons (pe_fld (pv 0) rfl) (pa_cons (pe_fld (pv 0) rfl) (pa_cons (pe_fld (pv 0) rfl) pa_nil))))))
    (pss_cons (ps_if (pt_cmpR op_notN (pe_fld (pv 0) rfl) pe_non (by rfl)) (pss_cons (ps_expr (pe_bm PySem.F.plainAttrs_list PySem.F.slot_list_append PySem.F.type_list_append mt_append (pv 1) (pa_cons pe_str pa_nil))) (pss_one (ps_expr (pe_bm PySem.F.plainAttrs_list PySem.F.slot_list_append PySem.F.type_list_append mt_append (pv 1) (pa_cons (pe_fld (pv 0) rfl) pa_nil))))) pss_nil)
    (pss_cons (ps_if (pt_val (pe_fld (pv 0) rfl)) (pss_one (ps_expr (pe_bm PySem.F.plainAttrs_list PySem.F.slot_list_append PySem.F.type_list_append mt_append (pv 1) (pa_cons pe_str pa_nil)))) pss_nil)
    (pss_cons (ps_if (pt_val (pe_fld (pv 0) rfl)) (pss_one (ps_expr (pe_bm PySem.F.plainAttrs_list PySem.F.slot_list_append PySem.F.type_list_append mt_append (pv 1) (pa_cons pe_str pa_nil)))) pss_nil)
    (pss_one (ps_ret (pe_join pe_str (pv 1)))))))), ?_⟩
  cases d <;> cases hp
  rename_i wd t k g po cc
  obtain ⟨⟨l1, _⟩, ⟨l2, _⟩, ⟨l3, _⟩, _, _, _, hg⟩ := ok
  refine ⟨_, rfl, a, c .take, dx, _, _, rfl, ea, (G.t .take).cl, G.nTake0, rfl, ?_⟩
  refine ⟨_, rfl, a, c .take, dx, _, _, rfl, ea, (G.t .take).cl, G.nTake1, rfl, ?_⟩
  refine ⟨_, rfl, a, c .take, dx, _, _, rfl, ea, (G.t .take).cl, G.nTake2, rfl, by show 4 ≤ sizeLine; decide, fun p np => ?_⟩
  have g1 : Gr H (upd H p (.lst [.str (Str.ofString "take"), .str wd, .str t, .str k])) p [Str.ofString "take", wd, t, k] := ⟨upd_same, Ext.upd np, np⟩
  generalize upd H p (.lst [.str (Str.ofString "take"), .str wd, .str t, .str k]) = H1 at g1 ⊢
  cases g with
  | none =>
    refine ⟨_, rfl, a, c .take, dx, _, _, rfl, g1.ex _ _ ea, (G.t .take).cl, G.nTake3, rfl, rfl, _, rfl, ?_⟩
    refine iteF ?_
    refine ⟨_, rfl, a, c .take, dx, _, _, rfl, g1.ex _ _ ea, (G.t .take).cl, G.nTake4, rfl, _, rfl, ?_⟩
    cases po with
    | false =>
      refine iteF ?_
      refine ⟨_, rfl, a, c .take, dx, _, _, rfl, g1.ex _ _ ea, (G.t .take).cl, G.nTake5, rfl, _, rfl, ?_⟩
      cases cc with
      | false =>
        refine iteF ?_
        refine ⟨⟨_, rfl⟩, _, rfl, _, p, wordsD (.take wd t k none false false), rfl, rfl, .inl (SqL.of g1.at_), ?_, q _ g1.ex⟩
        show (4 + (wd.length + (t.length + (k.length + 0)))) + 4 * 1 ≤ 16777216
        omega
      | true =>
        refine iteT ⟨_, rfl, .inl ⟨rfl, _, .inl (.inl g1.at_)⟩, p, _, _, rfl, rfl, g1.at_, by show 4 < sizeLine; decide, ?_⟩
        have g1 := g1.app (Str.ofString "cascade")
        refine ⟨⟨_, rfl⟩, _, rfl, _, p, wordsD (.take wd t k none false true), rfl, rfl, .inl (SqL.of g1.at_), ?_, q _ g1.ex⟩
        show (4 + (wd.length + (t.length + (k.length + (7 + 0))))) + 5 * 1 ≤ 16777216
        omega
    | true =>
      refine iteT ⟨_, rfl, .inl ⟨rfl, _, .inl (.inl g1.at_)⟩, p, _, _, rfl, rfl, g1.at_, by show 4 < sizeLine; decide, ?_⟩
      have g1 := g1.app (Str.ofString "option")
      refine ⟨_, rfl, a, c .take, dx, _, _, rfl, g1.ex _ _ ea, (G.t .take).cl, G.nTake5, rfl, _, rfl, ?_⟩
      cases cc with
      | false =>
        refine iteF ?_
        refine ⟨⟨_, rfl⟩, _, rfl, _, p, wordsD (.take wd t k none true false), rfl, rfl, .inl (SqL.of g1.at_), ?_, q _ g1.ex⟩
        show (4 + (wd.length + (t.length + (k.length + (6 + 0))))) + 5 * 1 ≤ 16777216
        omega
      | true =>
        refine iteT ⟨_, rfl, .inl ⟨rfl, _, .inl (.inl g1.at_)⟩, p, _, _, rfl, rfl, g1.at_, by show 5 < sizeLine; decide, ?_⟩
        have g1 := g1.app (Str.ofString "cascade")
        refine ⟨⟨_, rfl⟩, _, rfl, _, p, wordsD (.take wd t k none true true), rfl, rfl, .inl (SqL.of g1.at_), ?_, q _ g1.ex⟩
        show (4 + (wd.length + (t.length + (k.length + (6 + (7 + 0)))))) + 6 * 1 ≤ 16777216
        omega
  | some y =>
    refine ⟨_, rfl, a, c .take, dx, _, _, rfl, g1.ex _ _ ea, (G.t .take).cl, G.nTake3, rfl, rfl, _, rfl, ?_⟩
    have l4 := (hg y rfl).1.1
    refine iteT ⟨_, rfl, .inl ⟨rfl, _, .inl (.inl g1.at_)⟩, p, _, _, rfl, rfl, g1.at_, by show 4 < sizeLine; decide, ?_⟩
    have g1 := g1.app (Str.ofString "by")
    refine ⟨_, rfl, .inl ⟨rfl, _, .inl (.inl g1.at_)⟩, _, rfl, a, c .take, dx, _, _, rfl, g1.ex _ _ ea, (G.t .take).cl, G.nTake3, rfl, p, _, _, rfl, rfl, g1.at_, by show 5 < sizeLine; decide, ?_⟩
    have g1 := g1.app y
    refine ⟨_, rfl, a, c .take, dx, _, _, rfl, g1.ex _ _ ea, (G.t .take).cl, G.nTake4, rfl, _, rfl, ?_⟩
    cases po with
    | false =>
      refine iteF ?_
      refine ⟨_, rfl, a, c .take, dx, _, _, rfl, g1.ex _ _ ea, (G.t .take).cl, G.nTake5, rfl, _, rfl, ?_⟩
      cases cc with
      | false =>
        refine iteF ?_
        refine ⟨⟨_, rfl⟩, _, rfl, _, p, wordsD (.take wd t k (some y) false false), rfl, rfl, .inl (SqL.of g1.at_), ?_, q _ g1.ex⟩
        show (4 + (wd.length + (t.length + (k.length + (2 + (y.length + 0)))))) + 6 * 1 ≤ 16777216
        omega
      | true =>
        refine iteT ⟨_, rfl, .inl ⟨rfl, _, .inl (.inl g1.at_)⟩, p, _, _, rfl, rfl, g1.at_, by show 6 < sizeLine; decide, ?_⟩
        have g1 := g1.app (Str.ofString "cascade")
        refine ⟨⟨_, rfl⟩, _, rfl, _, p, wordsD (.take wd t k (some y) false true), rfl, rfl, .inl (SqL.of g1.at_), ?_, q _ g1.ex⟩
        show (4 + (wd.length + (t.length + (k.length + (2 + (y.length + (7 + 0))))))) + 7 * 1 ≤ 16777216
        omega
    | true =>
      refine iteT ⟨_, rfl, .inl ⟨rfl, _, .inl (.inl g1.at_)⟩, p, _, _, rfl, rfl, g1.at_, by show 6 < sizeLine; decide, ?_⟩
      have g1 := g1.app (Str.ofString "option")
      refine ⟨_, rfl, a, c .take, dx, _, _, rfl, g1.ex _ _ ea, (G.t .take).cl, G.nTake5, rfl, _, rfl, ?_⟩
      cases cc with
      | false =>
        refine iteF ?_
        refine ⟨⟨_, rfl⟩, _, rfl, _, p, wordsD (.take wd t k (some y) true false), rfl, rfl, .inl (SqL.of g1.at_), ?_, q _ g1.ex⟩
        show (4 + (wd.length + (t.length + (k.length + (2 + (y.length + (6 + 0))))))) + 7 * 1 ≤ 16777216
        omega
      | true =>
        refine iteT ⟨_, rfl, .inl ⟨rfl, _, .inl (.inl g1.at_)⟩, p, _, _, rfl, rfl, g1.at_, by show 7 < sizeLine; decide, ?_⟩
        have g1 := g1.app (Str.ofString "cascade")
        refine ⟨⟨_, rfl⟩, _, rfl, _, p, wordsD (.take wd t k (some y) true true), rfl, rfl, .inl (SqL.of g1.at_), ?_, q _ g1.ex⟩
        show (4 + (wd.length + (t.length + (k.length + (2 + (y.length + (6 + (7 + 0)))))))) + 8 * 1 ≤ 16777216
        omega
end
end K5F
set_option maxHeartbeats 8000000
namespace K56
open PySem PySem.Spec PyProof.Rows L2 RL RE RN RM TL RQ RC
/-! ### the five deeds read -/
abbrev tBy : Str := Str.ofString "by"
abbrev tCas : Str := Str.ofString "cascade"
/-- the five made -/
structure Mk5 (P : Program) (w : World) (K : PySem.W.Frag) (mg : Str → Option Value) (base : Heap) (c : K5F.Cs) : Prop where
  G : ∃ (f : Addr) (fd : FuncData), Mk K (c .give) f ∧ FnOk P w K mg base CX0 4 f fd ["self", "right", "thing", "taker", "option"] (K5F.spInit K (c .give) .give) ∧ mg "Give" = some (.ref (c .give)) ∧ KBn K fd ["self", "right", "thing", "taker", "option"] 4 ["option"] (fun us ws => us ++ ws) (fun vs zs => vs ++ zs)
  T : ∃ (f : Addr) (fd : FuncData), Mk K (c .take) f ∧ FnOk P w K mg base CX0 4 f fd ["self", "right", "thing", "taker", "giver", "only_option", "cascade"] (K5F.spInit K (c .take) .take) ∧ mg "Take" = some (.ref (c .take)) ∧ KBn K fd ["self", "right", "thing", "taker", "giver", "only_option", "cascade"] 4 ["giver", "only_option", "cascade"] (fun us ws => us ++ ws) (fun vs zs => vs ++ zs)
  C : ∃ (f : Addr) (fd : FuncData), Mk K (c .call) f ∧ FnOk P w K mg base CX0 4 f fd ["self", "function"] (K5F.spInit K (c .call) .call) ∧ mg "Call" = some (.ref (c .call)) ∧ Binds K fd ["self", "function"] []
  P_ : ∃ (f : Addr) (fd : FuncData), Mk K (c .preset) f ∧ FnOk P w K mg base CX0 4 f fd ["self", "kind", "right", "taker", "option"] (K5F.spInit K (c .preset) .preset) ∧ mg "Preset" = some (.ref (c .preset)) ∧ KBn K fd ["self", "kind", "right", "taker", "option"] 4 ["option"] (fun us ws => us ++ ws) (fun vs zs => vs ++ zs)
  U : ∃ (f : Addr) (fd : FuncData), Mk K (c .use) f ∧ FnOk P w K mg base CX0 4 f fd ["self", "right", "thing"] (K5F.spInit K (c .use) .use) ∧ mg "Use" = some (.ref (c .use)) ∧ Binds K fd ["self", "right", "thing"] []
def gW5 : Option Str → List Str
  | none => []
  | some y => [tBy, y]
def endW (p c : Bool) : List Str := (if p = true then [tOpt] else []) ++ (if c = true then [tCas] else [])
theorem take_words (w t k : Str) (g : Option Str) (p c : Bool) : K5F.wordsD (.take w t k g p c) = [Str.ofString "take", w, t, k] ++ (gW5 g ++ endW p c) := by
  cases g <;> cases p <;> cases c <;> rfl
theorem opt_in (p c : Bool) : inV (.str tOpt) ((endW p c).map V.str) = p := by cases p <;> cases c <;> decide +kernel
theorem cas_in (p c : Bool) : inV (.str tCas) ((endW p c).map V.str) = c := by cases p <;> cases c <;> decide +kernel
theorem five_ok {K : PySem.W.Frag} {c : K5F.Cs} {H : Hp} {d : K5F.Dm} {x : K5F.Cl} {R : Addr → Hp → Prop} (hx : K5F.clD d = x) (ok : K5F.okD d) (q : ∀ a H', Same H H' → H a = none → K5F.DeedAt c H' a d → R a H') {a dx : Addr} (na : H a = none) (nd : H dx = none) :
    K5F.spInit K (c x) x (.ref a :: K5F.argsD d) (upd (upd H dx (.own a)) a (.ins (c x) dx [])) (fun v H3 => v = .non ∧ R a H3) E0 :=
  ⟨a, dx, d, rfl, hx, ok, upd_same, rfl, q a _ (own_same na nd) na ⟨dx, by rw [hx]; exact upd_same⟩⟩
def spRd5 (K : PySem.W.Frag) (c : K5F.Cs) (x : K5F.Cl) : Sp := fun vs H Q _ => ∃ (q : Addr) (d : K5F.Dm), vs = [.ref q] ∧ SqL K H q ((K5F.wordsD d).map V.str) ∧ K5F.okD d ∧ K5F.clD d = x ∧ ∀ a H', Same H H' → H a = none → K5F.DeedAt c H' a d → Q (.ref a) H'
def tGvr (K : PySem.W.Frag) (g : Option Str) (p c : Bool) : TS := fun D σ H => ∃ y0 y1 y2 y3 r, σ = [y0, y1, y2, y3, some (.ref r), some .non] ∧ SqL K H r ((gW5 g ++ endW p c).map V.str) ∧ ∀ r' H', Same H H' → SqL K H' r' ((endW p c).map V.str) → D.nx [y0, y1, y2, y3, some (.ref r'), some (K5F.gV g)] H'
section
variable {P : Program} {w : World} {K : PySem.W.Frag} {mg : Str → Option Value} {base : Heap} {f : Addr} {fd : FuncData}
theorem ok_take_of {c : K5F.Cs} (F : Fun K "take_of" "take_of" s_take_of f fd) (M : Mk5 P w K mg base c) (B : Df P w K mg base CX0 1 "behind_first" ["words", "count"] (spBF K)) (ml : mg "len" = none) : FnOk P w K mg base CX0 6 f fd ["words"] (spRd5 K c .take) := by
  obtain ⟨f1, fd1, M1, F1, g1, b1⟩ := M.T
  refine F.ok sc_take_of (fun vs H Q E h => by obtain ⟨p, d, rfl, _⟩ := h; rfl) (fun cdv A outer s H vs Q E hr h => ?_)
  obtain ⟨p0, d, rfl, hS, ok, hx, q⟩ := h
  cases d with
  | give => cases hx
  | call => cases hx
  | preset => cases hx
  | use => cases hx
  | take wd t k g p cc =>
  refine ⟨_, PSs.nox (pss_cons (ps_asg (pe_df0 B (hr.mono (by decide)) (by rfl) (pa_cons (pv 0) (pa_cons pe_int pa_nil))) (pg_lst (n := 3) rfl (pgs_cons (pg_name (i := 1) sc_take_of.nd rfl (.inl rfl)) (pgs_cons (pg_name (i := 2) sc_take_of.nd rfl (.inl rfl)) (pgs_cons (pg_name (i := 3) sc_take_of.nd rfl (.inl rfl)) pgs_nil)))))
    (pss_cons (ps_set (i := 4) sc_take_of.nd rfl (.inl rfl) (pe_slice sl_list (pv 0) (po_some pe_int) po_none))
    (pss_cons (ps_set (i := 5) sc_take_of.nd rfl (.inl rfl) pe_non)
    (pss_cons (PSw (u := tGvr K g p cc) (ps_if (PW.pt (pw_and (pt_cmpR op_gt (pe_callB call_len_seq (by rfl) ml PySem.boot_len (pa_cons (pv 4) pa_nil)) pe_int (nomark _)) (pw_and1 (pt_cmpR op_eq (pe_ix ix_list (pv 4) pe_int (fun _ _ => rfl)) pe_str (nomark _)))))
      (pss_cons (ps_set (i := 5) sc_take_of.nd rfl (.inl rfl) (pe_ix ix_list (pv 4) pe_int (fun _ _ => rfl))) (pss_one (ps_set (i := 4) sc_take_of.nd rfl (.inl rfl) (pe_slice sl_list (pv 4) (po_some pe_int) po_none)))) pss_nil) ?w1)
    (pss_one (ps_ret (pe_makeK (n := 3) M1 F1 hr (by rfl) g1 b1 pass0 (pa_cons (pv 1) (pa_cons (pv 2) (pa_cons (pv 3) pa_nil))) (pk_cons (pv 5) (pk_cons (pe_cmpR op_in_seq pe_str (pv 4) (by rfl)) (pk_cons (pe_cmpR op_in_seq pe_str (pv 4) (by rfl)) pk_nil)))))))))), ?main⟩
  case w1 =>
    intro D σ H1 h
    obtain ⟨y0, y1, y2, y3, r, rfl, hr', q1⟩ := h
    refine ⟨_, rfl, r, _, rfl, .inl hr', ((((gW5 g ++ endW p cc).map V.str).length : Nat) : Int), 1, rfl, rfl, _, rfl, ?_⟩
    cases g with
    | some y =>
      refine ite2 (fun _ => ?_) (fun e => absurd ?_ e)
      · refine ⟨_, rfl, r, _, 0, .str tBy, rfl, rfl, hr', atI_nat (j := 0) rfl, rfl, _, rfl, ?_⟩
        refine ite2 (fun _ => ?_) (fun e => absurd (decide_eq_true rfl) e)
        refine ⟨_, rfl, r, _, 1, .str y, rfl, rfl, hr', atI_nat (j := 1) rfl, _, rfl, 2, rfl, r, _, rfl, hr', fun r2 nr => ?_⟩
        exact q1 r2 _ (same_upd nr) (SqL.of (by rw [upd_same, cutV_back (by decide)]; rfl))
      · cases p <;> cases cc <;> rfl
    | none =>
      have q2 := q1 r H1 (fun _ _ e => e) hr'
      refine ite2 (fun e => ?_) (fun _ => q2)
      cases p with
      | false =>
        exfalso
        revert e
        cases cc <;> decide +kernel
      | true =>
        refine ⟨_, rfl, r, _, 0, .str tOpt, rfl, rfl, hr', atI_nat (j := 0) rfl, rfl, _, rfl, ?_⟩
        refine ite2 (fun e => ?_) (fun _ => q2)
        exfalso
        revert e
        decide +kernel
  case main =>
    have ew := take_words wd t k g p cc
    rw [ew] at hS
    have lw : ([Str.ofString "take", wd, t, k] ++ (gW5 g ++ endW p cc)).length ≤ 8 := by cases g <;> cases p <;> cases cc <;> exact Nat.le_of_ble_eq_true rfl
    refine ⟨_, rfl, p0, _, 3, rfl, hS, by decide, by decide, by rw [List.length_append]; show 4 ≤ 4 + _; omega, by omega, fun r1 H1 s1 nr e1 => ?_⟩
    have e1 : H1 r1 = some (.lst [.str wd, .str t, .str k]) := e1
    refine ⟨r1, _, rfl, SqL.of e1, rfl, ?_⟩
    refine ⟨_, _, rfl, _, _, rfl, _, _, rfl, rfl, ?_⟩
    refine ⟨_, rfl, 4, rfl, p0, _, rfl, SqL.ext hS s1, fun r2 nr2 => ?_⟩
    rw [cutV_back (by decide), show (4 : Int).toNat = 4 from rfl, ← List.map_drop]
    have ed : ([Str.ofString "take", wd, t, k] ++ (gW5 g ++ endW p cc)).drop 4 = gW5 g ++ endW p cc := rfl
    rw [ed]
    have s2 := s1.trans (same_upd (o := .lst ((gW5 g ++ endW p cc).map V.str)) nr2)
    have e2 : (upd H1 r2 (.lst ((gW5 g ++ endW p cc).map V.str))) r2 = some (.lst ((gW5 g ++ endW p cc).map V.str)) := upd_same
    generalize upd H1 r2 (.lst ((gW5 g ++ endW p cc).map V.str)) = H2 at s2 e2 ⊢
    refine ⟨_, _, _, _, r2, rfl, SqL.of e2, fun r3 H3 s3 h3 => ?_⟩
    have hA : ∀ (x : Str) (zs : List Str), (zs.map V.str).all (fun z => true) = true := fun x zs => by simp
    refine ⟨_, rfl, _, rfl, _, rfl, _, rfl, _, rfl, r3, _, rfl, .inl h3, rfl, ?_, ?_⟩
    · rw [List.all_map, List.all_eq_true]
      exact fun _ _ => rfl
    rw [opt_in]
    refine ⟨_, rfl, r3, _, rfl, .inl h3, rfl, ?_, ?_⟩
    · rw [List.all_map, List.all_eq_true]
      exact fun _ _ => rfl
    rw [cas_in]
    refine ⟨rfl, rfl, fun x dx nx nd ne => ?_⟩
    exact five_ok (d := .take wd t k g p cc) (x := .take) (R := fun a H' => Q (.ref a) H') rfl ok (fun a H' sm na hd => q a H' (fun y o e => sm _ _ (s3 _ _ (s2 _ _ e))) (same_none s2 (same_none s3 na)) hd) nx nd
end
end K56
set_option maxHeartbeats 8000000
namespace K56
open PySem PySem.Spec PyProof.Rows L2 RL RE RN RM TL RQ RC
/-! ### the others -/
def optW (o : Bool) : List Str := if o = true then [tOpt] else []
theorem optW_in (o : Bool) : inV (.str tOpt) ((optW o).map V.str) = o := by cases o <;> decide +kernel
section
variable {P : Program} {w : World} {K : PySem.W.Frag} {mg : Str → Option Value} {base : Heap} {f : Addr} {fd : FuncData}
theorem ok_give_of5 {c : K5F.Cs} (F : Fun K "give_of" "give_of" s_give_of f fd) (M : Mk5 P w K mg base c) (B : Df P w K mg base CX0 1 "behind_first" ["words", "count"] (spBF K)) : FnOk P w K mg base CX0 6 f fd ["words"] (spRd5 K c .give) := by
  obtain ⟨f1, fd1, M1, F1, g1, b1⟩ := M.G
  refine F.ok sc_give_of (fun vs H Q E h => by obtain ⟨p, d, rfl, _⟩ := h; rfl) (fun cdv A outer s H vs Q E hr h => ?_)
  obtain ⟨p0, d, rfl, hS, ok, hx, q⟩ := h
  cases d with
  | take => cases hx
  | call => cases hx
  | preset => cases hx
  | use => cases hx
  | give wd t k o =>
  refine ⟨_, PSs.nox (pss_cons (ps_asg (pe_df0 B (hr.mono (by decide)) (by rfl) (pa_cons (pv 0) (pa_cons pe_int pa_nil))) (pg_lst (n := 3) rfl (pgs_cons (pg_name (i := 1) sc_give_of.nd rfl (.inl rfl)) (pgs_cons (pg_name (i := 2) sc_give_of.nd rfl (.inl rfl)) (pgs_cons (pg_name (i := 3) sc_give_of.nd rfl (.inl rfl)) pgs_nil)))))
    (pss_one (ps_ret (pe_makeK (n := 3) M1 F1 hr (by rfl) g1 b1 pass0 (pa_cons (pv 1) (pa_cons (pv 2) (pa_cons (pv 3) pa_nil))) (pk_cons (pe_cmpR op_in_seq pe_str (pe_slice sl_list (pv 0) (po_some pe_int) po_none) (by rfl)) pk_nil))))), ?_⟩
  have ew : K5F.wordsD (.give wd t k o) = [Str.ofString "give", wd, t, k] ++ optW o := by cases o <;> rfl
  rw [ew] at hS
  have lw : ([Str.ofString "give", wd, t, k] ++ optW o).length ≤ 8 := by cases o <;> exact Nat.le_of_ble_eq_true rfl
  refine ⟨_, rfl, p0, _, 3, rfl, hS, by decide, by decide, by rw [List.length_append]; show 4 ≤ 4 + _; omega, by omega, fun r1 H1 s1 nr e1 => ?_⟩
  have e1 : H1 r1 = some (.lst [.str wd, .str t, .str k]) := e1
  refine ⟨r1, _, rfl, SqL.of e1, rfl, ?_⟩
  refine ⟨_, _, rfl, _, _, rfl, _, _, rfl, rfl, ?_⟩
  refine ⟨_, rfl, _, rfl, _, rfl, _, rfl, 4, rfl, p0, _, rfl, SqL.ext hS s1, fun r2 nr2 => ?_⟩
  rw [cutV_back (by decide), show (4 : Int).toNat = 4 from rfl, ← List.map_drop]
  have ed : ([Str.ofString "give", wd, t, k] ++ optW o).drop 4 = optW o := rfl
  rw [ed]
  have s2 := s1.trans (same_upd (o := .lst ((optW o).map V.str)) nr2)
  have e2 : (upd H1 r2 (.lst ((optW o).map V.str))) r2 = some (.lst ((optW o).map V.str)) := upd_same
  generalize upd H1 r2 (.lst ((optW o).map V.str)) = H2 at s2 e2 ⊢
  refine ⟨r2, _, rfl, .inl (SqL.of e2), rfl, ?_, ?_⟩
  · rw [List.all_map, List.all_eq_true]
    exact fun _ _ => rfl
  rw [optW_in]
  refine ⟨rfl, rfl, fun x dx nx nd ne => ?_⟩
  exact five_ok (d := .give wd t k o) (x := .give) (R := fun a H' => Q (.ref a) H') rfl ok (fun a H' sm na hd => q a H' (fun y o e => sm _ _ (s2 _ _ e)) (same_none s2 na) hd) nx nd
theorem ok_preset_of5 {c : K5F.Cs} (F : Fun K "preset_of" "preset_of" s_preset_of f fd) (M : Mk5 P w K mg base c) (B : Df P w K mg base CX0 1 "behind_first" ["words", "count"] (spBF K)) : FnOk P w K mg base CX0 6 f fd ["words"] (spRd5 K c .preset) := by
  obtain ⟨f1, fd1, M1, F1, g1, b1⟩ := M.P_
  refine F.ok sc_preset_of (fun vs H Q E h => by obtain ⟨p, d, rfl, _⟩ := h; rfl) (fun cdv A outer s H vs Q E hr h => ?_)
  obtain ⟨p0, d, rfl, hS, ok, hx, q⟩ := h
  cases d with
  | give => cases hx
  | take => cases hx
  | call => cases hx
  | use => cases hx
  | preset sd wd k o =>
  refine ⟨_, PSs.nox (pss_cons (ps_asg (pe_df0 B (hr.mono (by decide)) (by rfl) (pa_cons (pv 0) (pa_cons pe_int pa_nil))) (pg_lst (n := 3) rfl (pgs_cons (pg_name (i := 1) sc_preset_of.nd rfl (.inl rfl)) (pgs_cons (pg_name (i := 2) sc_preset_of.nd rfl (.inl rfl)) (pgs_cons (pg_name (i := 3) sc_preset_of.nd rfl (.inl rfl)) pgs_nil)))))
    (pss_one (ps_ret (pe_makeK (n := 3) M1 F1 hr (by rfl) g1 b1 pass0 (pa_cons (pv 1) (pa_cons (pv 2) (pa_cons (pv 3) pa_nil))) (pk_cons (pe_cmpR op_in_seq pe_str (pe_slice sl_list (pv 0) (po_some pe_int) po_none) (by rfl)) pk_nil))))), ?_⟩
  have ew : K5F.wordsD (.preset sd wd k o) = [Str.ofString "preset", sd, wd, k] ++ optW o := by cases o <;> rfl
  rw [ew] at hS
  have lw : ([Str.ofString "preset", sd, wd, k] ++ optW o).length ≤ 8 := by cases o <;> exact Nat.le_of_ble_eq_true rfl
  refine ⟨_, rfl, p0, _, 3, rfl, hS, by decide, by decide, by rw [List.length_append]; show 4 ≤ 4 + _; omega, by omega, fun r1 H1 s1 nr e1 => ?_⟩
  have e1 : H1 r1 = some (.lst [.str sd, .str wd, .str k]) := e1
  refine ⟨r1, _, rfl, SqL.of e1, rfl, ?_⟩
  refine ⟨_, _, rfl, _, _, rfl, _, _, rfl, rfl, ?_⟩
  refine ⟨_, rfl, _, rfl, _, rfl, _, rfl, 4, rfl, p0, _, rfl, SqL.ext hS s1, fun r2 nr2 => ?_⟩
  rw [cutV_back (by decide), show (4 : Int).toNat = 4 from rfl, ← List.map_drop]
  have ed : ([Str.ofString "preset", sd, wd, k] ++ optW o).drop 4 = optW o := rfl
  rw [ed]
  have s2 := s1.trans (same_upd (o := .lst ((optW o).map V.str)) nr2)
  have e2 : (upd H1 r2 (.lst ((optW o).map V.str))) r2 = some (.lst ((optW o).map V.str)) := upd_same
  generalize upd H1 r2 (.lst ((optW o).map V.str)) = H2 at s2 e2 ⊢
  refine ⟨r2, _, rfl, .inl (SqL.of e2), rfl, ?_, ?_⟩
  · rw [List.all_map, List.all_eq_true]
    exact fun _ _ => rfl
  rw [optW_in]
  refine ⟨rfl, rfl, fun x dx nx nd ne => ?_⟩
  exact five_ok (d := .preset sd wd k o) (x := .preset) (R := fun a H' => Q (.ref a) H') rfl ok (fun a H' sm na hd => q a H' (fun y o e => sm _ _ (s2 _ _ e)) (same_none s2 na) hd) nx nd
theorem ok_call_of5 {c : K5F.Cs} (F : Fun K "call_of" "call_of" s_call_of f fd) (M : Mk5 P w K mg base c) (B : Df P w K mg base CX0 1 "behind_first" ["words", "count"] (spBF K)) : FnOk P w K mg base CX0 6 f fd ["words"] (spRd5 K c .call) := by
  obtain ⟨f1, fd1, M1, F1, g1, b1⟩ := M.C
  refine F.ok sc_call_of (fun vs H Q E h => by obtain ⟨p, d, rfl, _⟩ := h; rfl) (fun cdv A outer s H vs Q E hr h => ?_)
  obtain ⟨p0, d, rfl, hS, ok, hx, q⟩ := h
  cases d with
  | give => cases hx
  | take => cases hx
  | preset => cases hx
  | use => cases hx
  | call n =>
  refine ⟨_, PSs.nox (pss_one (ps_ret (pe_make M1 F1 hr (by rfl) g1 b1 .nil pass0 (pa_cons (pe_ix ix_list (pe_df0 B (hr.mono (by decide)) (by rfl) (pa_cons (pv 0) (pa_cons pe_int pa_nil))) pe_int (fun _ _ => rfl)) pa_nil)))), ?_⟩
  refine ⟨_, rfl, p0, [Str.ofString "call", n], 1, rfl, hS, by decide, by decide, by show 2 ≤ 2; decide, by show 2 ≤ 60; decide, fun r H1 s1 nr e1 => ?_⟩
  refine ⟨r, _, 0, .str n, rfl, rfl, SqL.of e1, atI_nat (j := 0) rfl, fun x dx nx nd ne => ?_⟩
  exact five_ok (d := .call n) (x := .call) (R := fun a H' => Q (.ref a) H') rfl ok (fun a H' sm na hd => q a H' (fun y o e => sm _ _ (s1 _ _ e)) (same_none s1 na) hd) nx nd
theorem ok_use_of5 {c : K5F.Cs} (F : Fun K "use_of" "use_of" s_use_of f fd) (M : Mk5 P w K mg base c) (B : Df P w K mg base CX0 1 "behind_first" ["words", "count"] (spBF K)) : FnOk P w K mg base CX0 6 f fd ["words"] (spRd5 K c .use) := by
  obtain ⟨f1, fd1, M1, F1, g1, b1⟩ := M.U
  refine F.ok sc_use_of (fun vs H Q E h => by obtain ⟨p, d, rfl, _⟩ := h; rfl) (fun cdv A outer s H vs Q E hr h => ?_)
  obtain ⟨p0, d, rfl, hS, ok, hx, q⟩ := h
  cases d with
  | give => cases hx
  | take => cases hx
  | call => cases hx
  | preset => cases hx
  | use wd t =>
  refine ⟨_, PSs.nox (pss_cons (ps_asg (pe_df0 B (hr.mono (by decide)) (by rfl) (pa_cons (pv 0) (pa_cons pe_int pa_nil))) (pg_lst (n := 2) rfl (pgs_cons (pg_name (i := 1) sc_use_of.nd rfl (.inl rfl)) (pgs_cons (pg_name (i := 2) sc_use_of.nd rfl (.inl rfl)) pgs_nil))))
    (pss_one (ps_ret (pe_make M1 F1 hr (by rfl) g1 b1 .nil pass0 (pa_cons (pv 1) (pa_cons (pv 2) pa_nil)))))), ?_⟩
  refine ⟨_, rfl, p0, [Str.ofString "use", wd, t], 2, rfl, hS, by decide, by decide, by show 3 ≤ 3; decide, by show 3 ≤ 60; decide, fun r H1 s1 nr e1 => ?_⟩
  have e1 : H1 r = some (.lst [.str wd, .str t]) := e1
  refine ⟨r, _, rfl, SqL.of e1, rfl, ?_⟩
  refine ⟨_, _, rfl, _, _, rfl, rfl, ?_⟩
  refine ⟨_, rfl, _, rfl, fun x dx nx nd ne => ?_⟩
  exact five_ok (d := .use wd t) (x := .use) (R := fun a H' => Q (.ref a) H') rfl ok (fun a H' sm na hd => q a H' (fun y o e => sm _ _ (s1 _ _ e)) (same_none s1 na) hd) nx nd
end
end K56
set_option maxHeartbeats 4000000
namespace K56
open PySem PySem.Spec PyProof.Rows L2 RL RE RN TL RQ RC
/-- two deeds at hand -/
def DDeed (c : Cs) : EqvB := fun x y H k => ∃ (a b : Addr) (d d' : Dm), x = .ref a ∧ y = .ref b ∧ DeedAt c H a d ∧ DeedAt c H b d' ∧ k = decide (d = d')
theorem deed_inj {c : Cs} {H : Hp} {a : Addr} {d d' : Dm} (h : DeedAt c H a d) (h' : DeedAt c H a d') : d = d' := by
  obtain ⟨dx, e⟩ := h
  obtain ⟨dy, e'⟩ := h'
  rw [e] at e'
  have e2 := Option.some.inj e'
  cases d with
  | call n =>
    cases d' with
    | call n' =>
      have e3 : (fieldsD (.call n)) = fieldsD (.call n') := by injection e2
      simp only [fieldsD, List.cons.injEq, Prod.mk.injEq, V.str.injEq] at e3
      rw [e3.1.2]
    | give wd t k o =>
      have e3 : (fieldsD (.call n)) = fieldsD (.give wd t k o) := by injection e2
      simp [fieldsD] at e3
  | give wd t k o =>
    cases d' with
    | call n' =>
      have e3 : (fieldsD (.give wd t k o)) = fieldsD (.call n') := by injection e2
      simp [fieldsD] at e3
    | give w' t' k' o' =>
      have e3 : (fieldsD (.give wd t k o)) = fieldsD (.give w' t' k' o') := by injection e2
      simp only [fieldsD, List.cons.injEq, Prod.mk.injEq, V.str.injEq, V.bl.injEq, true_and, and_true] at e3
      obtain ⟨h1, h2, h3, h4⟩ := e3
      rw [h1, h2, h3, h4]
theorem mon_deed {c : Cs} : MonB (DDeed c) := fun x y H H' k e d => by
  obtain ⟨a, b, d, d', hx, hy, ⟨dx, h1⟩, ⟨dy, h2⟩, hk⟩ := d
  exact ⟨a, b, d, d', hx, hy, ⟨dx, e _ _ h1⟩, ⟨dy, e _ _ h2⟩, hk⟩
/-- what == of deeds needs -/
structure DE (P : Program) (w : World) (K : PySem.W.Frag) (mg : Str → Option Value) (base : Heap) (c : Cs) : Prop where
  C : ∃ (f : Addr) (fd : FuncData), FnOk P w K mg base CX0 1 f fd ["self", "other"] (spEqB (RDC c)) ∧ PySem.W.findIn K (.ref c.call) "__eq__" = some (some (.ref f)) ∧ PySem.W.isFn K (.ref f) = true ∧ Binds K fd ["self", "other"] []
  G : ∃ (f : Addr) (fd : FuncData), FnOk P w K mg base CX0 1 f fd ["self", "other"] (spEqB (RDG c)) ∧ PySem.W.findIn K (.ref c.give) "__eq__" = some (some (.ref f)) ∧ PySem.W.isFn K (.ref f) = true ∧ Binds K fd ["self", "other"] []
  nf : ∀ d d' : Dm, PySem.W.notFirst K (clsD c d) (.ref (clsD c d')) = true
theorem rcB_deed {X : Cx} {c : Cs} (D : DE X.prog X.w X.K X.mg X.base c) : RcB X 1 (DDeed c) := by
  intro A pins s σ H x y u v k sb I rx ry h
  obtain ⟨a, b, d, d', rfl, rfl, ⟨dx, ea⟩, ⟨dy, eb⟩, rfl⟩ := h
  obtain ⟨f1, fd1, F1, s1, i1, b1⟩ := D.C
  obtain ⟨f2, fd2, F2, s2, i2, b2⟩ := D.G
  cases d with
  | call n => exact rcB_ins F1 s1 i1 b1 pass0 A pins s σ H _ _ u v _ sb I rx ry ⟨a, b, dx, dy, _, _, clsD c d', rfl, rfl, ea, eb, D.nf (.call n) d', n, d', b, ⟨dx, ea⟩, rfl, ⟨dy, eb⟩, rfl⟩
  | give wd t kk o => exact rcB_ins F2 s2 i2 b2 pass0 A pins s σ H _ _ u v _ sb I rx ry ⟨a, b, dx, dy, _, _, clsD c d', rfl, rfl, ea, eb, D.nf (.give wd t kk o) d', wd, t, kk, o, d', b, ⟨dx, ea⟩, rfl, ⟨dy, eb⟩, rfl⟩
theorem eqB_deed {X : Cx} {c : Cs} (D : DE X.prog X.w X.K X.mg X.base c) : EqB X 1 (DDeed c) :=
  (rcB_deed D).eqB (fun x y H k ⟨a, b, _, _, hx, hy, _⟩ => ⟨a, b, hx, hy⟩) (fun x H k ⟨a, b, d, d', hx, hy, h1, h2, hk⟩ => by
    subst hx
    cases hy
    rw [hk, deed_inj h1 h2]
    exact decide_eq_true rfl)
theorem zip_all : ∀ (ds ds' : List Dm), ds.length = ds'.length → (List.zipWith (fun d d' => decide (d = d')) ds ds').all id = decide (ds = ds')
  | [], [], _ => rfl
  | d :: ds, d' :: ds', h => by
    have ih := zip_all ds ds' (by simpa using h)
    rw [List.zipWith_cons_cons, List.all_cons, ih]
    rw [Bool.eq_iff_iff]
    simp
/-- two lists of deeds -/
theorem list_deeds {c : Cs} {H : Hp} {p q : Addr} {xs ys : List V} {ds ds' : List Dm} (h1 : H p = some (.lst xs)) (h2 : H q = some (.lst ys)) (d1 : Deeds c H xs ds) (d2 : Deeds c H ys ds') : DListB (DDeed c) (.ref p) (.ref q) H (decide (ds = ds')) := by
  refine ⟨p, q, xs, ys, rfl, rfl, h1, h2, ?_⟩
  by_cases hl : xs.length = ys.length
  · refine .inr ⟨List.zipWith (fun d d' => decide (d = d')) ds ds', hl, ?_, ?_, ?_⟩
    · rw [List.length_zipWith, ← d1.1, ← d2.1, hl, Nat.min_self]
    · intro i x y d g1 g2 g3
      have q1 : i < ds.length := by rw [← d1.1]; exact (List.getElem?_eq_some_iff.mp g1).1
      have q2 : i < ds'.length := by rw [← d2.1]; exact (List.getElem?_eq_some_iff.mp g2).1
      obtain ⟨a, rfl, ea⟩ := d1.2 i x _ g1 (List.getElem?_eq_getElem q1)
      obtain ⟨b, rfl, eb⟩ := d2.2 i y _ g2 (List.getElem?_eq_getElem q2)
      refine ⟨a, b, _, _, rfl, rfl, ea, eb, ?_⟩
      rw [List.getElem?_zipWith, List.getElem?_eq_getElem q1, List.getElem?_eq_getElem q2] at g3
      exact (Option.some.inj g3).symm
    · exact (zip_all ds ds' (by rw [← d1.1, ← d2.1]; exact hl)).symm
  · refine .inl ⟨hl, decide_eq_false fun e => hl ?_⟩
    rw [d1.1, d2.1, e]
end K56
set_option maxHeartbeats 4000000
namespace K56
open PySem PySem.Spec PyProof.Rows L2 RL RE RN RM TL RQ RC
/-! ### things compared -/
/-- how a thing of a kind compares with any value -/
def RE_ (K : PySem.W.Frag) (c : Cs) (k : Ks) (kd : Str) : Addr → V → Hp → Bool → Prop := fun a y H b => ∃ t, ThAt c k H a t ∧ okT t ∧ t.kind = kd ∧ ∃ tt, TyX K H y tt ∧
  ((PySem.W.kitOne K tt (.ref (clsK k kd)) = some true ∧ ∃ a2 t2, y = .ref a2 ∧ ThAt c k H a2 t2 ∧ okT t2 ∧ t2.kind = kd ∧ b = decide (t = t2)) ∨ (PySem.W.kitOne K tt (.ref (clsK k kd)) = some false ∧ b = false))
theorem plain_eq {t t2 : Th} (o1 : okT t) (o2 : okT t2) (n1 : t.kind ≠ tFun) (n2 : t2.kind ≠ tFun) : decide (tmT t = tmT t2) = decide (t = t2) := by
  obtain ⟨m1, b1⟩ := o1.no n1
  obtain ⟨m2, b2⟩ := o2.no n2
  cases t
  cases t2
  simp only at m1 b1 m2 b2
  subst m1 b1 m2 b2
  rw [Bool.eq_iff_iff]
  simp [tmT]
theorem fun_eq (t t2 : Th) : decide (t = t2) = (decide (tmT t = tmT t2) && (decide (t.mode = t2.mode) && decide (t.body = t2.body))) := by
  cases t
  cases t2
  rw [Bool.eq_iff_iff]
  simp [tmT, and_assoc]
section
variable {P : Program} {w : World} {K : PySem.W.Frag} {mg : Str → Option Value} {base : Heap} {f : Addr} {fd : FuncData}
theorem ok_RoleE {c : Cs} {k : Ks} {fH : Addr} {fdH : FuncData} (F : Fun K "__eq__" "Role.__eq__" s_Role_eq f fd) (T : TF K k.rol) (gC : mg "Role" = some (.ref k.rol)) (mi : mg "isinstance" = none)
    (M : Meth K k.rol "same_head" fH) (FH : FnOk P w K mg base CX0 2 fH fdH ["self", "other"] (spHead K)) (bH : Binds K fdH ["self", "other"] []) : FnOk P w K mg base CX0 3 f fd ["self", "other"] (spEqB (RE_ K c k tRol)) := by
  refine F.ok sc_Role_eq spEqB_len (fun cdv A outer s H vs Q E hr h => ?_)
  obtain ⟨a, y, kb, rfl, ⟨t, hT, ok, ek, tt, ty, hk⟩, q⟩ := h
  rw [cls_rol] at hk
  refine ⟨_, PSs.nox (pss_one (ps_ret (pe_and (pe_callB call_isi (by rfl) mi boot_isinstance (pa_cons (pv 1) (pa_cons (pe_glob (v := .ref k.rol) (by rfl) gC rfl) pa_nil)))
    (pe_one (pe_meth (pv 0) T.cl M FH hr bH .nil pass0 (pa_cons (pv 1) pa_nil)))))), ?_⟩
  rcases hk with ⟨kt, b, t2, rfl, hb, ok2, ek2, rfl⟩ | ⟨kf, rfl⟩
  · refine ⟨_, rfl, .ref b, .ref k.rol, tt, .ref k.rol, _, rfl, .own _, ty, kt, _, rfl, ?_⟩
    have h1 := hT.head
    have h2 := hb.head
    rw [ek, cls_rol] at h1
    rw [ek2, cls_rol] at h2
    have nom := hT.nom
    obtain ⟨dx, fs, v, ea, r⟩ := id h1
    refine iteT ⟨_, rfl, a, dx, fs, rfl, ea, (nom _ _ _ ea).1, _, rfl, a, b, k.rol, k.rol, tmT t, tmT t2, rfl, T, T, h1, h2, ?_⟩
    rw [plain_eq ok ok2 (by rw [ek]; exact fun z => fun_ne z.symm) (by rw [ek2]; exact fun z => fun_ne z.symm)]
    exact q H Ext.rfl'
  · refine ⟨_, rfl, y, .ref k.rol, tt, .ref k.rol, _, rfl, .own _, ty, kf, _, rfl, ?_⟩
    exact iteF (q H Ext.rfl')
theorem ok_TableE {c : Cs} {k : Ks} {fH : Addr} {fdH : FuncData} (F : Fun K "__eq__" "Table.__eq__" s_Table_eq f fd) (T : TF K k.tab) (gC : mg "Table" = some (.ref k.tab)) (mi : mg "isinstance" = none)
    (M : Meth K k.tab "same_head" fH) (FH : FnOk P w K mg base CX0 2 fH fdH ["self", "other"] (spHead K)) (bH : Binds K fdH ["self", "other"] []) : FnOk P w K mg base CX0 3 f fd ["self", "other"] (spEqB (RE_ K c k tTab)) := by
  refine F.ok sc_Table_eq spEqB_len (fun cdv A outer s H vs Q E hr h => ?_)
  obtain ⟨a, y, kb, rfl, ⟨t, hT, ok, ek, tt, ty, hk⟩, q⟩ := h
  rw [cls_tab] at hk
  refine ⟨_, PSs.nox (pss_one (ps_ret (pe_and (pe_callB call_isi (by rfl) mi boot_isinstance (pa_cons (pv 1) (pa_cons (pe_glob (v := .ref k.tab) (by rfl) gC rfl) pa_nil)))
    (pe_one (pe_meth (pv 0) T.cl M FH hr bH .nil pass0 (pa_cons (pv 1) pa_nil)))))), ?_⟩
  rcases hk with ⟨kt, b, t2, rfl, hb, ok2, ek2, rfl⟩ | ⟨kf, rfl⟩
  · refine ⟨_, rfl, .ref b, .ref k.tab, tt, .ref k.tab, _, rfl, .own _, ty, kt, _, rfl, ?_⟩
    have h1 := hT.head
    have h2 := hb.head
    rw [ek, cls_tab] at h1
    rw [ek2, cls_tab] at h2
    have nom := hT.nom
    obtain ⟨dx, fs, v, ea, r⟩ := id h1
    refine iteT ⟨_, rfl, a, dx, fs, rfl, ea, (nom _ _ _ ea).1, _, rfl, a, b, k.tab, k.tab, tmT t, tmT t2, rfl, T, T, h1, h2, ?_⟩
    rw [plain_eq ok ok2 (by rw [ek]; exact fun z => fun_ne2 z.symm) (by rw [ek2]; exact fun z => fun_ne2 z.symm)]
    exact q H Ext.rfl'
  · refine ⟨_, rfl, y, .ref k.tab, tt, .ref k.tab, _, rfl, .own _, ty, kf, _, rfl, ?_⟩
    exact iteF (q H Ext.rfl')
theorem ok_FunctionE {c : Cs} {k : Ks} {fH : Addr} {fdH : FuncData} (F : Fun K "__eq__" "Function.__eq__" s_Function_eq f fd) (D : DE P w K mg base c) (T : FF K k.fn) (gC : mg "Function" = some (.ref k.fn)) (mi : mg "isinstance" = none)
    (M : Meth K k.fn "same_head" fH) (FH : FnOk P w K mg base CX0 2 fH fdH ["self", "other"] (spHead K)) (bH : Binds K fdH ["self", "other"] []) : FnOk P w K mg base CX0 3 f fd ["self", "other"] (spEqB (RE_ K c k tFun)) := by
  refine F.ok sc_Function_eq spEqB_len (fun cdv A outer s H vs Q E hr h => ?_)
  obtain ⟨a, y, kb, rfl, ⟨t, hT, ok, ek, tt, ty, hk⟩, q⟩ := h
  rw [cls_fun] at hk
  refine ⟨_, PSs.nox (pss_one (ps_ret (pe_and (pe_callB call_isi (by rfl) mi boot_isinstance (pa_cons (pv 1) (pa_cons (pe_glob (v := .ref k.fn) (by rfl) gC rfl) pa_nil)))
    (pe_and (pe_meth (pv 0) T.t.cl M FH hr bH .nil pass0 (pa_cons (pv 1) pa_nil)) (pe_and (pe_cmpR op_eq (pe_fld (pv 0) rfl) (pe_fld (pv 1) rfl) (by rfl)) (pe_one (pe_cmpR (op_eqB (rcB_list mon_deed (eqB_deed D)) hr) (pe_fld (pv 0) rfl) (pe_fld (pv 1) rfl) (by rfl)))))))), ?_⟩
  rcases hk with ⟨kt, b, t2, rfl, hb, ok2, ek2, rfl⟩ | ⟨kf, rfl⟩
  · refine ⟨_, rfl, .ref b, .ref k.fn, tt, .ref k.fn, _, rfl, .own _, ty, kt, _, rfl, ?_⟩
    have h1 := hT.head
    have h2 := hb.head
    rw [ek, cls_fun] at h1
    rw [ek2, cls_fun] at h2
    have nom := hT.nom
    obtain ⟨dx, v, p, xs, ea, ua, ep, hD⟩ := hT.fn ek
    obtain ⟨dy, v2, p2, ys, eb, ub, ep2, hD2⟩ := hb.fn ek2
    refine iteT ⟨_, rfl, a, dx, _, rfl, ea, (nom _ _ _ ea).1, _, rfl, a, b, k.fn, k.fn, tmT t, tmT t2, rfl, T.t, T.t, h1, h2, _, rfl, ?_⟩
    rw [fun_eq] at q
    cases h1 : decide (tmT t = tmT t2) with
    | false => rw [h1] at q; exact iteF (q H Ext.rfl')
    | true =>
      rw [h1] at q
      refine iteT ⟨_, rfl, a, k.fn, dx, _, _, rfl, ea, T.t.cl, T.n5, rfl, _, rfl, b, k.fn, dy, _, _, rfl, eb, T.t.cl, T.n5, rfl, rfl, _, rfl, ?_⟩
      rw [decS]
      cases h3 : decide (t.mode = t2.mode) with
      | false => rw [h3] at q; exact iteF (q H Ext.rfl')
      | true =>
        rw [h3] at q
        exact iteT ⟨_, rfl, a, k.fn, dx, _, _, rfl, ea, T.t.cl, T.n6, rfl, _, rfl, b, k.fn, dy, _, _, rfl, eb, T.t.cl, T.n6, rfl, _, list_deeds ep ep2 hD hD2, fun H' x => q H' x⟩
  · refine ⟨_, rfl, y, .ref k.fn, tt, .ref k.fn, _, rfl, .own _, ty, kf, _, rfl, ?_⟩
    exact iteF (q H Ext.rfl')
end
/-! ### == and != of things of any kind -/
structure EqOk (P : Program) (w : World) (K : PySem.W.Frag) (mg : Str → Option Value) (base : Heap) (c : Cs) (k : Ks) : Prop where
  t : ∀ kd, isKd kd → TyC K (clsK k kd)
  eq : ∀ kd, isKd kd → ∃ (f : Addr) (fd : FuncData), FnOk P w K mg base CX0 3 f fd ["self", "other"] (spEqB (RE_ K c k kd)) ∧ PySem.W.findIn K (.ref (clsK k kd)) "__eq__" = some (some (.ref f)) ∧ PySem.W.isFn K (.ref f) = true ∧ Binds K fd ["self", "other"] []
  ne : ∀ kd, isKd kd → PySem.W.findIn K (.ref (clsK k kd)) "__ne__" = some (some (.builtin "object.__ne__"))
  nf : ∀ kd kd', isKd kd → isKd kd' → PySem.W.notFirst K (clsK k kd) (.ref (clsK k kd')) = true
  kk : ∀ kd kd', isKd kd → isKd kd' → PySem.W.kitOne K (.ref (clsK k kd')) (.ref (clsK k kd)) = some (decide (kd' = kd))
def DThing (K : PySem.W.Frag) (c : Cs) (k : Ks) : EqvB := fun x y H b => ∃ (a : Addr) (t : Th) (tt : Value), x = .ref a ∧ ThAt c k H a t ∧ okT t ∧ TyX K H y tt ∧ PySem.W.notFirst K (clsK k t.kind) tt = true ∧ RE_ K c k t.kind a y H b
section
variable {X : Cx} {c : Cs} {k : Ks}
theorem rcBT (D : EqOk X.prog X.w X.K X.mg X.base c k) : RcB X 3 (DThing X.K c k) := by
  intro A pins s σ H x y u v b sb I rx ry h
  obtain ⟨a, t, tt, rfl, ha, ok, ty, nf, hr⟩ := h
  obtain ⟨f, fd, F, hs, hf, hb⟩ := D.eq _ ok.kd
  obtain ⟨dx, fs, va, ea, _⟩ := ha.head
  exact rcB_any F hs hf hb pass0 A pins s σ H _ y u v b sb I rx ry ⟨a, dx, fs, tt, rfl, ea, ty, nf, hr⟩
theorem op_neT (D : EqOk X.prog X.w X.K X.mg X.base c k) (hr : Room 4 X.A) : OpR X (compareOp .NotEq) (rNeB (DThing X.K c k)) := by
  intro pins s σ H x y v u Q I rx ry hq
  obtain ⟨b, ⟨a, t, tt, rfl, ha, ok, ty, nf, hR⟩, q⟩ := hq
  obtain ⟨f, fd, F, hs, hf, hb⟩ := D.eq _ ok.kd
  obtain ⟨dx, fs, va, ea, _⟩ := ha.head
  exact op_neAny F hr (D.t _ ok.kd).hm (D.ne _ ok.kd) hs hf hb pass0 pins s σ H _ y v u Q I rx ry ⟨b, ⟨a, dx, fs, tt, rfl, ea, ty, nf, hR⟩, q⟩
end
theorem th_th {P : Program} {w : World} {K : PySem.W.Frag} {mg : Str → Option Value} {base : Heap} {c : Cs} {k : Ks} (D : EqOk P w K mg base c k) {H : Hp} {a b : Addr} {t t2 : Th} (o1 : okT t) (o2 : okT t2) (ha : ThAt c k H a t) (hb : ThAt c k H b t2) : DThing K c k (.ref a) (.ref b) H (decide (t = t2)) := by
  obtain ⟨dy, gs, vb, eb, _⟩ := id hb.head
  have ty := (D.t _ o2.kd).ty eb
  have kk := D.kk _ _ o1.kd o2.kd
  refine ⟨a, t, _, rfl, ha, o1, ty, D.nf _ _ o1.kd o2.kd, t, ha, o1, rfl, _, ty, ?_⟩
  by_cases e : t2.kind = t.kind
  · exact .inl ⟨by rw [kk, decide_eq_true e], b, t2, rfl, hb, o2, e, rfl⟩
  · exact .inr ⟨by rw [kk, decide_eq_false e], decide_eq_false fun z => e (by rw [z])⟩
end K56
set_option maxHeartbeats 4000000
namespace K56
open PySem PySem.Spec PyProof.Rows L2 RL RE RN RM TL RQ RC
/-! ### f'{x}' of an own instance -/
def FmtR (X : Cx) (r : V → Hp → (Str → Hp → Prop) → Prop) : Prop := ∀ (pins : List (Addr × Obj)) (σ : L2.St) (s : Shared) (H : Hp) (x : V) (u : Value) (Q : VK), Inv X pins σ H s → RelV x u → r x H (fun z H' => Q (.str z) H') → wpAny (model X.prog X.w) X.A (formatField u Str.empty) (EP X pins σ Q) X.xe s
theorem pe_fmtO {X : Cx} {r : V → Hp → (Str → Hp → Prop) → Prop} (F : FmtR X r) {e : Expr} {te : TE} {pos : Pos} (he : PE X e te) : PE X (.FormattedValue e (-1) none pos) (fun σ H Q => te σ H fun x H1 => r x H1 (fun z H' => Q (.str z) H')) := by
  refine ⟨fun pins s σ H Q I h => ?_⟩
  refine wpAny_FormattedValue_plain (thn (he.run pins s σ H _ I h) fun v s1 hv => ?_)
  obtain ⟨x, H1, I1, r1, q⟩ := hv
  exact F pins σ s1 H1 x v Q I1 r1 q
theorem fmt_own {X : Cx} {CX : CXT} {n : Nat} {C f : Addr} {fd : FuncData} {ps : List Str} {sp : Sp} {E : XK} (F : FnOk X.prog X.w X.K X.mg X.base CX n f fd ps sp) (hr : Room (n + 1) X.A) (hm : PySem.W.mroIn X.K C (.type "object") = some true) (hfm : PySem.W.findIn X.K (.ref C) "__format__" = some (some (.builtin "object.__format__")))
    (hs : PySem.W.findIn X.K (.ref C) "__str__" = some (some (.ref f))) (hf : PySem.W.isFn X.K (.ref f) = true) (hb : Binds X.K fd ps []) (hx : Passes CX X E) :
    FmtR X (fun x H Q => ∃ a dx fs, x = .ref a ∧ H a = some (.ins C dx fs) ∧ sp [.ref a] H (fun v H' => ∃ z : Str, v = .str z ∧ Q z H') E) := by
  intro pins σ s H x u Q I r h
  obtain ⟨a, dx, fs, rfl, ha, h⟩ := h
  cases r
  obtain ⟨mA, J, _⟩ := ins_get I.hok ha
  obtain ⟨od, J, _⟩ := J.look
  refine PySem.W.kfo_fieldS hr.in1.units0 I.kIn J hfm hm hs hf ?_
  refine run_special F hr.in1 rfl hb hx (I.tok _) h fun v u H' s' I' rz q => ?_
  obtain ⟨z, rfl, q⟩ := q
  obtain ⟨t, rfl⟩ := rz
  exact ⟨.str z, H', I', ⟨_, rfl⟩, q⟩
/-- what a Make needs of the classes of things -/
structure MkI (K : PySem.W.Frag) (mg : Str → Option Value) (k : Ks) (cm : Addr) : Prop where
  t : ∀ kd, isKd kd → TyC K (clsK k kd)
  fm : ∀ kd, isKd kd → PySem.W.findIn K (.ref (clsK k kd)) "__format__" = some (some (.builtin "object.__format__"))
  tf : ∀ kd, isKd kd → kd ≠ tRol → PySem.W.kitAny K (.ref (clsK k kd)) [.ref k.tab, .ref k.fn] = some true
  gTab : mg "Table" = some (.ref k.tab)
  gFun : mg "Function" = some (.ref k.fn)
  gM : mg "Make" = some (.ref cm)
  ty : TyC K cm
  no : NoAttr K cm "thing"
abbrev tMk : Str := Str.ofString "make"
def MkAt (cm : Addr) (c : Cs) (k : Ks) (H : Hp) (a : Addr) (t : Th) : Prop := ∃ dx b, H a = some (.ins cm dx [("thing", .ref b)]) ∧ ThAt c k H b t
def rFmtT (c : Cs) (k : Ks) : V → Hp → (Str → Hp → Prop) → Prop := fun x H Q => ∃ (a : Addr) (t : Th), x = .ref a ∧ ThAt c k H a t ∧ okT t ∧ ∀ H', Ext H H' → Q (txtW (thW t)) H'
theorem fmt_T {X : Cx} {c : Cs} {k : Ks} {cm : Addr} (D : SS X.prog X.w X.K X.mg X.base c k) (M : MkI X.K X.mg k cm) (hr : Room 5 X.A) : FmtR X (rFmtT c k) := by
  intro pins σ s H x u Q I r h
  obtain ⟨a, t, rfl, hT, ok, q⟩ := h
  by_cases ek : t.kind = tFun
  · obtain ⟨f1, fd1, F1, s1, i1, b1⟩ := D.F
    obtain ⟨dx, v, p, xs, ea, _⟩ := hT.fn ek
    have hm := (M.t tFun (.inr (.inr rfl))).hm
    have hfm := M.fm tFun (.inr (.inr rfl))
    rw [cls_fun] at hm hfm
    exact fmt_own F1 hr hm hfm s1 i1 b1 pass0 pins σ s H _ u Q I r ⟨a, dx, _, rfl, ea, a, t, rfl, hT, ok, ek, fun H' x => ⟨_, rfl, q H' x⟩⟩
  · obtain ⟨f1, fd1, F1, s1, i1, b1⟩ := D.H _ ok.kd ek
    obtain ⟨dx, v, ea, _⟩ := hT.ot ek
    exact fmt_own F1 (hr.mono (by decide)) (M.t _ ok.kd).hm (M.fm _ ok.kd) s1 i1 b1 pass0 pins σ s H _ u Q I r ⟨a, dx, _, rfl, ea, a, t, rfl, hT, ok, ek, rfl, fun H' x => ⟨_, rfl, q H' x⟩⟩
theorem mk_text (t : Th) : (Str.empty ++ Str.ofString "make ") ++ txtW (thW t) = txtW (tMk :: thW t) := by
  have e : thW t = t.kind :: (t.name :: t.owner :: ((if t.kind = tFun then [t.mode] else []) ++ (auW t.au ++ bodyW t.body))) := by
    unfold thW headW
    simp [List.append_assoc]
  rw [e]
  refine TL.ext_tl ?_
  rw [tl_txtW]
  have h1 : tl ((Str.empty ++ Str.ofString "make ") ++ txtW (t.kind :: (t.name :: t.owner :: ((if t.kind = tFun then [t.mode] else []) ++ (auW t.au ++ bodyW t.body))))) = tl (Str.empty ++ Str.ofString "make ") ++ tl (txtW (t.kind :: (t.name :: t.owner :: ((if t.kind = tFun then [t.mode] else []) ++ (auW t.au ++ bodyW t.body))))) := Array.toList_append
  rw [h1, tl_txtW, show tl (Str.empty ++ Str.ofString "make ") = tl tMk ++ [32] by decide +kernel, List.map_cons, List.map_cons, List.map_cons, List.append_assoc]
  rfl
section
variable {P : Program} {w : World} {K : PySem.W.Frag} {mg : Str → Option Value} {base : Heap} {f : Addr} {fd : FuncData}
def spStrM (cm : Addr) (c : Cs) (k : Ks) : Sp := fun vs H Q _ => ∃ (a : Addr) (t : Th), vs = [.ref a] ∧ MkAt cm c k H a t ∧ okT t ∧ ∀ H', Ext H H' → Q (.str (txtW (tMk :: thW t))) H'
theorem ok_MakeS {c : Cs} {k : Ks} {cm : Addr} (F : Fun K "__str__" "Make.__str__" s_Make_str f fd) (D : SS P w K mg base c k) (M : MkI K mg k cm) : FnOk P w K mg base CX0 6 f fd ["self"] (spStrM cm c k) := by
  refine F.ok sc_Make_str (fun vs H Q E h => by obtain ⟨a, t, rfl, _⟩ := h; rfl) (fun cdv A outer s H vs Q E hr h => ?_)
  obtain ⟨a, t, rfl, ⟨dx, b, ea, hT⟩, ok, q⟩ := h
  refine ⟨_, PSs.nox (pss_one (ps_ret (pe_joined (.cons pe_str (.cons (pe_fmtO (fmt_T D M hr) (pe_fld (pv 0) rfl)) .nil))))), ?_⟩
  refine ⟨_, rfl, by decide +kernel, _, rfl, a, cm, dx, _, _, rfl, ea, M.ty.cl, M.no, rfl, b, t, rfl, hT, ok, fun H' x => ⟨_, rfl, ?_, ?_⟩⟩
  · have l := txtW_len (th_w ok)
    have l2 := thW_len ok
    have e : ((Str.empty ++ Str.ofString "make ") ++ txtW (thW t)).length = 5 + (txtW (thW t)).length := Array.size_append
    have e2 : 5 + (txtW (thW t)).length ≤ 1000 := by omega
    exact Nat.le_trans (Nat.le_of_eq e) (Nat.le_trans e2 (by decide))
  · have q2 := q H' x
    rw [← mk_text] at q2
    exact q2
/-- a Make, made -/
def spMkI (cm : Addr) (c : Cs) (k : Ks) : Sp := fun vs H Q _ => ∃ (a b dx : Addr) (t : Th), vs = [.ref a, .ref b] ∧ H a = some (.ins cm dx []) ∧ ThAt c k H b t ∧ okT t ∧ t.kind ≠ tRol ∧ ∀ H', But a H H' → H' a = some (.ins cm dx [("thing", .ref b)]) → Q .non H'
theorem ok_MakeI {c : Cs} {k : Ks} {cm : Addr} (F : Fun K "__init__" "Make.__init__" s_Make_init f fd) (M : MkI K mg k cm) (mi : mg "isinstance" = none) : FnOk P w K mg base CX0 1 f fd ["self", "thing"] (spMkI cm c k) := by
  refine F.ok sc_Make_init (fun vs H Q E h => by obtain ⟨a, b, dx, t, rfl, _⟩ := h; rfl) (fun cdv A outer s H vs Q E hr h => ?_)
  obtain ⟨a, b, dx, t, rfl, ea, hT, ok, nr, q⟩ := h
  refine ⟨_, PSs.nox (pss_cons (ps_if (pt_not (pt_val (pe_callB call_isiT (by rfl) mi boot_isinstance (pa_cons (pv 1) (pa_cons (pe_tup (pa_cons (pe_glob (v := .ref k.tab) (by rfl) M.gTab rfl) (pa_cons (pe_glob (v := .ref k.fn) (by rfl) M.gFun rfl) pa_nil))) pa_nil))))) (pss_one ps_never) pss_nil)
    (pss_one (ps_fld (pv 0) (pv 1) rfl))), ?_⟩
  obtain ⟨dy, fs, v, eb, _⟩ := hT.head
  refine ⟨_, rfl, by show 2 ≤ sizeLine; decide, fun p np => ?_⟩
  have s1 := same_upd (o := .tup [.ref k.tab, .ref k.fn]) np
  refine ⟨.ref b, p, _, .ref (clsK k t.kind), _, true, rfl, upd_same, .cons (.own _) (.cons (.own _) .nil), (M.t _ ok.kd).ty (s1 _ _ eb), M.tf _ ok.kd nr, _, rfl, ?_⟩
  refine iteF ⟨_, rfl, _, rfl, a, cm, dx, _, rfl, s1 _ _ ea, M.ty.cl, M.no, by decide, ?_⟩
  exact q _ (fun u o n e => by rw [upd_ne n]; exact s1 _ _ e) upd_same
/-- how a Make compares with any value -/
def RMk (K : PySem.W.Frag) (cm : Addr) (c : Cs) (k : Ks) : Addr → V → Hp → Bool → Prop := fun a y H kb => ∃ t, MkAt cm c k H a t ∧ okT t ∧ ∃ tt, TyX K H y tt ∧
  ((PySem.W.kitOne K tt (.ref cm) = some true ∧ ∃ a2 t2, y = .ref a2 ∧ MkAt cm c k H a2 t2 ∧ okT t2 ∧ kb = decide (t = t2)) ∨ (PySem.W.kitOne K tt (.ref cm) = some false ∧ kb = false))
theorem ok_MakeE {c : Cs} {k : Ks} {cm : Addr} (F : Fun K "__eq__" "Make.__eq__" s_Make_eq f fd) (M : MkI K mg k cm) (D : EqOk P w K mg base c k) (mi : mg "isinstance" = none) : FnOk P w K mg base CX0 4 f fd ["self", "other"] (spEqB (RMk K cm c k)) := by
  refine F.ok sc_Make_eq spEqB_len (fun cdv A outer s H vs Q E hr h => ?_)
  obtain ⟨a, y, kb, rfl, ⟨t, ⟨dx, b, ea, hT⟩, ok, tt, ty, hk⟩, q⟩ := h
  refine ⟨_, PSs.nox (pss_one (ps_ret (pe_and (pe_callB call_isi (by rfl) mi boot_isinstance (pa_cons (pv 1) (pa_cons (pe_glob (v := .ref cm) (by rfl) M.gM rfl) pa_nil)))
    (pe_one (pe_cmpR (r := rEqB (DThing K c k)) (op_eqB (rcBT D) hr) (pe_fld (pv 0) rfl) (pe_fld (pv 1) rfl) (by rfl)))))), ?_⟩
  rcases hk with ⟨kt, a2, t2, rfl, ⟨dy, b2, eb, hT2⟩, ok2, rfl⟩ | ⟨kf, rfl⟩
  · refine ⟨_, rfl, .ref a2, .ref cm, tt, .ref cm, _, rfl, .own _, ty, kt, _, rfl, ?_⟩
    exact iteT ⟨_, rfl, a, cm, dx, _, _, rfl, ea, M.ty.cl, M.no, rfl, _, rfl, a2, cm, dy, _, _, rfl, eb, M.ty.cl, M.no, rfl, _, th_th D ok ok2 hT hT2, fun H' x => q H' x⟩
  · refine ⟨_, rfl, y, .ref cm, tt, .ref cm, _, rfl, .own _, ty, kf, _, rfl, ?_⟩
    exact iteF (q H Ext.rfl')
end
end K56
set_option maxHeartbeats 4000000
namespace K56
open PySem PySem.Spec PyProof.Rows L2 RL RE RN RM TL RQ RC
/-! ### top deeds -/
inductive Td
  | dm (d : K5F.Dm)
  | mk (t : Th)
  deriving DecidableEq
structure Ad where
  c5 : K5F.Cs
  cm : Addr
  c : Cs
  k : Ks
def okTd : Td → Prop
  | .dm d => K5F.okD d
  | .mk t => okT t ∧ t.kind ≠ tRol
def tdW : Td → List Str
  | .dm d => K5F.wordsD d
  | .mk t => tMk :: thW t
def TdAt (A : Ad) (H : Hp) (a : Addr) : Td → Prop
  | .dm d => K5F.DeedAt A.c5 H a d
  | .mk t => MkAt A.cm A.c A.k H a t
def clsTd (A : Ad) : Td → Addr
  | .dm d => A.c5 (K5F.clD d)
  | .mk _ => A.cm
def fldTd : Td → Addr → List (Str × V)
  | .dm d, _ => K5F.fieldsD d
  | .mk _, b => [("thing", .ref b)]
theorem TdAt.ins {A : Ad} {H : Hp} {a : Addr} {t : Td} (h : TdAt A H a t) : ∃ dx fs, H a = some (.ins (clsTd A t) dx fs) := by
  cases t with
  | dm d => obtain ⟨dx, e⟩ := h; exact ⟨dx, _, e⟩
  | mk t => obtain ⟨dx, b, e, _⟩ := h; exact ⟨dx, _, e⟩
theorem MkAt.same {cm : Addr} {c : Cs} {k : Ks} {H H' : Hp} {a : Addr} {t : Th} (h : MkAt cm c k H a t) (s : Same H H') : MkAt cm c k H' a t := by
  obtain ⟨dx, b, e, hT⟩ := h
  exact ⟨dx, b, s _ _ e, hT.same s⟩
theorem TdAt.same {A : Ad} {H H' : Hp} {a : Addr} {t : Td} (h : TdAt A H a t) (s : Same H H') : TdAt A H' a t := by
  cases t with
  | dm d => obtain ⟨dx, e⟩ := h; exact ⟨dx, s _ _ e⟩
  | mk t => exact MkAt.same h s
/-- a deed whose lists are its own -/
structure TdN (A : Ad) (H H' : Hp) (a : Addr) (t : Td) : Prop where
  at_ : TdAt A H' a t
  own : ∀ D xs ys, H D = some (.lst xs) → TdAt A (L2.upd H' D (.lst ys)) a t
theorem TdN.pre {A : Ad} {H H1 H' : Hp} {a : Addr} {t : Td} (h : TdN A H1 H' a t) (s : Same H H1) : TdN A H H' a t := ⟨h.at_, fun D xs ys e => h.own D xs ys (s _ _ e)⟩
theorem TdN.post {A : Ad} {H H' H2 : Hp} {a : Addr} {t : Td} (h : TdN A H H' a t) (s : Same H' H2) : TdN A H H2 a t := ⟨h.at_.same s, fun D xs ys e => (h.own D xs ys e).same (same_both s)⟩
theorem tdN5 {A : Ad} {H H' : Hp} {a : Addr} {d : K5F.Dm} (s : Same H H') (h : K5F.DeedAt A.c5 H' a d) : TdN A H H' a (.dm d) := ⟨h, fun D xs ys e => by
  obtain ⟨dx, ea⟩ := h
  exact ⟨dx, ins_own ea s e⟩⟩
theorem tdW_ne (t : Td) : tdW t ≠ [] := by
  cases t with
  | dm d => cases d <;> simp [tdW, K5F.wordsD]
  | mk t => simp [tdW]
theorem five_tail_w {o : Bool} {w z : Str} (hw : wOk w) (h : z ∈ K5F.opt o w) : wOk z := by
  cases o with
  | false => cases h
  | true => rw [List.mem_singleton.mp h]; exact hw
theorem d5_w {d : K5F.Dm} (h : K5F.okD d) : ∀ w ∈ K5F.wordsD d, wOk w := by
  have hop : wOk tOpt := w_dec (by decide +kernel)
  cases d with
  | give wd t k o =>
    obtain ⟨_, _, _, h1, h2, h3, _⟩ := h
    intro w hw
    rcases List.mem_append.mp hw with hw | hw
    · simp only [List.mem_cons, List.not_mem_nil, or_false] at hw
      rcases hw with rfl | rfl | rfl | rfl
      · exact w_dec (by decide +kernel)
      · exact right_w h1
      · exact name_w h2
      · exact taker_w h3
    · exact five_tail_w hop hw
  | take wd t k g p c =>
    obtain ⟨_, _, _, h1, h2, h3, h4⟩ := h
    intro w hw
    rcases List.mem_append.mp hw with hw | hw
    · rcases List.mem_append.mp hw with hw | hw
      · rcases List.mem_append.mp hw with hw | hw
        · simp only [List.mem_cons, List.not_mem_nil, or_false] at hw
          rcases hw with rfl | rfl | rfl | rfl
          · exact w_dec (by decide +kernel)
          · exact right_w h1
          · exact name_w h2
          · exact taker_w (.inr h3)
        · cases g with
          | none => cases hw
          | some y =>
            have hw : w ∈ [tBy, y] := hw
            simp only [List.mem_cons, List.not_mem_nil, or_false] at hw
            rcases hw with rfl | rfl
            · exact w_dec (by decide +kernel)
            · exact name_w (h4 _ rfl).2
      · exact five_tail_w hop hw
    · exact five_tail_w (w_dec (by decide +kernel)) hw
  | call n =>
    intro w hw
    have hw : w ∈ [tCll, n] := hw
    simp only [List.mem_cons, List.not_mem_nil, or_false] at hw
    rcases hw with rfl | rfl
    · exact w_dec (by decide +kernel)
    · exact name_w h.2
  | preset s wd k o =>
    obtain ⟨_, _, _, h1, h2, h3, _⟩ := h
    intro w hw
    rcases List.mem_append.mp hw with hw | hw
    · simp only [List.mem_cons, List.not_mem_nil, or_false] at hw
      rcases hw with rfl | rfl | rfl | rfl
      · exact w_dec (by decide +kernel)
      · rcases h1 with e | e <;> rw [e] <;> exact w_dec (by decide +kernel)
      · exact right_w (by rw [h2]; rfl)
      · exact taker_w (.inr h3)
    · exact five_tail_w hop hw
  | use wd t =>
    obtain ⟨_, _, h1, h2⟩ := h
    intro w hw
    have hw : w ∈ [Str.ofString "use", wd, t] := hw
    simp only [List.mem_cons, List.not_mem_nil, or_false] at hw
    rcases hw with rfl | rfl | rfl
    · exact w_dec (by decide +kernel)
    · exact right_w h1
    · exact name_w h2
theorem td_w {t : Td} (h : okTd t) : ∀ w ∈ tdW t, wOk w := by
  cases t with
  | dm d => exact d5_w h
  | mk t =>
    intro w hw
    rcases List.mem_cons.mp hw with rfl | hw
    · exact w_dec (by decide +kernel)
    · exact th_w h.1 w hw
theorem td_len {t : Td} (h : okTd t) : (tdW t).length ≤ 40 := by
  cases t with
  | dm d =>
    have : (K5F.wordsD d).length ≤ 8 := by
      cases d with
      | give wd t k o => cases o <;> exact Nat.le_of_ble_eq_true rfl
      | take wd t k g p c => cases g <;> cases p <;> cases c <;> exact Nat.le_of_ble_eq_true rfl
      | call n => exact Nat.le_of_ble_eq_true rfl
      | preset s wd k o => cases o <;> exact Nat.le_of_ble_eq_true rfl
      | use wd t => exact Nat.le_of_ble_eq_true rfl
    exact Nat.le_trans this (by decide)
  | mk t =>
    have := thW_len h.1
    show (thW t).length + 1 ≤ 40
    omega
/-- a Make whose lists are its own -/
structure MkN (cm : Addr) (c : Cs) (k : Ks) (H H' : Hp) (a : Addr) (t : Th) : Prop where
  at_ : MkAt cm c k H' a t
  own : ∀ D xs ys, H D = some (.lst xs) → MkAt cm c k (L2.upd H' D (.lst ys)) a t
theorem but_new {H H1 : Hp} {x dx : Addr} {u v : HO} (nx : H x = none) (nd : H dx = none) (b : But x (upd (upd H dx u) x v) H1) : Same H H1 := fun y o e => b y o (ne_of_none e nx) (by
  rw [upd_ne (ne_of_none e nx), upd_ne (ne_of_none e nd)]
  exact e)
section
variable {P : Program} {w : World} {K : PySem.W.Frag} {mg : Str → Option Value} {base : Heap} {f : Addr} {fd : FuncData}
def spRdMk (K : PySem.W.Frag) (cm : Addr) (c : Cs) (k : Ks) : Sp := fun vs H Q _ => ∃ (q : Addr) (t : Th), vs = [.ref q] ∧ SqL K H q ((tMk :: thW t).map V.str) ∧ okT t ∧ t.kind ≠ tRol ∧ ∀ a H', Same H H' → MkN cm c k H H' a t → Q (.ref a) H'
def spRFT2 (K : PySem.W.Frag) (c : Cs) (k : Ks) : Sp := fun vs H Q E => spRF K tTab (spRdT K c k tTab) vs H Q E ∨ spRF K tFun (spRdT K c k tFun) vs H Q E
theorem rft2 {c : Cs} {k : Ks} {H : Hp} {p al : Addr} {t : Th} {Q : VK} {E : XK} (hS : SqL K H p ((thW t).map V.str)) (ok : okT t) (nr : t.kind ≠ tRol) (hA : SqT K H al ([tTab, tFun].map V.str)) (q : ∀ a H', Same H H' → ThN c k H H' a t → Q (.ref a) H') : spRFT2 K c k [.ref p, .ref al] H Q E := by
  have h0 : (thW t)[0]? = some t.kind := rfl
  rcases ok.kd with e | e | e
  · exact absurd e nr
  · exact .inl ⟨p, al, _, _, rfl, hS, by rw [h0, e], hA, by simp, p, t, rfl, hS, ok, e, q⟩
  · exact .inr ⟨p, al, _, _, rfl, hS, by rw [h0, e], hA, by simp, p, t, rfl, hS, ok, e, q⟩
/-- Make, made by its __init__ -/
structure MkMk (P : Program) (w : World) (K : PySem.W.Frag) (mg : Str → Option Value) (base : Heap) (cm : Addr) (c : Cs) (k : Ks) : Prop where
  I : ∃ (f : Addr) (fd : FuncData), Mk K cm f ∧ FnOk P w K mg base CX0 1 f fd ["self", "thing"] (spMkI cm c k) ∧ mg "Make" = some (.ref cm) ∧ Binds K fd ["self", "thing"] []
theorem mkn_of {cm : Addr} {c : Cs} {k : Ks} {H H1 H2 : Hp} {b x dx : Addr} {t : Th} (nx : H1 x = none) (nd : H1 dx = none) (s1 : Same H H1) (hn : ThN c k H H1 b t) (bt : But x (upd (upd H1 dx (.own x)) x (.ins cm dx [])) H2) (e : H2 x = some (.ins cm dx [("thing", .ref b)])) : MkN cm c k H H2 x t := by
  have s2 := but_new nx nd bt
  exact ⟨⟨dx, b, e, hn.th.same s2⟩, fun D xs ys eD => ⟨dx, b, ins_own e (s1.trans s2) eD, (hn.own D xs ys eD).same (same_both s2)⟩⟩
theorem ok_make_of {cm : Addr} {c : Cs} {k : Ks} (F : Fun K "make_of" "make_of" s_make_of f fd) (M : MkMk P w K mg base cm c k) (RF : Df P w K mg base CX0 9 "read_from" ["words", "allowed"] (spRFT2 K c k)) : FnOk P w K mg base CX0 10 f fd ["words"] (spRdMk K cm c k) := by
  obtain ⟨f1, fd1, M1, F1, g1, b1⟩ := M.I
  refine F.ok sc_make_of (fun vs H Q E h => by obtain ⟨p, t, rfl, _⟩ := h; rfl) (fun cdv A outer s H vs Q E hr h => ?_)
  obtain ⟨p, t, rfl, hS, ok, nr, q⟩ := h
  refine ⟨_, PSs.nox (pss_one (ps_ret (pe_make M1 F1 (hr.mono (by decide)) (by rfl) g1 b1 .nil pass0 (pa_cons (pe_df0 RF hr (by rfl) (pa_cons (pe_slice sl_list (pv 0) (po_some pe_int) po_none) (pa_cons (pe_tup (pa_cons pe_str (pa_cons pe_str pa_nil))) pa_nil))) pa_nil)))), ?_⟩
  refine ⟨_, rfl, 1, rfl, p, _, rfl, hS, fun r1 nr1 => ?_⟩
  rw [cutV_back (by decide), show (1 : Int).toNat = 1 from rfl, ← List.map_drop, show (tMk :: thW t).drop 1 = thW t from rfl]
  have s1 := same_upd (o := .lst ((thW t).map V.str)) nr1
  have e1 : (upd H r1 (.lst ((thW t).map V.str))) r1 = some (.lst ((thW t).map V.str)) := upd_same
  generalize upd H r1 (.lst ((thW t).map V.str)) = H1 at s1 e1 ⊢
  refine ⟨by show 2 ≤ sizeLine; decide, fun al nal => ?_⟩
  have s2 := s1.trans (same_upd (o := .tup [.str tTab, .str tFun]) nal)
  have e2 : (upd H1 al (.tup [.str tTab, .str tFun])) al = some (.tup [.str tTab, .str tFun]) := upd_same
  have e1 : (upd H1 al (.tup [.str tTab, .str tFun])) r1 = some (.lst ((thW t).map V.str)) := same_upd nal _ _ e1
  generalize upd H1 al (.tup [.str tTab, .str tFun]) = H2 at s2 e2 e1 ⊢
  refine rft2 (SqL.of e1) ok nr (SqT.of e2) fun b H3 s3 hn => ?_
  refine fun x dx nx nd ne => ?_
  refine ⟨x, b, dx, t, rfl, upd_same, hn.th.same (new_same nx nd), ok, nr, fun H4 bt e4 => ⟨rfl, ?_⟩⟩
  have s4 := but_new nx nd bt
  exact q x H4 ((s2.trans s3).trans s4) (mkn_of nx nd (s2.trans s3) (hn.pre s2) bt e4)
end
end K56
set_option maxHeartbeats 4000000
namespace K56
open PySem PySem.Spec PyProof.Rows L2 RL RE RN RM TL RQ RC
/-! ### deeds read, their texts -/
abbrev dWs : List Str := [Str.ofString "give", Str.ofString "take", Str.ofString "call", Str.ofString "preset", Str.ofString "use", tMk]
/-- str of a deed of any class -/
structure SD (P : Program) (w : World) (K : PySem.W.Frag) (mg : Str → Option Value) (base : Heap) (A : Ad) : Prop where
  D : ∀ x, ∃ (f : Addr) (fd : FuncData), FnOk P w K mg base CX0 1 f fd ["self"] (K5F.spStr A.c5 x) ∧ PySem.W.findIn K (.ref (A.c5 x)) "__str__" = some (some (.ref f)) ∧ PySem.W.isFn K (.ref f) = true ∧ Binds K fd ["self"] []
  M : ∃ (f : Addr) (fd : FuncData), FnOk P w K mg base CX0 6 f fd ["self"] (spStrM A.cm A.c A.k) ∧ PySem.W.findIn K (.ref A.cm) "__str__" = some (some (.ref f)) ∧ PySem.W.isFn K (.ref f) = true ∧ Binds K fd ["self"] []
def rStrTd (A : Ad) : List V → Hp → VK → Prop := fun xs H Q => ∃ (a : Addr) (t : Td), xs = [.ref a] ∧ TdAt A H a t ∧ okTd t ∧ ∀ H', Ext H H' → Q (.str (txtW (tdW t))) H'
theorem call_strTd {X : Cx} {A : Ad} (D : SD X.prog X.w X.K X.mg X.base A) (hr : Room 8 X.A) : CallR X (.type "str") (rStrTd A) := by
  intro pins s σ H xs us Q I r h
  obtain ⟨a, t, rfl, hT, ok, q⟩ := h
  cases t with
  | dm d =>
    obtain ⟨f1, fd1, F1, s1, i1, b1⟩ := D.D (K5F.clD d)
    obtain ⟨dx, ea⟩ := id hT
    exact call_strO F1 (hr.mono (by decide)) s1 i1 b1 pass0 pins s σ H _ us Q I r ⟨a, dx, _, rfl, ea, a, d, rfl, hT, ok, rfl, fun H' x => ⟨_, rfl, q H' x⟩⟩
  | mk t =>
    obtain ⟨f1, fd1, F1, s1, i1, b1⟩ := D.M
    obtain ⟨dx, b, ea, _⟩ := id hT
    exact call_strO F1 hr s1 i1 b1 pass0 pins s σ H _ us Q I r ⟨a, dx, _, rfl, ea, a, t, rfl, hT, ok.1, fun H' x => ⟨_, rfl, q H' x⟩⟩
/-- the classes of deeds, as isinstance sees them -/
structure KD (K : PySem.W.Frag) (mg : Str → Option Value) (A : Ad) (cD cT : Addr) : Prop where
  t5 : ∀ x, K5F.TyC K (A.c5 x)
  tm : TyC K A.cm
  gD : mg "Deed" = some (.ref cD)
  gT : mg "Thing" = some (.ref cT)
  d5 : ∀ x, PySem.W.kitAny K (.ref (A.c5 x)) [.ref cD, .ref cT] = some true
  dm : PySem.W.kitAny K (.ref A.cm) [.ref cD, .ref cT] = some true
theorem TdAt.ty {K : PySem.W.Frag} {A : Ad} {H : Hp} {a : Addr} {t : Td} (t5 : ∀ x, K5F.TyC K (A.c5 x)) (tm : TyC K A.cm) (h : TdAt A H a t) : TyX K H (.ref a) (.ref (clsTd A t)) := by
  cases t with
  | dm d => obtain ⟨dx, e⟩ := h; exact (t5 _).ty e
  | mk t => obtain ⟨dx, b, e, _⟩ := h; exact tm.ty e
def spTOd (A : Ad) : Sp := fun vs H Q _ => ∃ (a : Addr) (t : Td), vs = [.ref a] ∧ TdAt A H a t ∧ okTd t ∧ ∀ H', Same H H' → Q (.str (txtW (tdW t))) H'
section
variable {P : Program} {w : World} {K : PySem.W.Frag} {mg : Str → Option Value} {base : Heap} {f : Addr} {fd : FuncData}
theorem ok_text_ofD {A : Ad} {cD cT : Addr} (F : Fun K "text_of" "text_of" s_text_of f fd) (I : KD K mg A cD cT) (D : SD P w K mg base A) (mi : mg "isinstance" = none) (ms : mg "str" = none) : FnOk P w K mg base CX0 9 f fd ["item"] (spTOd A) := by
  refine F.ok sc_text_of (fun vs H Q E h => by obtain ⟨a, t, rfl, _⟩ := h; rfl) (fun cdv A_ outer s H vs Q E hr h => ?_)
  obtain ⟨a, t, rfl, hT, ok, q⟩ := h
  refine ⟨_, PSs.nox (pss_cons (ps_if (pt_val (pe_callB call_isiT (by rfl) mi boot_isinstance (pa_cons (pv 0) (pa_cons (pe_tup (pa_cons (pe_glob (v := .ref cD) (by rfl) I.gD rfl) (pa_cons (pe_glob (v := .ref cT) (by rfl) I.gT rfl) pa_nil))) pa_nil))))
      (pss_one (ps_ret (pe_callTy (r := rStrTd A) (call_strTd D hr) (by rfl) ms PyProof.Rows.boot_str (pa_cons (pv 0) pa_nil)))) pss_nil)
    (pss_cons (ps_if pt_never (pss_one ps_never) pss_nil) (pss_one ps_never))), ?_⟩
  refine ⟨_, rfl, by show 2 ≤ sizeLine; decide, fun p np => ?_⟩
  have s1 := same_upd (o := .tup [.ref cD, .ref cT]) np
  have e1 : (upd H p (.tup [.ref cD, .ref cT])) p = some (.tup [.ref cD, .ref cT]) := upd_same
  generalize upd H p (.tup [.ref cD, .ref cT]) = H1 at s1 e1 ⊢
  have kk : PySem.W.kitAny K (.ref (clsTd A t)) [.ref cD, .ref cT] = some true := by
    cases t with
    | dm d => exact I.d5 _
    | mk t => exact I.dm
  refine ⟨.ref a, p, _, _, _, true, rfl, e1, .cons (.own _) (.cons (.own _) .nil), (hT.same s1).ty I.t5 I.tm, kk, _, rfl, ?_⟩
  refine iteT ⟨_, rfl, a, t, rfl, hT.same s1, ok, fun H' x => ?_⟩
  exact q H' fun y o e => x _ _ (s1 _ _ e)
/-- read_from, of a deed of any class -/
def spRF6 (K : PySem.W.Frag) (A : Ad) : Sp := fun vs H Q E => spRF K "give" (spRd5 K A.c5 .give) vs H Q E ∨ (spRF K "take" (spRd5 K A.c5 .take) vs H Q E ∨ (spRF K "call" (spRd5 K A.c5 .call) vs H Q E ∨ (spRF K "preset" (spRd5 K A.c5 .preset) vs H Q E ∨ (spRF K "use" (spRd5 K A.c5 .use) vs H Q E ∨ spRF K "make" (spRdMk K A.cm A.c A.k) vs H Q E))))
theorem rf6 {A : Ad} {H : Hp} {p al : Addr} {t : Td} {Q : VK} {E : XK} (hS : SqL K H p ((tdW t).map V.str)) (ok : okTd t) (hA : SqT K H al (dWs.map V.str)) (q : ∀ a H', Same H H' → TdN A H H' a t → Q (.ref a) H') : spRF6 K A [.ref p, .ref al] H Q E := by
  cases t with
  | mk t => exact .inr (.inr (.inr (.inr (.inr ⟨p, al, _, _, rfl, hS, rfl, hA, by simp, p, t, rfl, hS, ok.1, ok.2, fun a H' s hn => q a H' s ⟨hn.at_, hn.own⟩⟩))))
  | dm d =>
    have q2 : ∀ a H', Same H H' → H a = none → K5F.DeedAt A.c5 H' a d → Q (.ref a) H' := fun a H' s _ h => q a H' s (tdN5 s h)
    cases d with
    | give wd t k o => exact .inl ⟨p, al, _, _, rfl, hS, rfl, hA, by simp, p, .give wd t k o, rfl, hS, ok, rfl, q2⟩
    | take wd t k g p' c => exact .inr (.inl ⟨p, al, _, _, rfl, hS, rfl, hA, by simp, p, .take wd t k g p' c, rfl, hS, ok, rfl, q2⟩)
    | call n => exact .inr (.inr (.inl ⟨p, al, _, _, rfl, hS, rfl, hA, by simp, p, .call n, rfl, hS, ok, rfl, q2⟩))
    | preset s wd k o => exact .inr (.inr (.inr (.inl ⟨p, al, _, _, rfl, hS, rfl, hA, by simp, p, .preset s wd k o, rfl, hS, ok, rfl, q2⟩)))
    | use wd t => exact .inr (.inr (.inr (.inr (.inl ⟨p, al, _, _, rfl, hS, rfl, hA, by simp, p, .use wd t, rfl, hS, ok, rfl, q2⟩))))
def spRTD (K : PySem.W.Frag) (A : Ad) : Sp := fun vs H Q _ => ∃ (al : Addr) (t : Td), vs = [.str (txtW (tdW t)), .ref al] ∧ okTd t ∧ SqT K H al (dWs.map V.str) ∧ ∀ a H', Same H H' → TdN A H H' a t → Q (.ref a) H'
theorem ok_read_textD {A : Ad} {fS : Addr} {dS : FuncData} {ds : List Value} (F : Fun K "read_text" "read_text" s_read_text f fd) (FS : FnOk P w K mg base CX0 1 fS dS ["text", "separator"] (spSW K)) (bS : Binds K dS ["text", "separator"] ds) (vS : Vals [V.str ⟨#[32]⟩] ds) (kS : PySem.W.keepIn K (.ref fS) = true) (gS : mg "split_words" = some (.ref fS))
    (RF : Df P w K mg base CX0 11 "read_from" ["words", "allowed"] (spRF6 K A)) (TO : Df P w K mg base CX0 9 "text_of" ["item"] (spTOd A)) : FnOk P w K mg base CX0 12 f fd ["text", "allowed"] (spRTD K A) := by
  refine F.ok sc_read_text (fun vs H Q E h => by obtain ⟨al, t, rfl, _⟩ := h; rfl) (fun cdv A_ outer s H vs Q E hr h => ?_)
  obtain ⟨al, t, rfl, ok, hA, q⟩ := h
  have hr1 := hr.mono (show 1 ≤ 11 by decide)
  have hr9 := hr.mono (show 9 ≤ 11 by decide)
  refine ⟨_, PSs.nox (pss_cons (ps_set (i := 2) sc_read_text.nd rfl (.inl rfl) (pe_call FS hr1 (by rfl) gS kS bS vS pass0 (pa_cons (pv 0) pa_nil)))
    (pss_cons (ps_if (pt_cmpR op_isN (pv 2) pe_non (by rfl)) (pss_one (ps_ret pe_non)) pss_nil)
    (pss_cons (ps_set (i := 3) sc_read_text.nd rfl (.inl rfl) (pe_df0 RF hr (by rfl) (pa_cons (pv 2) (pa_cons (pv 1) pa_nil))))
    (pss_cons (ps_if (PW.pt (pw_or (pt_cmpR op_isN (pv 3) pe_non (by rfl)) (pw_or1 (pt_cmpR op_ne (pe_df0 TO hr9 (by rfl) (pa_cons (pv 3) pa_nil)) (pv 0) (by rfl))))) (pss_one (ps_ret pe_non)) pss_nil)
    (pss_one (ps_ret (pv 3))))))), ?_⟩
  have lt := td_len ok
  refine ⟨_, rfl, tdW t, rfl, tdW_ne t, td_w ok, by omega, fun H1 p s1 np e1 => ?_⟩
  refine ⟨_, rfl, rfl, _, rfl, iteF ?_⟩
  refine ⟨_, rfl, _, rfl, rf6 (SqL.of e1) ok (SqT.ext hA s1) fun a H2 s2 hT => ?_⟩
  refine ⟨_, rfl, rfl, _, rfl, iteF ?_⟩
  refine ⟨_, rfl, a, t, rfl, hT.at_, ok, fun H3 s3 => ⟨_, rfl, rfl, _, rfl, ?_⟩⟩
  rw [decide_eq_true rfl]
  exact iteF ⟨_, rfl, q a H3 (fun y o e => s3 _ _ (s2 _ _ (s1 _ _ e))) ((hT.pre s1).post s3)⟩
def spReadD (A : Ad) : Sp := fun vs H Q _ => ∃ (t : Td), vs = [.str (txtW (tdW t))] ∧ okTd t ∧ ∀ a H', Same H H' → TdN A H H' a t → Q (.ref a) H'
theorem ok_read_deed {A : Ad} {aT : Addr} (F : Fun K "read_deed" "read_deed" s_read_deed f fd) (RT_ : Df P w K mg base CX0 12 "read_text" ["text", "allowed"] (spRTD K A)) (gT : mg "DEEDS" = some (.ref aT)) (hT : KTup K aT dWs) : FnOk P w K mg base CX0 13 f fd ["text"] (spReadD A) := by
  refine F.ok sc_read_deed (fun vs H Q E h => by obtain ⟨t, rfl, _⟩ := h; rfl) (fun cdv A_ outer s H vs Q E hr h => ?_)
  obtain ⟨t, rfl, ok, q⟩ := h
  refine ⟨_, PSs.nox (pss_cons (ps_set (i := 1) sc_read_deed.nd rfl (.inl rfl) (pe_df0 RT_ hr (by rfl) (pa_cons (pv 0) (pa_cons (pe_glob (v := .ref aT) (by rfl) gT rfl) pa_nil))))
    (pss_cons (ps_if (pt_cmpR op_isN (pv 1) pe_non (by rfl)) (pss_one ps_never) pss_nil)
    (pss_one (ps_ret (pv 1))))), ?_⟩
  refine ⟨_, rfl, aT, t, rfl, ok, hT.sq, fun a H1 s1 ht => ?_⟩
  refine ⟨_, rfl, rfl, _, rfl, iteF ?_⟩
  exact ⟨_, rfl, q a H1 s1 ht⟩
end
end K56
set_option maxHeartbeats 4000000
namespace K56
open PySem PySem.Spec PyProof.Rows L2 RL RE RN RM TL RQ RC
/-! ### == and != of top deeds -/
structure EqTd (P : Program) (w : World) (K : PySem.W.Frag) (mg : Str → Option Value) (base : Heap) (A : Ad) : Prop where
  t5 : ∀ x, K5F.TyC K (A.c5 x)
  tm : TyC K A.cm
  e5 : ∀ x, ∃ (f : Addr) (fd : FuncData), FnOk P w K mg base CX0 1 f fd ["self", "other"] (spEqB (K5F.RD K A.c5 x)) ∧ PySem.W.findIn K (.ref (A.c5 x)) "__eq__" = some (some (.ref f)) ∧ PySem.W.isFn K (.ref f) = true ∧ Binds K fd ["self", "other"] []
  em : ∃ (f : Addr) (fd : FuncData), FnOk P w K mg base CX0 4 f fd ["self", "other"] (spEqB (RMk K A.cm A.c A.k)) ∧ PySem.W.findIn K (.ref A.cm) "__eq__" = some (some (.ref f)) ∧ PySem.W.isFn K (.ref f) = true ∧ Binds K fd ["self", "other"] []
  n5 : ∀ x, PySem.W.findIn K (.ref (A.c5 x)) "__ne__" = some (some (.builtin "object.__ne__"))
  nm : PySem.W.findIn K (.ref A.cm) "__ne__" = some (some (.builtin "object.__ne__"))
  nf : ∀ t t', PySem.W.notFirst K (clsTd A t) (.ref (clsTd A t')) = true
  km : ∀ x, PySem.W.kitOne K (.ref (A.c5 x)) (.ref A.cm) = some false
  k5 : ∀ x, PySem.W.kitOne K (.ref A.cm) (.ref (A.c5 x)) = some false
  kk : PySem.W.kitOne K (.ref A.cm) (.ref A.cm) = some true
def DTd (A : Ad) : EqvB := fun x y H b => ∃ (a a' : Addr) (t t' : Td), x = .ref a ∧ y = .ref a' ∧ TdAt A H a t ∧ TdAt A H a' t' ∧ okTd t ∧ okTd t' ∧ b = decide (t = t')
theorem mk_mk_eq (t t' : Th) : decide (Td.mk t = Td.mk t') = decide (t = t') := by
  rw [Bool.eq_iff_iff]
  simp
theorem dm_dm_eq (d d' : K5F.Dm) : decide (Td.dm d = Td.dm d') = decide (d = d') := by
  rw [Bool.eq_iff_iff]
  simp
section
variable {X : Cx} {A : Ad}
theorem rd5 {P : Program} {w : World} {K : PySem.W.Frag} {mg : Str → Option Value} {base : Heap} (D : EqTd P w K mg base A) {H : Hp} {a a' : Addr} {d : K5F.Dm} {t' : Td} (h : K5F.DeedAt A.c5 H a d) (h' : TdAt A H a' t') : K5F.RD K A.c5 (K5F.clD d) a (.ref a') H (decide (Td.dm d = t')) := by
  refine ⟨d, rfl, h, ?_⟩
  cases t' with
  | dm d' => exact .inl ⟨d', a', rfl, h', dm_dm_eq _ _⟩
  | mk t => exact .inr ⟨_, h'.ty D.t5 D.tm, D.k5 _, decide_eq_false (fun e => nomatch e)⟩
theorem rdM {P : Program} {w : World} {K : PySem.W.Frag} {mg : Str → Option Value} {base : Heap} (D : EqTd P w K mg base A) {H : Hp} {a a' : Addr} {t : Th} {t' : Td} (ok : okT t) (ok' : okTd t') (h : MkAt A.cm A.c A.k H a t) (h' : TdAt A H a' t') : RMk K A.cm A.c A.k a (.ref a') H (decide (Td.mk t = t')) := by
  refine ⟨t, h, ok, _, h'.ty D.t5 D.tm, ?_⟩
  cases t' with
  | dm d' => exact .inr ⟨D.km _, decide_eq_false (fun e => nomatch e)⟩
  | mk t2 => exact .inl ⟨D.kk, a', t2, rfl, h', ok'.1, mk_mk_eq _ _⟩
theorem rcBTd (D : EqTd X.prog X.w X.K X.mg X.base A) : RcB X 4 (DTd A) := by
  intro A_ pins s σ H x y u v b sb I rx ry h
  obtain ⟨a, a', t, t', rfl, rfl, ha, ha', ok, ok', rfl⟩ := h
  have ty := ha'.ty D.t5 D.tm
  have nf := D.nf t t'
  cases t with
  | dm d =>
    obtain ⟨f, fd, F, hs, hf, hb⟩ := D.e5 (K5F.clD d)
    have hr := rd5 D ha ha'
    obtain ⟨dx, ea⟩ := ha
    exact rcB_any (F.mono (show 1 ≤ 4 by decide)) hs hf hb pass0 A_ pins s σ H _ _ u v _ sb I rx ry ⟨a, dx, _, _, rfl, ea, ty, nf, hr⟩
  | mk t =>
    obtain ⟨f, fd, F, hs, hf, hb⟩ := D.em
    have hr := rdM D ok.1 ok' ha ha'
    obtain ⟨dx, b2, ea, _⟩ := ha
    exact rcB_any F hs hf hb pass0 A_ pins s σ H _ _ u v _ sb I rx ry ⟨a, dx, _, _, rfl, ea, ty, nf, hr⟩
theorem op_neTd (D : EqTd X.prog X.w X.K X.mg X.base A) (hr : Room 5 X.A) : OpR X (compareOp .NotEq) (rNeB (DTd A)) := by
  intro pins s σ H x y v u Q I rx ry hq
  obtain ⟨b, ⟨a, a', t, t', rfl, rfl, ha, ha', ok, ok', rfl⟩, q⟩ := hq
  have ty := ha'.ty D.t5 D.tm
  have nf := D.nf t t'
  cases t with
  | dm d =>
    obtain ⟨f, fd, F, hs, hf, hb⟩ := D.e5 (K5F.clD d)
    have hR := rd5 D ha ha'
    obtain ⟨dx, ea⟩ := ha
    exact op_neAny (F.mono (show 1 ≤ 4 by decide)) hr (D.t5 _).hm (D.n5 _) hs hf hb pass0 pins s σ H _ _ v u Q I rx ry ⟨_, ⟨a, dx, _, _, rfl, ea, ty, nf, hR⟩, q⟩
  | mk t =>
    obtain ⟨f, fd, F, hs, hf, hb⟩ := D.em
    have hR := rdM D ok.1 ok' ha ha'
    obtain ⟨dx, b2, ea, _⟩ := ha
    exact op_neAny F hr D.tm.hm D.nm hs hf hb pass0 pins s σ H _ _ v u Q I rx ry ⟨_, ⟨a, dx, _, _, rfl, ea, ty, nf, hR⟩, q⟩
end
end K56
set_option maxHeartbeats 4000000
namespace K56
open PySem PySem.Spec PyProof.Rows L2 RL RE RN RM TL RQ RC
/-! ### texts in a drawn order -/
theorem erase_map {α β : Type} (g : α → β) : ∀ (xs : List α) (k : Nat), (xs.map g).eraseIdx k = (xs.eraseIdx k).map g
  | [], _ => rfl
  | _ :: _, 0 => rfl
  | x :: xs, k + 1 => by
    show g x :: (xs.map g).eraseIdx k = g x :: (xs.eraseIdx k).map g
    rw [erase_map g xs k]
theorem erase_perm {α : Type} : ∀ (xs : List α) (k : Nat) (y : α), xs[k]? = some y → (y :: xs.eraseIdx k).Perm xs
  | [], _, _, h => by simp at h
  | x :: xs, 0, y, h => by
    simp at h
    subst h
    exact List.Perm.refl _
  | x :: xs, k + 1, y, h => by
    have h' : xs[k]? = some y := by simpa using h
    exact (List.Perm.swap x y _).trans ((erase_perm xs k y h').cons x)
theorem ne_box {H : Hp} {b p : Addr} {n : Int} (hb : Bx H b n) (np : H p = none) : p ≠ b := fun z => by
  obtain ⟨g0, m0, c0, eb1, hb1r⟩ := hb
  rw [z, eb1] at np
  cases np
theorem none_keep {H H' : Hp} {b p : Addr} (k : Keep b H H') (ne : p ≠ b) (n : H' p = none) : H p = none := by
  cases e : H p with
  | none => rfl
  | some o => rw [k p o ne e] at n; cases n
section
variable {P : Program} {w : World} {K : PySem.W.Frag} {mg : Str → Option Value} {base : Heap} {f : Addr} {fd : FuncData}
def rLenK (K : PySem.W.Frag) : List V → Hp → VK → Prop := fun xs H Q => ∃ p ys, xs = [V.ref p] ∧ (SqL K H p ys ∨ SqT K H p ys) ∧ Q (.int ys.length) H
def spMixed (K : PySem.W.Frag) : Sp := fun vs H Q _ => ∃ (b p : Addr) (n : Int) (ys : List Str), vs = [.ref b, .ref p] ∧ 0 ≤ n ∧ n ≤ 90000 ∧ Bx H b n ∧ SqL K H p (ys.map V.str) ∧ ys.length ≤ 30 ∧
  ∀ (r : Addr) (zs : List Str) H', zs.Perm ys → H r = none → H' r = some (.lst (zs.map V.str)) → Keep b H H' → Bx H' b (n + 30) → Q (.ref r) H'
theorem ok_mixed (F : Fun K "_law_mixed" "_law_mixed" s__law_mixed f fd) (GT : Df P w K mg base CX0 1 "_law_take" ["_law_box_here", "_law_many"] spTake) (mr : mg "range" = none) (ml : mg "len" = none) (mli : mg "list" = none) : FnOk P w K mg base CX0 2 f fd ["_law_box_here", "_law_some"] (spMixed K) := by
  refine F.ok sc__law_mixed (fun vs H Q E h => by obtain ⟨b, p, n, ys, rfl, _⟩ := h; rfl) (fun cdv A outer s H vs Q E hr h => ?_)
  obtain ⟨b, p, n, ys, rfl, n0, n1, hb, hS, hl, q⟩ := h
  refine ⟨_, PSs.nox (pss_cons (ps_set (i := 2) sc__law_mixed.nd rfl (.inr rfl) (pe_callTy call_list_of (by rfl) mli (by decide +kernel) (pa_cons (pv 1) pa_nil)))
    (pss_one (ps_ret (pe_lc (own := [("_law_k", 3)]) (g := gName 3) (by rfl) sc__law_mixed.nd (pi_range1 (by rfl) mr (pa_cons (pe_callB call_len_seq (by rfl) ml PySem.boot_len (pa_cons (pv 1) pa_nil)) pa_nil))
      (blkOk_by (own := [("_law_k", 3)]) (N := N__law_mixed) (sc := defScope s__law_mixed) (by decide +kernel)) (fun _ _ _ _ _ => pg_name (i := 3) sc__law_mixed.nd rfl (Or.inl rfl)) (fun _ _ _ _ _ => pts_nil)
      (fun _ _ _ _ _ => show PE _ _ (tBM K "list" rPopAt _ _) from pe_bm PySem.F.plainAttrs_list PySem.F.slot_list_pop PySem.F.type_list_pop mt_popAt (pv 2)
        (pa_cons (pe_df0 GT hr (by rfl) (pa_cons (pv 0) (pa_cons (pe_callB (r := rLenK K) call_len_seq (by rfl) ml PySem.boot_len (pa_cons (pv 2) pa_nil)) pa_nil))) pa_nil)))))), ?_⟩
  refine ⟨_, rfl, p, _, rfl, .inl hS, fun L nL => ?_⟩
  have nLb := ne_box hb nL
  have s1 := same_upd (H := H) (o := .lst (ys.map V.str)) nL
  have hb1 := hb.same s1
  have eL : (upd H L (.lst (ys.map V.str))) L = some (.lst (ys.map V.str)) := upd_same
  have nLp : H L = none := nL
  generalize upd H L (.lst (ys.map V.str)) = H1 at s1 hb1 eL
  refine ⟨_, rfl, p, _, rfl, .inl (SqL.ext hS s1), _, rfl, (by rw [List.length_map]; omega), (by rw [List.length_map]; omega), fun D nD => ?_⟩
  have nDb := ne_box hb1 nD
  have nDL : D ≠ L := fun z => by rw [z, eL] at nD; cases nD
  rw [List.length_map]
  refine lc_range (lo := 0) (n := ys.length) (fun i H' => ∃ zs left : List Str, H' D = some (.lst (zs.map V.str)) ∧ H' L = some (.lst (left.map V.str)) ∧ zs.length = i ∧ (zs ++ left).Perm ys ∧ Keep b H H' ∧ Bx H' b (n + (i : Int))) ?_ ?_ ?_
  · refine ⟨[], ys, upd_same, (by rw [upd_ne (Ne.symm nDL)]; exact eL), rfl, .refl _, (Keep.of s1).trans (Keep.new nD), ?_⟩
    exact (hb1.same (same_upd nD)).mono (by omega)
  · intro i H4 hi h2
    obtain ⟨zs, left, eD, e4, el, pm, k4, hb4⟩ := h2
    have hlen : zs.length + left.length = ys.length := by rw [← List.length_append]; exact pm.length_eq
    refine ⟨rfl, ?_⟩
    unfold tYes
    refine iteT ?_
    refine ⟨_, rfl, .inl ⟨rfl, _, .inl (.inl e4)⟩, ?_⟩
    refine ⟨_, rfl, _, rfl, L, left.map V.str, rfl, .inl (SqL.of e4), ?_⟩
    refine ⟨b, ((left.map V.str).length : Nat), n + (i : Int), rfl, by rw [List.length_map]; omega, by rw [List.length_map]; omega, by omega, by omega, hb4, fun d H5 d0 d1 k5 hb5 => ?_⟩
    rw [List.length_map] at d1
    have dl : d.toNat < left.length := by omega
    have nLb' : L ≠ b := nLb
    have e5 : H5 L = some (.lst (left.map V.str)) := k5 _ _ nLb' e4
    refine ⟨L, left.map V.str, d, d.toNat, .str left[d.toNat], rfl, rfl, e5, by omega, by omega, ?_, ?_, ?_⟩
    · rw [List.length_map]
      have e1 : (if d < 0 then d + (left.length : Int) else d) = d := if_neg (by omega)
      unfold seqIndex?
      simp only [e1]
      rw [if_pos]
      simp only [Bool.and_eq_true, decide_eq_true_eq]
      exact ⟨d0, d1⟩
    · rw [List.getElem?_map, List.getElem?_eq_getElem dl]; rfl
    · have eD5 : H5 D = some (.lst (zs.map V.str)) := k5 _ _ nDb eD
      have np := erase_perm left d.toNat left[d.toNat] (List.getElem?_eq_getElem dl)
      rw [erase_map]
      refine ⟨zs.map V.str, by rw [upd_ne nDL]; exact eD5, ?_, zs ++ [left[d.toNat]], left.eraseIdx d.toNat, ?_, ?_, ?_, ?_, ?_, ?_⟩
      · rw [List.length_map]
        exact Nat.lt_of_lt_of_le (show zs.length < 1000 by omega) (by decide)
      · rw [upd_same, List.map_append]; rfl
      · rw [upd_ne (Ne.symm nDL), upd_same]
      · rw [List.length_append, el]; rfl
      · refine List.Perm.trans ?_ pm
        rw [List.append_assoc]
        exact np.append_left zs
      · intro a o na ea
        have h5 := k5 a o na (k4 a o na ea)
        rw [upd_ne (fun z => by rw [z] at ea; rw [s1 D o ea] at nD; cases nD), upd_ne (fun z => by rw [z, nLp] at ea; cases ea)]
        exact h5
      · obtain ⟨g, m, k, e, r1, r2, r3, r4, r5⟩ := hb5
        exact ⟨g, m, k, by rw [upd_ne nDb.symm, upd_ne nLb.symm]; exact e, r1, r2, r3, r4, by omega⟩
  · intro H4 h2
    obtain ⟨zs, left, eD, e4, el, pm, k4, hb4⟩ := h2
    have hlen : zs.length + left.length = ys.length := by rw [← List.length_append]; exact pm.length_eq
    have l0 : left = [] := List.length_eq_zero_iff.mp (by omega)
    subst l0
    rw [List.append_nil] at pm
    refine q D zs H4 pm ?_ eD k4 (hb4.mono (by omega))
    exact none_keep (Keep.of s1) nDb nD
end
end K56
set_option maxHeartbeats 8000000
namespace K56
open PySem PySem.Spec PyProof.Rows L2 RL RE RN RM TL RQ RC
/-! ### names -/
abbrev letters : Str := Str.ofString "abcdefghijklmnopqrstuvwxyz"
theorem atI_int {α : Type} {xs : List α} {i : Int} {v : α} (h0 : 0 ≤ i) (h : xs[i.toNat]? = some v) : atI xs i = some v := by
  have e : i = ((i.toNat : Nat) : Int) := by omega
  generalize i.toNat = j at e h
  subst e
  exact atI_nat h
def ltr (e : Int) : Nat := 97 + (e % 26).toNat
theorem letters_fin : ∀ k : Fin 26, letters.cps.toList[k.val]? = some (97 + k.val) := by decide +kernel
theorem ltr_at (e : Int) : atI letters.cps.toList (e % 26) = some (ltr e) := by
  have b0 := Int.emod_nonneg e (show (26 : Int) ≠ 0 by decide)
  have b1 := Int.emod_lt_of_pos e (show (0 : Int) < 26 by decide)
  exact atI_int b0 (letters_fin ⟨(e % 26).toNat, by omega⟩)
theorem app_len (x y : Str) : (x ++ y).length = x.length + y.length := Array.size_append
theorem cut_len (z : Str) (a b : Option Int) : (cutS z a b).length ≤ z.length := by
  unfold cutS
  show (List.toArray _).size ≤ z.cps.size
  rw [List.size_toArray, List.length_take, List.length_drop]
  have : z.cps.toList.length = z.cps.size := Array.length_toList
  omega
theorem sz {n : Nat} (h : n ≤ 1000) : n ≤ sizeLine := Nat.le_trans h (by decide)
def baseL (first : Int) (n : Nat) : List Str := (List.range n).map fun (k : Nat) => (⟨#[ltr (first + 5 * (k : Int))]⟩ : Str)
def baseT (first : Int) : Str := Txt.join (Str.ofString "") (baseL first 8)
def pre1 (first : Int) (j : Nat) : Str := cutS (baseT first) none (some ((j : Int) + 1))
def nm2 (first size : Int) (k : Nat) : Str := cutS (baseT first) none (some size) ++ ⟨#[ltr (first + 7 * (k : Int))]⟩
abbrev wl1 : List Str := ["option", "by", "cascade", "audience", "owner", "read", "act", "call", "grant", "default", "role", "table"]
abbrev wl2 : List Str := ["function", "give", "take", "make", "use", "preset", "inherit", "write"]
abbrev wl3 : List Str := ["mode", "body", "on", "has"]
theorem wl_ok : ∀ z ∈ wl1 ++ wl2 ++ wl3, nameT z = true := by
  have h : ((wl1 ++ wl2 ++ wl3).all nameT) = true := by decide +kernel
  exact fun z hz => List.all_eq_true.mp h z hz
theorem wl_nd : (wl1 ++ wl2 ++ wl3).Nodup := by decide +kernel
theorem name_txt {z : Str} (h : nameT z = true) : txt z := by
  have w := name_w h
  exact ⟨Nat.le_trans w.len (by decide), fun x hx => (w.ok x hx).2.2⟩
def chk1 (d : Nat) : Bool := (List.range 8).all (fun j => nameT (pre1 (d : Int) j)) && decide ((List.range 8).map (pre1 (d : Int))).Nodup
theorem all1 : ∀ d : Fin 26, chk1 d.val = true := by decide +kernel
def chk2 (d s : Nat) : Bool := (List.range 9).all (fun j => nameT (nm2 (d : Int) (s : Int) j)) && decide ((List.range 9).map (nm2 (d : Int) (s : Int))).Nodup
theorem all2 : ∀ d : Fin 26, ∀ s : Fin 8, chk2 d.val s.val = true := by decide +kernel
theorem len8 : ∀ d : Fin 26, (baseT (d.val : Int)).length = 8 := by decide +kernel
theorem ok1 {d : Int} (d0 : 0 ≤ d) (d1 : d < 26) : (∀ j, j < 8 → nameT (pre1 d j) = true) ∧ ((List.range 8).map (pre1 d)).Nodup := by
  have h := all1 ⟨d.toNat, by omega⟩
  unfold chk1 at h
  rw [Bool.and_eq_true] at h
  have e : ((d.toNat : Nat) : Int) = d := by omega
  simp only [e] at h
  exact ⟨fun j hj => List.all_eq_true.mp h.1 j (List.mem_range.mpr hj), of_decide_eq_true h.2⟩
theorem ok2 {d s : Int} (d0 : 0 ≤ d) (d1 : d < 26) (s0 : 0 ≤ s) (s1 : s < 8) : (∀ j, j < 9 → nameT (nm2 d s j) = true) ∧ ((List.range 9).map (nm2 d s)).Nodup := by
  have h := all2 ⟨d.toNat, by omega⟩ ⟨s.toNat, by omega⟩
  unfold chk2 at h
  rw [Bool.and_eq_true] at h
  have e : ((d.toNat : Nat) : Int) = d := by omega
  have e2 : ((s.toNat : Nat) : Int) = s := by omega
  simp only [e, e2] at h
  exact ⟨fun j hj => List.all_eq_true.mp h.1 j (List.mem_range.mpr hj), of_decide_eq_true h.2⟩
theorem base8 {d : Int} (d0 : 0 ≤ d) (d1 : d < 26) : (baseT d).length = 8 := by
  have h := len8 ⟨d.toNat, by omega⟩
  have e : ((d.toNat : Nat) : Int) = d := by omega
  simp only [e] at h
  exact h
theorem range_map_snoc {α : Type} (g : Nat → α) (n : Nat) : (List.range (n + 1)).map g = (List.range n).map g ++ [g n] := by
  rw [List.range_succ, List.map_append]
  rfl
theorem base_sum (d : Int) (n : Nat) : ((baseL d n).map (·.length)).sum = n := by
  induction n with
  | zero => rfl
  | succ n ih =>
    unfold baseL at ih ⊢
    rw [range_map_snoc, List.map_append, List.sum_append, ih]
    rfl
section
variable {P : Program} {w : World} {K : PySem.W.Frag} {mg : Str → Option Value} {base : Heap} {f : Addr} {fd : FuncData}
def spNm : Sp := fun vs H Q _ => ∃ (b : Addr) (m : Nat) (n : Int), vs = [.ref b, .int m] ∧ 1 ≤ m ∧ m ≤ 9 ∧ 0 ≤ n ∧ n ≤ 80000 ∧ Bx H b n ∧
  ∀ (p : Addr) (ys : List Str) H', ys.length = m → ys.Nodup → (∀ y ∈ ys, nameT y = true ∧ txt y) → H p = none → H' p = some (.lst (ys.map V.str)) → Keep b H H' → Bx H' b (n + 40) → Q (.ref p) H'
/-- way 1: prefixes of the base, if there are enough -/
def tW1 (b : Addr) (m : Nat) (n : Int) : TS := fun D σ H => ∃ y2 way first, 0 ≤ first ∧ first < 26 ∧ σ = [some (.ref b), some (.int m), y2, some (.int way), some (.int first), some (.str letters), some (.str (baseT first)), none, none] ∧ Bx H b (n + 2) ∧ 1 ≤ m ∧ m ≤ 9 ∧ 0 ≤ n ∧ n ≤ 80000 ∧
  (∀ (p : Addr) (ys : List Str) H', ys.length = m → ys.Nodup → (∀ y ∈ ys, nameT y = true ∧ txt y) → H p = none → H' p = some (.lst (ys.map V.str)) → Keep b H H' → Bx H' b (n + 40) → D.rt (.ref p) H') ∧ D.nx σ H
theorem ok_names (F : Fun K "_law_names" "_law_names" s__law_names f fd) (GT : Df P w K mg base CX0 1 "_law_take" ["_law_box_here", "_law_many"] spTake) (GX : Df P w K mg base CX0 2 "_law_mixed" ["_law_box_here", "_law_some"] (spMixed K)) (mr : mg "range" = none) : FnOk P w K mg base CX0 3 f fd ["_law_box_here", "_law_many"] spNm := by
  refine F.ok sc__law_names (fun vs H Q E h => by obtain ⟨b, m, n, rfl, _⟩ := h; rfl) (fun cdv A outer s H vs Q E hr h => ?_)
  obtain ⟨b, m, n, rfl, m1, m9, n0, n1, hb, q⟩ := h
  have hr1 := hr.mono (show 1 ≤ 2 by decide)
  refine ⟨_, PSs.nox (pss_cons (ps_set (i := 2) sc__law_names.nd rfl (.inl rfl) (pe_lst (pa_cons pe_str (pa_cons pe_str (pa_cons pe_str (pa_cons pe_str (pa_cons pe_str (pa_cons pe_str (pa_cons pe_str (pa_cons pe_str (pa_cons pe_str (pa_cons pe_str (pa_cons pe_str (pa_cons pe_str pa_nil))))))))))))))
    (pss_cons (ps_set (i := 2) sc__law_names.nd rfl (.inl rfl) (pe_op op_cat (pv 2) (pe_lst (pa_cons pe_str (pa_cons pe_str (pa_cons pe_str (pa_cons pe_str (pa_cons pe_str (pa_cons pe_str (pa_cons pe_str (pa_cons pe_str pa_nil))))))))) ))
    (pss_cons (ps_set (i := 2) sc__law_names.nd rfl (.inl rfl) (pe_op op_cat (pv 2) (pe_lst (pa_cons pe_str (pa_cons pe_str (pa_cons pe_str (pa_cons pe_str pa_nil)))))))
    (pss_cons (ps_asg (pe_tup (pa_cons (pe_df0 GT hr1 (by rfl) (pa_cons (pv 0) (pa_cons pe_int pa_nil))) (pa_cons (pe_df0 GT hr1 (by rfl) (pa_cons (pv 0) (pa_cons pe_int pa_nil))) pa_nil))) (pg_tup (by rfl) (pgs_cons (pg_name (i := 3) sc__law_names.nd rfl (.inl rfl)) (pgs_cons (pg_name (i := 4) sc__law_names.nd rfl (.inr rfl)) pgs_nil))))
    (pss_cons (ps_set (i := 5) sc__law_names.nd rfl (.inr rfl) pe_str)
    (pss_cons (ps_set (i := 6) sc__law_names.nd rfl (.inr rfl) (pe_join pe_str (pe_lc (own := [("_law_k", 8)]) (g := gName 8) (by rfl) sc__law_names.nd (pi_range1 (by rfl) mr (pa_cons pe_int pa_nil))
          (blkOk_by (own := [("_law_k", 8)]) (N := N__law_names) (sc := defScope s__law_names) (by decide +kernel)) (fun _ _ _ _ _ => pg_name (i := 8) sc__law_names.nd rfl (Or.inl rfl)) (fun _ _ _ _ _ => pts_nil)
          (fun _ _ _ _ _ => pe_ix ix_str (pv 5) (pe_op op_mod (pe_op op_add (pv 4) (pe_op op_mul pe_int (pv 8))) pe_int) (fun _ _ => rfl)))))
    (pss_cons (ps_if (pt_cmpR op_eq (pv 3) pe_int (nomark _)) (pss_one (ps_ret (pe_slice sl_list (pe_df0 GX hr (by rfl) (pa_cons (pv 0) (pa_cons (pv 2) pa_nil))) po_none (po_some (pv 1))))) pss_nil)
    (pss_cons (PSw (u := tW1 b m n) (ps_if (PW.pt (pw_and (pt_cmpR op_eq (pv 3) pe_int (nomark _)) (pw_and1 (pt_cmpR op_lt (pv 1) pe_int (nomark _))))) (pss_one (ps_ret (pe_slice sl_list (pe_df0 GX hr (by rfl) (pa_cons (pv 0) (pa_cons (pe_lc (own := [("_law_k", 8)]) (g := gName 8) (by rfl) sc__law_names.nd (pi_range1 (by rfl) mr (pa_cons pe_int pa_nil))
          (blkOk_by (own := [("_law_k", 8)]) (N := N__law_names) (sc := defScope s__law_names) (by decide +kernel)) (fun _ _ _ _ _ => pg_name (i := 8) sc__law_names.nd rfl (Or.inl rfl)) (fun _ _ _ _ _ => pts_nil)
          (fun _ _ _ _ _ => pe_slice sl_str (pv 6) po_none (po_some (pe_op op_add (pv 8) pe_int)))) pa_nil))) po_none (po_some (pv 1))))) pss_nil) ?w1)
    (pss_cons (ps_set (i := 7) sc__law_names.nd rfl (.inr rfl) (pe_df0 GT hr1 (by rfl) (pa_cons (pv 0) (pa_cons pe_int pa_nil))))
    (pss_one (ps_ret (pe_lc (own := [("_law_k", 8)]) (g := gName 8) (by rfl) sc__law_names.nd (pi_range1 (by rfl) mr (pa_cons (pv 1) pa_nil))
          (blkOk_by (own := [("_law_k", 8)]) (N := N__law_names) (sc := defScope s__law_names) (by decide +kernel)) (fun _ _ _ _ _ => pg_name (i := 8) sc__law_names.nd rfl (Or.inl rfl)) (fun _ _ _ _ _ => pts_nil)
          (fun _ _ _ _ _ => pe_op op_add_str (pe_slice sl_str (pv 6) po_none (po_some (pv 7))) (pe_ix ix_str (pv 5) (pe_op op_mod (pe_op op_add (pv 4) (pe_op op_mul pe_int (pv 8))) pe_int) (fun _ _ => rfl))))))))))))))), ?main⟩
  case w1 =>
    intro D σ H1 h
    obtain ⟨y2, way, first, f0, f1, rfl, hb1, m1, m9, n0, n1, qr, qn⟩ := h
    refine ⟨_, rfl, rfl, _, rfl, ?_⟩
    refine ite2 (fun e => ?_) (fun _ => qn)
    refine ⟨_, rfl, (m : Int), 9, rfl, rfl, _, rfl, ?_⟩
    refine ite2 (fun e2 => ?_) (fun _ => qn)
    have m8 : (m : Int) < 9 := of_decide_eq_true e2
    have z8 := base8 f0 f1
    refine ⟨_, rfl, 8, rfl, by decide, by decide, fun L nL => ?_⟩
    have nLb := ne_box hb1 nL
    refine lc_range (lo := 0) (n := 8) (fun i H' => H' L = some (.lst (((List.range i).map (pre1 first)).map V.str)) ∧ Same H1 H') ⟨upd_same, same_upd nL⟩ ?_ ?_
    · intro i H2 hi h
      obtain ⟨eL, s2⟩ := h
      refine ⟨rfl, ?_⟩
      unfold tYes
      refine iteT ?_
      refine ⟨_, rfl, _, rfl, _, 1, rfl, rfl, _, rfl, baseT first, rfl, sz (by omega), ?_⟩
      refine ⟨_, eL, ?_, ?_, ?_⟩
      · rw [List.length_map, List.length_map, List.length_range]
        exact Nat.lt_of_lt_of_le (show i < 1000 by omega) (by decide)
      · rw [upd_same, range_map_snoc, List.map_append, Int.zero_add]
        rfl
      · intro x o e
        rw [upd_ne (fun z => by rw [z, nL] at e; cases e)]
        exact s2 _ _ e
    · intro H2 h
      obtain ⟨eL, s2⟩ := h
      obtain ⟨o1, nd1⟩ := ok1 f0 f1
      have hb2 := hb1.same s2
      refine ⟨b, L, n + 2, (List.range 8).map (pre1 first), rfl, by omega, by omega, hb2, SqL.of eL, by rw [List.length_map, List.length_range]; decide, fun r zs H3 pm nr er k3 hb3 => ?_⟩
      refine ⟨_, rfl, m, rfl, r, _, rfl, SqL.of er, fun r2 nr2 => ?_⟩
      rw [cutV_front (by omega), show (m : Int).toNat = m from rfl, ← List.map_take]
      have lz : zs.length = 8 := by rw [pm.length_eq, List.length_map, List.length_range]
      have kk : Keep b H1 (upd H3 r2 (.lst ((zs.take m).map V.str))) := ((Keep.of s2).trans k3).trans (Keep.new nr2)
      refine qr r2 (zs.take m) _ (by rw [List.length_take, lz]; omega) ((pm.nodup_iff.mpr nd1).sublist (List.take_sublist _ _)) (fun y hy => ?_) ?_ upd_same kk ((hb3.same (same_upd nr2)).mono (by omega))
      · have hy2 := pm.mem_iff.mp (List.mem_of_mem_take hy)
        obtain ⟨j, hj, rfl⟩ := List.mem_map.mp hy2
        have := o1 j (List.mem_range.mp hj)
        exact ⟨this, name_txt this⟩
      · exact none_keep ((Keep.of s2).trans k3) (ne_box hb3 nr2) nr2
  case main =>
    refine ⟨by show 12 ≤ sizeLine; decide, fun l1 nl1 => ?_⟩
    have s1 := same_upd (o := .lst [.str (Str.ofString "option"), .str (Str.ofString "by"), .str (Str.ofString "cascade"), .str (Str.ofString "audience"), .str (Str.ofString "owner"), .str (Str.ofString "read"), .str (Str.ofString "act"), .str (Str.ofString "call"), .str (Str.ofString "grant"), .str (Str.ofString "default"), .str (Str.ofString "role"), .str (Str.ofString "table")]) nl1
    have e1 : (upd H l1 (.lst [.str (Str.ofString "option"), .str (Str.ofString "by"), .str (Str.ofString "cascade"), .str (Str.ofString "audience"), .str (Str.ofString "owner"), .str (Str.ofString "read"), .str (Str.ofString "act"), .str (Str.ofString "call"), .str (Str.ofString "grant"), .str (Str.ofString "default"), .str (Str.ofString "role"), .str (Str.ofString "table")])) l1 = some (.lst [.str (Str.ofString "option"), .str (Str.ofString "by"), .str (Str.ofString "cascade"), .str (Str.ofString "audience"), .str (Str.ofString "owner"), .str (Str.ofString "read"), .str (Str.ofString "act"), .str (Str.ofString "call"), .str (Str.ofString "grant"), .str (Str.ofString "default"), .str (Str.ofString "role"), .str (Str.ofString "table")]) := upd_same
    generalize upd H l1 (.lst [.str (Str.ofString "option"), .str (Str.ofString "by"), .str (Str.ofString "cascade"), .str (Str.ofString "audience"), .str (Str.ofString "owner"), .str (Str.ofString "read"), .str (Str.ofString "act"), .str (Str.ofString "call"), .str (Str.ofString "grant"), .str (Str.ofString "default"), .str (Str.ofString "role"), .str (Str.ofString "table")]) = H1 at s1 e1 ⊢
    refine ⟨_, rfl, by show 8 ≤ sizeLine; decide, fun l2 nl2 => ?_⟩
    have s2 := same_upd (o := .lst [.str (Str.ofString "function"), .str (Str.ofString "give"), .str (Str.ofString "take"), .str (Str.ofString "make"), .str (Str.ofString "use"), .str (Str.ofString "preset"), .str (Str.ofString "inherit"), .str (Str.ofString "write")]) nl2
    have e2 : (upd H1 l2 (.lst [.str (Str.ofString "function"), .str (Str.ofString "give"), .str (Str.ofString "take"), .str (Str.ofString "make"), .str (Str.ofString "use"), .str (Str.ofString "preset"), .str (Str.ofString "inherit"), .str (Str.ofString "write")])) l2 = some (.lst [.str (Str.ofString "function"), .str (Str.ofString "give"), .str (Str.ofString "take"), .str (Str.ofString "make"), .str (Str.ofString "use"), .str (Str.ofString "preset"), .str (Str.ofString "inherit"), .str (Str.ofString "write")]) := upd_same
    have e12 := s2 _ _ e1
    generalize upd H1 l2 (.lst [.str (Str.ofString "function"), .str (Str.ofString "give"), .str (Str.ofString "take"), .str (Str.ofString "make"), .str (Str.ofString "use"), .str (Str.ofString "preset"), .str (Str.ofString "inherit"), .str (Str.ofString "write")]) = H2 at s2 e2 e12 ⊢
    refine ⟨l1, l2, _, _, rfl, rfl, e12, e2, by show 20 ≤ sizeLine; decide, fun l3 nl3 => ?_⟩
    have s3 := same_upd (o := .lst ([.str (Str.ofString "option"), .str (Str.ofString "by"), .str (Str.ofString "cascade"), .str (Str.ofString "audience"), .str (Str.ofString "owner"), .str (Str.ofString "read"), .str (Str.ofString "act"), .str (Str.ofString "call"), .str (Str.ofString "grant"), .str (Str.ofString "default"), .str (Str.ofString "role"), .str (Str.ofString "table")] ++ [.str (Str.ofString "function"), .str (Str.ofString "give"), .str (Str.ofString "take"), .str (Str.ofString "make"), .str (Str.ofString "use"), .str (Str.ofString "preset"), .str (Str.ofString "inherit"), .str (Str.ofString "write")])) nl3
    have e3 : (upd H2 l3 (.lst ([.str (Str.ofString "option"), .str (Str.ofString "by"), .str (Str.ofString "cascade"), .str (Str.ofString "audience"), .str (Str.ofString "owner"), .str (Str.ofString "read"), .str (Str.ofString "act"), .str (Str.ofString "call"), .str (Str.ofString "grant"), .str (Str.ofString "default"), .str (Str.ofString "role"), .str (Str.ofString "table")] ++ [.str (Str.ofString "function"), .str (Str.ofString "give"), .str (Str.ofString "take"), .str (Str.ofString "make"), .str (Str.ofString "use"), .str (Str.ofString "preset"), .str (Str.ofString "inherit"), .str (Str.ofString "write")]))) l3 = some (.lst ([.str (Str.ofString "option"), .str (Str.ofString "by"), .str (Str.ofString "cascade"), .str (Str.ofString "audience"), .str (Str.ofString "owner"), .str (Str.ofString "read"), .str (Str.ofString "act"), .str (Str.ofString "call"), .str (Str.ofString "grant"), .str (Str.ofString "default"), .str (Str.ofString "role"), .str (Str.ofString "table")] ++ [.str (Str.ofString "function"), .str (Str.ofString "give"), .str (Str.ofString "take"), .str (Str.ofString "make"), .str (Str.ofString "use"), .str (Str.ofString "preset"), .str (Str.ofString "inherit"), .str (Str.ofString "write")])) := upd_same
    generalize upd H2 l3 (.lst ([.str (Str.ofString "option"), .str (Str.ofString "by"), .str (Str.ofString "cascade"), .str (Str.ofString "audience"), .str (Str.ofString "owner"), .str (Str.ofString "read"), .str (Str.ofString "act"), .str (Str.ofString "call"), .str (Str.ofString "grant"), .str (Str.ofString "default"), .str (Str.ofString "role"), .str (Str.ofString "table")] ++ [.str (Str.ofString "function"), .str (Str.ofString "give"), .str (Str.ofString "take"), .str (Str.ofString "make"), .str (Str.ofString "use"), .str (Str.ofString "preset"), .str (Str.ofString "inherit"), .str (Str.ofString "write")])) = H3 at s3 e3 ⊢
    refine ⟨_, rfl, by show 4 ≤ sizeLine; decide, fun l4 nl4 => ?_⟩
    have s4 := same_upd (o := .lst [.str (Str.ofString "mode"), .str (Str.ofString "body"), .str (Str.ofString "on"), .str (Str.ofString "has")]) nl4
    have e4 : (upd H3 l4 (.lst [.str (Str.ofString "mode"), .str (Str.ofString "body"), .str (Str.ofString "on"), .str (Str.ofString "has")])) l4 = some (.lst [.str (Str.ofString "mode"), .str (Str.ofString "body"), .str (Str.ofString "on"), .str (Str.ofString "has")]) := upd_same
    have e34 := s4 _ _ e3
    generalize upd H3 l4 (.lst [.str (Str.ofString "mode"), .str (Str.ofString "body"), .str (Str.ofString "on"), .str (Str.ofString "has")]) = H4 at s4 e4 e34 ⊢
    refine ⟨l3, l4, _, _, rfl, rfl, e34, e4, by show 24 ≤ sizeLine; decide, fun l5 nl5 => ?_⟩
    have s5 := same_upd (o := .lst ([.str (Str.ofString "option"), .str (Str.ofString "by"), .str (Str.ofString "cascade"), .str (Str.ofString "audience"), .str (Str.ofString "owner"), .str (Str.ofString "read"), .str (Str.ofString "act"), .str (Str.ofString "call"), .str (Str.ofString "grant"), .str (Str.ofString "default"), .str (Str.ofString "role"), .str (Str.ofString "table")] ++ [.str (Str.ofString "function"), .str (Str.ofString "give"), .str (Str.ofString "take"), .str (Str.ofString "make"), .str (Str.ofString "use"), .str (Str.ofString "preset"), .str (Str.ofString "inherit"), .str (Str.ofString "write")] ++ [.str (Str.ofString "mode"), .str (Str.ofString "body"), .str (Str.ofString "on"), .str (Str.ofString "has")])) nl5
    have e5 : (upd H4 l5 (.lst ([.str (Str.ofString "option"), .str (Str.ofString "by"), .str (Str.ofString "cascade"), .str (Str.ofString "audience"), .str (Str.ofString "owner"), .str (Str.ofString "read"), .str (Str.ofString "act"), .str (Str.ofString "call"), .str (Str.ofString "grant"), .str (Str.ofString "default"), .str (Str.ofString "role"), .str (Str.ofString "table")] ++ [.str (Str.ofString "function"), .str (Str.ofString "give"), .str (Str.ofString "take"), .str (Str.ofString "make"), .str (Str.ofString "use"), .str (Str.ofString "preset"), .str (Str.ofString "inherit"), .str (Str.ofString "write")] ++ [.str (Str.ofString "mode"), .str (Str.ofString "body"), .str (Str.ofString "on"), .str (Str.ofString "has")]))) l5 = some (.lst ((wl1 ++ wl2 ++ wl3).map V.str)) := upd_same
    generalize upd H4 l5 (.lst ([.str (Str.ofString "option"), .str (Str.ofString "by"), .str (Str.ofString "cascade"), .str (Str.ofString "audience"), .str (Str.ofString "owner"), .str (Str.ofString "read"), .str (Str.ofString "act"), .str (Str.ofString "call"), .str (Str.ofString "grant"), .str (Str.ofString "default"), .str (Str.ofString "role"), .str (Str.ofString "table")] ++ [.str (Str.ofString "function"), .str (Str.ofString "give"), .str (Str.ofString "take"), .str (Str.ofString "make"), .str (Str.ofString "use"), .str (Str.ofString "preset"), .str (Str.ofString "inherit"), .str (Str.ofString "write")] ++ [.str (Str.ofString "mode"), .str (Str.ofString "body"), .str (Str.ofString "on"), .str (Str.ofString "has")])) = H5 at s5 e5 ⊢
    have s05 : Same H H5 := fun x y e => s5 _ _ (s4 _ _ (s3 _ _ (s2 _ _ (s1 _ _ e))))
    have hb5 := hb.same s05
    have n5b : l5 ≠ b := fun z => by
      obtain ⟨g, mm, cc, eb, _⟩ := hb5
      rw [z, eb] at e5
      cases e5
    refine ⟨_, rfl, b, 3, n, rfl, by decide, by decide, n0, by omega, hb5, fun way H6 w0 w1 k6 hb6 => ?_⟩
    refine ⟨_, rfl, b, 26, n + 1, rfl, by decide, by decide, by omega, by omega, hb6, fun first H7 f0 f1 k7 hb7 => ?_⟩
    refine ⟨by show 2 ≤ sizeLine; decide, fun T nT => ?_⟩
    refine ⟨T, _, rfl, .inl (.inl upd_same), rfl, _, _, rfl, _, _, rfl, rfl, ?_⟩
    have s8 := same_upd (o := .tup [.int way, .int first]) nT
    have hb8 := hb7.same s8
    have e8 := s8 _ _ (k7 _ _ n5b (k6 _ _ n5b e5))
    have k08 : Keep b H (upd H7 T (.tup [.int way, .int first])) := (((Keep.of s05).trans k6).trans k7).trans (Keep.of s8)
    generalize upd H7 T (.tup [.int way, .int first]) = H8 at s8 hb8 e8 k08 ⊢
    have z8 := base8 f0 f1
    refine ⟨⟨_, rfl⟩, 8, rfl, by decide, by decide, fun L nL => ?_⟩
    refine lc_range (lo := 0) (n := 8) (fun i H' => H' L = some (.lst ((baseL first i).map V.str)) ∧ Same H8 H') ⟨upd_same, same_upd nL⟩ ?_ ?_
    · intro i H9 hi h
      obtain ⟨eL, s9⟩ := h
      refine ⟨rfl, ?_⟩
      unfold tYes
      refine iteT ?_
      refine ⟨_, rfl, _, rfl, _, rfl, 5, _, rfl, rfl, .inl ⟨by decide, by decide⟩, _, _, rfl, rfl, _, 26, rfl, rfl, by show (0 : Int) < 26; decide, letters, _, ltr (first + 5 * (0 + (i : Int))), rfl, rfl, by decide +kernel, ltr_at _, ?_⟩
      refine ⟨_, eL, ?_, ?_, ?_⟩
      · unfold baseL
        rw [List.length_map, List.length_map, List.length_range]
        exact Nat.lt_of_lt_of_le (show i < 1000 by omega) (by decide)
      · unfold baseL
        rw [upd_same, range_map_snoc, List.map_append, Int.zero_add]
        rfl
      · intro x o e
        rw [upd_ne (fun z => by rw [z, nL] at e; cases e)]
        exact s9 _ _ e
    intro H9 h
    obtain ⟨eL, s9⟩ := h
    refine ⟨_, L, baseL first 8, rfl, rfl, .inl (SqL.of eL), ?_, ?_⟩
    · rw [base_sum]
      show 8 + _ * 0 ≤ 16777216
      rw [Nat.mul_zero]
      decide
    have hb9 : Bx H9 b (n + 2) := (hb8.same s9).mono (by omega)
    have e9 := s9 _ _ e8
    have k09 : Keep b H H9 := k08.trans (Keep.of s9)
    refine ⟨_, rfl, rfl, _, rfl, ?_⟩
    refine ite2 (fun e => ?_) (fun _ => ?_)
    · refine ⟨_, rfl, _, rfl, b, l5, n + 2, wl1 ++ wl2 ++ wl3, rfl, by omega, by omega, hb9, SqL.of e9, by decide, fun r zs H10 pm nr er k10 hb10 => ?_⟩
      refine ⟨_, rfl, m, rfl, r, _, rfl, SqL.of er, fun r2 nr2 => ?_⟩
      rw [cutV_front (by omega), show (m : Int).toNat = m from rfl, ← List.map_take]
      have lz : zs.length = 24 := pm.length_eq
      have kk : Keep b H H10 := k09.trans k10
      refine q r2 (zs.take m) _ (by rw [List.length_take, lz]; omega) ((pm.nodup_iff.mpr wl_nd).sublist (List.take_sublist _ _)) (fun y hy => ?_) (none_keep kk (ne_box hb10 nr2) nr2) upd_same (kk.trans (Keep.new nr2)) ((hb10.same (same_upd nr2)).mono (by omega))
      have := wl_ok y (pm.mem_iff.mp (List.mem_of_mem_take hy))
      exact ⟨this, name_txt this⟩
    · refine ⟨_, way, first, f0, f1, rfl, hb9, m1, m9, n0, n1, fun p ys H' hl nd ok np ep kp hbp => q p ys H' hl nd ok (none_keep k09 (fun z => ?_) np) ep (k09.trans kp) hbp, ?_⟩
      · obtain ⟨g, mm, cc, eb, _⟩ := hb9
        rw [z, eb] at np
        cases np
      refine ⟨_, rfl, b, 8, n + 2, rfl, by decide, by decide, by omega, by omega, hb9, fun size H10 z0 z1 k10 hb10 => ?_⟩
      obtain ⟨o2, nd2⟩ := ok2 f0 f1 z0 z1
      refine ⟨_, rfl, m, rfl, by omega, by omega, fun D nD => ?_⟩
      have nDb := ne_box hb10 nD
      rw [show (m : Int).toNat = m from rfl]
      refine lc_range (lo := 0) (n := m) (fun i H' => H' D = some (.lst (((List.range i).map (nm2 first size)).map V.str)) ∧ Same H10 H') ⟨upd_same, same_upd nD⟩ ?_ ?_
      · intro i H11 hi h
        obtain ⟨eD, s11⟩ := h
        refine ⟨rfl, ?_⟩
        unfold tYes
        refine iteT ?_
        have lc := cut_len (baseT first) none (some size)
        refine ⟨_, rfl, _, rfl, size, rfl, baseT first, rfl, sz (by omega), _, rfl, _, rfl, _, rfl, 7, _, rfl, rfl, .inl ⟨by decide, by decide⟩, _, _, rfl, rfl, _, 26, rfl, rfl, by show (0 : Int) < 26; decide, letters, _, ltr (first + 7 * (0 + (i : Int))), rfl, rfl, by decide +kernel, ltr_at _, _, _, rfl, rfl, sz ?_, ?_⟩
        · show (cutS (baseT first) none (some size)).length + 1 ≤ 1000
          omega
        refine ⟨_, eD, ?_, ?_, ?_⟩
        · rw [List.length_map, List.length_map, List.length_range]
          exact Nat.lt_of_lt_of_le (show i < 1000 by omega) (by decide)
        · rw [upd_same, range_map_snoc, List.map_append, Int.zero_add]
          rfl
        · intro x o e
          rw [upd_ne (fun z => by rw [z, nD] at e; cases e)]
          exact s11 _ _ e
      · intro H11 h
        obtain ⟨eD, s11⟩ := h
        have kk : Keep b H H11 := (k09.trans k10).trans (Keep.of s11)
        refine q D _ H11 (by rw [List.length_map, List.length_range]) ?_ (fun y hy => ?_) (none_keep (k09.trans k10) nDb nD) eD kk ((hb10.same s11).mono (by omega))
        · refine nd2.sublist ?_
          refine List.Sublist.map _ ?_
          exact List.range_sublist.mpr m9
        · obtain ⟨j, hj, rfl⟩ := List.mem_map.mp hy
          have := o2 j (by have := List.mem_range.mp hj; omega)
          exact ⟨this, name_txt this⟩
end
end K56
set_option maxHeartbeats 8000000
namespace K56
open PySem PySem.Spec PyProof.Rows L2 RL RE RN RM TL RQ RC
/-! ### the words of a deed in a body -/
theorem rt_at {d : Int} (d0 : 0 ≤ d) (d1 : d < 5) : ∃ w, atI [V.str (Str.ofString "inherit"), .str (Str.ofString "act"), .str (Str.ofString "read"), .str (Str.ofString "write"), .str (Str.ofString "call")] d = some (.str w) ∧ (kindT w).isSome = true ∧ txt w := by
  have : d = 0 ∨ d = 1 ∨ d = 2 ∨ d = 3 ∨ d = 4 := by omega
  rcases this with rfl | rfl | rfl | rfl | rfl
  · exact ⟨_, rfl, by decide +kernel, by decide +kernel, by decide +kernel⟩
  · exact ⟨_, rfl, by decide +kernel, by decide +kernel, by decide +kernel⟩
  · exact ⟨_, rfl, by decide +kernel, by decide +kernel, by decide +kernel⟩
  · exact ⟨_, rfl, by decide +kernel, by decide +kernel, by decide +kernel⟩
  · exact ⟨_, rfl, by decide +kernel, by decide +kernel, by decide +kernel⟩
/-- names at hand -/
structure Nm (H : Hp) (p : Addr) (ys : List Str) : Prop where
  at_ : H p = some (.lst (ys.map V.str))
  l1 : 1 ≤ ys.length
  l9 : ys.length ≤ 9
  nd : ys.Nodup
  ok : ∀ y ∈ ys, nameT y = true ∧ txt y
theorem strs_no3 (ys : List Str) : ∀ g m k : Int, ys.map V.str ≠ [.int g, .int m, .int k] := fun g m k e => by
  cases ys with
  | nil => cases e
  | cons y r => cases e
theorem lst_ne {H : Hp} {b p : Addr} {n : Int} {xs : List V} (hb : Bx H b n) (e : H p = some (.lst xs)) (h : ∀ g m k : Int, xs ≠ [.int g, .int m, .int k]) : p ≠ b := fun z => by
  obtain ⟨g, m, k, eb, _⟩ := hb
  rw [z, eb] at e
  cases e
  exact h g m k rfl
theorem Nm.keep {H H' : Hp} {p b : Addr} {ys : List Str} {n : Int} (h : Nm H p ys) (k : Keep b H H') (hb : Bx H b n) : Nm H' p ys := ⟨k _ _ (lst_ne hb h.at_ (strs_no3 ys)) h.at_, h.l1, h.l9, h.nd, h.ok⟩
theorem Nm.same {H H' : Hp} {p : Addr} {ys : List Str} (h : Nm H p ys) (s : Same H H') : Nm H' p ys := ⟨s _ _ h.at_, h.l1, h.l9, h.nd, h.ok⟩
theorem get_nm {ys : List Str} (ok : ∀ y ∈ ys, nameT y = true ∧ txt y) {d : Int} (d0 : 0 ≤ d) (d1 : d < (ys.length : Int)) : ∃ y, atI (ys.map V.str) d = some (.str y) ∧ nameT y = true ∧ txt y := by
  have hd : d.toNat < ys.length := by omega
  refine ⟨ys[d.toNat], atI_int d0 ?_, ok _ (List.getElem_mem hd)⟩
  rw [List.getElem?_map, List.getElem?_eq_getElem hd]
  rfl
theorem get_tk {ys : List Str} (ok : ∀ y ∈ ys, nameT y = true ∧ txt y) {d : Int} (d0 : 0 ≤ d) (d1 : d < (ys.length : Int) + 3) : ∃ y, atI (ys.map V.str ++ [V.str tPub, .str tCal, .str tCal]) d = some (.str y) ∧ txt y ∧ (isT tCal (.str y) = true ∨ isTaker (.str y) = true) := by
  by_cases h : d.toNat < ys.length
  · refine ⟨ys[d.toNat], atI_int d0 ?_, (ok _ (List.getElem_mem h)).2, .inr ?_⟩
    · rw [List.getElem?_append_left (by rw [List.length_map]; exact h), List.getElem?_map, List.getElem?_eq_getElem h]
      rfl
    · show (nameT ys[d.toNat] || _) = true
      rw [(ok _ (List.getElem_mem h)).1]
      rfl
  · have hj : d.toNat - ys.length = 0 ∨ d.toNat - ys.length = 1 ∨ d.toNat - ys.length = 2 := by omega
    have e : ∀ x, [V.str tPub, .str tCal, .str tCal][d.toNat - ys.length]? = some x → atI (ys.map V.str ++ [V.str tPub, .str tCal, .str tCal]) d = some x := fun x hx => atI_int d0 (by rw [List.getElem?_append_right (by rw [List.length_map]; omega), List.length_map]; exact hx)
    rcases hj with hj | hj | hj
    · exact ⟨tPub, e _ (by rw [hj]; rfl), ⟨by decide +kernel, by decide +kernel⟩, .inr (by decide +kernel)⟩
    · exact ⟨tCal, e _ (by rw [hj]; rfl), ⟨by decide +kernel, by decide +kernel⟩, .inl (by decide +kernel)⟩
    · exact ⟨tCal, e _ (by rw [hj]; rfl), ⟨by decide +kernel, by decide +kernel⟩, .inl (by decide +kernel)⟩
section
variable {P : Program} {w : World} {K : PySem.W.Frag} {mg : Str → Option Value} {base : Heap} {f : Addr} {fd : FuncData}
def spBD : Sp := fun vs H Q _ => ∃ (b pN : Addr) (n : Int) (ys : List Str), vs = [.ref b, .ref pN] ∧ 0 ≤ n ∧ n ≤ 90000 ∧ Bx H b n ∧ Nm H pN ys ∧
  ∀ r d H', okD d → H r = none → H' r = some (.lst ((wordsD d).map V.str)) → Keep b H H' → Bx H' b (n + 5) → Q (.ref r) H'
theorem ok_bd (F : Fun K "_law_body_deed" "_law_body_deed" s__law_body_deed f fd) (GT : Df P w K mg base CX0 1 "_law_take" ["_law_box_here", "_law_many"] spTake) (ml : mg "len" = none) (mint : mg "int" = none) : FnOk P w K mg base CX0 2 f fd ["_law_box_here", "_law_names_here"] spBD := by
  refine F.ok sc__law_body_deed (fun vs H Q E h => by obtain ⟨b, pN, n, ys, rfl, _⟩ := h; rfl) (fun cdv A outer s H vs Q E hr h => ?_)
  obtain ⟨b, pN, n, ys, rfl, n0, n1, hb, hN, q⟩ := h
  refine ⟨_, PSs.nox (pss_cons (ps_set (i := 2) sc__law_body_deed.nd rfl (.inl rfl) (pe_ix ix_list (pe_lst (pa_cons pe_str (pa_cons pe_str (pa_cons pe_str (pa_cons pe_str (pa_cons pe_str pa_nil)))))) (pe_df0 GT hr (by rfl) (pa_cons (pv 0) (pa_cons pe_int pa_nil))) (fun _ _ => rfl)))
    (pss_cons (ps_set (i := 3) sc__law_body_deed.nd rfl (.inl rfl) (pe_ix ix_list (pv 1) (pe_df0 GT hr (by rfl) (pa_cons (pv 0) (pa_cons (pe_callB call_len_seq (by rfl) ml PySem.boot_len (pa_cons (pv 1) pa_nil)) pa_nil))) (fun _ _ => rfl)))
    (pss_cons (ps_set (i := 4) sc__law_body_deed.nd rfl (.inl rfl) (pe_ix ix_list (pe_op op_cat (pv 1) (pe_lst (pa_cons pe_str (pa_cons pe_str (pa_cons pe_str pa_nil))))) (pe_df0 GT hr (by rfl) (pa_cons (pv 0) (pa_cons (pe_op op_add (pe_callB call_len_seq (by rfl) ml PySem.boot_len (pa_cons (pv 1) pa_nil)) pe_int) pa_nil))) (fun _ _ => rfl)))
    (pss_cons (ps_if (pt_cmpR op_eq (pe_df0 GT hr (by rfl) (pa_cons (pv 0) (pa_cons pe_int pa_nil))) pe_int (nomark _)) (pss_one (ps_ret (pe_lst (pa_cons pe_str (pa_cons (pv 3) pa_nil))))) pss_nil)
    (pss_one (ps_ret (pe_op op_cat (pe_lst (pa_cons pe_str (pa_cons (pv 2) (pa_cons (pv 3) (pa_cons (pv 4) pa_nil))))) (pe_op op_rep (pe_lst (pa_cons pe_str pa_nil)) (pe_op op_mul (pe_df0 GT hr (by rfl) (pa_cons (pv 0) (pa_cons pe_int pa_nil))) (pe_callTy call_int1 (by rfl) mint (by decide +kernel) (pa_cons (pe_cmpR op_ne (pv 4) pe_str (nomark _)) pa_nil))))))))))), ?_⟩
  have l9 := hN.l9
  refine ⟨by show 5 ≤ sizeLine; decide, fun p1 np1 => ?_⟩
  have s1 := same_upd (o := .lst [.str (Str.ofString "inherit"), .str (Str.ofString "act"), .str (Str.ofString "read"), .str (Str.ofString "write"), .str (Str.ofString "call")]) np1
  have e1 : (upd H p1 (.lst [.str (Str.ofString "inherit"), .str (Str.ofString "act"), .str (Str.ofString "read"), .str (Str.ofString "write"), .str (Str.ofString "call")])) p1 = some (.lst [.str (Str.ofString "inherit"), .str (Str.ofString "act"), .str (Str.ofString "read"), .str (Str.ofString "write"), .str (Str.ofString "call")]) := upd_same
  have n1b := ne_box hb np1
  have hb1 := hb.same s1
  have hN1 := hN.same s1
  generalize upd H p1 (.lst [.str (Str.ofString "inherit"), .str (Str.ofString "act"), .str (Str.ofString "read"), .str (Str.ofString "write"), .str (Str.ofString "call")]) = H1 at s1 e1 hb1 hN1 ⊢
  refine ⟨_, rfl, b, 5, n, rfl, by decide, by decide, n0, by omega, hb1, fun d1 H2 d10 d11 k2 hb2 => ?_⟩
  obtain ⟨r, er, rk, rt⟩ := rt_at d10 d11
  have hN2 := hN1.keep k2 hb1
  refine ⟨p1, _, d1, .str r, rfl, rfl, SqL.of (k2 _ _ n1b e1), er, ?_⟩
  refine ⟨_, rfl, _, rfl, _, rfl, pN, _, rfl, .inl (SqL.of hN2.at_), ?_⟩
  rw [List.length_map]
  refine ⟨b, ys.length, n + 1, rfl, by have := hN.l1; omega, by omega, by omega, by omega, hb2, fun d2 H3 d20 d21 k3 hb3 => ?_⟩
  obtain ⟨nm, enm, nok, ntx⟩ := get_nm hN.ok d20 d21
  have hN3 := hN2.keep k3 hb2
  refine ⟨pN, _, d2, .str nm, rfl, rfl, SqL.of hN3.at_, enm, ?_⟩
  refine ⟨_, rfl, by show 3 ≤ sizeLine; decide, fun p4 np4 => ?_⟩
  have s4 := same_upd (o := .lst [.str tPub, .str tCal, .str tCal]) np4
  have e4 : (upd H3 p4 (.lst [.str tPub, .str tCal, .str tCal])) p4 = some (.lst [.str tPub, .str tCal, .str tCal]) := upd_same
  have hb4 := hb3.same s4
  have hN4 := hN3.same s4
  generalize upd H3 p4 (.lst [.str tPub, .str tCal, .str tCal]) = H4 at s4 e4 hb4 hN4 ⊢
  refine ⟨pN, p4, _, _, rfl, rfl, hN4.at_, e4, ?_, fun p5 np5 => ?_⟩
  · rw [List.length_map]
    exact Nat.le_trans (show ys.length + 3 ≤ 12 by omega) (by decide)
  have s5 := same_upd (o := .lst (ys.map V.str ++ [.str tPub, .str tCal, .str tCal])) np5
  have e5 : (upd H4 p5 (.lst (ys.map V.str ++ [.str tPub, .str tCal, .str tCal]))) p5 = some (.lst (ys.map V.str ++ [.str tPub, .str tCal, .str tCal])) := upd_same
  have n5b := ne_box hb4 np5
  have hb5 := hb4.same s5
  have hN5 := hN4.same s5
  generalize upd H4 p5 (.lst (ys.map V.str ++ [.str tPub, .str tCal, .str tCal])) = H5 at s5 e5 hb5 hN5 ⊢
  refine ⟨_, rfl, _, rfl, pN, _, rfl, .inl (SqL.of hN5.at_), ?_⟩
  rw [List.length_map]
  refine ⟨_, 3, rfl, rfl, ?_⟩
  refine ⟨b, (ys.length : Int) + 3, n + 1 + 1, rfl, by omega, by omega, by omega, by omega, hb5, fun d3 H6 d30 d31 k6 hb6 => ?_⟩
  obtain ⟨tk, etk, ttx, tok⟩ := get_tk hN.ok d30 d31
  refine ⟨p5, _, d3, .str tk, rfl, rfl, SqL.of (k6 _ _ n5b e5), etk, ?_⟩
  have k06 : Keep b H H6 := (((((Keep.of s1).trans k2).trans k3).trans (Keep.of s4)).trans (Keep.of s5)).trans k6
  refine ⟨_, rfl, b, 3, n + 1 + 1 + 1, rfl, by decide, by decide, by omega, by omega, hb6, fun d4 H7 d40 d41 k7 hb7 => ?_⟩
  have k07 := k06.trans k7
  refine ⟨rfl, _, rfl, ?_⟩
  refine ite2 (fun _ => ?_) (fun _ => ?_)
  · refine ⟨_, rfl, by show 2 ≤ sizeLine; decide, fun rr nrr => ?_⟩
    exact q rr (.call nm) _ ⟨ntx, nok⟩ (none_keep k07 (ne_box hb7 nrr) nrr) upd_same (k07.trans (Keep.new nrr)) ((hb7.same (same_upd nrr)).mono (by omega))
  · refine ⟨_, rfl, _, rfl, _, rfl, by show 4 ≤ sizeLine; decide, fun lg nlg => ?_⟩
    have s8 := same_upd (o := .lst [.str tGiv, .str r, .str nm, .str tk]) nlg
    have e8 : (upd H7 lg (.lst [.str tGiv, .str r, .str nm, .str tk])) lg = some (.lst [.str tGiv, .str r, .str nm, .str tk]) := upd_same
    have nlb := ne_box hb7 nlg
    have hb8 := hb7.same s8
    generalize upd H7 lg (.lst [.str tGiv, .str r, .str nm, .str tk]) = H8 at s8 e8 hb8 ⊢
    refine ⟨by show 1 ≤ sizeLine; decide, fun lo nlo => ?_⟩
    have s9 := same_upd (o := .lst [.str tOpt]) nlo
    have e9 : (upd H8 lo (.lst [.str tOpt])) lo = some (.lst [.str tOpt]) := upd_same
    have nob := ne_box hb8 nlo
    have hb9 := hb8.same s9
    have e89 := s9 _ _ e8
    generalize upd H8 lo (.lst [.str tOpt]) = H9 at s9 e9 hb9 e89 ⊢
    refine ⟨_, rfl, b, 2, n + 1 + 1 + 1 + 1, rfl, by decide, by decide, by omega, by omega, hb9, fun d5 H10 d50 d51 k10 hb10 => ?_⟩
    refine ⟨_, rfl, rfl, .inr ⟨_, rfl, d5, _, rfl, rfl, .inl ⟨by omega, by omega⟩, ?_⟩⟩
    have k010 : Keep b H H10 := (((k07.trans (Keep.of s8)).trans (Keep.of s9)).trans k10)
    have eo : ∃ o : Bool, d5 * (if (!decide (V.str tk = V.str (Str.ofString "public"))) = true then 1 else 0) = (if o = true then 1 else 0) ∧ (o = true → isT tPub (.str tk) = false) := by
      by_cases ht : tk = tPub
      · refine ⟨false, ?_, fun z => nomatch z⟩
        rw [ht, decide_eq_true rfl]
        show d5 * 0 = 0
        omega
      · have hd : decide (V.str tk = V.str (Str.ofString "public")) = false := decide_eq_false fun z => ht (V.str.inj z)
        rw [hd]
        have h5 : d5 = 0 ∨ d5 = 1 := by omega
        rcases h5 with rfl | rfl
        · exact ⟨false, rfl, fun z => nomatch z⟩
        · refine ⟨true, rfl, fun _ => ?_⟩
          unfold isT
          simpa using ht
    obtain ⟨o, eo, ho⟩ := eo
    refine ⟨lo, _, [.str tOpt], rfl, rfl, k10 _ _ nob e9, by rw [eo]; cases o <;> decide, by rw [eo]; cases o <;> decide, by rw [eo]; cases o <;> decide, fun lr nlr => ?_⟩
    rw [eo]
    have er2 : (List.replicate (if o = true then (1 : Int) else 0).toNat [V.str tOpt]).flatten = (if o = true then [tOpt] else []).map V.str := by cases o <;> rfl
    rw [er2]
    have s11 := same_upd (o := .lst ((if o = true then [tOpt] else []).map V.str)) nlr
    have e11 : (upd H10 lr (.lst ((if o = true then [tOpt] else []).map V.str))) lr = some (.lst ((if o = true then [tOpt] else []).map V.str)) := upd_same
    have hb11 := hb10.same s11
    have e8' := s11 _ _ (k10 _ _ nlb e89)
    generalize upd H10 lr (.lst ((if o = true then [tOpt] else []).map V.str)) = H11 at s11 e11 hb11 e8' ⊢
    refine ⟨lg, lr, _, _, rfl, rfl, e8', e11, (match o with | false => (show 4 ≤ sizeLine by decide) | true => (show 5 ≤ sizeLine by decide)), fun rr nrr => ?_⟩
    have kk := k010.trans (Keep.of s11)
    exact q rr (.give r nm tk o) _ ⟨rt, ntx, ttx, rk, nok, tok, ho⟩ (none_keep kk (ne_box hb11 nrr) nrr) (by rw [upd_same]; cases o <;> rfl) (kk.trans (Keep.new nrr)) ((hb11.same (same_upd nrr)).mono (by omega))
end
end K56
set_option maxHeartbeats 8000000
namespace K56
open PySem PySem.Spec PyProof.Rows L2 RL RE RN RM TL RQ RC
/-! ### the words of a thing -/
/-- words being gathered, in a list of one's own -/
structure FP (H0 : Hp) (b pN : Addr) (ys : List Str) (H : Hp) (pF : Addr) (ws : List Str) (n : Int) : Prop where
  at_ : H pF = some (.lst (ws.map V.str))
  nF : H0 pF = none
  k : Keep b H0 H
  bx : Bx H b n
  nm : Nm H pN ys
  ne : pN ≠ pF
theorem FP.mono {H0 : Hp} {b pN : Addr} {ys : List Str} {H : Hp} {pF : Addr} {ws : List Str} {n m : Int} (h : FP H0 b pN ys H pF ws n) (l : n ≤ m) : FP H0 b pN ys H pF ws m := ⟨h.at_, h.nF, h.k, h.bx.mono l, h.nm, h.ne⟩
theorem FP.nb {H0 : Hp} {b pN : Addr} {ys : List Str} {H : Hp} {pF : Addr} {ws : List Str} {n : Int} (h : FP H0 b pN ys H pF ws n) : pF ≠ b := lst_ne h.bx h.at_ (strs_no3 ws)
theorem FP.keep {H0 : Hp} {b pN : Addr} {ys : List Str} {H H' : Hp} {pF : Addr} {ws : List Str} {n m : Int} (h : FP H0 b pN ys H pF ws n) (k : Keep b H H') (hb : Bx H' b m) : FP H0 b pN ys H' pF ws m :=
  ⟨k _ _ h.nb h.at_, h.nF, h.k.trans k, hb, h.nm.keep k h.bx, h.ne⟩
theorem FP.same {H0 : Hp} {b pN : Addr} {ys : List Str} {H H' : Hp} {pF : Addr} {ws : List Str} {n : Int} (h : FP H0 b pN ys H pF ws n) (s : Same H H') : FP H0 b pN ys H' pF ws n := h.keep (Keep.of s) (h.bx.same s)
theorem FP.upd {H0 : Hp} {b pN : Addr} {ys : List Str} {H : Hp} {pF : Addr} {ws vs : List Str} {n : Int} (h : FP H0 b pN ys H pF ws n) : FP H0 b pN ys (L2.upd H pF (.lst (vs.map V.str))) pF vs n :=
  ⟨upd_same, h.nF, fun u o nu e => by rw [upd_ne (fun z => by rw [z, h.nF] at e; cases e)]; exact h.k u o nu e, by
    obtain ⟨g, m, c, e, r⟩ := h.bx
    exact ⟨g, m, c, by rw [upd_ne (Ne.symm h.nb)]; exact e, r⟩, ⟨by rw [upd_ne h.ne]; exact h.nm.at_, h.nm.l1, h.nm.l9, h.nm.nd, h.nm.ok⟩, h.ne⟩
theorem FP.new {H0 : Hp} {b pN : Addr} {ys : List Str} {H : Hp} {pF p : Addr} {ws vs : List Str} {n : Int} (h : FP H0 b pN ys H pF ws n) (np : H p = none) : FP H0 b pN ys (L2.upd H p (.lst (vs.map V.str))) p vs n :=
  ⟨upd_same, none_keep h.k (ne_box h.bx np) np, h.k.trans (Keep.new np), h.bx.same (same_upd np), h.nm.same (same_upd np), fun z => by rw [← z, h.nm.at_] at np; cases np⟩
theorem bodyW_snoc (ds : List Dm) (d : Dm) : bodyW (ds ++ [d]) = bodyW ds ++ ((if ds = [] then tCo else tSe) :: wordsD d) := by
  have more : ∀ ds : List Dm, moreW (ds ++ [d]) = moreW ds ++ (tSe :: wordsD d) := by
    intro ds
    induction ds with
    | nil =>
      show tSe :: (wordsD d ++ []) = tSe :: wordsD d
      rw [List.append_nil]
    | cons x xs ih =>
      show tSe :: (wordsD x ++ moreW (xs ++ [d])) = (tSe :: (wordsD x ++ moreW xs)) ++ (tSe :: wordsD d)
      rw [ih, List.cons_append, List.append_assoc]
  cases ds with
  | nil =>
    rw [if_pos rfl]
    show tCo :: (wordsD d ++ []) = tCo :: wordsD d
    rw [List.append_nil]
  | cons x xs =>
    rw [if_neg (by simp)]
    show tCo :: (wordsD x ++ moreW (xs ++ [d])) = (tCo :: (wordsD x ++ moreW xs)) ++ (tSe :: wordsD d)
    rw [more, List.cons_append, List.append_assoc]
section
variable (H0 : Hp) (b pN : Addr) (ys : List Str) (way n : Int)
def tS2 : TS := fun D σ H => ∃ pF ws y4 y5 y6, σ = [some (.ref b), some (.ref pN), some (.int way), some (.ref pF), y4, y5, y6] ∧ 0 ≤ way ∧ way < 3 ∧ 0 ≤ n ∧ n ≤ 80000 ∧ ws.length = 3 ∧ FP H0 b pN ys H pF ws n ∧
  ∀ md H', (way = 2 → isMd md) → (way ≠ 2 → md = tNul) → FP H0 b pN ys H' pF (ws ++ (if way = 2 then [md] else [])) (n + 1) → D.nx [some (.ref b), some (.ref pN), some (.int way), some (.ref pF), y4, y5, y6] H'
def tS3 : TS := fun D σ H => ∃ pF ws y4 y5 y6, σ = [some (.ref b), some (.ref pN), some (.int way), some (.ref pF), y4, y5, y6] ∧ 0 ≤ n ∧ n ≤ 80000 ∧ ws.length ≤ 4 ∧ FP H0 b pN ys H pF ws n ∧
  ∀ u pF' y4' H', (∀ zs, u = some zs → Aud zs ∧ sortedS zs = true) → FP H0 b pN ys H' pF' (ws ++ auW u) (n + 40) → D.nx [some (.ref b), some (.ref pN), some (.int way), some (.ref pF'), y4', y5, y6] H'
def tS4 : TS := fun D σ H => ∃ pF ws y4 y5 y6, σ = [some (.ref b), some (.ref pN), some (.int way), some (.ref pF), y4, y5, y6] ∧ 0 ≤ n ∧ n ≤ 80000 ∧ ws.length ≤ 13 ∧ FP H0 b pN ys H pF ws n ∧
  ∀ ds pF' y5' H', ds.length ≤ 4 → (∀ d ∈ ds, okD d) → (way ≠ 2 → ds = []) → FP H0 b pN ys H' pF' (ws ++ bodyW ds) (n + 30) → D.nx [some (.ref b), some (.ref pN), some (.int way), some (.ref pF'), y4, y5', y6] H'
def tSign : TE := fun σ H Q => ∃ i : Int, σ[5]? = some (some (.int i)) ∧ Q (.str (if i = 0 then tCo else tSe)) H
end
section
variable {P : Program} {w : World} {K : PySem.W.Frag} {mg : Str → Option Value} {base : Heap} {f : Addr} {fd : FuncData}
def kdW (way : Int) : Str := if way = 0 then tRol else if way = 1 then tTab else tFun
def spThW : Sp := fun vs H Q _ => ∃ (b pN : Addr) (n way : Int) (ys : List Str), vs = [.ref b, .ref pN, .int way] ∧ 0 ≤ way ∧ way < 3 ∧ 0 ≤ n ∧ n ≤ 70000 ∧ Bx H b n ∧ Nm H pN ys ∧
  ∀ r t H', okT t → t.kind = kdW way → H r = none → H' r = some (.lst ((thW t).map V.str)) → Keep b H H' → Bx H' b (n + 80) → Q (.ref r) H'
theorem ok_thing (F : Fun K "_law_thing" "_law_thing" s__law_thing f fd) (GT : Df P w K mg base CX0 1 "_law_take" ["_law_box_here", "_law_many"] spTake) (GX : Df P w K mg base CX0 2 "_law_mixed" ["_law_box_here", "_law_some"] (spMixed K)) (GB : Df P w K mg base CX0 2 "_law_body_deed" ["_law_box_here", "_law_names_here"] spBD)
    (ml : mg "len" = none) (mr : mg "range" = none) (mn : mg "min" = none) (mso : mg "sorted" = none) (ms : mg "str" = none) : FnOk P w K mg base CX0 3 f fd ["_law_box_here", "_law_names_here", "_law_way"] spThW := by
  refine F.ok sc__law_thing (fun vs H Q E h => by obtain ⟨b, pN, n, way, ys, rfl, _⟩ := h; rfl) (fun cdv A outer s H vs Q E hr h => ?_)
  obtain ⟨b, pN, n, way, ys, rfl, w0, w3, n0, n1, hb, hN, q⟩ := h
  have hr1 := hr.mono (show 1 ≤ 2 by decide)
  refine ⟨_, PSs.nox (pss_cons (ps_set (i := 3) sc__law_thing.nd rfl (.inl rfl) (pe_lst (pa_cons (pe_ix ix_list (pe_lst (pa_cons pe_str (pa_cons pe_str (pa_cons pe_str pa_nil)))) (pv 2) (fun _ _ => rfl)) (pa_cons (pe_ix ix_list (pv 1) (pe_df0 GT hr1 (by rfl) (pa_cons (pv 0) (pa_cons (pe_callB call_len_seq (by rfl) ml PySem.boot_len (pa_cons (pv 1) pa_nil)) pa_nil))) (fun _ _ => rfl)) (pa_cons (pe_ix ix_list (pv 1) (pe_df0 GT hr1 (by rfl) (pa_cons (pv 0) (pa_cons (pe_callB call_len_seq (by rfl) ml PySem.boot_len (pa_cons (pv 1) pa_nil)) pa_nil))) (fun _ _ => rfl)) pa_nil)))))
    (pss_cons (PSw (u := tS2 H b pN ys way (n + 2)) (ps_if (pt_cmpR op_eq (pv 2) pe_int (nomark _)) (pss_one (ps_expr (pe_bm PySem.F.plainAttrs_list PySem.F.slot_list_append PySem.F.type_list_append mt_append (pv 3) (pa_cons (pe_ix ix_list (pe_lst (pa_cons pe_str (pa_cons pe_str pa_nil))) (pe_df0 GT hr1 (by rfl) (pa_cons (pv 0) (pa_cons pe_int pa_nil))) (fun _ _ => rfl)) pa_nil)))) pss_nil) ?w2)
    (pss_cons (PSw (u := tS3 H b pN ys way (n + 3)) (ps_if (pt_cmpR op_eq (pe_df0 GT hr1 (by rfl) (pa_cons (pv 0) (pa_cons pe_int pa_nil))) pe_int (nomark _))
      (pss_cons (ps_set (i := 4) sc__law_thing.nd rfl (.inl rfl) (pe_slice sl_list (pe_df0 GX hr (by rfl) (pa_cons (pv 0) (pa_cons (pv 1) pa_nil))) po_none (po_some (pe_df0 GT hr1 (by rfl) (pa_cons (pv 0) (pa_cons (pe_callB (call_min2 rfl) (by rfl) mn PyProof.Rows.boot_min (pa_cons pe_int (pa_cons (pe_op op_add (pe_callB call_len_seq (by rfl) ml PySem.boot_len (pa_cons (pv 1) pa_nil)) pe_int) pa_nil))) pa_nil))))))
      (pss_one (ps_set (i := 3) sc__law_thing.nd rfl (.inl rfl) (pe_op op_cat (pe_op op_cat (pv 3) (pe_lst (pa_cons pe_str pa_nil))) (pe_callB cr_sortedS (by rfl) mso (by decide +kernel) (pa_cons (pe_lc (own := [("_law_name", 6)]) (g := gName 6) (by rfl) sc__law_thing.nd (pi_list (pv 4))
        (blkOk_by (own := [("_law_name", 6)]) (N := N__law_thing) (sc := defScope s__law_thing) (by decide +kernel)) (fun _ _ _ _ _ => pg_name (i := 6) sc__law_thing.nd rfl (Or.inl rfl)) (fun _ _ _ _ _ => pts_nil)
        (fun _ _ _ _ _ => pe_callTy SkE.call_str_str (by rfl) ms PyProof.Rows.boot_str (pa_cons (pv 6) pa_nil))) pa_nil)))))) pss_nil) ?w3)
    (pss_cons (PSw (u := tS4 H b pN ys way (n + 43)) (ps_if (pt_cmpR op_eq (pv 2) pe_int (nomark _)) (pss_one (ps_for PassesOwn.never rfl (pi_range1 (by rfl) mr (pa_cons (pe_df0 GT hr1 (by rfl) (pa_cons (pv 0) (pa_cons pe_int pa_nil))) pa_nil)) (pg_name (i := 5) sc__law_thing.nd rfl (Or.inl rfl))
      (pss_one (ps_set (i := 3) sc__law_thing.nd rfl (.inl rfl) (pe_op op_cat (pe_op op_cat (pv 3) (pe_lst (pa_cons (PEw (u := tSign) (pe_ifExp (pt_cmpR op_eq (pv 5) pe_int (nomark _)) pe_str pe_str) ?wg) pa_nil))) (pe_df0 GB hr (by rfl) (pa_cons (pv 0) (pa_cons (pv 1) pa_nil)))))))) pss_nil) ?w4)
    (pss_one (ps_ret (pv 3))))))), ?main⟩
  case w2 =>
    intro D σ H1 h
    obtain ⟨pF, ws, y4, y5, y6, rfl, w0, w3, n0, n1, l3, fp, qn⟩ := h
    refine ⟨_, rfl, rfl, _, rfl, ?_⟩
    refine ite2 (fun e => ?_) (fun e => ?_)
    · have ew : way = 2 := V.int.inj (of_decide_eq_true e)
      refine ⟨_, rfl, .inl ⟨rfl, _, .inl (.inl fp.at_)⟩, by show 2 ≤ sizeLine; decide, fun l nl => ?_⟩
      have s1 := same_upd (o := .lst [.str (Str.ofString "owner"), .str (Str.ofString "caller")]) nl
      have e1 : (upd H1 l (.lst [.str (Str.ofString "owner"), .str (Str.ofString "caller")])) l = some (.lst [.str (Str.ofString "owner"), .str (Str.ofString "caller")]) := upd_same
      have nlb := ne_box fp.bx nl
      have fp1 := fp.same s1
      generalize upd H1 l (.lst [.str (Str.ofString "owner"), .str (Str.ofString "caller")]) = H2 at s1 e1 fp1 ⊢
      refine ⟨_, rfl, b, 2, n + 2, rfl, by decide, by decide, by omega, by omega, fp1.bx, fun d H3 d0 d1 k3 hb3 => ?_⟩
      have fp3 := fp1.keep k3 hb3
      have hm : ∃ md, atI [V.str (Str.ofString "owner"), .str (Str.ofString "caller")] d = some (.str md) ∧ isMd md := by
        have : d = 0 ∨ d = 1 := by omega
        rcases this with rfl | rfl
        · exact ⟨_, rfl, .inl rfl⟩
        · exact ⟨_, rfl, .inr rfl⟩
      obtain ⟨md, emd, hmd⟩ := hm
      refine ⟨l, _, d, .str md, rfl, rfl, SqL.of (k3 _ _ nlb e1), emd, ?_⟩
      refine ⟨pF, ws.map V.str, .str md, rfl, rfl, fp3.at_, ?_, ?_⟩
      · rw [List.length_map, l3]
        decide
      have fp4 := fp3.upd (vs := ws ++ (if way = 2 then [md] else []))
      have eu : (ws ++ (if way = 2 then [md] else [])).map V.str = ws.map V.str ++ [.str md] := by
        rw [if_pos ew, List.map_append]
        rfl
      refine qn md _ (fun _ => hmd) (fun z => absurd ew z) ?_
      rw [← eu]
      exact fp4
    · have ew : way ≠ 2 := fun z => e (decide_eq_true (by rw [z]))
      refine qn tNul H1 (fun z => absurd z ew) (fun _ => rfl) ?_
      rw [if_neg ew, List.append_nil]
      exact fp.mono (by omega)
  case w3 =>
    intro D σ H1 h
    obtain ⟨pF, ws, y4, y5, y6, rfl, n0, n1, l4, fp, qn⟩ := h
    refine ⟨_, rfl, b, 3, n + 3, rfl, by decide, by decide, by omega, by omega, fp.bx, fun d H2 d0 d1 k2 hb2 => ?_⟩
    have fp2 := fp.keep k2 hb2
    refine ⟨rfl, _, rfl, ?_⟩
    refine ite2 (fun _ => ?_) (fun _ => ?_)
    · have l9 := fp2.nm.l9
      refine ⟨_, rfl, _, rfl, b, pN, n + 4, ys, rfl, by omega, by omega, hb2.mono (by omega), SqL.of fp2.nm.at_, by omega, fun r zs H3 pm nr er k3 hb3 => ?_⟩
      have fp3 := fp2.keep k3 hb3
      refine ⟨_, rfl, _, rfl, pN, _, rfl, .inl (SqL.of fp3.nm.at_), ?_⟩
      rw [List.length_map]
      refine ⟨_, 1, rfl, rfl, 9, _, rfl, ?_⟩
      refine ⟨b, _, n + 34, rfl, ?_, ?_, by omega, by omega, hb3.mono (by omega), fun d4 H4 d40 d41 k4 hb4 => ?_⟩
      · split <;> omega
      · split <;> omega
      have d8 : d4.toNat ≤ 8 := by
        have : d4 < 9 := by
          revert d41
          split <;> omega
        omega
      have nrb := ne_box fp2.bx nr
      have fp4 := fp3.keep k4 hb4
      have nrb3 : r ≠ b := lst_ne hb3 er (strs_no3 zs)
      refine ⟨_, rfl, r, _, rfl, SqL.of (k4 _ _ nrb3 er), fun r2 nr2 => ?_⟩
      rw [cutV_front d40, ← List.map_take]
      have s5 := same_upd (o := .lst ((zs.take d4.toNat).map V.str)) nr2
      have e5 : (upd H4 r2 (.lst ((zs.take d4.toNat).map V.str))) r2 = some (.lst ((zs.take d4.toNat).map V.str)) := upd_same
      have fp5 := fp4.same s5
      have at8 : (zs.take d4.toNat).length ≤ 8 := by
        rw [List.length_take]
        omega
      have atnd : (zs.take d4.toNat).Nodup := (pm.nodup_iff.mpr fp.nm.nd).sublist (List.take_sublist _ _)
      have atok : ∀ y ∈ zs.take d4.toNat, nameT y = true ∧ txt y := fun y hy => fp.nm.ok y (pm.mem_iff.mp (List.mem_of_mem_take hy))
      generalize zs.take d4.toNat = as_ at s5 e5 fp5 at8 atnd atok ⊢
      generalize upd H4 r2 (.lst (as_.map V.str)) = H5 at s5 e5 fp5 ⊢
      refine ⟨_, rfl, by show 1 ≤ sizeLine; decide, fun l nl => ?_⟩
      have s6 := same_upd (o := .lst [.str tAu]) nl
      have e6 : (upd H5 l (.lst [.str tAu])) l = some (.lst [.str tAu]) := upd_same
      have fp6 := fp5.same s6
      have e56 := s6 _ _ e5
      generalize upd H5 l (.lst [.str tAu]) = H6 at s6 e6 fp6 e56 ⊢
      refine ⟨pF, l, _, _, rfl, rfl, fp6.at_, e6, ?_, fun p2 np2 => ?_⟩
      · rw [List.length_map]
        exact Nat.le_trans (show ws.length + 1 ≤ 5 by omega) (by decide)
      have eu : ws.map V.str ++ [V.str tAu] = (ws ++ [tAu]).map V.str := by
        rw [List.map_append]
        rfl
      rw [eu]
      have s7 := same_upd (o := .lst ((ws ++ [tAu]).map V.str)) np2
      have fp7 := fp6.new (vs := ws ++ [tAu]) np2
      have e57 := s7 _ _ e56
      generalize upd H6 p2 (.lst ((ws ++ [tAu]).map V.str)) = H7 at s7 fp7 e57 ⊢
      refine ⟨_, rfl, r2, rfl, ⟨_, SqL.of e57⟩, fun L nL => lc_list (K := K) (xs := as_.map V.str) (fun i H' => H' L = some (.lst ((as_.take i).map V.str)) ∧ Ext H7 H') ⟨upd_same, Ext.upd nL⟩ (fun i H' _ h => SqL.of (h.2 _ _ e57)) ?_ ?_⟩
      · intro i x H8 hx h
        obtain ⟨eD, x2⟩ := h
        have hi : i < as_.length := by
          rw [← List.length_map (f := V.str)]
          exact (List.getElem?_eq_some_iff.mp hx).1
        have ex : x = .str as_[i] := by
          rw [List.getElem?_map, List.getElem?_eq_getElem hi] at hx
          exact (Option.some.inj hx).symm
        refine ⟨rfl, ?_⟩
        unfold tYes
        refine iteT ?_
        refine ⟨_, rfl, as_[i], by rw [ex], ?_⟩
        refine ⟨_, eD, ?_, ?_, ?_⟩
        · rw [List.length_map, List.length_take]
          exact Nat.lt_of_lt_of_le (show min i as_.length < 1000 by omega) (by decide)
        · rw [upd_same, List.take_succ, List.getElem?_eq_getElem hi, List.map_append]; rfl
        · intro u o eu
          rw [upd_ne (fun z => by rw [z, nL] at eu; cases eu)]
          exact x2 _ _ eu
      intro H8 h8
      obtain ⟨eD, x8⟩ := h8
      rw [List.length_map, List.take_length] at eD
      refine ⟨L, as_, rfl, SqL.of eD, by omega, fun ws2 pw pm2 so npw => ?_⟩
      have s9 := same_upd (o := .lst (ws2.map V.str)) npw
      have e9 : (upd H8 pw (.lst (ws2.map V.str))) pw = some (.lst (ws2.map V.str)) := upd_same
      have fp9 : FP H b pN ys (upd H8 pw (.lst (ws2.map V.str))) p2 (ws ++ [tAu]) _ := fp7.same fun x y e => s9 _ _ (x8 _ _ e)
      generalize upd H8 pw (.lst (ws2.map V.str)) = H9 at s9 e9 fp9 ⊢
      refine ⟨p2, pw, _, _, rfl, rfl, fp9.at_, e9, ?_, fun p3 np3 => ?_⟩
      · rw [List.length_map, List.length_map, List.length_append, pm2.length_eq]
        exact Nat.le_trans (show ws.length + 1 + as_.length ≤ 13 by omega) (by decide)
      have eu2 : (ws ++ [tAu]).map V.str ++ ws2.map V.str = (ws ++ auW (some ws2)).map V.str := by
        rw [← List.map_append, List.append_assoc]
        rfl
      rw [eu2]
      exact qn (some ws2) p3 _ _ (fun zs' e => by
        cases e
        exact ⟨⟨by rw [pm2.length_eq]; exact at8, pm2.nodup_iff.mpr atnd, fun y hy => atok y (pm2.mem_iff.mp hy)⟩, so⟩) ((fp9.new np3).mono (by omega))
    · refine qn none pF y4 H2 (fun zs e => nomatch e) ?_
      show FP H b pN ys H2 pF (ws ++ []) _
      rw [List.append_nil]
      exact fp2.mono (by omega)
  case wg =>
    intro σ H1 Q1 h
    obtain ⟨i, e5, q1⟩ := h
    refine ⟨_, e5, rfl, _, rfl, ?_⟩
    refine ite2 (fun e => ?_) (fun e => ?_)
    · rw [if_pos (V.int.inj (of_decide_eq_true e))] at q1
      exact q1
    · rw [if_neg (fun z => e (decide_eq_true (by rw [z])))] at q1
      exact q1
  case w4 =>
    intro D σ H1 h
    obtain ⟨pF, ws, y4, y5, y6, rfl, n0, n1, l13, fp, qn⟩ := h
    refine ⟨_, rfl, rfl, _, rfl, ?_⟩
    refine ite2 (fun e => ?_) (fun e => ?_)
    · have ew : way = 2 := V.int.inj (of_decide_eq_true e)
      refine ⟨_, rfl, b, 5, n + 43, rfl, by decide, by decide, by omega, by omega, fp.bx, fun d H2 d0 d1 k2 hb2 => ?_⟩
      have fp2 := fp.keep k2 hb2
      refine ⟨d, rfl, by omega, by omega, for_range (lo := 0) (n := d.toNat) (fun i σ H' => ∃ ds pF' y5', σ = [some (.ref b), some (.ref pN), some (.int way), some (.ref pF'), y4, y5', y6] ∧ ds.length = i ∧ (∀ d ∈ ds, okD d) ∧ FP H b pN ys H' pF' (ws ++ bodyW ds) (n + 44 + 5 * (i : Int))) ⟨[], pF, _, rfl, rfl, (fun _ h => nomatch h), ?_⟩ ?_ ?_⟩
      · show FP H b pN ys H2 pF (ws ++ []) _
        rw [List.append_nil]
        exact fp2.mono (by omega)
      · intro i σ H3 hi h
        obtain ⟨ds, pF', y5', rfl, hl, okd, fp3⟩ := h
        have hi4 : i < 4 := by omega
        have lb := bodyW_len ds
        refine ⟨_, rfl, 0 + (i : Int), rfl, by show 1 ≤ sizeLine; decide, fun l nl => ?_⟩
        have eg : (if 0 + (i : Int) = 0 then tCo else tSe) = (if ds = [] then tCo else tSe) := by
          by_cases hd : ds = []
          · rw [hd] at hl
            have : i = 0 := hl.symm
            rw [if_pos (by omega), if_pos hd]
          · have : ds.length ≠ 0 := fun z => hd (List.length_eq_zero_iff.mp z)
            rw [if_neg (by omega), if_neg hd]
        rw [eg]
        generalize hg : (if ds = [] then tCo else tSe) = sg
        have s4 := same_upd (o := .lst [.str sg]) nl
        have e4 : (upd H3 l (.lst [.str sg])) l = some (.lst [.str sg]) := upd_same
        have fp4 := fp3.same s4
        generalize upd H3 l (.lst [.str sg]) = H4 at s4 e4 fp4 ⊢
        refine ⟨pF', l, _, _, rfl, rfl, fp4.at_, e4, ?_, fun p2 np2 => ?_⟩
        · rw [List.length_map, List.length_append]
          exact Nat.le_trans (show ws.length + (bodyW ds).length + 1 ≤ 60 by omega) (by decide)
        have eu : (ws ++ bodyW ds).map V.str ++ [V.str sg] = (ws ++ bodyW ds ++ [sg]).map V.str := by
          rw [List.map_append (l₁ := ws ++ bodyW ds)]
          rfl
        rw [eu]
        have fp5 := fp4.new (vs := ws ++ bodyW ds ++ [sg]) np2
        generalize upd H4 p2 (.lst ((ws ++ bodyW ds ++ [sg]).map V.str)) = H5 at fp5 ⊢
        refine ⟨_, rfl, _, rfl, b, pN, n + 44 + 5 * (i : Int), ys, rfl, by omega, by omega, fp5.bx, fp5.nm, fun r dd H6 okdd nr er k6 hb6 => ?_⟩
        have fp6 := fp5.keep k6 hb6
        have lw := wordsD_len dd
        refine ⟨p2, r, _, _, rfl, rfl, fp6.at_, er, ?_, fun p3 np3 => ?_⟩
        · rw [List.length_map, List.length_map, List.length_append, List.length_append]
          exact Nat.le_trans (show ws.length + (bodyW ds).length + 1 + (wordsD dd).length ≤ 70 by omega) (by decide)
        have eu2 : (ws ++ bodyW ds ++ [sg]).map V.str ++ (wordsD dd).map V.str = (ws ++ bodyW (ds ++ [dd])).map V.str := by
          rw [← List.map_append, bodyW_snoc, hg]
          simp [List.append_assoc]
        rw [eu2]
        refine ⟨ds ++ [dd], p3, _, rfl, by rw [List.length_append, hl]; rfl, fun z hz => ?_, (fp6.new np3).mono (by omega)⟩
        rcases List.mem_append.mp hz with hz | hz
        · exact okd z hz
        · rw [List.mem_singleton.mp hz]; exact okdd
      · intro σ H3 h
        obtain ⟨ds, pF', y5', rfl, hl, okd, fp3⟩ := h
        exact qn ds pF' y5' H3 (by omega) okd (fun z => absurd ew z) (fp3.mono (by omega))
    · refine qn [] pF y5 H1 (Nat.zero_le _) (fun _ h => nomatch h) (fun _ => rfl) ?_
      show FP H b pN ys H1 pF (ws ++ []) _
      rw [List.append_nil]
      exact fp.mono (by omega)
  case main =>
    refine ⟨by show 3 ≤ sizeLine; decide, fun p1 np1 => ?_⟩
    have s1 := same_upd (o := .lst [.str tRol, .str tTab, .str tFun]) np1
    have e1 : (upd H p1 (.lst [.str tRol, .str tTab, .str tFun])) p1 = some (.lst [.str tRol, .str tTab, .str tFun]) := upd_same
    have hb1 := hb.same s1
    have hN1 := hN.same s1
    generalize upd H p1 (.lst [.str tRol, .str tTab, .str tFun]) = H1 at s1 e1 hb1 hN1 ⊢
    have ek : atI [V.str tRol, .str tTab, .str tFun] way = some (.str (kdW way)) ∧ isKd (kdW way) ∧ (kdW way = tFun ↔ way = 2) := by
      have : way = 0 ∨ way = 1 ∨ way = 2 := by omega
      rcases this with rfl | rfl | rfl
      · exact ⟨rfl, .inl rfl, ⟨fun z => absurd z (by decide +kernel), fun z => absurd z (by decide)⟩⟩
      · exact ⟨rfl, .inr (.inl rfl), ⟨fun z => absurd z (by decide +kernel), fun z => absurd z (by decide)⟩⟩
      · exact ⟨rfl, .inr (.inr rfl), ⟨fun _ => rfl, fun _ => rfl⟩⟩
    refine ⟨_, rfl, p1, _, way, .str (kdW way), rfl, rfl, SqL.of e1, ek.1, ?_⟩
    refine ⟨_, rfl, _, rfl, _, rfl, pN, _, rfl, .inl (SqL.of hN1.at_), ?_⟩
    rw [List.length_map]
    refine ⟨b, ys.length, n, rfl, by have := hN.l1; omega, by have := hN.l9; omega, by omega, by omega, hb1, fun d2 H2 d20 d21 k2 hb2 => ?_⟩
    obtain ⟨nm, enm, nok⟩ := get_nm hN.ok d20 d21
    have hN2 := hN1.keep k2 hb1
    refine ⟨pN, _, d2, .str nm, rfl, rfl, SqL.of hN2.at_, enm, ?_⟩
    refine ⟨_, rfl, _, rfl, _, rfl, pN, _, rfl, .inl (SqL.of hN2.at_), ?_⟩
    rw [List.length_map]
    refine ⟨b, ys.length, n + 1, rfl, by have := hN.l1; omega, by have := hN.l9; omega, by omega, by omega, hb2, fun d3 H3 d30 d31 k3 hb3 => ?_⟩
    obtain ⟨ow, eow, ook⟩ := get_nm hN.ok d30 d31
    have hN3 := hN2.keep k3 hb2
    refine ⟨pN, _, d3, .str ow, rfl, rfl, SqL.of hN3.at_, eow, ?_⟩
    refine ⟨by show 3 ≤ sizeLine; decide, fun pF npF => ?_⟩
    have k03 : Keep b H H3 := ((Keep.of s1).trans k2).trans k3
    have fp : FP H b pN ys (upd H3 pF (.lst ([kdW way, nm, ow].map V.str))) pF [kdW way, nm, ow] (n + 2) :=
      ⟨upd_same, none_keep k03 (ne_box hb3 npF) npF, k03.trans (Keep.new npF), (hb3.same (same_upd npF)).mono (by omega), hN3.same (same_upd npF), fun z => by rw [← z, hN3.at_] at npF; cases npF⟩
    refine ⟨pF, [kdW way, nm, ow], _, _, _, rfl, w0, w3, by omega, by omega, rfl, fp, fun md H4 m1 m2 fp4 => ?_⟩
    have l4 : ([kdW way, nm, ow] ++ (if way = 2 then [md] else [])).length ≤ 4 := by
      rw [List.length_append]
      split
      · show 3 + 1 ≤ 4; decide
      · show 3 + 0 ≤ 4; decide
    refine ⟨pF, _, _, _, _, rfl, by omega, by omega, l4, fp4.mono (by omega), fun u pF' y4' H5 hu fp5 => ?_⟩
    have l9 : (auW u).length ≤ 9 := by
      cases e : u with
      | none => exact Nat.zero_le _
      | some zs =>
        have := (hu zs e).1.1
        show zs.length + 1 ≤ 9
        omega
    refine ⟨pF', _, _, _, _, rfl, by omega, by omega, by rw [List.length_append]; omega, fp5.mono (by omega), fun ds pF2 y5' H6 hl okd hds fp6 => ?_⟩
    have et : thW ⟨kdW way, nm, ow, u, md, ds⟩ = ([kdW way, nm, ow] ++ (if way = 2 then [md] else [])) ++ auW u ++ bodyW ds := by
      unfold thW headW
      by_cases h2 : way = 2
      · rw [if_pos (ek.2.2.mpr h2), if_pos h2]
        simp [List.append_assoc]
      · rw [if_neg (fun z => h2 (ek.2.2.mp z)), if_neg h2]
        simp [List.append_assoc]
    refine ⟨_, rfl, q pF2 ⟨kdW way, nm, ow, u, md, ds⟩ H6 ⟨ek.2.1, nok, ook, hu, fun z => ⟨m1 (ek.2.2.mp z), hl, okd⟩, fun z => ⟨m2 (fun h => z (ek.2.2.mpr h)), hds (fun h => z (ek.2.2.mpr h))⟩⟩ rfl fp6.nF ?_ fp6.k (fp6.bx.mono (by omega))⟩
    rw [et]
    exact fp6.at_
end
end K56
set_option maxHeartbeats 1000000
namespace PSW
open PySem PySem.Spec PyProof.Rows L2
def gSwap (K : PySem.W.Frag) (i j : Nat) : TG := fun v σ H Q => ∃ (a : Addr) (u w : V), v = .ref a ∧ SqT K H a [u, w] ∧ Q ((σ.set j (some w)).set i (some u)) H
/-- x, y = e, two local names on one line: the last one is stored first -/
theorem ps_swap2 {X : Cx} {pos tpos p1 p2 : Pos} {i j : Nat} {x y : Str} {e : Expr} {te : TE} {k : Nat} (hc : X.calm = true) (hN : X.N.Nodup) (hi : X.N[i]? = some x) (hj : X.N[j]? = some y) (hx : Loc X.env.scope x) (hy : Loc X.env.scope y) (he : PE X e te)
    (hw : swappedStores [Expr.Tuple [Expr.Name x p1, Expr.Name y p2] k tpos] e X.env = pure (some [x, y]) := by rfl)
    (hs : swapsWithSole [Expr.Tuple [Expr.Name x p1, Expr.Name y p2] k tpos] e pos.line X.env = pure false := by rfl)
    (hf : X.fn x = true ∨ List.lookup x X.env.scope.names = some NameKind.local := by first | exact Or.inr rfl | exact Or.inl rfl)
    (hg : X.fn y = true ∨ List.lookup y X.env.scope.names = some NameKind.local := by first | exact Or.inr rfl | exact Or.inl rfl) :
    PS X (Stmt.Assign [Expr.Tuple [Expr.Name x p1, Expr.Name y p2] k tpos] e pos) (tAsg te (gSwap X.K i j)) := by
  refine ⟨fun pins s σ H D I h => ?_⟩
  refine PyProof.Rows.Assign_Tuple_swapped (names := [x, y]) ?_ hs hw
  refine wpAny_mono (he.run pins s σ H _ I h) (fun u s1 h1 => ?_) (fun _ _ z => z)
  obtain ⟨v, H1, I1, r, a, u1, w1, rfl, hT, q⟩ := h1
  cases r
  obtain ⟨its, rv, ht, hz⟩ := Inv.tuple I1 hT
  cases rv with
  | cons r1 rv =>
  cases rv with
  | cons r2 rv =>
  cases rv
  rename_i b1 b2
  have ht2 : PyProof.Rows.IsTup s1.heap a #[b1, b2] := ht
  have hd := I1.ok.hd hc
  refine PyProof.Rows.unpackItems_tuple (items := #[b1, b2]) hd ht2 fun h' hx' => ?_
  have I2 := Inv.kept I1 (t' := s1.toks) (h' := h') fun b o e => hx' b o (Nat.ne_of_lt (Heap.lt_size e)) e
  have rvs : List.map (fun n => bindName X.env n) [x, y].reverse = [bindName X.env y, bindName X.env x] := rfl
  rw [rvs]
  refine assignInOrder_cons ?_
  refine wpAny_mono (Q := fun _ s' => Inv X pins (σ.set j (some w1)) H1 s') (E := X.xe) ?_ (fun _ s2 I3 => ?_) (fun _ _ z => z)
  · exact wpAny_bindName (store_ok I2 hN hj hy r2 (fun s' I' => I') hg)
  refine assignInOrder_cons ?_
  refine wpAny_mono (Q := fun _ s' => Inv X pins ((σ.set j (some w1)).set i (some u1)) H1 s') (E := X.xe) ?_ (fun _ s3 I4 => ?_) (fun _ _ z => z)
  · exact wpAny_bindName (store_ok I3 hN hi hx r1 (fun s' I' => I') hf)
  refine assignInOrder_nil ?_
  exact ⟨_, _, I4, q⟩
end PSW
set_option maxHeartbeats 8000000
namespace K56
open PySem PySem.Spec PyProof.Rows L2 RL RE RN RM TL RQ RC
/-! ### the words of a top deed -/
/-- the box, the names, the flag at hand -/
structure LS (H0 : Hp) (b pN : Addr) (ys : List Str) (H : Hp) (pf : Addr) (o : Bool) (n : Int) : Prop where
  k : Keep b H0 H
  bx : Bx H b n
  nm : Nm H pN ys
  fl : H pf = some (.lst ((optW o).map V.str))
section
variable {H0 H H' : Hp} {b pN pf p : Addr} {ys : List Str} {o : Bool} {n m : Int}
theorem LS.keep (h : LS H0 b pN ys H pf o n) (k : Keep b H H') (hb : Bx H' b m) : LS H0 b pN ys H' pf o m := ⟨h.k.trans k, hb, h.nm.keep k h.bx, k _ _ (lst_ne h.bx h.fl (strs_no3 _)) h.fl⟩
theorem LS.same (h : LS H0 b pN ys H pf o n) (s : Same H H') : LS H0 b pN ys H' pf o n := h.keep (Keep.of s) (h.bx.same s)
theorem LS.new {u : HO} (h : LS H0 b pN ys H pf o n) (np : H p = none) : LS H0 b pN ys (L2.upd H p u) pf o n := h.same (same_upd np)
theorem LS.none (h : LS H0 b pN ys H pf o n) (np : H p = none) : H0 p = none := none_keep h.k (ne_box h.bx np) np
theorem LS.mono (h : LS H0 b pN ys H pf o n) (l : n ≤ m) : LS H0 b pN ys H pf o m := ⟨h.k, h.bx.mono l, h.nm, h.fl⟩
end
theorem get_tk1 {ys : List Str} (ok : ∀ y ∈ ys, nameT y = true ∧ txt y) {d : Int} (d0 : 0 ≤ d) (d1 : d < (ys.length : Int) + 1) : ∃ y, atI (ys.map V.str ++ [V.str tPub]) d = some (.str y) ∧ txt y ∧ isTaker (.str y) = true := by
  by_cases h : d.toNat < ys.length
  · refine ⟨ys[d.toNat], atI_int d0 ?_, (ok _ (List.getElem_mem h)).2, ?_⟩
    · rw [List.getElem?_append_left (by rw [List.length_map]; exact h), List.getElem?_map, List.getElem?_eq_getElem h]
      rfl
    · show (nameT ys[d.toNat] || _) = true
      rw [(ok _ (List.getElem_mem h)).1]
      rfl
  · have hj : d.toNat - ys.length = 0 := by omega
    refine ⟨tPub, atI_int d0 ?_, ⟨by decide +kernel, by decide +kernel⟩, by decide +kernel⟩
    rw [List.getElem?_append_right (by rw [List.length_map]; omega), List.length_map, hj]
    rfl
/-- the flag, where the taker may have it -/
theorem flag_rep (o : Bool) (t : Str) : ∃ o' : Bool, (List.replicate ((if (!decide (V.str t = V.str (Str.ofString "public"))) = true then 1 else 0 : Int)).toNat ((optW o).map V.str)).flatten = (optW o').map V.str ∧ (o' = true → isT tPub (.str t) = false) := by
  by_cases ht : t = tPub
  · refine ⟨false, ?_, fun z => nomatch z⟩
    rw [ht, decide_eq_true rfl]
    rfl
  · have hd : decide (V.str t = V.str (Str.ofString "public")) = false := decide_eq_false fun z => ht (V.str.inj z)
    rw [hd]
    refine ⟨o, ?_, fun _ => ?_⟩
    · cases o <;> rfl
    · unfold isT
      simpa using ht
theorem flag_n (t : Str) : (0 : Int) ≤ (if (!decide (V.str t = V.str (Str.ofString "public"))) = true then 1 else 0 : Int) ∧ (if (!decide (V.str t = V.str (Str.ofString "public"))) = true then 1 else 0 : Int) ≤ 1 := by
  split <;> exact ⟨by decide, by decide⟩
theorem optW_len (o : Bool) : ((optW o).map V.str).length ≤ 1 := by cases o <;> exact Nat.le_of_ble_eq_true rfl
def casW (c : Bool) : List Str := if c = true then [tCas] else []
section
variable {P : Program} {w : World} {K : PySem.W.Frag} {mg : Str → Option Value} {base : Heap} {f : Addr} {fd : FuncData}
def spLD : Sp := fun vs H Q _ => ∃ (b pN : Addr) (n : Int) (ys : List Str), vs = [.ref b, .ref pN] ∧ 0 ≤ n ∧ n ≤ 60000 ∧ Bx H b n ∧ Nm H pN ys ∧
  ∀ r t H', okTd t → H r = none → H' r = some (.lst ((tdW t).map V.str)) → Keep b H H' → Bx H' b (n + 100) → Q (.ref r) H'
theorem ok_law_deed (F : Fun K "_law_deed" "_law_deed" s__law_deed f fd) (GT : Df P w K mg base CX0 1 "_law_take" ["_law_box_here", "_law_many"] spTake) (GH : Df P w K mg base CX0 3 "_law_thing" ["_law_box_here", "_law_names_here", "_law_way"] spThW)
    (ml : mg "len" = none) (mint : mg "int" = none) : FnOk P w K mg base CX0 4 f fd ["_law_box_here", "_law_names_here"] spLD := by
  refine F.ok sc__law_deed (fun vs H Q E h => by obtain ⟨b, pN, n, ys, rfl, _⟩ := h; rfl) (fun cdv A outer s H vs Q E hr h => ?_)
  obtain ⟨b, pN, n, ys, rfl, n0, n1, hb, hN, q⟩ := h
  have hr1 := hr.mono (show 1 ≤ 3 by decide)
  refine ⟨_, PSs.nox (pss_cons (PSW.ps_swap2 (i := 2) (j := 3) (by rfl) sc__law_deed.nd rfl rfl (.inl rfl) (.inl rfl) (pe_tup (pa_cons (pe_df0 GT hr1 (by rfl) (pa_cons (pv 0) (pa_cons pe_int pa_nil))) (pa_cons (pe_ix ix_list (pe_lst (pa_cons (pe_lst (pa_cons pe_str pa_nil)) (pa_cons (pe_lst pa_nil) pa_nil))) (pe_df0 GT hr1 (by rfl) (pa_cons (pv 0) (pa_cons pe_int pa_nil))) (fun _ _ => rfl)) pa_nil))))
    (pss_cons (ps_set (i := 4) sc__law_deed.nd rfl (.inl rfl) (pe_ix ix_list (pe_lst (pa_cons pe_str (pa_cons pe_str (pa_cons pe_str (pa_cons pe_str (pa_cons pe_str pa_nil)))))) (pe_df0 GT hr1 (by rfl) (pa_cons (pv 0) (pa_cons pe_int pa_nil))) (fun _ _ => rfl)))
    (pss_cons (PSW.ps_swap2 (i := 5) (j := 6) (by rfl) sc__law_deed.nd rfl rfl (.inl rfl) (.inl rfl) (pe_tup (pa_cons (pe_ix ix_list (pv 1) (pe_df0 GT hr1 (by rfl) (pa_cons (pv 0) (pa_cons (pe_callB call_len_seq (by rfl) ml PySem.boot_len (pa_cons (pv 1) pa_nil)) pa_nil))) (fun _ _ => rfl)) (pa_cons (pe_ix ix_list (pe_op op_cat (pv 1) (pe_lst (pa_cons pe_str pa_nil))) (pe_df0 GT hr1 (by rfl) (pa_cons (pv 0) (pa_cons (pe_op op_add (pe_callB call_len_seq (by rfl) ml PySem.boot_len (pa_cons (pv 1) pa_nil)) pe_int) pa_nil))) (fun _ _ => rfl)) pa_nil))))
    (pss_cons (ps_if (pt_cmpR op_eq (pv 2) pe_int (nomark _)) (pss_cons (ps_set (i := 6) sc__law_deed.nd rfl (.inl rfl) (pe_ix ix_list (pe_lst (pa_cons (pv 6) (pa_cons pe_str pa_nil))) (pe_df0 GT hr1 (by rfl) (pa_cons (pv 0) (pa_cons pe_int pa_nil))) (fun _ _ => rfl)))
        (pss_one (ps_ret (pe_op op_cat (pe_lst (pa_cons pe_str (pa_cons (pv 4) (pa_cons (pv 5) (pa_cons (pv 6) pa_nil))))) (pe_op op_rep (pv 3) (pe_callTy call_int1 (by rfl) mint (by decide +kernel) (pa_cons (pe_cmpR op_ne (pv 6) pe_str (nomark _)) pa_nil))))))) pss_nil)
    (pss_cons (ps_if (pt_cmpR op_eq (pv 2) pe_int (nomark _)) (pss_cons (ps_set (i := 7) sc__law_deed.nd rfl (.inl rfl) (pe_op op_cat (pe_ix ix_list (pe_lst (pa_cons (pe_lst pa_nil) (pa_cons (pe_lst (pa_cons pe_str (pa_cons (pe_ix ix_list (pv 1) (pe_df0 GT hr1 (by rfl) (pa_cons (pv 0) (pa_cons (pe_callB call_len_seq (by rfl) ml PySem.boot_len (pa_cons (pv 1) pa_nil)) pa_nil))) (fun _ _ => rfl)) pa_nil))) pa_nil))) (pe_df0 GT hr1 (by rfl) (pa_cons (pv 0) (pa_cons pe_int pa_nil))) (fun _ _ => rfl)) (pv 3)))
        (pss_one (ps_ret (pe_op op_cat (pe_op op_cat (pe_lst (pa_cons pe_str (pa_cons (pv 4) (pa_cons (pv 5) (pa_cons (pv 6) pa_nil))))) (pv 7)) (pe_ix ix_list (pe_lst (pa_cons (pe_lst pa_nil) (pa_cons (pe_lst (pa_cons pe_str pa_nil)) pa_nil))) (pe_df0 GT hr1 (by rfl) (pa_cons (pv 0) (pa_cons pe_int pa_nil))) (fun _ _ => rfl)))))) pss_nil)
    (pss_cons (ps_if (pt_cmpR op_eq (pv 2) pe_int (nomark _)) (pss_one (ps_ret (pe_lst (pa_cons pe_str (pa_cons (pv 5) pa_nil))))) pss_nil)
    (pss_cons (ps_if (pt_cmpR op_eq (pv 2) pe_int (nomark _)) (pss_cons (ps_asg (pe_ix ix_list (pe_lst (pa_cons (pe_tup (pa_cons pe_str (pa_cons pe_str pa_nil))) (pa_cons (pe_tup (pa_cons pe_str (pa_cons pe_str pa_nil))) (pa_cons (pe_tup (pa_cons pe_str (pa_cons pe_str pa_nil))) pa_nil)))) (pe_df0 GT hr1 (by rfl) (pa_cons (pv 0) (pa_cons pe_int pa_nil))) (fun _ _ => rfl)) (pg_tup (by rfl) (pgs_cons (pg_name (i := 8) sc__law_deed.nd rfl (.inl rfl)) (pgs_cons (pg_name (i := 4) sc__law_deed.nd rfl (.inl rfl)) pgs_nil))))
        (pss_one (ps_ret (pe_op op_cat (pe_lst (pa_cons pe_str (pa_cons (pv 8) (pa_cons (pv 4) (pa_cons (pv 6) pa_nil))))) (pe_op op_rep (pv 3) (pe_callTy call_int1 (by rfl) mint (by decide +kernel) (pa_cons (pe_cmpR op_ne (pv 6) pe_str (nomark _)) pa_nil))))))) pss_nil)
    (pss_cons (ps_if (pt_cmpR op_eq (pv 2) pe_int (nomark _)) (pss_one (ps_ret (pe_lst (pa_cons pe_str (pa_cons (pv 4) (pa_cons (pv 5) pa_nil)))))) pss_nil)
    (pss_one (ps_ret (pe_op op_cat (pe_lst (pa_cons pe_str pa_nil)) (pe_df0 GH hr (by rfl) (pa_cons (pv 0) (pa_cons (pv 1) (pa_cons (pe_op op_add pe_int (pe_df0 GT hr1 (by rfl) (pa_cons (pv 0) (pa_cons pe_int pa_nil)))) pa_nil))))))))))))))), ?_⟩
  have l9 := hN.l9
  have l1 := hN.l1
  refine ⟨_, rfl, b, 6, n, rfl, by decide, by decide, n0, by omega, hb, fun way H1 w0 w6 k1 hb1 => ?_⟩
  have hN1 := hN.keep k1 hb
  refine ⟨by show 1 ≤ sizeLine; decide, fun pa npa => ?_⟩
  have sa := same_upd (o := .lst ((optW true).map V.str)) npa
  have ea : (upd H1 pa (.lst ((optW true).map V.str))) pa = some (.lst ((optW true).map V.str)) := upd_same
  have eq0 : (upd H1 pa (.lst [.str (Str.ofString "option")])) = (upd H1 pa (.lst ((optW true).map V.str))) := rfl
  rw [eq0]
  generalize upd H1 pa (.lst ((optW true).map V.str)) = H2 at sa ea ⊢
  refine ⟨by show 0 ≤ sizeLine; decide, fun pb npb => ?_⟩
  have sb := same_upd (o := .lst ((optW false).map V.str)) npb
  have eb : (upd H2 pb (.lst ((optW false).map V.str))) pb = some (.lst ((optW false).map V.str)) := upd_same
  have eq1 : (upd H2 pb (.lst [])) = (upd H2 pb (.lst ((optW false).map V.str))) := rfl
  rw [eq1]
  have ea := sb _ _ ea
  have sb := sa.trans sb
  generalize upd H2 pb (.lst ((optW false).map V.str)) = H3 at sb ea eb ⊢
  refine ⟨by show 2 ≤ sizeLine; decide, fun pc npc => ?_⟩
  have sc := same_upd (o := .lst [.ref pa, .ref pb]) npc
  have ec : (upd H3 pc (.lst [.ref pa, .ref pb])) pc = some (.lst [.ref pa, .ref pb]) := upd_same
  have ea := sc _ _ ea
  have eb := sc _ _ eb
  have sc := sb.trans sc
  have ncb := ne_box (hb1.same sb) npc
  generalize upd H3 pc (.lst [.ref pa, .ref pb]) = H4 at sc ea eb ec ⊢
  have hb4 := hb1.same sc
  have hN4 := hN1.same sc
  refine ⟨_, rfl, b, 2, n + 1, rfl, by decide, by decide, by omega, by omega, hb4, fun d5 H5 d50 d51 k5 hb5 => ?_⟩
  have hf : ∃ (o : Bool) (pf : Addr), atI [V.ref pa, .ref pb] d5 = some (.ref pf) ∧ H4 pf = some (.lst ((optW o).map V.str)) := by
    have : d5 = 0 ∨ d5 = 1 := by omega
    rcases this with rfl | rfl
    · exact ⟨true, pa, rfl, ea⟩
    · exact ⟨false, pb, rfl, eb⟩
  obtain ⟨o, pf, eix, efl⟩ := hf
  have L4 : LS H b pN ys H4 pf o (n + 1) := ⟨k1.trans (Keep.of sc), hb4, hN4, efl⟩
  have L5 := L4.keep k5 hb5
  refine ⟨pc, _, d5, .ref pf, rfl, rfl, SqL.of (k5 _ _ ncb ec), eix, ?_⟩
  refine ⟨by show 2 ≤ sizeLine; decide, fun pt npt => ?_⟩
  have et : (upd H5 pt (.tup [.int way, .ref pf])) pt = some (.tup [.int way, .ref pf]) := upd_same
  have L6 := L5.new (u := .tup [.int way, .ref pf]) npt
  generalize upd H5 pt (.tup [.int way, .ref pf]) = H6 at et L6 ⊢
  refine ⟨pt, _, _, rfl, SqT.of et, ?_⟩
  -- the right
  refine ⟨by show 5 ≤ sizeLine; decide, fun p1 np1 => ?_⟩
  have e1 : (upd H6 p1 (.lst [.str (Str.ofString "inherit"), .str (Str.ofString "act"), .str (Str.ofString "read"), .str (Str.ofString "write"), .str (Str.ofString "call")])) p1 = some (.lst [.str (Str.ofString "inherit"), .str (Str.ofString "act"), .str (Str.ofString "read"), .str (Str.ofString "write"), .str (Str.ofString "call")]) := upd_same
  have n1b := ne_box L6.bx np1
  have L7 := L6.new (u := .lst [.str (Str.ofString "inherit"), .str (Str.ofString "act"), .str (Str.ofString "read"), .str (Str.ofString "write"), .str (Str.ofString "call")]) np1
  generalize upd H6 p1 (.lst [.str (Str.ofString "inherit"), .str (Str.ofString "act"), .str (Str.ofString "read"), .str (Str.ofString "write"), .str (Str.ofString "call")]) = H7 at e1 L7 ⊢
  refine ⟨_, rfl, b, 5, n + 1 + 1, rfl, by decide, by decide, by omega, by omega, L7.bx, fun d1 H8 d10 d11 k8 hb8 => ?_⟩
  obtain ⟨r, er, rk, rt⟩ := rt_at d10 d11
  have L8 := L7.keep k8 hb8
  refine ⟨p1, _, d1, .str r, rfl, rfl, SqL.of (k8 _ _ n1b e1), er, ?_⟩
  -- the name, the taker
  refine ⟨_, rfl, _, rfl, _, rfl, pN, _, rfl, .inl (SqL.of L8.nm.at_), ?_⟩
  rw [List.length_map]
  refine ⟨b, ys.length, n + 1 + 1 + 1, rfl, by omega, by omega, by omega, by omega, L8.bx, fun d2 H9 d20 d21 k9 hb9 => ?_⟩
  obtain ⟨nm, enm, nok, ntx⟩ := get_nm hN.ok d20 d21
  have L9 := L8.keep k9 hb9
  refine ⟨pN, _, d2, .str nm, rfl, rfl, SqL.of L9.nm.at_, enm, ?_⟩
  refine ⟨_, rfl, by show 1 ≤ sizeLine; decide, fun p4 np4 => ?_⟩
  have e4 : (upd H9 p4 (.lst [.str tPub])) p4 = some (.lst [.str tPub]) := upd_same
  have L10 := L9.new (u := .lst [.str tPub]) np4
  generalize upd H9 p4 (.lst [.str tPub]) = H10 at e4 L10 ⊢
  refine ⟨pN, p4, _, _, rfl, rfl, L10.nm.at_, e4, ?_, fun p5 np5 => ?_⟩
  · rw [List.length_map]
    exact Nat.le_trans (show ys.length + 1 ≤ 12 by omega) (by decide)
  have e5 : (upd H10 p5 (.lst (ys.map V.str ++ [.str tPub]))) p5 = some (.lst (ys.map V.str ++ [.str tPub])) := upd_same
  have n5b := ne_box L10.bx np5
  have L11 := L10.new (u := .lst (ys.map V.str ++ [.str tPub])) np5
  generalize upd H10 p5 (.lst (ys.map V.str ++ [.str tPub])) = H11 at e5 L11 ⊢
  refine ⟨_, rfl, _, rfl, pN, _, rfl, .inl (SqL.of L11.nm.at_), ?_⟩
  rw [List.length_map]
  refine ⟨_, 1, rfl, rfl, ?_⟩
  refine ⟨b, (ys.length : Int) + 1, n + 1 + 1 + 1 + 1, rfl, by omega, by omega, by omega, by omega, L11.bx, fun d3 H12 d30 d31 k12 hb12 => ?_⟩
  obtain ⟨tk, etk, ttx, tok⟩ := get_tk1 hN.ok d30 d31
  have L12 := L11.keep k12 hb12
  refine ⟨p5, _, d3, .str tk, rfl, rfl, SqL.of (k12 _ _ n5b e5), etk, ?_⟩
  refine ⟨by show 2 ≤ sizeLine; decide, fun pu npu => ?_⟩
  have eu : (upd H12 pu (.tup [.str nm, .str tk])) pu = some (.tup [.str nm, .str tk]) := upd_same
  have L13 := (L12.new (u := .tup [.str nm, .str tk]) npu).mono (show n + 1 + 1 + 1 + 1 + 1 ≤ n + 5 by omega)
  generalize upd H12 pu (.tup [.str nm, .str tk]) = H13 at eu L13 ⊢
  refine ⟨pu, _, _, rfl, SqT.of eu, ?_⟩
  clear L4 L5 L6 L7 L8 L9 L10 L11 L12
  refine ⟨_, rfl, rfl, _, rfl, ?_⟩
  refine ite2 (fun _ => ?_) (fun _ => ?_)
  · -- give
    refine ⟨_, rfl, by show 2 ≤ sizeLine; decide, fun p6 np6 => ?_⟩
    have e6 : (upd H13 p6 (.lst [.str tk, .str tCal])) p6 = some (.lst [.str tk, .str tCal]) := upd_same
    have n6b := ne_box L13.bx np6
    have L14 := L13.new (u := .lst [.str tk, .str tCal]) np6
    generalize upd H13 p6 (.lst [.str tk, .str tCal]) = H14 at e6 L14 ⊢
    refine ⟨_, rfl, b, 2, n + 5, rfl, by decide, by decide, by omega, by omega, L14.bx, fun d6 H15 d60 d61 k15 hb15 => ?_⟩
    have L15 := L14.keep k15 hb15
    have h2 : ∃ t2, atI [V.str tk, .str tCal] d6 = some (.str t2) ∧ txt t2 ∧ (isT tCal (.str t2) = true ∨ isTaker (.str t2) = true) := by
      have : d6 = 0 ∨ d6 = 1 := by omega
      rcases this with rfl | rfl
      · exact ⟨tk, rfl, ttx, .inr tok⟩
      · exact ⟨tCal, rfl, ⟨by decide +kernel, by decide +kernel⟩, .inl (by decide +kernel)⟩
    obtain ⟨t2, et2, tt2, tc2⟩ := h2
    refine ⟨p6, _, d6, .str t2, rfl, rfl, SqL.of (k15 _ _ n6b e6), et2, ?_⟩
    obtain ⟨o', eo', ho'⟩ := flag_rep o t2
    obtain ⟨fn0, fn1⟩ := flag_n t2
    refine ⟨_, rfl, _, rfl, _, rfl, by show 4 ≤ sizeLine; decide, fun lg nlg => ?_⟩
    have e8 : (upd H15 lg (.lst [.str tGiv, .str r, .str nm, .str t2])) lg = some (.lst [.str tGiv, .str r, .str nm, .str t2]) := upd_same
    have L16 := L15.new (u := .lst [.str tGiv, .str r, .str nm, .str t2]) nlg
    generalize upd H15 lg (.lst [.str tGiv, .str r, .str nm, .str t2]) = H16 at e8 L16 ⊢
    have lo := optW_len o
    refine ⟨_, rfl, _, rfl, rfl, .inr ⟨_, rfl, pf, _, (optW o).map V.str, rfl, rfl, L16.fl, Int.le_trans (by decide) fn0, Int.lt_of_le_of_lt fn1 (by decide), ?_, fun lr nlr => ?_⟩⟩
    · revert fn0 fn1
      generalize (if (!decide (V.str t2 = V.str (Str.ofString "public"))) = true then (1 : Int) else 0) = z
      intro fn0 fn1
      exact Nat.le_trans (Nat.mul_le_mul lo (show z.toNat ≤ 1 by omega)) (by decide)
    rw [eo']
    have e9 : (upd H16 lr (.lst ((optW o').map V.str))) lr = some (.lst ((optW o').map V.str)) := upd_same
    have e8 := same_upd (o := .lst ((optW o').map V.str)) nlr _ _ e8
    have L17 := L16.new (u := .lst ((optW o').map V.str)) nlr
    generalize upd H16 lr (.lst ((optW o').map V.str)) = H17 at e8 e9 L17 ⊢
    have lo' := optW_len o'
    refine ⟨lg, lr, _, _, rfl, rfl, e8, e9, Nat.le_trans (show 4 + ((optW o').map V.str).length ≤ 5 by omega) (by decide), fun rr nrr => ?_⟩
    exact q rr (.dm (.give r nm t2 o')) _ ⟨rt, ntx, tt2, rk, nok, tc2, ho'⟩ (L17.none nrr) (by rw [upd_same]; cases o' <;> rfl) (L17.new nrr).k ((L17.new nrr).bx.mono (by omega))
  refine ⟨_, rfl, rfl, _, rfl, ?_⟩
  refine ite2 (fun _ => ?_) (fun _ => ?_)
  · -- take
    refine ⟨by show 0 ≤ sizeLine; decide, fun pa npa => ?_⟩
    have ea : (upd H13 pa (.lst ((gW5 none).map V.str))) pa = some (.lst ((gW5 none).map V.str)) := upd_same
    have eq2 : (upd H13 pa (.lst [])) = (upd H13 pa (.lst ((gW5 none).map V.str))) := rfl
    rw [eq2]
    have nab := ne_box L13.bx npa
    have L14 := L13.new (u := .lst ((gW5 none).map V.str)) npa
    generalize upd H13 pa (.lst ((gW5 none).map V.str)) = H14 at ea L14 ⊢
    refine ⟨_, rfl, _, rfl, _, rfl, pN, _, rfl, .inl (SqL.of L14.nm.at_), ?_⟩
    rw [List.length_map]
    refine ⟨b, ys.length, n + 5, rfl, by omega, by omega, by omega, by omega, L14.bx, fun d6 H15 d60 d61 k15 hb15 => ?_⟩
    obtain ⟨gy, egy, gok, gtx⟩ := get_nm hN.ok d60 d61
    have L15 := L14.keep k15 hb15
    have ea := k15 _ _ nab ea
    refine ⟨pN, _, d6, .str gy, rfl, rfl, SqL.of L15.nm.at_, egy, ?_⟩
    refine ⟨by show 2 ≤ sizeLine; decide, fun pb npb => ?_⟩
    have eb : (upd H15 pb (.lst ((gW5 (some gy)).map V.str))) pb = some (.lst ((gW5 (some gy)).map V.str)) := upd_same
    have eq3 : (upd H15 pb (.lst [.str (Str.ofString "by"), .str gy])) = (upd H15 pb (.lst ((gW5 (some gy)).map V.str))) := rfl
    rw [eq3]
    have ea := same_upd (o := .lst ((gW5 (some gy)).map V.str)) npb _ _ ea
    have L16 := L15.new (u := .lst ((gW5 (some gy)).map V.str)) npb
    generalize upd H15 pb (.lst ((gW5 (some gy)).map V.str)) = H16 at ea eb L16 ⊢
    refine ⟨by show 2 ≤ sizeLine; decide, fun pc npc => ?_⟩
    have ec : (upd H16 pc (.lst [.ref pa, .ref pb])) pc = some (.lst [.ref pa, .ref pb]) := upd_same
    have ea := same_upd (o := .lst [.ref pa, .ref pb]) npc _ _ ea
    have eb := same_upd (o := .lst [.ref pa, .ref pb]) npc _ _ eb
    have ncb := ne_box L16.bx npc
    have L17 := L16.new (u := .lst [.ref pa, .ref pb]) npc
    generalize upd H16 pc (.lst [.ref pa, .ref pb]) = H17 at ea eb ec L17 ⊢
    refine ⟨_, rfl, b, 2, n + 5 + 1, rfl, by decide, by decide, by omega, by omega, L17.bx, fun d7 H18 d70 d71 k18 hb18 => ?_⟩
    have L18 := L17.keep k18 hb18
    have h2 : ∃ (g : Option Str) (pe : Addr), atI [V.ref pa, .ref pb] d7 = some (.ref pe) ∧ H17 pe = some (.lst ((gW5 g).map V.str)) ∧ ∀ y, g = some y → txt y ∧ nameT y = true := by
      have : d7 = 0 ∨ d7 = 1 := by omega
      rcases this with rfl | rfl
      · exact ⟨none, pa, rfl, ea, fun y e => nomatch e⟩
      · exact ⟨some gy, pb, rfl, eb, fun y e => by cases e; exact ⟨gtx, gok⟩⟩
    obtain ⟨g, pe, eie, epe, hg⟩ := h2
    have epe := k18 _ _ (lst_ne L17.bx epe (strs_no3 _)) epe
    refine ⟨pc, _, d7, .ref pe, rfl, rfl, SqL.of (k18 _ _ ncb ec), eie, ?_⟩
    have lg2 : ((gW5 g).map V.str).length ≤ 2 := by cases g <;> exact Nat.le_of_ble_eq_true rfl
    have lo := optW_len o
    refine ⟨_, rfl, pe, pf, _, _, rfl, rfl, epe, L18.fl, Nat.le_trans (show ((gW5 g).map V.str).length + ((optW o).map V.str).length ≤ 5 by omega) (by decide), fun lE nlE => ?_⟩
    rw [← List.map_append]
    have eE : (upd H18 lE (.lst ((gW5 g ++ optW o).map V.str))) lE = some (.lst ((gW5 g ++ optW o).map V.str)) := upd_same
    have L19 := L18.new (u := .lst ((gW5 g ++ optW o).map V.str)) nlE
    generalize upd H18 lE (.lst ((gW5 g ++ optW o).map V.str)) = H19 at eE L19 ⊢
    refine ⟨_, rfl, _, rfl, _, rfl, by show 4 ≤ sizeLine; decide, fun l4 nl4 => ?_⟩
    have e4 : (upd H19 l4 (.lst ([Str.ofString "take", r, nm, tk].map V.str))) l4 = some (.lst ([Str.ofString "take", r, nm, tk].map V.str)) := upd_same
    have eq4 : (upd H19 l4 (.lst [.str (Str.ofString "take"), .str r, .str nm, .str tk])) = (upd H19 l4 (.lst ([Str.ofString "take", r, nm, tk].map V.str))) := rfl
    rw [eq4]
    have eE := same_upd (o := .lst ([Str.ofString "take", r, nm, tk].map V.str)) nl4 _ _ eE
    have L20 := L19.new (u := .lst ([Str.ofString "take", r, nm, tk].map V.str)) nl4
    generalize upd H19 l4 (.lst ([Str.ofString "take", r, nm, tk].map V.str)) = H20 at e4 eE L20 ⊢
    refine ⟨_, rfl, l4, lE, _, _, rfl, rfl, e4, eE, ?_, fun l8 nl8 => ?_⟩
    · rw [List.length_map, List.length_map, List.length_append]
      rw [List.length_map] at lg2 lo
      exact Nat.le_trans (show 4 + ((gW5 g).length + (optW o).length) ≤ 8 by omega) (by decide)
    rw [← List.map_append]
    have e8 : (upd H20 l8 (.lst (([Str.ofString "take", r, nm, tk] ++ (gW5 g ++ optW o)).map V.str))) l8 = some (.lst (([Str.ofString "take", r, nm, tk] ++ (gW5 g ++ optW o)).map V.str)) := upd_same
    have n8b := ne_box L20.bx nl8
    have L21 := L20.new (u := .lst (([Str.ofString "take", r, nm, tk] ++ (gW5 g ++ optW o)).map V.str)) nl8
    generalize upd H20 l8 (.lst (([Str.ofString "take", r, nm, tk] ++ (gW5 g ++ optW o)).map V.str)) = H21 at e8 L21 ⊢
    refine ⟨by show 0 ≤ sizeLine; decide, fun qa nqa => ?_⟩
    have ea : (upd H21 qa (.lst ((casW false).map V.str))) qa = some (.lst ((casW false).map V.str)) := upd_same
    have eq5 : (upd H21 qa (.lst [])) = (upd H21 qa (.lst ((casW false).map V.str))) := rfl
    rw [eq5]
    have e8 := same_upd (o := .lst ((casW false).map V.str)) nqa _ _ e8
    have L22 := L21.new (u := .lst ((casW false).map V.str)) nqa
    generalize upd H21 qa (.lst ((casW false).map V.str)) = H22 at ea e8 L22 ⊢
    refine ⟨by show 1 ≤ sizeLine; decide, fun qb nqb => ?_⟩
    have eb : (upd H22 qb (.lst ((casW true).map V.str))) qb = some (.lst ((casW true).map V.str)) := upd_same
    have eq6 : (upd H22 qb (.lst [.str (Str.ofString "cascade")])) = (upd H22 qb (.lst ((casW true).map V.str))) := rfl
    rw [eq6]
    have ea := same_upd (o := .lst ((casW true).map V.str)) nqb _ _ ea
    have e8 := same_upd (o := .lst ((casW true).map V.str)) nqb _ _ e8
    have L23 := L22.new (u := .lst ((casW true).map V.str)) nqb
    generalize upd H22 qb (.lst ((casW true).map V.str)) = H23 at ea eb e8 L23 ⊢
    refine ⟨by show 2 ≤ sizeLine; decide, fun qc nqc => ?_⟩
    have ec : (upd H23 qc (.lst [.ref qa, .ref qb])) qc = some (.lst [.ref qa, .ref qb]) := upd_same
    have ea := same_upd (o := .lst [.ref qa, .ref qb]) nqc _ _ ea
    have eb := same_upd (o := .lst [.ref qa, .ref qb]) nqc _ _ eb
    have e8 := same_upd (o := .lst [.ref qa, .ref qb]) nqc _ _ e8
    have ncb := ne_box L23.bx nqc
    have L24 := L23.new (u := .lst [.ref qa, .ref qb]) nqc
    generalize upd H23 qc (.lst [.ref qa, .ref qb]) = H24 at ea eb ec e8 L24 ⊢
    refine ⟨_, rfl, b, 2, n + 5 + 1 + 1, rfl, by decide, by decide, by omega, by omega, L24.bx, fun d8 H25 d80 d81 k25 hb25 => ?_⟩
    have L25 := L24.keep k25 hb25
    have h3 : ∃ (cc : Bool) (pe : Addr), atI [V.ref qa, .ref qb] d8 = some (.ref pe) ∧ H24 pe = some (.lst ((casW cc).map V.str)) := by
      have : d8 = 0 ∨ d8 = 1 := by omega
      rcases this with rfl | rfl
      · exact ⟨false, qa, rfl, ea⟩
      · exact ⟨true, qb, rfl, eb⟩
    obtain ⟨cc, qe, eiq, eqe⟩ := h3
    have eqe := k25 _ _ (lst_ne L24.bx eqe (strs_no3 _)) eqe
    refine ⟨qc, _, d8, .ref qe, rfl, rfl, SqL.of (k25 _ _ ncb ec), eiq, ?_⟩
    have lc : (casW cc).length ≤ 1 := by cases cc <;> exact Nat.le_of_ble_eq_true rfl
    refine ⟨l8, qe, _, _, rfl, rfl, k25 _ _ n8b e8, eqe, ?_, fun rr nrr => ?_⟩
    · rw [List.length_map, List.length_map, List.length_append, List.length_append]
      rw [List.length_map] at lg2 lo
      exact Nat.le_trans (show 4 + ((gW5 g).length + (optW o).length) + (casW cc).length ≤ 10 by omega) (by decide)
    rw [← List.map_append]
    have ew : [Str.ofString "take", r, nm, tk] ++ (gW5 g ++ optW o) ++ casW cc = tdW (.dm (.take r nm tk g o cc)) := by
      show _ = K5F.wordsD (.take r nm tk g o cc)
      rw [take_words]
      unfold endW casW optW
      simp only [List.append_assoc]
    rw [ew]
    exact q rr (.dm (.take r nm tk g o cc)) _ ⟨rt, ntx, ttx, rk, nok, tok, hg⟩ (L25.none nrr) upd_same (L25.new nrr).k ((L25.new nrr).bx.mono (by omega))
  refine ⟨_, rfl, rfl, _, rfl, ?_⟩
  refine ite2 (fun _ => ?_) (fun _ => ?_)
  · refine ⟨_, rfl, by show 2 ≤ sizeLine; decide, fun rr nrr => ?_⟩
    exact q rr (.dm (.call nm)) _ ⟨ntx, nok⟩ (L13.none nrr) upd_same (L13.new nrr).k ((L13.new nrr).bx.mono (by omega))
  refine ⟨_, rfl, rfl, _, rfl, ?_⟩
  refine ite2 (fun _ => ?_) (fun _ => ?_)
  · -- preset
    refine ⟨by show 2 ≤ sizeLine; decide, fun pa npa => ?_⟩
    have ea : (upd H13 pa (.tup [.str tTab, .str (Str.ofString "read")])) pa = some (.tup [.str tTab, .str (Str.ofString "read")]) := upd_same
    have L14 := L13.new (u := .tup [.str tTab, .str (Str.ofString "read")]) npa
    generalize upd H13 pa (.tup [.str tTab, .str (Str.ofString "read")]) = H14 at ea L14 ⊢
    refine ⟨by show 2 ≤ sizeLine; decide, fun pb npb => ?_⟩
    have eb : (upd H14 pb (.tup [.str tTab, .str (Str.ofString "write")])) pb = some (.tup [.str tTab, .str (Str.ofString "write")]) := upd_same
    have ea := same_upd (o := .tup [.str tTab, .str (Str.ofString "write")]) npb _ _ ea
    have L15 := L14.new (u := .tup [.str tTab, .str (Str.ofString "write")]) npb
    generalize upd H14 pb (.tup [.str tTab, .str (Str.ofString "write")]) = H15 at ea eb L15 ⊢
    refine ⟨by show 2 ≤ sizeLine; decide, fun pc npc => ?_⟩
    have ec : (upd H15 pc (.tup [.str tFun, .str (Str.ofString "call")])) pc = some (.tup [.str tFun, .str (Str.ofString "call")]) := upd_same
    have ea := same_upd (o := .tup [.str tFun, .str (Str.ofString "call")]) npc _ _ ea
    have eb := same_upd (o := .tup [.str tFun, .str (Str.ofString "call")]) npc _ _ eb
    have L16 := L15.new (u := .tup [.str tFun, .str (Str.ofString "call")]) npc
    generalize upd H15 pc (.tup [.str tFun, .str (Str.ofString "call")]) = H16 at ea eb ec L16 ⊢
    refine ⟨by show 3 ≤ sizeLine; decide, fun pd npd => ?_⟩
    have ed : (upd H16 pd (.lst [.ref pa, .ref pb, .ref pc])) pd = some (.lst [.ref pa, .ref pb, .ref pc]) := upd_same
    have ea := same_upd (o := .lst [.ref pa, .ref pb, .ref pc]) npd _ _ ea
    have eb := same_upd (o := .lst [.ref pa, .ref pb, .ref pc]) npd _ _ eb
    have ec := same_upd (o := .lst [.ref pa, .ref pb, .ref pc]) npd _ _ ec
    have ndb := ne_box L16.bx npd
    have L17 := L16.new (u := .lst [.ref pa, .ref pb, .ref pc]) npd
    generalize upd H16 pd (.lst [.ref pa, .ref pb, .ref pc]) = H17 at ea eb ec ed L17 ⊢
    refine ⟨_, rfl, b, 3, n + 5, rfl, by decide, by decide, by omega, by omega, L17.bx, fun d6 H18 d60 d61 k18 hb18 => ?_⟩
    have L18 := L17.keep k18 hb18
    have h2 : ∃ (pe : Addr) (s r2 : Str), atI [V.ref pa, .ref pb, .ref pc] d6 = some (.ref pe) ∧ H17 pe = some (.tup [.str s, .str r2]) ∧ txt s ∧ txt r2 ∧ (s = tTab ∨ s = tFun) ∧ kindT r2 = some s := by
      have : d6 = 0 ∨ d6 = 1 ∨ d6 = 2 := by omega
      rcases this with rfl | rfl | rfl
      · exact ⟨pa, _, _, rfl, ea, ⟨by decide +kernel, by decide +kernel⟩, ⟨by decide +kernel, by decide +kernel⟩, .inl rfl, by decide +kernel⟩
      · exact ⟨pb, _, _, rfl, eb, ⟨by decide +kernel, by decide +kernel⟩, ⟨by decide +kernel, by decide +kernel⟩, .inl rfl, by decide +kernel⟩
      · exact ⟨pc, _, _, rfl, ec, ⟨by decide +kernel, by decide +kernel⟩, ⟨by decide +kernel, by decide +kernel⟩, .inr rfl, by decide +kernel⟩
    obtain ⟨pe, s2, r2, eie, epe, ts2, tr2, hs2, hk2⟩ := h2
    have npeb : pe ≠ b := fun z => by
      obtain ⟨g0, m0, c0, eb1, hb1r⟩ := L17.bx
      rw [z, eb1] at epe
      cases epe
    refine ⟨pd, _, d6, .ref pe, rfl, rfl, SqL.of (k18 _ _ ndb ed), eie, ?_⟩
    refine ⟨pe, _, rfl, .inl (.inl (k18 _ _ npeb epe)), rfl, _, _, rfl, _, _, rfl, rfl, ?_⟩
    obtain ⟨o', eo', ho'⟩ := flag_rep o tk
    obtain ⟨fn0, fn1⟩ := flag_n tk
    refine ⟨_, rfl, _, rfl, _, rfl, by show 4 ≤ sizeLine; decide, fun lg nlg => ?_⟩
    have e8 : (upd H18 lg (.lst [.str (Str.ofString "preset"), .str s2, .str r2, .str tk])) lg = some (.lst [.str (Str.ofString "preset"), .str s2, .str r2, .str tk]) := upd_same
    have L19 := L18.new (u := .lst [.str (Str.ofString "preset"), .str s2, .str r2, .str tk]) nlg
    generalize upd H18 lg (.lst [.str (Str.ofString "preset"), .str s2, .str r2, .str tk]) = H19 at e8 L19 ⊢
    have lo := optW_len o
    refine ⟨_, rfl, _, rfl, rfl, .inr ⟨_, rfl, pf, _, (optW o).map V.str, rfl, rfl, L19.fl, Int.le_trans (by decide) fn0, Int.lt_of_le_of_lt fn1 (by decide), ?_, fun lr nlr => ?_⟩⟩
    · revert fn0 fn1
      generalize (if (!decide (V.str tk = V.str (Str.ofString "public"))) = true then (1 : Int) else 0) = z
      intro fn0 fn1
      exact Nat.le_trans (Nat.mul_le_mul lo (show z.toNat ≤ 1 by omega)) (by decide)
    rw [eo']
    have e9 : (upd H19 lr (.lst ((optW o').map V.str))) lr = some (.lst ((optW o').map V.str)) := upd_same
    have e8 := same_upd (o := .lst ((optW o').map V.str)) nlr _ _ e8
    have L20 := L19.new (u := .lst ((optW o').map V.str)) nlr
    generalize upd H19 lr (.lst ((optW o').map V.str)) = H20 at e8 e9 L20 ⊢
    have lo' := optW_len o'
    refine ⟨lg, lr, _, _, rfl, rfl, e8, e9, Nat.le_trans (show 4 + ((optW o').map V.str).length ≤ 5 by omega) (by decide), fun rr nrr => ?_⟩
    exact q rr (.dm (.preset s2 r2 tk o')) _ ⟨ts2, tr2, ttx, hs2, hk2, tok, ho'⟩ (L20.none nrr) (by rw [upd_same]; cases o' <;> rfl) (L20.new nrr).k ((L20.new nrr).bx.mono (by omega))
  refine ⟨_, rfl, rfl, _, rfl, ?_⟩
  refine ite2 (fun _ => ?_) (fun _ => ?_)
  · refine ⟨_, rfl, _, rfl, by show 3 ≤ sizeLine; decide, fun rr nrr => ?_⟩
    exact q rr (.dm (.use r nm)) _ ⟨rt, ntx, rk, nok⟩ (L13.none nrr) upd_same (L13.new nrr).k ((L13.new nrr).bx.mono (by omega))
  -- make
  refine ⟨by show 1 ≤ sizeLine; decide, fun p6 np6 => ?_⟩
  have e6 : (upd H13 p6 (.lst [.str tMk])) p6 = some (.lst [.str tMk]) := upd_same
  have n6b := ne_box L13.bx np6
  have L14 := L13.new (u := .lst [.str tMk]) np6
  generalize upd H13 p6 (.lst [.str tMk]) = H14 at e6 L14 ⊢
  refine ⟨_, rfl, _, rfl, _, rfl, b, 2, n + 5, rfl, by decide, by decide, by omega, by omega, L14.bx, fun d6 H15 d60 d61 k15 hb15 => ?_⟩
  have L15 := L14.keep k15 hb15
  refine ⟨1, d6, rfl, rfl, b, pN, n + 5 + 1, 1 + d6, ys, rfl, by omega, by omega, by omega, by omega, L15.bx, L15.nm, fun rt t H16 okt ekd nrt ert k16 hb16 => ?_⟩
  have L16 := L15.keep k16 hb16
  have l37 := thW_len okt
  refine ⟨p6, rt, _, _, rfl, rfl, k16 _ _ n6b (k15 _ _ n6b e6), ert, ?_, fun rr nrr => ?_⟩
  · rw [List.length_map]
    exact Nat.le_trans (show 1 + (thW t).length ≤ 40 by omega) (by decide)
  · have nr : t.kind ≠ tRol := by
      rw [ekd]
      unfold kdW
      rw [if_neg (by omega)]
      split
      · exact tab_ne
      · exact fun_ne
    exact q rr (.mk t) _ ⟨okt, nr⟩ (L16.none nrr) upd_same (L16.new nrr).k ((L16.new nrr).bx.mono (by omega))
end
end K56
set_option maxHeartbeats 4000000
namespace K56
open PySem PySem.Spec PyProof.Rows L2 RL RE RN RM TL RQ RC
/-! ### the deed that words say -/
theorem ps_never {X : Cx} {st : Stmt} : PS X st (fun _ _ _ => False) := ⟨fun _ _ _ _ _ _ q => q.elim⟩
theorem pss_never {X : Cx} {st : List Stmt} : PSs X st (fun _ _ _ => False) := ⟨fun _ _ _ _ _ _ q => q.elim⟩
theorem w_txt {w : Str} (h : wOk w) : txt w := ⟨Nat.le_trans h.len (by decide), fun x hx => (h.ok x hx).2.2⟩
theorem sub_map (ws : List Str) (lo hi : Option Int) : ∃ zs : List Str, cutV (ws.map V.str) lo hi = zs.map V.str ∧ ∀ z ∈ zs, z ∈ ws := by
  refine ⟨(ws.drop (HT.sIx ws.length 0 lo)).take (HT.sIx ws.length ws.length hi - HT.sIx ws.length 0 lo), ?_, fun z hz => List.mem_of_mem_drop (List.mem_of_mem_take hz)⟩
  unfold cutV
  rw [List.length_map, List.map_take, List.map_drop]
section
variable {P : Program} {w : World} {K : PySem.W.Frag} {mg : Str → Option Value} {base : Heap} {f : Addr} {fd : FuncData}
theorem ok_made_deed {c : Cs} (F : Fun K "_law_made_deed" "_law_made_deed" s__law_made_deed f fd) (M : MkD P w K mg base c) (ml : mg "len" = none) : FnOk P w K mg base CX0 6 f fd ["_law_words"] (spRdD K c fun _ => true) := by
  obtain ⟨f1, fd1, M1, F1, g1, b1⟩ := M.C
  obtain ⟨f2, fd2, M2, F2, g2, b2⟩ := M.G
  refine F.ok sc__law_made_deed (fun vs H Q E h => by obtain ⟨p, d, rfl, _⟩ := h; rfl) (fun cdv A outer s H vs Q E hr h => ?_)
  obtain ⟨p, d, rfl, hS, ok, _, q⟩ := h
  refine ⟨_, PSs.nox (pss_cons (ps_set (i := 1) sc__law_made_deed.nd rfl (.inl rfl) (pe_cmpR (op_eqD (hu64 hr)) (pe_slice sl_list (pv 0) (po_some (pe_un un_neg pe_int)) po_none) (pe_lst (pa_cons pe_str pa_nil)) (by rfl)))
    (pss_cons (ps_if (pt_cmpR op_eq (pe_ix ix_list (pv 0) pe_int (fun _ _ => rfl)) pe_str (nomark _)) (pss_one (ps_ret (pe_makeK (n := 3) M2 F2 hr (by rfl) g2 b2 pass0 (pa_cons (pe_ix ix_list (pv 0) pe_int (fun _ _ => rfl)) (pa_cons (pe_ix ix_list (pv 0) pe_int (fun _ _ => rfl)) (pa_cons (pe_ix ix_list (pv 0) pe_int (fun _ _ => rfl)) pa_nil))) (pk_cons (pe_cmpR op_gt (pe_callB call_len_seq (by rfl) ml PySem.boot_len (pa_cons (pv 0) pa_nil)) pe_int (nomark _)) pk_nil)))) pss_nil)
    (pss_cons (ps_if (pt_cmpR op_eq (pe_ix ix_list (pv 0) pe_int (fun _ _ => rfl)) pe_str (nomark _)) pss_never pss_nil)
    (pss_cons (ps_if (pt_cmpR op_eq (pe_ix ix_list (pv 0) pe_int (fun _ _ => rfl)) pe_str (nomark _)) (pss_one (ps_ret (pe_make M1 F1 hr (by rfl) g1 b1 .nil pass0 (pa_cons (pe_ix ix_list (pv 0) pe_int (fun _ _ => rfl)) pa_nil)))) pss_nil)
    pss_never)))), ?_⟩
  obtain ⟨zs, ez, hz⟩ := sub_map (wordsD d) (some (-1)) none
  have tw : ∀ z ∈ wordsD d, txt z := fun z h => w_txt (deed_w ok z h)
  refine ⟨_, rfl, 1, rfl, -1, rfl, p, _, rfl, hS, fun p1 np1 => ?_⟩
  rw [ez]
  have s1 := same_upd (o := .lst (zs.map V.str)) np1
  have e1 : (upd H p1 (.lst (zs.map V.str))) p1 = some (.lst (zs.map V.str)) := upd_same
  generalize upd H p1 (.lst (zs.map V.str)) = H1 at s1 e1 ⊢
  refine ⟨by show 1 ≤ sizeLine; decide, fun p2 np2 => ?_⟩
  have s2 := s1.trans (same_upd (o := .lst [.str tOpt]) np2)
  have e2 : (upd H1 p2 (.lst [.str tOpt])) p2 = some (.lst [.str tOpt]) := upd_same
  have e1 : (upd H1 p2 (.lst [.str tOpt])) p1 = some (.lst (zs.map V.str)) := same_upd np2 _ _ e1
  generalize upd H1 p2 (.lst [.str tOpt]) = H2 at s2 e1 e2 ⊢
  refine ⟨.list (strsP zs), .list (strsP [tOpt]), .lst (SqL.of e1) (strs_all zs), .lst (SqL.of e2) (strs_all [tOpt]), strs_shaped fun y hy => tw y (hz y hy), by decide +kernel, ?_⟩
  have hS2 := SqL.ext hS s2
  cases d with
  | give r t k o =>
    refine ⟨_, rfl, p, _, 0, .str tGiv, rfl, rfl, hS2, atI_nat (j := 0) rfl, rfl, _, rfl, ?_⟩
    rw [show decide (V.str tGiv = V.str (Str.ofString "give")) = true from decide_eq_true rfl]
    refine iteT ⟨_, rfl, p, _, 1, .str r, rfl, rfl, hS2, atI_nat (j := 1) rfl, _, rfl, p, _, 2, .str t, rfl, rfl, hS2, atI_nat (j := 2) rfl, _, rfl, p, _, 3, .str k, rfl, rfl, hS2, atI_nat (j := 3) rfl, ?_⟩
    refine ⟨_, rfl, p, _, rfl, .inl hS2, _, 4, rfl, rfl, ?_⟩
    cases o with
    | true =>
      refine ⟨rfl, rfl, fun x dx nx nd ne => ?_⟩
      refine ⟨x, dx, .give r t k true, [.str r, .str t, .str k, .bl true], rfl, rfl, ok, upd_same, ?_⟩
      exact ⟨rfl, q x _ (fun y o e => own_same nx nd _ _ (s2 _ _ e)) (same_none s2 nx) ⟨dx, upd_same⟩⟩
    | false =>
      refine ⟨rfl, rfl, fun x dx nx nd ne => ?_⟩
      refine ⟨x, dx, .give r t k false, [.str r, .str t, .str k, .bl false], rfl, rfl, ok, upd_same, ?_⟩
      exact ⟨rfl, q x _ (fun y o e => own_same nx nd _ _ (s2 _ _ e)) (same_none s2 nx) ⟨dx, upd_same⟩⟩
  | call n =>
    refine ⟨_, rfl, p, _, 0, .str tCll, rfl, rfl, hS2, atI_nat (j := 0) rfl, rfl, _, rfl, ?_⟩
    rw [show decide (V.str tCll = V.str (Str.ofString "give")) = false from by decide +kernel]
    refine iteF ⟨_, rfl, p, _, 0, .str tCll, rfl, rfl, hS2, atI_nat (j := 0) rfl, rfl, _, rfl, ?_⟩
    rw [show decide (V.str tCll = V.str (Str.ofString "take")) = false from by decide +kernel]
    refine iteF ⟨_, rfl, p, _, 0, .str tCll, rfl, rfl, hS2, atI_nat (j := 0) rfl, rfl, _, rfl, ?_⟩
    rw [show decide (V.str tCll = V.str (Str.ofString "call")) = true from decide_eq_true rfl]
    refine iteT ⟨_, rfl, p, _, 1, .str n, rfl, rfl, hS2, atI_nat (j := 1) rfl, fun x dx nx nd ne => ?_⟩
    refine ⟨x, dx, .call n, [.str n], rfl, rfl, ok, upd_same, ?_⟩
    exact ⟨rfl, q x _ (fun y o e => own_same nx nd _ _ (s2 _ _ e)) (same_none s2 nx) ⟨dx, upd_same⟩⟩
end
end K56
set_option maxHeartbeats 8000000
namespace K56
open PySem PySem.Spec PyProof.Rows L2 RL RE RN RM TL RQ RC
/-! ### the thing that words say -/
theorem str_no {d : Dm} (h : okD d) : 59 ∉ tl (strD d) := by
  intro z
  rw [show strD d = txtW (wordsD d) from rfl, tl_txtW] at z
  rcases mem_joinL z with z | ⟨p, hp, z⟩
  · revert z; decide
  · obtain ⟨w, hw, rfl⟩ := List.mem_map.mp hp
    exact (deed_no h w hw).1 z
theorem deed_split {d : Dm} (h : okD d) : Txt.split (strD d) tSp = wordsD d :=
  split_txtW (by cases d <;> simp [wordsD]) fun w hw z => ((deed_w h w hw).ok 32 z).1 rfl
theorem str_ne {d : Dm} (h : okD d) : strD d ≠ tNul := fun e => by
  have a := deed_split h
  rw [e, show Txt.split tNul tSp = [tNul] by decide +kernel] at a
  cases d with
  | call n => cases a
  | give => cases a
def partsS (ds : List Dm) : List Str := if ds = [] then [tNul] else ds.map strD
theorem parts_split {ds : List Dm} (h : ∀ d ∈ ds, okD d) : Txt.split (Txt.join tSp (tailW ds)) tSSS = partsS ds := by
  cases ds with
  | nil => exact (show Txt.split (Txt.join tSp []) tSSS = [tNul] by decide +kernel)
  | cons d ds =>
    have e : Txt.join tSp (tailW (d :: ds)) = Txt.join tSSS ((d :: ds).map strD) := by
      refine TL.ext_tl ?_
      show tl (txtW _) = _
      rw [tl_txtW, join_eq, tl_join, show tl tSSS = [32, 59, 32] by decide +kernel, List.map_map]
      exact more_join ds d
    rw [e]
    unfold partsS
    rw [if_neg (by simp)]
    refine split_SSS (by simp) fun p hp => ?_
    obtain ⟨z, hz, rfl⟩ := List.mem_map.mp hp
    exact str_no (h z hz)
theorem parts_get {ds : List Dm} {i : Nat} {z : Str} (h : (partsS ds)[i]? = some z) : (ds = [] ∧ i = 0 ∧ z = tNul) ∨ ∃ d, ds[i]? = some d ∧ z = strD d := by
  unfold partsS at h
  split at h
  · rename_i e
    cases i with
    | zero => exact .inl ⟨e, rfl, (Option.some.inj h).symm⟩
    | succ i => simp at h
  · rw [List.getElem?_map] at h
    cases hd : ds[i]? with
    | none => rw [hd] at h; cases h
    | some d => rw [hd] at h; exact .inr ⟨d, rfl, (Option.some.inj h).symm⟩
theorem given_same {H H' : Hp} {v : V} {u : Option (List Str)} (h : GivenC H v u) (s : Same H H') : GivenC H' v u := by
  cases u with
  | none => exact h
  | some zs =>
    obtain ⟨a, b, e, h⟩ := h
    exact ⟨a, b, e, h.imp (s _ _) (s _ _)⟩
theorem deeds_snoc {c : Cs} {H : Hp} {D a : Addr} {bs : List V} {ds : List Dm} {i : Nat} (eD : H D = some (.lst bs)) (hi : i < ds.length) (h : Deeds c H bs (ds.take i)) (hd : DeedAt c H a ds[i]) : Deeds c (L2.upd H D (.lst (bs ++ [.ref a]))) (bs ++ [.ref a]) (ds.take (i + 1)) := by
  have nDs : ∀ u d, DeedAt c H u d → u ≠ D := fun u d h z => by
    obtain ⟨dy, e⟩ := h
    rw [z, eD] at e
    cases e
  have up : ∀ u d, DeedAt c H u d → DeedAt c (L2.upd H D (.lst (bs ++ [.ref a]))) u d := fun u d h => by
    have n := nDs u d h
    obtain ⟨dy, e⟩ := h
    exact ⟨dy, by rw [upd_ne n]; exact e⟩
  refine ⟨by rw [List.length_append, h.1, List.take_add_one, List.getElem?_eq_getElem hi, List.length_append]; rfl, fun j x d h1 h2 => ?_⟩
  rw [List.take_add_one, List.getElem?_eq_getElem hi] at h2
  by_cases hj : j < bs.length
  · rw [List.getElem?_append_left hj] at h1
    rw [List.getElem?_append_left (by rw [← h.1]; exact hj)] at h2
    obtain ⟨u, e, hu⟩ := h.2 j x d h1 h2
    exact ⟨u, e, up u _ hu⟩
  · rw [List.getElem?_append_right (by omega)] at h1
    rw [List.getElem?_append_right (by rw [← h.1]; omega), ← h.1] at h2
    cases hjj : j - bs.length with
    | zero =>
      rw [hjj] at h1 h2
      have h1 : some (V.ref a) = some x := h1
      have h2 : some ds[i] = some d := h2
      cases h1
      cases h2
      exact ⟨a, rfl, up a _ hd⟩
    | succ j => rw [hjj] at h1; simp at h1
def szT (t : Th) : Int := if t.kind = tFun then 4 else 3
theorem head_szT (t : Th) : ((headW t).length : Int) = szT t + (auW t.au).length := by
  unfold headW szT
  by_cases e : t.kind = tFun
  · rw [if_pos e, if_pos e, List.length_append, List.length_append]
    show ((3 + (1 + (auW t.au).length) : Nat) : Int) = _
    omega
  · rw [if_neg e, if_neg e, List.length_append, List.length_append]
    show ((3 + (0 + (auW t.au).length) : Nat) : Int) = _
    omega
theorem head_drop (t : Th) : (headW t).drop (szT t).toNat = auW t.au := by
  unfold headW szT
  by_cases e : t.kind = tFun
  · rw [if_pos e, if_pos e]
    rfl
  · rw [if_neg e, if_neg e]
    rfl
theorem szT_pos (t : Th) : 0 ≤ szT t := by unfold szT; split <;> decide
def tSize (K : PySem.W.Frag) (p : Addr) (t : Th) : TE := fun σ H Q => σ[0]? = some (some (.ref p)) ∧ SqL K H p ((thW t).map V.str) ∧ Q (.int (szT t)) H
def tHeard (K : PySem.W.Frag) (t : Th) : TE := fun σ H Q => ∃ ph : Addr, σ[2]? = some (some (.ref ph)) ∧ σ[1]? = some (some (.int (szT t))) ∧ SqL K H ph ((headW t).map V.str) ∧ okT t ∧ ∀ v H', Same H H' → GivenC H' v t.au → Q v H'
section
variable {P : Program} {w : World} {K : PySem.W.Frag} {mg : Str → Option Value} {base : Heap} {f : Addr} {fd : FuncData}
def spMT (K : PySem.W.Frag) (c : Cs) (k : Ks) : Sp := fun vs H Q _ => ∃ (p : Addr) (t : Th), vs = [.ref p] ∧ SqL K H p ((thW t).map V.str) ∧ okT t ∧ ∀ a H', Same H H' → ThAt c k H' a t → Q (.ref a) H'
theorem ok_made_thing {c : Cs} {k : Ks} {fR fT fF : Addr} {dR dT dF : FuncData} {gR gT gF : List Value → List Value → List Value} (F : Fun K "_law_made_thing" "_law_made_thing" s__law_made_thing f fd)
    (MR : MkR P w K mg base "Role" tRol k.rol fR dR gR) (MT : MkR P w K mg base "Table" tTab k.tab fT dT gT) (MF : MkFn P w K mg base c k.fn fF dF gF)
    (MD : Df P w K mg base CX0 6 "_law_made_deed" ["_law_words"] (spRdD K c fun _ => true)) (ml : mg "len" = none) :
    FnOk P w K mg base CX0 7 f fd ["_law_words"] (spMT K c k) := by
  refine F.ok sc__law_made_thing (fun vs H Q E h => by obtain ⟨p, t, rfl, _⟩ := h; rfl) (fun cdv A outer s H vs Q E hr h => ?_)
  obtain ⟨p, t, rfl, hS, ok, q⟩ := h
  have hr5 := hr.mono (show 5 ≤ 6 by decide)
  refine ⟨_, PSs.nox (pss_cons (ps_set (i := 1) sc__law_made_thing.nd rfl (.inl rfl) (PEw (u := tSize K p t) (pe_ifExp (pt_cmpR op_eq (pe_ix ix_list (pv 0) pe_int (fun _ _ => rfl)) pe_str (nomark _)) pe_int pe_int) ?w0))
    (pss_cons (ps_set (i := 2) sc__law_made_thing.nd rfl (.inl rfl) (PEw (u := tHead K p t) (pe_ifExp (pt_cmpR op_in_seq pe_str (pv 0) (by rfl)) (pe_slice sl_list (pv 0) po_none (po_some (pe_bm PySem.F.plainAttrs_list PySem.F.slot_list_index PySem.F.type_list_index mt_index (pv 0) (pa_cons pe_str pa_nil)))) (pv 0)) ?w1))
    (pss_cons (ps_set (i := 3) sc__law_made_thing.nd rfl (.inl rfl) (PEw (u := tHeard K t) (pe_ifExp (pt_cmpR op_gt (pe_callB call_len_seq (by rfl) ml PySem.boot_len (pa_cons (pv 2) pa_nil)) (pv 1) (nomark _)) (pe_slice sl_list (pv 2) (po_some (pe_op op_add (pv 1) pe_int)) po_none) pe_non) ?w2))
    (pss_cons (ps_if (pt_cmpR op_eq (pe_ix ix_list (pv 0) pe_int (fun _ _ => rfl)) pe_str (nomark _)) (pss_one (ps_ret (pe_makeK (n := 2) MR.M MR.F hr5 (by rfl) MR.g MR.b1 pass0 (pa_cons (pe_ix ix_list (pv 0) pe_int (fun _ _ => rfl)) (pa_cons (pe_ix ix_list (pv 0) pe_int (fun _ _ => rfl)) pa_nil)) (pk_cons (pv 3) pk_nil)))) pss_nil)
    (pss_cons (ps_if (pt_cmpR op_eq (pe_ix ix_list (pv 0) pe_int (fun _ _ => rfl)) pe_str (nomark _)) (pss_one (ps_ret (pe_makeK (n := 2) MT.M MT.F hr5 (by rfl) MT.g MT.b1 pass0 (pa_cons (pe_ix ix_list (pv 0) pe_int (fun _ _ => rfl)) (pa_cons (pe_ix ix_list (pv 0) pe_int (fun _ _ => rfl)) pa_nil)) (pk_cons (pv 3) pk_nil)))) pss_nil)
    (pss_cons (ps_setLc (i := 4) (own := [("_law_part", 5)]) (g := gName 5) (by rfl) sc__law_made_thing.nd rfl rfl (sw_true rfl rfl rfl (by decide +kernel)) (pi_list (pe_split (pe_join pe_str (pe_slice sl_list (pv 0) (po_some (pe_op op_add (pe_callB call_len_seq (by rfl) ml PySem.boot_len (pa_cons (pv 2) pa_nil)) pe_int)) po_none)) pe_str))
        (blkOk_by (own := [("_law_part", 5)]) (N := N__law_made_thing) (sc := defScope s__law_made_thing) (by decide +kernel)) (fun _ _ _ _ _ => pg_name (i := 5) sc__law_made_thing.nd rfl (Or.inl rfl)) (fun _ _ _ _ _ => pts_one (pt_cmpR op_ne (pv 5) pe_str (nomark _)))
        (fun _ _ _ _ _ => pe_split (pv 5) pe_str))
    (pss_one (ps_ret (pe_makeK (n := 2) MF.M MF.F hr5 (by rfl) MF.g MF.b1 pass0 (pa_cons (pe_ix ix_list (pv 0) pe_int (fun _ _ => rfl)) (pa_cons (pe_ix ix_list (pv 0) pe_int (fun _ _ => rfl)) pa_nil)) (pk_cons (pv 3) (pk_cons (pe_ix ix_list (pv 0) pe_int (fun _ _ => rfl)) (pk_cons (pe_lc (own := [("_law_part", 5)]) (g := gName 5) (by rfl) sc__law_made_thing.nd (pi_list (pv 4))
        (blkOk_by (own := [("_law_part", 5)]) (N := N__law_made_thing) (sc := defScope s__law_made_thing) (by decide +kernel)) (fun _ _ _ _ _ => pg_name (i := 5) sc__law_made_thing.nd rfl (Or.inl rfl)) (fun _ _ _ _ _ => pts_nil)
        (fun _ _ _ _ _ => pe_df0 MD hr (by rfl) (pa_cons (pv 5) pa_nil))) pk_nil)))))))))))), ?main⟩
  case w0 =>
    intro σ H1 Q1 h
    obtain ⟨e0, hS1, q1⟩ := h
    refine ⟨_, e0, p, _, 0, .str t.kind, rfl, rfl, hS1, atI_nat (j := 0) rfl, rfl, _, rfl, ?_⟩
    unfold szT at q1
    refine ite2 (fun e => ?_) (fun e => ?_)
    · have e : t.kind = tFun := by simpa using e
      rw [if_pos e] at q1
      exact q1
    · have e : ¬ t.kind = tFun := fun z => e (by rw [z]; exact decide_eq_true rfl)
      rw [if_neg e] at q1
      exact q1
  case w2 =>
    intro σ H1 Q1 h
    obtain ⟨ph, e2, e1, hS1, _, q1⟩ := h
    have hl := head_szT t
    refine ⟨_, e2, ph, _, rfl, .inl hS1, _, e1, (((headW t).map V.str).length : Nat), szT t, rfl, rfl, _, rfl, ?_⟩
    rw [List.length_map]
    refine ite2 (fun e => ?_) (fun e => ?_)
    · have e : szT t < ((headW t).length : Nat) := of_decide_eq_true e
      refine ⟨_, e2, _, e1, szT t, 1, rfl, rfl, _, rfl, ph, _, rfl, hS1, fun r nr => ?_⟩
      have z0 := szT_pos t
      rw [cutV_back (by omega), show (szT t + 1).toNat = (szT t).toNat + 1 by omega, ← List.drop_drop, ← List.map_drop, ← List.map_drop, head_drop]
      cases hu : t.au with
      | none =>
        rw [hu] at hl
        have hl : ((headW t).length : Int) = szT t + (0 : Nat) := hl
        omega
      | some zs =>
        refine q1 _ _ (same_upd nr) ?_
        rw [hu]
        exact ⟨(ok.au zs hu).1, r, rfl, .inl upd_same⟩
    · have e : ¬ szT t < ((headW t).length : Nat) := fun z => e (decide_eq_true z)
      refine q1 _ _ (fun _ _ z => z) ?_
      cases hu : t.au with
      | none => exact rfl
      | some zs =>
        rw [hu] at hl
        have hl : ((headW t).length : Int) = szT t + ((zs.length + 1 : Nat) : Int) := hl
        omega
  case w1 =>
    intro σ H1 Q1 h
    obtain ⟨e0, hS1, _, q1⟩ := h
    refine ⟨_, e0, p, _, rfl, .inl hS1, rfl, ?_, _, rfl, ?_⟩
    · rw [List.all_map, List.all_eq_true]
      exact fun _ _ => rfl
    have hn : ∀ w ∈ headW t, (w == tCo) = false := fun w hw => beq_eq_false_iff_ne.mpr (ne_co (head_no ok w hw).1)
    cases hb : t.body with
    | nil =>
      have ew : thW t = headW t := by
        unfold thW
        rw [hb]
        exact List.append_nil _
      refine ite2 (fun e => ?_) (fun _ => ?_)
      · have e : inV (.str tCo) ((thW t).map V.str) = true := e
        rw [co_in, ew, List.any_eq_true] at e
        obtain ⟨w, hw, e⟩ := e
        rw [hn w hw] at e
        cases e
      · refine ⟨_, e0, q1 p H1 (fun _ _ e => e) ?_⟩
        rw [← ew]
        exact hS1
    | cons d ds =>
      have ew : thW t = headW t ++ tCo :: (wordsD d ++ moreW ds) := by
        unfold thW
        rw [hb]
        rfl
      refine ite2 (fun _ => ?_) (fun e => ?_)
      · refine ⟨_, e0, _, e0, tyl hS1, p, _, .str tCo, (headW t).length, .str tCo, rfl, rfl, hS1, rfl, ?_, ?_, ?_, ?_, ?_⟩
        · rw [List.all_map, List.all_eq_true]
          exact fun _ _ => rfl
        · rw [ew, List.getElem?_map, List.getElem?_append_right (Nat.le_refl _), Nat.sub_self]
          rfl
        · rw [eqV_str]
          exact beq_self_eq_true _
        · intro m z' hm hz
          rw [ew, List.getElem?_map, List.getElem?_append_left hm, List.getElem?_eq_getElem hm] at hz
          cases hz
          rw [eqV_str]
          exact hn _ (List.getElem_mem hm)
        · refine ⟨_, rfl, p, _, rfl, hS1, fun r nr => ?_⟩
          rw [cutV_front (by omega), show (((headW t).length : Nat) : Int).toNat = (headW t).length from rfl, ← List.map_take, ew, List.take_left]
          exact q1 r _ (same_upd nr) (SqL.of upd_same)
      · refine absurd ?_ e
        show inV (.str tCo) ((thW t).map V.str) = true
        rw [co_in, ew, List.any_eq_true]
        exact ⟨tCo, by simp, beq_self_eq_true _⟩
  case main =>
    refine ⟨rfl, hS, rfl, hS, ok, fun ph H1 s1 hH => ⟨ph, rfl, rfl, hH, ok, fun v H2 s2 hg => ?_⟩⟩
    have s02 : Same H H2 := s1.trans s2
    have hS2 := SqL.ext hS s02
    have hH2 := SqL.ext hH s2
    have mkR : ∀ (C : Addr), clsK k t.kind = C → t.kind ≠ tFun → ∀ x dx, H2 x = none → H2 dx = none → dx ≠ x → spMk K C t.kind [.ref x, .str t.name, .str t.owner, v] (upd (upd H2 dx (.own x)) x (.ins C dx [])) (fun v H3 => v = .non ∧ Q (.ref x) H3) E := by
      intro C hC nf x dx nx nd ne
      refine mk_init ok.n1 ok.n2 hg (fun H' au' v' so sm ea ua => ?_) nx nd ne
      rw [srt_self so fun zs e => (ok.au zs e).2] at ua
      rw [← hC] at ea
      exact q x H' (s02.trans sm) (th_plain nf ea ua)
    refine ⟨_, rfl, p, _, 0, .str t.kind, rfl, rfl, hS2, atI_nat (j := 0) rfl, rfl, _, rfl, ?_⟩
    refine ite2 (fun e => ?_) (fun e => ?_)
    · have e : t.kind = tRol := by simpa using e
      refine ⟨_, rfl, p, _, 1, .str t.name, rfl, rfl, hS2, atI_nat (j := 1) rfl, _, rfl, p, _, 2, .str t.owner, rfl, rfl, hS2, atI_nat (j := 2) rfl, _, rfl, rfl, rfl, fun x dx nx nd ne => ?_⟩
      have := mkR k.rol (by rw [e, cls_rol]) (fun z => fun_ne (z.symm.trans e)) x dx nx nd ne
      rw [e] at this
      exact this
    have n1 : ¬ t.kind = tRol := fun z => e (by rw [z]; exact decide_eq_true rfl)
    refine ⟨_, rfl, p, _, 0, .str t.kind, rfl, rfl, hS2, atI_nat (j := 0) rfl, rfl, _, rfl, ?_⟩
    refine ite2 (fun e => ?_) (fun e => ?_)
    · have e : t.kind = tTab := by simpa using e
      refine ⟨_, rfl, p, _, 1, .str t.name, rfl, rfl, hS2, atI_nat (j := 1) rfl, _, rfl, p, _, 2, .str t.owner, rfl, rfl, hS2, atI_nat (j := 2) rfl, _, rfl, rfl, rfl, fun x dx nx nd ne => ?_⟩
      have := mkR k.tab (by rw [e, cls_tab]) (fun z => fun_ne2 (z.symm.trans e)) x dx nx nd ne
      rw [e] at this
      exact this
    have n2 : ¬ t.kind = tTab := fun z => e (by rw [z]; exact decide_eq_true rfl)
    have ek : t.kind = tFun := by
      rcases ok.kd with z | z | z
      · exact absurd z n1
      · exact absurd z n2
      · exact z
    have lw := headW_len ok
    have lt := thW_len ok
    refine ⟨⟨_, rfl⟩, _, rfl, _, rfl, ph, _, rfl, .inl hH2, _, 1, rfl, rfl, _, rfl, p, _, rfl, hS2, fun r2 nr2 => ?_⟩
    have ec : cutV ((thW t).map V.str) (some ((((headW t).map V.str).length : Nat) + 1)) none = (tailW t.body).map V.str := by
      rw [cutV_back (by omega), List.length_map, show ((((headW t).length : Nat) : Int) + 1).toNat = (headW t).length + 1 from rfl, ← List.map_drop]
      congr 1
      unfold thW
      rw [← List.drop_drop, List.drop_left, bodyW_tail]
    rw [ec]
    have s3 := same_upd (o := .lst ((tailW t.body).map V.str)) nr2
    have e2 : (upd H2 r2 (.lst ((tailW t.body).map V.str))) r2 = some (.lst ((tailW t.body).map V.str)) := upd_same
    generalize upd H2 r2 (.lst ((tailW t.body).map V.str)) = H3 at s3 e2 ⊢
    have wt : ∀ w ∈ tailW t.body, wOk w := fun w hw => body_w ok.okb w (by rw [← bodyW_tail] at hw; exact List.mem_of_mem_drop hw)
    have lt2 : (tailW t.body).length ≤ 37 := by
      rw [← bodyW_tail, List.length_drop]
      have : (thW t).length = (headW t).length + (bodyW t.body).length := List.length_append
      omega
    refine ⟨_, r2, tailW t.body, rfl, rfl, .inl (SqL.of e2), join_fits wt (by omega) _ (by decide), ⟨_, rfl⟩, _, _, rfl, rfl, by decide +kernel, ?_, fun r3 nr3 => ?_⟩
    · have := txtW_len wt
      exact Nat.le_trans (show (txtW (tailW t.body)).length + 2 ≤ 335 by omega) (by decide)
    rw [parts_split ok.okb]
    have s4 := same_upd (o := .lst ((partsS t.body).map V.str)) nr3
    have e3 : (upd H3 r3 (.lst ((partsS t.body).map V.str))) r3 = some (.lst ((partsS t.body).map V.str)) := upd_same
    generalize upd H3 r3 (.lst ((partsS t.body).map V.str)) = H4 at s4 e3 ⊢
    have l4 := ok.len4
    refine ⟨r3, rfl, ⟨_, SqL.of e3⟩, fun D nD => lc_list (K := K) (xs := (partsS t.body).map V.str) (fun i H' => ∃ as : List Addr, H' D = some (.lst (as.map V.ref)) ∧ Lw H' as ((t.body.map wordsD).take i) ∧ D ∉ as ∧ Same H4 H') ⟨[], upd_same, ⟨rfl, fun i q ws h1 h2 => by cases h1⟩, by simp, same_upd nD⟩ (fun i H' _ h => by
      obtain ⟨_, _, _, _, s5⟩ := h
      exact SqL.of (s5 _ _ e3)) ?_ ?_⟩
    · intro i x H5 hx h
      obtain ⟨as, eD, hL, nas, s5⟩ := h
      obtain ⟨z, hz, rfl⟩ : ∃ z, (partsS t.body)[i]? = some z ∧ x = .str z := by
        rw [List.getElem?_map] at hx
        cases hz : (partsS t.body)[i]? with
        | none => rw [hz] at hx; cases hx
        | some z => rw [hz] at hx; exact ⟨z, rfl, (Option.some.inj hx).symm⟩
      refine ⟨rfl, _, rfl, rfl, _, rfl, ?_⟩
      rcases parts_get hz with ⟨eb, e0, rfl⟩ | ⟨d, hd, rfl⟩
      · refine ite2 (fun e => absurd e ?_) (fun _ => ?_)
        · decide +kernel
        · refine ⟨as, eD, ?_, nas, s5⟩
          rw [eb] at hL ⊢
          rw [List.map_nil, List.take_nil] at hL ⊢
          exact hL
      have okd : okD d := ok.okb d (List.mem_of_getElem? hd)
      refine ite2 (fun _ => ?_) (fun e => absurd ?_ e)
      · refine ⟨_, rfl, ⟨_, rfl⟩, _, _, rfl, rfl, by decide +kernel, ?_, fun q1 nq => ?_⟩
        · have := strD_len okd
          exact Nat.le_trans (show (strD d).length + 2 ≤ 47 by omega) (by decide)
        rw [deed_split okd]
        have s6 := same_upd (o := .lst ((wordsD d).map V.str)) nq
        have e6 : (upd H5 q1 (.lst ((wordsD d).map V.str))) q1 = some (.lst ((wordsD d).map V.str)) := upd_same
        generalize upd H5 q1 (.lst ((wordsD d).map V.str)) = H6 at s6 e6 ⊢
        have nq1 : D ≠ q1 := fun z => by rw [← z, eD] at nq; cases nq
        have hi : i < t.body.length := (List.getElem?_eq_some_iff.mp hd).1
        have nas2 : D ∉ as ++ [q1] := by
          intro z
          rcases List.mem_append.mp z with z | z
          · exact nas z
          · exact nq1 (List.mem_singleton.mp z)
        refine ⟨as.map V.ref, s6 _ _ eD, ?_, as ++ [q1], ?_, ?_, nas2, ?_⟩
        · rw [List.length_map, hL.1, List.length_take, List.length_map]
          exact Nat.lt_of_lt_of_le (show min i t.body.length < 1000 by omega) (by decide)
        · rw [upd_same, List.map_append]
          rfl
        · rw [List.take_add_one, List.getElem?_map, hd]
          exact ((hL.same s6).snoc e6).upd nas2
        · intro y o ey
          rw [upd_ne (fun z => by rw [z, nD] at ey; cases ey)]
          exact s6 _ _ (s5 _ _ ey)
      · show (!decide (V.str (strD d) = V.str (Str.ofString ""))) = true
        rw [decide_eq_false fun z => str_ne okd (V.str.inj z)]
        rfl
    · intro H5 h
      obtain ⟨as, eD, hL, nas, s5⟩ := h
      rw [List.length_map] at hL
      have hL : Lw H5 as (t.body.map wordsD) := by
        have ht : (t.body.map wordsD).take (partsS t.body).length = t.body.map wordsD := by
          unfold partsS
          split
          · rename_i eb
            rw [eb]
            rfl
          · rw [List.length_map, List.take_of_length_le (by rw [List.length_map]; exact Nat.le_refl _)]
        rw [← ht]
        exact hL
      have s05 : Same H H5 := fun x y e => s5 _ _ (s4 _ _ (s3 _ _ (s02 _ _ e)))
      have s25 : Same H2 H5 := fun x y e => s5 _ _ (s4 _ _ (s3 _ _ e))
      have hS5 := SqL.ext hS s05
      have em : ((thW t).map V.str)[3]? = some (.str t.mode) := by
        unfold thW headW
        rw [if_pos ek]
        rfl
      have hl : as.length = t.body.length := by rw [hL.1, List.length_map]
      refine ⟨_, rfl, p, _, 1, .str t.name, rfl, rfl, hS5, atI_nat (j := 1) rfl, _, rfl, p, _, 2, .str t.owner, rfl, rfl, hS5, atI_nat (j := 2) rfl, _, rfl, _, rfl, p, _, 3, .str t.mode, rfl, rfl, hS5, atI_nat (j := 3) em, _, rfl, D, rfl, ⟨_, SqL.of eD⟩, fun D2 nD2 => lc_list (K := K) (xs := as.map V.ref) (fun i H' => ∃ bs, H' D2 = some (.lst bs) ∧ Deeds c H' bs (t.body.take i) ∧ Same H5 H') ⟨[], upd_same, ⟨rfl, fun i x d h1 h2 => by cases h1⟩, same_upd nD2⟩ (fun i H' _ h => by
        obtain ⟨_, _, _, s6⟩ := h
        exact SqL.of (s6 _ _ eD)) ?_ ?_⟩
      · intro i x H6 hx h
        obtain ⟨bs, eD2, hD, s6⟩ := h
        have hi : i < as.length := by
          rw [← List.length_map (f := V.ref)]
          exact (List.getElem?_eq_some_iff.mp hx).1
        have ex : x = .ref as[i] := by
          rw [List.getElem?_map, List.getElem?_eq_getElem hi] at hx
          exact (Option.some.inj hx).symm
        have hi2 : i < t.body.length := by omega
        have ep := hL.2 i as[i] (wordsD t.body[i]) (List.getElem?_eq_getElem hi) (by rw [List.getElem?_map, List.getElem?_eq_getElem hi2]; rfl)
        refine ⟨rfl, ?_⟩
        unfold tYes
        refine iteT ?_
        refine ⟨_, rfl, ?_⟩
        rw [ex]
        refine ⟨_, _, rfl, SqL.of (s6 _ _ ep), ok.okb _ (List.getElem_mem hi2), rfl, fun a H7 s7 na hd => ?_⟩
        refine ⟨bs, s7 _ _ eD2, ?_, bs ++ [.ref a], ?_, ?_, ?_⟩
        · rw [hD.1, List.length_take]
          exact Nat.lt_of_lt_of_le (show min i t.body.length < 1000 by omega) (by decide)
        · rw [upd_same]
        · have n2 : a ≠ D2 := fun z => by rw [z, eD2] at na; cases na
          exact deeds_snoc (s7 _ _ eD2) hi2 (hD.ext s7) hd
        · intro y o ey
          rw [upd_ne (fun z => by rw [z, nD2] at ey; cases ey)]
          exact s7 _ _ (s6 _ _ ey)
      · intro H6 h
        obtain ⟨bs, eD2, hD, s6⟩ := h
        rw [List.length_map, hl, List.take_length] at hD
        have hg6 : GivenC H6 v t.au := given_same hg (fun x y e => s6 _ _ (s25 _ _ e))
        refine ⟨rfl, rfl, fun x dx nx nd ne => ?_⟩
        refine mk_initF ok.n1 ok.n2 hg6 (ok.fn ek).1 (.inl eD2) hD ok.len4 (fun H' au' v' pb ys so sm ea ua epb hd => ?_) nx nd ne
        rw [srt_self so fun zs e => (ok.au zs e).2] at ua
        exact q x H' (fun y o e => sm _ _ (s6 _ _ (s05 _ _ e))) ⟨fun _ => ⟨dx, v', pb, ys, ea, ua, epb, hd⟩, fun n => absurd ek n⟩
end
end K56
set_option maxHeartbeats 8000000
namespace K56
open PySem PySem.Spec PyProof.Rows L2 RL RE RN RM TL RQ RC
/-! ### the top deed that words say -/
section
variable {P : Program} {w : World} {K : PySem.W.Frag} {mg : Str → Option Value} {base : Heap} {f : Addr} {fd : FuncData}
def spMTd (K : PySem.W.Frag) (A : Ad) : Sp := fun vs H Q _ => ∃ (p : Addr) (t : Td), vs = [.ref p] ∧ SqL K H p ((tdW t).map V.str) ∧ okTd t ∧ ∀ a H', Same H H' → TdAt A H' a t → Q (.ref a) H'
theorem ok_made_top {A : Ad} (F : Fun K "_law_made_deed" "_law_made_deed" s__law_made_deed f fd) (M : Mk5 P w K mg base A.c5) (MM : MkMk P w K mg base A.cm A.c A.k) (GM : Df P w K mg base CX0 7 "_law_made_thing" ["_law_words"] (spMT K A.c A.k)) (ml : mg "len" = none) : FnOk P w K mg base CX0 8 f fd ["_law_words"] (spMTd K A) := by
  obtain ⟨f1, fd1, M1, F1, g1, b1⟩ := M.G
  obtain ⟨f2, fd2, M2, F2, g2, b2⟩ := M.T
  obtain ⟨f3, fd3, M3, F3, g3, b3⟩ := M.C
  obtain ⟨f4, fd4, M4, F4, g4, b4⟩ := M.P_
  obtain ⟨f5, fd5, M5, F5, g5, b5⟩ := M.U
  obtain ⟨f6, fd6, M6, F6, g6, b6⟩ := MM.I
  refine F.ok sc__law_made_deed (fun vs H Q E h => by obtain ⟨p, d, rfl, _⟩ := h; rfl) (fun cdv A_ outer s H vs Q E hr h => ?_)
  obtain ⟨p, t, rfl, hS, ok, q⟩ := h
  have hr5 := hr.mono (show 5 ≤ 7 by decide)
  have hr2 := hr.mono (show 2 ≤ 7 by decide)
  refine ⟨_, PSs.nox (pss_cons (ps_set (i := 1) sc__law_made_deed.nd rfl (.inl rfl) (pe_cmpR (op_eqD (hu64 hr)) (pe_slice sl_list (pv 0) (po_some (pe_un un_neg pe_int)) po_none) (pe_lst (pa_cons pe_str pa_nil)) (by rfl)))
    (pss_cons (ps_if (pt_cmpR op_eq (pe_ix ix_list (pv 0) pe_int (fun _ _ => rfl)) pe_str (nomark _)) (pss_one (ps_ret (pe_makeK (n := 3) M1 F1 hr5 (by rfl) g1 b1 pass0 (pa_cons (pe_ix ix_list (pv 0) pe_int (fun _ _ => rfl)) (pa_cons (pe_ix ix_list (pv 0) pe_int (fun _ _ => rfl)) (pa_cons (pe_ix ix_list (pv 0) pe_int (fun _ _ => rfl)) pa_nil))) (pk_cons (pe_cmpR op_gt (pe_callB call_len_seq (by rfl) ml PySem.boot_len (pa_cons (pv 0) pa_nil)) pe_int (nomark _)) pk_nil)))) pss_nil)
    (pss_cons (ps_if (pt_cmpR op_eq (pe_ix ix_list (pv 0) pe_int (fun _ _ => rfl)) pe_str (nomark _))
      (pss_cons (ps_set (i := 2) sc__law_made_deed.nd rfl (.inl rfl) (pe_ifExp (pt_cmpR (op_eqD (hu64 hr)) (pe_slice sl_list (pv 0) (po_some pe_int) (po_some pe_int)) (pe_lst (pa_cons pe_str pa_nil)) (by rfl)) (pe_ix ix_list (pv 0) pe_int (fun _ _ => rfl)) pe_non))
      (pss_cons (ps_set (i := 3) sc__law_made_deed.nd rfl (.inl rfl) (pe_ifExp (pt_cmpR op_isN (pv 2) pe_non (by rfl)) (pe_slice sl_list (pv 0) (po_some pe_int) po_none) (pe_slice sl_list (pv 0) (po_some pe_int) po_none)))
      (pss_one (ps_ret (pe_makeK (n := 3) M2 F2 hr5 (by rfl) g2 b2 pass0 (pa_cons (pe_ix ix_list (pv 0) pe_int (fun _ _ => rfl)) (pa_cons (pe_ix ix_list (pv 0) pe_int (fun _ _ => rfl)) (pa_cons (pe_ix ix_list (pv 0) pe_int (fun _ _ => rfl)) pa_nil))) (pk_cons (pv 2) (pk_cons (pe_cmpR op_in_seq pe_str (pv 3) (by rfl)) (pk_cons (pe_cmpR op_in_seq pe_str (pv 3) (by rfl)) pk_nil)))))))) pss_nil)
    (pss_cons (ps_if (pt_cmpR op_eq (pe_ix ix_list (pv 0) pe_int (fun _ _ => rfl)) pe_str (nomark _)) (pss_one (ps_ret (pe_make M3 F3 hr5 (by rfl) g3 b3 .nil pass0 (pa_cons (pe_ix ix_list (pv 0) pe_int (fun _ _ => rfl)) pa_nil)))) pss_nil)
    (pss_cons (ps_if (pt_cmpR op_eq (pe_ix ix_list (pv 0) pe_int (fun _ _ => rfl)) pe_str (nomark _)) (pss_one (ps_ret (pe_makeK (n := 3) M4 F4 hr5 (by rfl) g4 b4 pass0 (pa_cons (pe_ix ix_list (pv 0) pe_int (fun _ _ => rfl)) (pa_cons (pe_ix ix_list (pv 0) pe_int (fun _ _ => rfl)) (pa_cons (pe_ix ix_list (pv 0) pe_int (fun _ _ => rfl)) pa_nil))) (pk_cons (pe_and (pe_cmpR op_gt (pe_callB call_len_seq (by rfl) ml PySem.boot_len (pa_cons (pv 0) pa_nil)) pe_int (nomark _)) (pe_one (pv 1))) pk_nil)))) pss_nil)
    (pss_cons (ps_if (pt_cmpR op_eq (pe_ix ix_list (pv 0) pe_int (fun _ _ => rfl)) pe_str (nomark _)) (pss_one (ps_ret (pe_make M5 F5 hr5 (by rfl) g5 b5 .nil pass0 (pa_cons (pe_ix ix_list (pv 0) pe_int (fun _ _ => rfl)) (pa_cons (pe_ix ix_list (pv 0) pe_int (fun _ _ => rfl)) pa_nil))))) pss_nil)
    (pss_one (ps_ret (pe_make M6 F6 hr2 (by rfl) g6 b6 .nil pass0 (pa_cons (pe_df0 GM hr (by rfl) (pa_cons (pe_slice sl_list (pv 0) (po_some pe_int) po_none) pa_nil)) pa_nil)))))))))), ?_⟩
  have wok := td_w ok
  have tw : ∀ z ∈ tdW t, txt z := fun z h => w_txt (wok z h)
  obtain ⟨zs, ez, hz⟩ := sub_map (tdW t) (some (-1)) none
  refine ⟨_, rfl, 1, rfl, -1, rfl, p, _, rfl, hS, fun p1 np1 => ?_⟩
  rw [ez]
  have s1 := same_upd (o := .lst (zs.map V.str)) np1
  have e1 : (upd H p1 (.lst (zs.map V.str))) p1 = some (.lst (zs.map V.str)) := upd_same
  generalize upd H p1 (.lst (zs.map V.str)) = H1 at s1 e1 ⊢
  refine ⟨by show 1 ≤ sizeLine; decide, fun p2 np2 => ?_⟩
  have s2 := s1.trans (same_upd (o := .lst [.str tOpt]) np2)
  have e2 : (upd H1 p2 (.lst [.str tOpt])) p2 = some (.lst [.str tOpt]) := upd_same
  have e1 : (upd H1 p2 (.lst [.str tOpt])) p1 = some (.lst (zs.map V.str)) := same_upd np2 _ _ e1
  generalize upd H1 p2 (.lst [.str tOpt]) = H2 at s2 e1 e2 ⊢
  refine ⟨.list (strsP zs), .list (strsP [tOpt]), .lst (SqL.of e1) (strs_all zs), .lst (SqL.of e2) (strs_all [tOpt]), strs_shaped fun y hy => tw y (hz y hy), by decide +kernel, ?_⟩
  rw [strs_eqv]
  have hS2 := SqL.ext hS s2
  have q5 : ∀ (d : K5F.Dm), t = .dm d → ∀ {H3 : Hp}, Same H H3 → ∀ {a dx : Addr}, H3 a = none → H3 dx = none → K5F.spInit K (A.c5 (K5F.clD d)) (K5F.clD d) (.ref a :: K5F.argsD d) (upd (upd H3 dx (.own a)) a (.ins (A.c5 (K5F.clD d)) dx [])) (fun v H4 => v = .non ∧ Q (.ref a) H4) E0 := fun d e H3 s3 a dx na nd => by
    subst e
    exact five_ok (R := fun a H' => Q (.ref a) H') rfl ok (fun a H' sm _ hd => q a H' (s3.trans sm) hd) na nd
  cases t with
  | mk t =>
    have hS2 : SqL K H2 p ((tMk :: thW t).map V.str) := hS2
    refine ⟨_, rfl, p, _, 0, .str tMk, rfl, rfl, hS2, atI_nat (j := 0) rfl, rfl, _, rfl, ?_⟩
    refine ite2 (fun e => absurd e (by decide +kernel)) (fun _ => ?_)
    refine ⟨_, rfl, p, _, 0, .str tMk, rfl, rfl, hS2, atI_nat (j := 0) rfl, rfl, _, rfl, ?_⟩
    refine ite2 (fun e => absurd e (by decide +kernel)) (fun _ => ?_)
    refine ⟨_, rfl, p, _, 0, .str tMk, rfl, rfl, hS2, atI_nat (j := 0) rfl, rfl, _, rfl, ?_⟩
    refine ite2 (fun e => absurd e (by decide +kernel)) (fun _ => ?_)
    refine ⟨_, rfl, p, _, 0, .str tMk, rfl, rfl, hS2, atI_nat (j := 0) rfl, rfl, _, rfl, ?_⟩
    refine ite2 (fun e => absurd e (by decide +kernel)) (fun _ => ?_)
    refine ⟨_, rfl, p, _, 0, .str tMk, rfl, rfl, hS2, atI_nat (j := 0) rfl, rfl, _, rfl, ?_⟩
    refine ite2 (fun e => absurd e (by decide +kernel)) (fun _ => ?_)
    refine ⟨_, rfl, 1, rfl, p, _, rfl, hS2, fun r1 nr1 => ?_⟩
    rw [cutV_back (by decide), show (1 : Int).toNat = 1 from rfl, ← List.map_drop, show (tMk :: thW t).drop 1 = thW t from rfl]
    have s3 := s2.trans (same_upd (o := .lst ((thW t).map V.str)) nr1)
    have e3 : (upd H2 r1 (.lst ((thW t).map V.str))) r1 = some (.lst ((thW t).map V.str)) := upd_same
    generalize upd H2 r1 (.lst ((thW t).map V.str)) = H3 at s3 e3 ⊢
    refine ⟨r1, t, rfl, SqL.of e3, ok.1, fun b H4 s4 hb => ?_⟩
    refine fun x dx nx nd ne => ?_
    refine ⟨x, b, dx, t, rfl, upd_same, hb.same (new_same nx nd), ok.1, ok.2, fun H5 bt e5 => ⟨rfl, ?_⟩⟩
    have s5 := but_new nx nd bt
    exact q x H5 ((s3.trans s4).trans s5) ⟨dx, b, e5, hb.same s5⟩
  | dm d =>
    cases d with
    | give wd tt k o =>
      have hS2 : SqL K H2 p (([Str.ofString "give", wd, tt, k] ++ optW o).map V.str) := hS2
      refine ⟨_, rfl, p, _, 0, .str tGiv, rfl, rfl, hS2, atI_nat (j := 0) rfl, rfl, _, rfl, ?_⟩
      refine ite2 (fun _ => ?_) (fun e => absurd (decide_eq_true rfl) e)
      refine ⟨_, rfl, p, _, 1, .str wd, rfl, rfl, hS2, atI_nat (j := 1) rfl, _, rfl, p, _, 2, .str tt, rfl, rfl, hS2, atI_nat (j := 2) rfl, _, rfl, p, _, 3, .str k, rfl, rfl, hS2, atI_nat (j := 3) rfl, ?_⟩
      refine ⟨_, rfl, p, _, rfl, .inl hS2, _, 4, rfl, rfl, ?_⟩
      have q6 := @q5 _ rfl _ s2
      cases o with
      | true => exact ⟨rfl, rfl, fun x dx nx nd ne => q6 nx nd⟩
      | false => exact ⟨rfl, rfl, fun x dx nx nd ne => q6 nx nd⟩
    | take wd tt k g po cc =>
      have ew : tdW (.dm (.take wd tt k g po cc)) = [Str.ofString "take", wd, tt, k] ++ (gW5 g ++ endW po cc) := take_words ..
      have hS2 : SqL K H2 p (([Str.ofString "take", wd, tt, k] ++ (gW5 g ++ endW po cc)).map V.str) := by rw [← ew]; exact hS2
      rw [ew] at tw
      refine ⟨_, rfl, p, _, 0, .str (Str.ofString "take"), rfl, rfl, hS2, atI_nat (j := 0) rfl, rfl, _, rfl, ?_⟩
      refine ite2 (fun e => absurd e (by decide +kernel)) (fun _ => ?_)
      refine ⟨_, rfl, p, _, 0, .str (Str.ofString "take"), rfl, rfl, hS2, atI_nat (j := 0) rfl, rfl, _, rfl, ?_⟩
      refine ite2 (fun _ => ?_) (fun e => absurd (decide_eq_true rfl) e)
      have q6 := fun {H3} s => @q5 _ rfl H3 (s2.trans s)
      have ec : cutV (([Str.ofString "take", wd, tt, k] ++ (gW5 g ++ endW po cc)).map V.str) (some 4) (some 5) = ((gW5 g ++ endW po cc).take 1).map V.str := by cases g <;> cases po <;> cases cc <;> rfl
      refine ⟨_, rfl, 4, rfl, 5, rfl, p, _, rfl, hS2, fun r1 nr1 => ?_⟩
      rw [ec]
      have s3 := same_upd (o := .lst (((gW5 g ++ endW po cc).take 1).map V.str)) nr1
      have e3 : (upd H2 r1 (.lst (((gW5 g ++ endW po cc).take 1).map V.str))) r1 = some (.lst (((gW5 g ++ endW po cc).take 1).map V.str)) := upd_same
      generalize upd H2 r1 (.lst (((gW5 g ++ endW po cc).take 1).map V.str)) = H3 at s3 e3 ⊢
      refine ⟨by show 1 ≤ sizeLine; decide, fun r2 nr2 => ?_⟩
      have s4 := s3.trans (same_upd (o := .lst [.str tBy]) nr2)
      have e4 : (upd H3 r2 (.lst [.str tBy])) r2 = some (.lst [.str tBy]) := upd_same
      have e3 := same_upd (o := .lst [.str tBy]) nr2 _ _ e3
      generalize upd H3 r2 (.lst [.str tBy]) = H4 at s4 e4 e3 ⊢
      have tz : ∀ z ∈ (gW5 g ++ endW po cc).take 1, txt z := fun z h => tw z (List.mem_append_right _ (List.mem_of_mem_take h))
      refine ⟨.list (strsP ((gW5 g ++ endW po cc).take 1)), .list (strsP [tBy]), .lst (SqL.of e3) (strs_all _), .lst (SqL.of e4) (strs_all [tBy]), strs_shaped tz, by decide +kernel, _, rfl, ?_⟩
      rw [strs_eqv]
      have hS4 := SqL.ext hS2 s4
      cases g with
      | none =>
        have en : decide ((gW5 none ++ endW po cc).take 1 = [tBy]) = false := by cases po <;> cases cc <;> decide +kernel
        rw [en]
        refine iteF ⟨_, rfl, rfl, _, rfl, ?_⟩
        refine iteT ⟨_, rfl, 4, rfl, p, _, rfl, hS4, fun r3 nr3 => ?_⟩
        rw [cutV_back (by decide), show (4 : Int).toNat = 4 from rfl, ← List.map_drop, show ([Str.ofString "take", wd, tt, k] ++ (gW5 none ++ endW po cc)).drop 4 = endW po cc from rfl]
        have s5 := s4.trans (same_upd (o := .lst ((endW po cc).map V.str)) nr3)
        have e5 : (upd H4 r3 (.lst ((endW po cc).map V.str))) r3 = some (.lst ((endW po cc).map V.str)) := upd_same
        generalize upd H4 r3 (.lst ((endW po cc).map V.str)) = H5 at s5 e5 ⊢
        have hS5 := SqL.ext hS2 s5
        refine ⟨_, rfl, p, _, 1, .str wd, rfl, rfl, hS5, atI_nat (j := 1) rfl, _, rfl, p, _, 2, .str tt, rfl, rfl, hS5, atI_nat (j := 2) rfl, _, rfl, p, _, 3, .str k, rfl, rfl, hS5, atI_nat (j := 3) rfl, ?_⟩
        refine ⟨_, rfl, _, rfl, r3, _, rfl, .inl (SqL.of e5), rfl, ?_, ?_⟩
        · rw [List.all_map, List.all_eq_true]
          exact fun _ _ => rfl
        rw [opt_in]
        refine ⟨_, rfl, r3, _, rfl, .inl (SqL.of e5), rfl, ?_, ?_⟩
        · rw [List.all_map, List.all_eq_true]
          exact fun _ _ => rfl
        rw [cas_in]
        exact ⟨rfl, rfl, fun x dx nx nd ne => q6 s5 nx nd⟩
      | some y =>
        have en : decide ((gW5 (some y) ++ endW po cc).take 1 = [tBy]) = true := decide_eq_true rfl
        rw [en]
        refine iteT ⟨_, rfl, p, _, 5, .str y, rfl, rfl, hS4, atI_nat (j := 5) rfl, _, rfl, rfl, _, rfl, ?_⟩
        refine iteF ⟨_, rfl, 6, rfl, p, _, rfl, hS4, fun r3 nr3 => ?_⟩
        rw [cutV_back (by decide), show (6 : Int).toNat = 6 from rfl, ← List.map_drop, show ([Str.ofString "take", wd, tt, k] ++ (gW5 (some y) ++ endW po cc)).drop 6 = endW po cc from rfl]
        have s5 := s4.trans (same_upd (o := .lst ((endW po cc).map V.str)) nr3)
        have e5 : (upd H4 r3 (.lst ((endW po cc).map V.str))) r3 = some (.lst ((endW po cc).map V.str)) := upd_same
        generalize upd H4 r3 (.lst ((endW po cc).map V.str)) = H5 at s5 e5 ⊢
        have hS5 := SqL.ext hS2 s5
        refine ⟨_, rfl, p, _, 1, .str wd, rfl, rfl, hS5, atI_nat (j := 1) rfl, _, rfl, p, _, 2, .str tt, rfl, rfl, hS5, atI_nat (j := 2) rfl, _, rfl, p, _, 3, .str k, rfl, rfl, hS5, atI_nat (j := 3) rfl, ?_⟩
        refine ⟨_, rfl, _, rfl, r3, _, rfl, .inl (SqL.of e5), rfl, ?_, ?_⟩
        · rw [List.all_map, List.all_eq_true]
          exact fun _ _ => rfl
        rw [opt_in]
        refine ⟨_, rfl, r3, _, rfl, .inl (SqL.of e5), rfl, ?_, ?_⟩
        · rw [List.all_map, List.all_eq_true]
          exact fun _ _ => rfl
        rw [cas_in]
        exact ⟨rfl, rfl, fun x dx nx nd ne => q6 s5 nx nd⟩
    | call n =>
      have hS2 : SqL K H2 p ([tCll, n].map V.str) := hS2
      refine ⟨_, rfl, p, _, 0, .str tCll, rfl, rfl, hS2, atI_nat (j := 0) rfl, rfl, _, rfl, ?_⟩
      refine ite2 (fun e => absurd e (by decide +kernel)) (fun _ => ?_)
      refine ⟨_, rfl, p, _, 0, .str tCll, rfl, rfl, hS2, atI_nat (j := 0) rfl, rfl, _, rfl, ?_⟩
      refine ite2 (fun e => absurd e (by decide +kernel)) (fun _ => ?_)
      refine ⟨_, rfl, p, _, 0, .str tCll, rfl, rfl, hS2, atI_nat (j := 0) rfl, rfl, _, rfl, ?_⟩
      refine ite2 (fun _ => ?_) (fun e => absurd (decide_eq_true rfl) e)
      have q6 := @q5 _ rfl _ s2
      exact ⟨_, rfl, p, _, 1, .str n, rfl, rfl, hS2, atI_nat (j := 1) rfl, fun x dx nx nd ne => q6 nx nd⟩
    | preset sd wd k o =>
      have hS2 : SqL K H2 p (([Str.ofString "preset", sd, wd, k] ++ optW o).map V.str) := hS2
      refine ⟨_, rfl, p, _, 0, .str (Str.ofString "preset"), rfl, rfl, hS2, atI_nat (j := 0) rfl, rfl, _, rfl, ?_⟩
      refine ite2 (fun e => absurd e (by decide +kernel)) (fun _ => ?_)
      refine ⟨_, rfl, p, _, 0, .str (Str.ofString "preset"), rfl, rfl, hS2, atI_nat (j := 0) rfl, rfl, _, rfl, ?_⟩
      refine ite2 (fun e => absurd e (by decide +kernel)) (fun _ => ?_)
      refine ⟨_, rfl, p, _, 0, .str (Str.ofString "preset"), rfl, rfl, hS2, atI_nat (j := 0) rfl, rfl, _, rfl, ?_⟩
      refine ite2 (fun e => absurd e (by decide +kernel)) (fun _ => ?_)
      refine ⟨_, rfl, p, _, 0, .str (Str.ofString "preset"), rfl, rfl, hS2, atI_nat (j := 0) rfl, rfl, _, rfl, ?_⟩
      refine ite2 (fun _ => ?_) (fun e => absurd (decide_eq_true rfl) e)
      refine ⟨_, rfl, p, _, 1, .str sd, rfl, rfl, hS2, atI_nat (j := 1) rfl, _, rfl, p, _, 2, .str wd, rfl, rfl, hS2, atI_nat (j := 2) rfl, _, rfl, p, _, 3, .str k, rfl, rfl, hS2, atI_nat (j := 3) rfl, ?_⟩
      have q6 := @q5 _ rfl _ s2
      refine ⟨_, rfl, p, _, rfl, .inl hS2, _, 4, rfl, rfl, _, rfl, ?_⟩
      cases o with
      | true =>
        refine iteT ⟨_, rfl, ?_⟩
        have ezz : zs = [tOpt] := by
          have : (zs.map V.str) = [tOpt].map V.str := ez.symm.trans rfl
          exact List.map_inj_right (fun a b h => V.str.inj h) |>.mp this
        rw [ezz]
        exact ⟨rfl, rfl, fun x dx nx nd ne => q6 nx nd⟩
      | false => exact iteF ⟨rfl, rfl, fun x dx nx nd ne => q6 nx nd⟩
    | use wd tt =>
      have hS2 : SqL K H2 p ([Str.ofString "use", wd, tt].map V.str) := hS2
      refine ⟨_, rfl, p, _, 0, .str (Str.ofString "use"), rfl, rfl, hS2, atI_nat (j := 0) rfl, rfl, _, rfl, ?_⟩
      refine ite2 (fun e => absurd e (by decide +kernel)) (fun _ => ?_)
      refine ⟨_, rfl, p, _, 0, .str (Str.ofString "use"), rfl, rfl, hS2, atI_nat (j := 0) rfl, rfl, _, rfl, ?_⟩
      refine ite2 (fun e => absurd e (by decide +kernel)) (fun _ => ?_)
      refine ⟨_, rfl, p, _, 0, .str (Str.ofString "use"), rfl, rfl, hS2, atI_nat (j := 0) rfl, rfl, _, rfl, ?_⟩
      refine ite2 (fun e => absurd e (by decide +kernel)) (fun _ => ?_)
      refine ⟨_, rfl, p, _, 0, .str (Str.ofString "use"), rfl, rfl, hS2, atI_nat (j := 0) rfl, rfl, _, rfl, ?_⟩
      refine ite2 (fun e => absurd e (by decide +kernel)) (fun _ => ?_)
      refine ⟨_, rfl, p, _, 0, .str (Str.ofString "use"), rfl, rfl, hS2, atI_nat (j := 0) rfl, rfl, _, rfl, ?_⟩
      refine ite2 (fun _ => ?_) (fun e => absurd (decide_eq_true rfl) e)
      have q6 := @q5 _ rfl _ s2
      exact ⟨_, rfl, p, _, 1, .str wd, rfl, rfl, hS2, atI_nat (j := 1) rfl, _, rfl, p, _, 2, .str tt, rfl, rfl, hS2, atI_nat (j := 2) rfl, fun x dx nx nd ne => q6 nx nd⟩
end
end K56
set_option maxHeartbeats 8000000
namespace K56
open PySem PySem.Spec PyProof.Rows L2 RL RE RN RM TL RQ RC
/-! ### one text, one thing -/
theorem wordsD_inj {d d' : Dm} (h : wordsD d = wordsD d') : d = d' := by
  cases d with
  | call n =>
    cases d' with
    | call n' =>
      have h : [tCll, n] = [tCll, n'] := h
      rw [(List.cons.inj (List.cons.inj h).2).1]
    | give r t k o =>
      have h := congrArg List.length h
      have h : 2 = ([tGiv, r, t, k] ++ (if o = true then [tOpt] else [])).length := h
      rw [List.length_append] at h
      have h : 2 = 4 + _ := h
      omega
  | give r t k o =>
    cases d' with
    | call n' =>
      have h := congrArg List.length h
      have h : ([tGiv, r, t, k] ++ (if o = true then [tOpt] else [])).length = 2 := h
      rw [List.length_append] at h
      have h : 4 + _ = 2 := h
      omega
    | give r' t' k' o' =>
      have h : tGiv :: r :: t :: k :: (if o = true then [tOpt] else []) = tGiv :: r' :: t' :: k' :: (if o' = true then [tOpt] else []) := h
      simp only [List.cons.injEq, true_and] at h
      obtain ⟨h1, h2, h3, h4⟩ := h
      have ho : o = o' := by
        cases o <;> cases o' <;> simp at h4 <;> rfl
      rw [h1, h2, h3, ho]
theorem strD_inj {d d' : Dm} (ok : okD d) (ok' : okD d') (h : strD d = strD d') : d = d' := wordsD_inj (by rw [← deed_split ok, ← deed_split ok', h])
theorem strs_inj : ∀ {ds ds' : List Dm}, (∀ d ∈ ds, okD d) → (∀ d ∈ ds', okD d) → ds.map strD = ds'.map strD → ds = ds'
  | [], [], _, _, _ => rfl
  | [], _ :: _, _, _, h => by simp at h
  | _ :: _, [], _, _, h => by simp at h
  | d :: ds, d' :: ds', ok, ok', h => by
    have h : strD d :: ds.map strD = strD d' :: ds'.map strD := h
    rw [strD_inj (ok d (by simp)) (ok' d' (by simp)) (List.cons.inj h).1, strs_inj (fun z hz => ok z (List.mem_cons_of_mem _ hz)) (fun z hz => ok' z (List.mem_cons_of_mem _ hz)) (List.cons.inj h).2]
theorem body_inj {ds ds' : List Dm} (ok : ∀ d ∈ ds, okD d) (ok' : ∀ d ∈ ds', okD d) (h : bodyW ds = bodyW ds') : ds = ds' := by
  cases ds with
  | nil => cases ds' with
    | nil => rfl
    | cons d' ds' => exact absurd h (by simp [bodyW])
  | cons d ds => cases ds' with
    | nil => exact absurd h (by simp [bodyW])
    | cons d' ds' =>
      have h2 : tailW (d :: ds) = tailW (d' :: ds') := by rw [← bodyW_tail, ← bodyW_tail, h]
      have a := parts_split ok
      rw [h2, parts_split ok'] at a
      unfold partsS at a
      rw [if_neg (by simp), if_neg (by simp)] at a
      exact (strs_inj ok' ok a).symm
theorem take_co {us ws : List Str} (h : ∀ w ∈ us, w ≠ tCo) (hw : ws = [] ∨ ∃ r, ws = tCo :: r) : (us ++ ws).takeWhile (fun w => decide (w ≠ tCo)) = us ∧ (us ++ ws).dropWhile (fun w => decide (w ≠ tCo)) = ws := by
  induction us with
  | nil =>
    rcases hw with rfl | ⟨r, rfl⟩
    · exact ⟨rfl, rfl⟩
    · simp
  | cons u us ih =>
    have h1 := h u (by simp)
    obtain ⟨i1, i2⟩ := ih fun w hw => h w (List.mem_cons_of_mem _ hw)
    rw [List.cons_append, List.takeWhile_cons_of_pos (by simpa using h1), List.dropWhile_cons_of_pos (by simpa using h1), i1, i2]
    exact ⟨rfl, rfl⟩
theorem body_case (ds : List Dm) : bodyW ds = [] ∨ ∃ r, bodyW ds = tCo :: r := by
  cases ds with
  | nil => exact .inl rfl
  | cons d ds => exact .inr ⟨_, rfl⟩
theorem auW_inj {u u' : Option (List Str)} (h : auW u = auW u') : u = u' := by
  cases u with
  | none => cases u' with
    | none => rfl
    | some zs => exact absurd h (by simp [auW])
  | some zs => cases u' with
    | none => exact absurd h (by simp [auW])
    | some zs' =>
      have h : tAu :: zs = tAu :: zs' := h
      rw [(List.cons.inj h).2]
theorem au_co {t : Th} (h : okT t) : ∀ w ∈ auW t.au, w ≠ tCo := fun w hw => ne_co (head_no h w (by
  unfold headW
  exact List.mem_append_right _ (List.mem_append_right _ hw))).1
theorem thW_inj {t t' : Th} (ok : okT t) (ok' : okT t') (h : thW t = thW t') : t = t' := by
  have aux : auW t.au ++ bodyW t.body = auW t'.au ++ bodyW t'.body → t.au = t'.au ∧ t.body = t'.body := fun e => by
    have a := take_co (au_co ok) (body_case t.body)
    have b := take_co (au_co ok') (body_case t'.body)
    rw [e, b.1, b.2] at a
    exact ⟨(auW_inj a.1).symm, (body_inj ok'.okb ok.okb a.2).symm⟩
  have e : ∀ t : Th, thW t = t.kind :: t.name :: t.owner :: ((if t.kind = tFun then [t.mode] else []) ++ (auW t.au ++ bodyW t.body)) := fun t => by
    unfold thW headW
    simp [List.append_assoc]
  rw [e, e] at h
  simp only [List.cons.injEq] at h
  obtain ⟨h1, h2, h3, h4⟩ := h
  by_cases k : t.kind = tFun
  · have k' : t'.kind = tFun := by rw [← h1]; exact k
    rw [if_pos k, if_pos k'] at h4
    have h4 : t.mode :: (auW t.au ++ bodyW t.body) = t'.mode :: (auW t'.au ++ bodyW t'.body) := h4
    obtain ⟨h4, h5⟩ := List.cons.inj h4
    obtain ⟨h5, h6⟩ := aux h5
    cases t; cases t'
    simp only at h1 h2 h3 h4 h5 h6
    rw [h1, h2, h3, h4, h5, h6]
  · have k' : ¬ t'.kind = tFun := by rw [← h1]; exact k
    rw [if_neg k, if_neg k'] at h4
    obtain ⟨h5, h6⟩ := aux h4
    have m1 := (ok.no k).1
    have m2 := (ok'.no k').1
    cases t; cases t'
    simp only at h1 h2 h3 h5 h6 m1 m2
    rw [h1, h2, h3, m1, m2, h5, h6]
def refs (as : List Addr) : List V := as.map V.ref
theorem refs_no3 (as : List Addr) : ∀ g m k : Int, refs as ≠ [.int g, .int m, .int k] := fun g m k e => by
  cases as with
  | nil => cases e
  | cons y r => cases e
/-- a list of truths -/
def blsP (bs : List Bool) : List PyData := bs.map PyData.bool
theorem bls_all {K : PySem.W.Frag} {H : Hp} : ∀ bs : List Bool, DpAll K H (bs.map V.bl) (blsP bs)
  | [] => .nil
  | _ :: r => .cons (.bl _) (bls_all r)
theorem bls_lay : ∀ bs : List Bool, PyData.canLayAll0 (blsP bs) = true
  | [] => rfl
  | b :: r => by
    show (PyData.canLay0 (.bool b) && PyData.canLayAll0 (blsP r)) = true
    rw [bls_lay r]
    simp [PyData.canLay0]
theorem bls_depth : ∀ bs : List Bool, PyData.depthAll (blsP bs) = 0
  | [] => rfl
  | _ :: r => by
    show max (PyData.depth _) (PyData.depthAll (blsP r)) = 0
    rw [bls_depth r]; simp [PyData.depth]
theorem bls_shaped (bs : List Bool) : SeqAt.shaped (.list (blsP bs)) = true := by
  simp [SeqAt.shaped, PyData.canLay0, PyData.depth, bls_lay bs, bls_depth]
end K56
set_option maxHeartbeats 8000000
namespace K56
open PySem PySem.Spec PyProof.Rows L2 RL RE RN RM TL RQ RC
/-! ### xs.count(True) -/
def eqkB (k : Bool) (v : Value) : Bool := match v with
  | .bool b => b == k
  | _ => false
theorem bls_vals : ∀ {bs : List Bool} {us : List Value}, Vals (bs.map V.bl) us → us = bs.map Value.bool
  | [], _, .nil => rfl
  | b :: bs, _, .cons r1 r2 => by
    have := bls_vals r2
    cases r1
    rw [this]
    rfl
theorem eqkB_count (k : Bool) (bs : List Bool) : (bs.map Value.bool).countP (eqkB k) = bs.count k := by
  rw [List.countP_map]
  rfl
def rCntB (K : PySem.W.Frag) : V → List V → Hp → VK → Prop := fun x xs H Q => ∃ (p : Addr) (bs : List Bool) (k : Bool), x = .ref p ∧ xs = [.bl k] ∧ SqL K H p (bs.map V.bl) ∧ Q (.int (bs.count k : Nat)) H
theorem mt_lcountB {X : Cx} : MtR X "list.count" (rCntB X.K) := by
  intro pins s σ H x xs v us Q I rx rxs h
  obtain ⟨p, bs, k, rfl, rfl, hs, q⟩ := h
  cases rx
  obtain ⟨u, rfl, ru⟩ := rxs.one
  cases ru
  obtain ⟨its, rv, ⟨⟨cls, dd, data, sl⟩, n, ho, hc, hdn, hd⟩, hlen⟩ := I.list hs
  simp only at hc hd
  subst hc hd
  have hi := bls_vals rv
  refine call_meets PySem.F.slot_list_count ⟨_, ho, rfl⟩ PySem.F.entry_list_count (PySem.F.args_list_count_2 _ _)
    (SeqAt.list_countAt p its.toArray n dd sl (.bool k) (eqkB k)) ⟨ho, fun y hy => ?_, ?_⟩
  · have hy : y ∈ its := by simpa using hy
    rw [hi] at hy
    obtain ⟨b, _, rfl⟩ := List.mem_map.mp hy
    exact SeqAt.EqAt.bool_bool b k
  have ec : its.toArray.toList.countP (eqkB k) = bs.count k := by
    show its.countP (eqkB k) = _
    rw [hi]
    exact eqkB_count k bs
  refine ⟨.int (bs.count k : Nat), H, I.tok _, ⟨s.toks, ?_⟩, q⟩
  show Value.int ((its.toArray.toList.countP (eqkB k) : Nat) : Int) s.toks = Value.int ((bs.count k : Nat) : Int) s.toks
  rw [ec]
/-! ### of which class a deed is -/
def clB : Td → K5F.Cl → Bool
  | .dm d, x => decide (K5F.clD d = x)
  | .mk _, _ => false
def isMk : Td → Bool
  | .dm _ => false
  | .mk _ => true
def clsBs (t : Td) : List Bool := [clB t .give, clB t .take, clB t .call, clB t .preset, clB t .use, isMk t]
theorem cls_one (t : Td) : (clsBs t).count true = 1 := by
  cases t with
  | mk t => rfl
  | dm d => cases d <;> rfl
structure KC (K : PySem.W.Frag) (mg : Str → Option Value) (A : Ad) : Prop where
  t5 : ∀ x, K5F.TyC K (A.c5 x)
  tm : TyC K A.cm
  gG : mg "Give" = some (.ref (A.c5 .give))
  gT : mg "Take" = some (.ref (A.c5 .take))
  gC : mg "Call" = some (.ref (A.c5 .call))
  gP : mg "Preset" = some (.ref (A.c5 .preset))
  gU : mg "Use" = some (.ref (A.c5 .use))
  gM : mg "Make" = some (.ref A.cm)
  k55 : ∀ x y, PySem.W.kitOne K (.ref (A.c5 x)) (.ref (A.c5 y)) = some (decide (x = y))
  k5m : ∀ x, PySem.W.kitOne K (.ref (A.c5 x)) (.ref A.cm) = some false
  km5 : ∀ x, PySem.W.kitOne K (.ref A.cm) (.ref (A.c5 x)) = some false
  kmm : PySem.W.kitOne K (.ref A.cm) (.ref A.cm) = some true
theorem KC.b5 {K : PySem.W.Frag} {mg : Str → Option Value} {A : Ad} (C : KC K mg A) (t : Td) (x : K5F.Cl) : PySem.W.kitOne K (.ref (clsTd A t)) (.ref (A.c5 x)) = some (clB t x) := by
  cases t with
  | dm d => exact C.k55 _ _
  | mk t => exact C.km5 _
theorem KC.bm {K : PySem.W.Frag} {mg : Str → Option Value} {A : Ad} (C : KC K mg A) (t : Td) : PySem.W.kitOne K (.ref (clsTd A t)) (.ref A.cm) = some (isMk t) := by
  cases t with
  | dm d => exact C.k5m _
  | mk t => exact C.kmm
section
variable {P : Program} {w : World} {K : PySem.W.Frag} {mg : Str → Option Value} {base : Heap} {f : Addr} {fd : FuncData}
def spCls (A : Ad) : Sp := fun vs H Q _ => ∃ (a : Addr) (t : Td), vs = [.ref a] ∧ TdAt A H a t ∧ ∀ r H', Same H H' → H' r = some (.lst ((clsBs t).map V.bl)) → Q (.ref r) H'
theorem ok_class {A : Ad} (F : Fun K "_law_class" "_law_class" s__law_class f fd) (C : KC K mg A) (mi : mg "isinstance" = none) : FnOk P w K mg base CX0 1 f fd ["_law_deed_here"] (spCls A) := by
  refine F.ok sc__law_class (fun vs H Q E h => by obtain ⟨a, t, rfl, _⟩ := h; rfl) (fun cdv A_ outer s H vs Q E hr h => ?_)
  obtain ⟨a, t, rfl, hT, q⟩ := h
  refine ⟨_, PSs.nox (pss_cons (ps_set (i := 1) sc__law_class.nd rfl (.inl rfl) (pe_lst (pa_cons (pe_callB call_isi (by rfl) mi boot_isinstance (pa_cons (pv 0) (pa_cons (pe_glob (v := .ref (A.c5 .give)) (by rfl) C.gG rfl) pa_nil))) (pa_cons (pe_callB call_isi (by rfl) mi boot_isinstance (pa_cons (pv 0) (pa_cons (pe_glob (v := .ref (A.c5 .take)) (by rfl) C.gT rfl) pa_nil))) (pa_cons (pe_callB call_isi (by rfl) mi boot_isinstance (pa_cons (pv 0) (pa_cons (pe_glob (v := .ref (A.c5 .call)) (by rfl) C.gC rfl) pa_nil))) pa_nil)))))
    (pss_one (ps_ret (pe_op op_cat (pv 1) (pe_lst (pa_cons (pe_callB call_isi (by rfl) mi boot_isinstance (pa_cons (pv 0) (pa_cons (pe_glob (v := .ref (A.c5 .preset)) (by rfl) C.gP rfl) pa_nil))) (pa_cons (pe_callB call_isi (by rfl) mi boot_isinstance (pa_cons (pv 0) (pa_cons (pe_glob (v := .ref (A.c5 .use)) (by rfl) C.gU rfl) pa_nil))) (pa_cons (pe_callB call_isi (by rfl) mi boot_isinstance (pa_cons (pv 0) (pa_cons (pe_glob (v := .ref A.cm) (by rfl) C.gM rfl) pa_nil))) pa_nil)))))))), ?_⟩
  have ty := hT.ty C.t5 C.tm
  refine ⟨_, rfl, .ref a, .ref (A.c5 .give), _, .ref (A.c5 .give), _, rfl, .own _, ty, C.b5 _ _, _, rfl, .ref a, .ref (A.c5 .take), _, .ref (A.c5 .take), _, rfl, .own _, ty, C.b5 _ _, _, rfl, .ref a, .ref (A.c5 .call), _, .ref (A.c5 .call), _, rfl, .own _, ty, C.b5 _ _, by show 3 ≤ sizeLine; decide, fun p1 np1 => ?_⟩
  have s1 := same_upd (o := .lst [.bl (clB t .give), .bl (clB t .take), .bl (clB t .call)]) np1
  have e1 : (upd H p1 (.lst [.bl (clB t .give), .bl (clB t .take), .bl (clB t .call)])) p1 = some (.lst [.bl (clB t .give), .bl (clB t .take), .bl (clB t .call)]) := upd_same
  generalize upd H p1 (.lst [.bl (clB t .give), .bl (clB t .take), .bl (clB t .call)]) = H1 at s1 e1 ⊢
  have ty := (hT.same s1).ty C.t5 C.tm
  refine ⟨_, rfl, _, rfl, .ref a, .ref (A.c5 .preset), _, .ref (A.c5 .preset), _, rfl, .own _, ty, C.b5 _ _, _, rfl, .ref a, .ref (A.c5 .use), _, .ref (A.c5 .use), _, rfl, .own _, ty, C.b5 _ _, _, rfl, .ref a, .ref A.cm, _, .ref A.cm, _, rfl, .own _, ty, C.bm _, by show 3 ≤ sizeLine; decide, fun p2 np2 => ?_⟩
  have s2 := s1.trans (same_upd (o := .lst [.bl (clB t .preset), .bl (clB t .use), .bl (isMk t)]) np2)
  have e2 : (upd H1 p2 (.lst [.bl (clB t .preset), .bl (clB t .use), .bl (isMk t)])) p2 = some (.lst [.bl (clB t .preset), .bl (clB t .use), .bl (isMk t)]) := upd_same
  have e1 := same_upd (o := .lst [.bl (clB t .preset), .bl (clB t .use), .bl (isMk t)]) np2 _ _ e1
  generalize upd H1 p2 (.lst [.bl (clB t .preset), .bl (clB t .use), .bl (isMk t)]) = H2 at s2 e2 e1 ⊢
  exact ⟨p1, p2, _, _, rfl, rfl, e1, e2, by show 6 ≤ sizeLine; decide, fun r nr => q r _ (s2.trans (same_upd nr)) upd_same⟩
def spRightD (A : Ad) : Sp := fun vs H Q _ => ∃ (p : Addr) (t : Td), vs = [.ref p] ∧ H p = some (.lst ((tdW t).map V.str)) ∧ okTd t ∧ ∀ H', Same H H' → Q (.bl true) H'
theorem ok_rightD {A : Ad} (F : Fun K "_law_right" "_law_right" s__law_right f fd) (D : EqTd P w K mg base A) (DS_ : SD P w K mg base A)
    (GM : Df P w K mg base CX0 8 "_law_made_deed" ["_law_words"] (spMTd K A)) (GR : Df P w K mg base CX0 13 "read_deed" ["text"] (spReadD A)) (GC : Df P w K mg base CX0 1 "_law_class" ["_law_deed_here"] (spCls A))
    (mr : mg "range" = none) (ms : mg "str" = none) : FnOk P w K mg base CX0 14 f fd ["_law_words"] (spRightD A) := by
  refine F.ok sc__law_right (fun vs H Q E h => by obtain ⟨p, t, rfl, _⟩ := h; rfl) (fun cdv A_ outer s H vs Q E hr h => ?_)
  obtain ⟨p, t, rfl, hW, ok, q⟩ := h
  have hr1 := hr.mono (show 1 ≤ 13 by decide)
  have hr5 := hr.mono (show 5 ≤ 13 by decide)
  have hr8 := hr.mono (show 8 ≤ 13 by decide)
  refine ⟨_, PSs.nox (pss_cons (PSW.ps_swap2 (i := 1) (j := 2) (by rfl) sc__law_right.nd rfl rfl (.inl rfl) (.inl rfl) (pe_tup (pa_cons (pe_df0 GM hr8 (by rfl) (pa_cons (pv 0) pa_nil)) (pa_cons (pe_join pe_str (pv 0)) pa_nil))))
    (pss_cons (ps_for PassesOwn.never rfl (pi_range1 (by rfl) mr (pa_cons pe_int pa_nil)) (pg_name (i := 3) sc__law_right.nd rfl (Or.inl rfl))
      (pss_cons (ps_set (i := 4) sc__law_right.nd rfl (.inl rfl) (pe_df0 GR hr (by rfl) (pa_cons (pv 2) pa_nil)))
      (pss_one (ps_if (PW.pt (pw_or (pt_cmpR op_ne (pe_callTy (r := rStrTd A) (call_strTd DS_ hr8) (by rfl) ms PyProof.Rows.boot_str (pa_cons (pv 4) pa_nil)) (pv 2) (by rfl)) (pw_or (pt_cmpR op_ne (pe_callTy (r := rStrTd A) (call_strTd DS_ hr8) (by rfl) ms PyProof.Rows.boot_str (pa_cons (pv 1) pa_nil)) (pv 2) (by rfl)) (pw_or (pt_cmpR (op_neTd D hr5) (pv 4) (pv 1) (by rfl)) (pw_or1 (pt_cmpR (op_neD (hu64 hr)) (pe_df0 GC hr1 (by rfl) (pa_cons (pv 4) pa_nil)) (pe_df0 GC hr1 (by rfl) (pa_cons (pv 1) pa_nil)) (by rfl))))))) (pss_one (ps_ret pe_bl)) pss_nil))))
    (pss_one (ps_ret (pe_cmpR op_eq (pe_bm PySem.F.plainAttrs_list PySem.F.slot_list_count PySem.F.type_list_count mt_lcountB (pe_df0 GC hr1 (by rfl) (pa_cons (pv 1) pa_nil)) (pa_cons pe_bl pa_nil)) pe_int (by rfl)))))), ?_⟩
  have wt := td_w ok
  have lt := td_len ok
  refine ⟨_, rfl, p, t, rfl, SqL.of hW, ok, fun a H1 s1 ha => ?_⟩
  refine ⟨⟨_, rfl⟩, _, rfl, _, p, tdW t, rfl, rfl, .inl (SqL.of (s1 _ _ hW)), join_fits wt (by omega) _ (by decide), by show 2 ≤ sizeLine; decide, fun pt npt => ?_⟩
  have s2 := s1.trans (same_upd (o := .tup [.ref a, .str (txtW (tdW t))]) npt)
  have ha := ha.same (same_upd (o := .tup [.ref a, .str (txtW (tdW t))]) npt)
  have e2 : (upd H1 pt (.tup [.ref a, .str (txtW (tdW t))])) pt = some (.tup [.ref a, .str (txtW (tdW t))]) := upd_same
  have ej : Txt.join (Str.ofString " ") (tdW t) = txtW (tdW t) := rfl
  rw [ej]
  generalize upd H1 pt (.tup [.ref a, .str (txtW (tdW t))]) = H2 at s2 e2 ha ⊢
  refine ⟨pt, _, _, rfl, SqT.of e2, ?_⟩
  have SH := bls_shaped (clsBs t)
  refine ⟨2, rfl, by decide, by decide, for_range (lo := 0) (n := 2) (fun i σ H' => ∃ y3 y4, σ = [some (.ref p), some (.ref a), some (.str (txtW (tdW t))), y3, y4] ∧ Same H2 H') ⟨_, _, rfl, fun _ _ e => e⟩ ?_ ?_⟩
  · intro i σ H3 hi h
    obtain ⟨y3, y4, rfl, s3⟩ := h
    refine ⟨_, rfl, t, rfl, ok, fun a2 H4 s4 hn2 => ?_⟩
    have ha2 := hn2.at_
    refine ⟨_, rfl, a2, t, rfl, ha2, ok, fun H5 s5 => ⟨_, rfl, rfl, _, rfl, ?_⟩⟩
    refine ite2 (fun e => absurd e (by simp)) (fun _ => ?_)
    refine ⟨_, rfl, a, t, rfl, ((ha.same s3).same s4).same s5, ok, fun H6 s6 => ⟨_, rfl, rfl, _, rfl, ?_⟩⟩
    refine ite2 (fun e => absurd e (by simp)) (fun _ => ?_)
    have s26 : Same H2 H6 := fun x y e => s6 _ _ (s5 _ _ (s4 _ _ (s3 _ _ e)))
    have ha6 := ha.same s26
    have ha26 := (ha2.same s5).same s6
    refine ⟨_, rfl, _, rfl, _, ⟨a2, a, t, t, rfl, rfl, ha26, ha6, ok, ok, rfl⟩, fun H7 s7 => ⟨_, rfl, ?_⟩⟩
    rw [decide_eq_true (rfl : t = t)]
    refine iteF ?_
    have s27 : Same H2 H7 := fun x y e => s7 _ _ (s26 _ _ e)
    refine ⟨_, rfl, a2, t, rfl, ha26.same s7, fun r1 H8 s8 er1 => ?_⟩
    refine ⟨_, rfl, a, t, rfl, (ha.same s27).same s8, fun r2 H9 s9 er2 => ?_⟩
    refine ⟨.list (blsP (clsBs t)), .list (blsP (clsBs t)), .lst (SqL.of (s9 _ _ er1)) (bls_all _), .lst (SqL.of er2) (bls_all _), SH, SH, _, rfl, ?_⟩
    rw [SeqAt.eqv_refl _ (SeqAt.canLay_of_shaped SH)]
    refine iteF ?_
    exact ⟨_, _, rfl, fun x y e => s9 _ _ (s8 _ _ (s27 _ _ e))⟩
  · intro σ H3 h
    obtain ⟨y3, y4, rfl, s3⟩ := h
    refine ⟨_, rfl, a, t, rfl, ha.same s3, fun r H4 s4 er => ?_⟩
    refine ⟨.inl ⟨rfl, _, .inl (.inl er)⟩, r, clsBs t, true, rfl, rfl, SqL.of er, rfl, ?_⟩
    rw [cls_one]
    exact q H4 ((s2.trans s3).trans s4)
end
end K56
set_option maxHeartbeats 8000000
namespace K56
open PySem PySem.Spec PyProof.Rows L2 RL RE RN RM TL RQ RC
/-! ### one text, one deed -/
theorem hd_ne {a b : Str} {xs ys : List Str} (h : a :: xs = b :: ys) (n : a ≠ b) : False := n (List.cons.inj h).1
theorem opt_inj {o o' : Bool} {w : Str} (h : K5F.opt o w = K5F.opt o' w) : o = o' := by
  cases o <;> cases o' <;> first | rfl | cases h
theorem endg_inj {g g' : Option Str} {p p' c c' : Bool} (h : gW5 g ++ endW p c = gW5 g' ++ endW p' c') : g = g' ∧ p = p' ∧ c = c' := by
  have n1 : tBy ≠ tOpt := by decide +kernel
  have n2 : tBy ≠ tCas := by decide +kernel
  have n3 : tOpt ≠ tCas := by decide +kernel
  cases g <;> cases g' <;> cases p <;> cases p' <;> cases c <;> cases c' <;> simp [gW5, endW, n1, n2, n3, n1.symm, n2.symm, n3.symm] at h ⊢ <;> exact h
theorem d5_inj {d d' : K5F.Dm} (h : K5F.wordsD d = K5F.wordsD d') : d = d' := by
  cases d with
  | give w t k o =>
    cases d' with
    | give w' t' k' o' =>
      have h : Str.ofString "give" :: w :: t :: k :: K5F.opt o tOpt = Str.ofString "give" :: w' :: t' :: k' :: K5F.opt o' tOpt := h
      simp only [List.cons.injEq, true_and] at h
      obtain ⟨h1, h2, h3, h4⟩ := h
      rw [h1, h2, h3, opt_inj h4]
    | take => exact (hd_ne h (by decide +kernel)).elim
    | call => exact (hd_ne h (by decide +kernel)).elim
    | preset => exact (hd_ne h (by decide +kernel)).elim
    | use => exact (hd_ne h (by decide +kernel)).elim
  | take w t k g p c =>
    cases d' with
    | take w' t' k' g' p' c' =>
      rw [take_words, take_words] at h
      have h : Str.ofString "take" :: w :: t :: k :: (gW5 g ++ endW p c) = Str.ofString "take" :: w' :: t' :: k' :: (gW5 g' ++ endW p' c') := h
      simp only [List.cons.injEq, true_and] at h
      obtain ⟨h1, h2, h3, h4⟩ := h
      obtain ⟨h4, h5, h6⟩ := endg_inj h4
      rw [h1, h2, h3, h4, h5, h6]
    | give => rw [take_words] at h; exact (hd_ne h (by decide +kernel)).elim
    | call => rw [take_words] at h; exact (hd_ne h (by decide +kernel)).elim
    | preset => rw [take_words] at h; exact (hd_ne h (by decide +kernel)).elim
    | use => rw [take_words] at h; exact (hd_ne h (by decide +kernel)).elim
  | call n =>
    cases d' with
    | call n' =>
      have h : [tCll, n] = [tCll, n'] := h
      rw [(List.cons.inj (List.cons.inj h).2).1]
    | give => exact (hd_ne h (by decide +kernel)).elim
    | take => rw [take_words] at h; exact (hd_ne h (by decide +kernel)).elim
    | preset => exact (hd_ne h (by decide +kernel)).elim
    | use => exact (hd_ne h (by decide +kernel)).elim
  | preset s w k o =>
    cases d' with
    | preset s' w' k' o' =>
      have h : Str.ofString "preset" :: s :: w :: k :: K5F.opt o tOpt = Str.ofString "preset" :: s' :: w' :: k' :: K5F.opt o' tOpt := h
      simp only [List.cons.injEq, true_and] at h
      obtain ⟨h1, h2, h3, h4⟩ := h
      rw [h1, h2, h3, opt_inj h4]
    | give => exact (hd_ne h (by decide +kernel)).elim
    | take => rw [take_words] at h; exact (hd_ne h (by decide +kernel)).elim
    | call => exact (hd_ne h (by decide +kernel)).elim
    | use => exact (hd_ne h (by decide +kernel)).elim
  | use w t =>
    cases d' with
    | use w' t' =>
      have h : [Str.ofString "use", w, t] = [Str.ofString "use", w', t'] := h
      simp only [List.cons.injEq, true_and, and_true] at h
      rw [h.1, h.2]
    | give => exact (hd_ne h (by decide +kernel)).elim
    | take => rw [take_words] at h; exact (hd_ne h (by decide +kernel)).elim
    | call => exact (hd_ne h (by decide +kernel)).elim
    | preset => exact (hd_ne h (by decide +kernel)).elim
theorem mk_head (d : K5F.Dm) (t : Th) : K5F.wordsD d ≠ tMk :: thW t := by
  intro h
  cases d with
  | take => rw [take_words] at h; exact (hd_ne h (by decide +kernel)).elim
  | give => exact (hd_ne h (by decide +kernel)).elim
  | call => exact (hd_ne h (by decide +kernel)).elim
  | preset => exact (hd_ne h (by decide +kernel)).elim
  | use => exact (hd_ne h (by decide +kernel)).elim
theorem tdW_inj {t t' : Td} (ok : okTd t) (ok' : okTd t') (h : tdW t = tdW t') : t = t' := by
  cases t with
  | dm d =>
    cases t' with
    | dm d' => rw [d5_inj h]
    | mk t' => exact (mk_head _ _ h).elim
  | mk t =>
    cases t' with
    | dm d' => exact (mk_head _ _ h.symm).elim
    | mk t' => rw [thW_inj ok.1 ok'.1 (List.cons.inj h).2]
/-- lists of words at hand -/
def Ws (H : Hp) (rs : List Addr) (ts : List Td) : Prop := rs.length = ts.length ∧ ∀ (i : Nat) r t, rs[i]? = some r → ts[i]? = some t → okTd t ∧ H r = some (.lst ((tdW t).map V.str))
theorem Ws.imp {H H' : Hp} {rs : List Addr} {ts : List Td} (h : Ws H rs ts) (k : ∀ r (ws : List Str), r ∈ rs → H r = some (.lst (ws.map V.str)) → H' r = some (.lst (ws.map V.str))) : Ws H' rs ts :=
  ⟨h.1, fun i r t h1 h2 => ⟨(h.2 i r t h1 h2).1, k r _ (List.mem_of_getElem? h1) (h.2 i r t h1 h2).2⟩⟩
theorem Ws.keep {H H' : Hp} {b : Addr} {n : Int} {rs : List Addr} {ts : List Td} (h : Ws H rs ts) (k : Keep b H H') (hb : Bx H b n) : Ws H' rs ts := h.imp fun r ws _ e => k _ _ (lst_ne hb e (strs_no3 ws)) e
theorem Ws.same {H H' : Hp} {rs : List Addr} {ts : List Td} (h : Ws H rs ts) (s : Same H H') : Ws H' rs ts := h.imp fun r ws _ e => s _ _ e
theorem Ws.upd {H : Hp} {rs : List Addr} {ts : List Td} {D : Addr} {o : HO} (h : Ws H rs ts) (n : D ∉ rs) : Ws (L2.upd H D o) rs ts := h.imp fun r ws hr e => by rw [upd_ne (fun z => n (by rw [← z]; exact hr))]; exact e
theorem Ws.snoc {H : Hp} {rs : List Addr} {ts : List Td} {r : Addr} {t : Td} (h : Ws H rs ts) (ok : okTd t) (e : H r = some (.lst ((tdW t).map V.str))) : Ws H (rs ++ [r]) (ts ++ [t]) := by
  refine ⟨by rw [List.length_append, List.length_append, h.1]; rfl, fun i p u h1 h2 => ?_⟩
  by_cases hi : i < rs.length
  · rw [List.getElem?_append_left hi] at h1
    rw [List.getElem?_append_left (by rw [← h.1]; exact hi)] at h2
    exact h.2 i p u h1 h2
  · rw [List.getElem?_append_right (by omega)] at h1
    rw [List.getElem?_append_right (by rw [← h.1]; omega), ← h.1] at h2
    cases hj : i - rs.length with
    | zero =>
      rw [hj] at h1 h2
      have h1 : some r = some p := h1
      have h2 : some t = some u := h2
      cases h1
      cases h2
      exact ⟨ok, e⟩
    | succ j => rw [hj] at h1; simp at h1
/-- things at hand -/
def Ths (A : Ad) (H : Hp) (as : List Addr) (ts : List Td) : Prop := as.length = ts.length ∧ ∀ (i : Nat) a t, as[i]? = some a → ts[i]? = some t → TdAt A H a t
theorem Ths.imp {A : Ad} {H H' : Hp} {as : List Addr} {ts : List Td} (h : Ths A H as ts) (g : ∀ a t, TdAt A H a t → TdAt A H' a t) : Ths A H' as ts := ⟨h.1, fun i a t h1 h2 => g _ _ (h.2 i a t h1 h2)⟩
theorem Ths.ext {A : Ad} {H H' : Hp} {as : List Addr} {ts : List Td} (h : Ths A H as ts) (s : Ext H H') : Ths A H' as ts := h.imp fun _ _ z => z.same s
theorem Ths.snoc {A : Ad} {H : Hp} {as : List Addr} {ts : List Td} {a : Addr} {t : Td} (h : Ths A H as ts) (e : TdAt A H a t) : Ths A H (as ++ [a]) (ts ++ [t]) := by
  refine ⟨by rw [List.length_append, List.length_append, h.1]; rfl, fun i p u h1 h2 => ?_⟩
  by_cases hi : i < as.length
  · rw [List.getElem?_append_left hi] at h1
    rw [List.getElem?_append_left (by rw [← h.1]; exact hi)] at h2
    exact h.2 i p u h1 h2
  · rw [List.getElem?_append_right (by omega)] at h1
    rw [List.getElem?_append_right (by rw [← h.1]; omega), ← h.1] at h2
    cases hj : i - as.length with
    | zero =>
      rw [hj] at h1 h2
      have h1 : some a = some p := h1
      have h2 : some t = some u := h2
      cases h1
      cases h2
      exact e
    | succ j => rw [hj] at h1; simp at h1
/-- things at hand, whatever stands in the list D -/
def ThD (A : Ad) (H : Hp) (D : Addr) (as : List Addr) (ts : List Td) : Prop := as.length = ts.length ∧ ∀ (i : Nat) a t, as[i]? = some a → ts[i]? = some t → ∀ ys, TdAt A (L2.upd H D (.lst ys)) a t
theorem ThD.same {A : Ad} {H H' : Hp} {D : Addr} {as : List Addr} {ts : List Td} (h : ThD A H D as ts) (s : Same H H') : ThD A H' D as ts := ⟨h.1, fun i a t h1 h2 ys => (h.2 i a t h1 h2 ys).same (same_both s)⟩
theorem upd_upd {H : Hp} {D : Addr} {o o' : HO} : L2.upd (L2.upd H D o) D o' = L2.upd H D o' := by
  funext y
  by_cases z : y = D
  · rw [z, upd_same, upd_same]
  · rw [upd_ne z, upd_ne z, upd_ne z]
theorem upd_self {H : Hp} {D : Addr} {o : HO} (e : H D = some o) : L2.upd H D o = H := by
  funext y
  by_cases z : y = D
  · rw [z, upd_same, e]
  · rw [upd_ne z]
theorem ThD.upd {A : Ad} {H : Hp} {D : Addr} {as : List Addr} {ts : List Td} {xs : List V} (h : ThD A H D as ts) : ThD A (L2.upd H D (.lst xs)) D as ts := ⟨h.1, fun i a t h1 h2 ys => by rw [upd_upd]; exact h.2 i a t h1 h2 ys⟩
theorem ThD.ths {A : Ad} {H : Hp} {D : Addr} {as : List Addr} {ts : List Td} {xs : List V} (h : ThD A H D as ts) (e : H D = some (.lst xs)) : Ths A H as ts := ⟨h.1, fun i a t h1 h2 => by
  have := h.2 i a t h1 h2 xs
  rw [upd_self e] at this
  exact this⟩
theorem ThD.snoc {A : Ad} {H : Hp} {D : Addr} {as : List Addr} {ts : List Td} {a : Addr} {t : Td} (h : ThD A H D as ts) (e : ∀ ys, TdAt A (L2.upd H D (.lst ys)) a t) : ThD A H D (as ++ [a]) (ts ++ [t]) := by
  refine ⟨by rw [List.length_append, List.length_append, h.1]; rfl, fun i p u h1 h2 => ?_⟩
  by_cases hi : i < as.length
  · rw [List.getElem?_append_left hi] at h1
    rw [List.getElem?_append_left (by rw [← h.1]; exact hi)] at h2
    exact h.2 i p u h1 h2
  · rw [List.getElem?_append_right (by omega)] at h1
    rw [List.getElem?_append_right (by rw [← h.1]; omega), ← h.1] at h2
    cases hj : i - as.length with
    | zero =>
      rw [hj] at h1 h2
      have h1 : some a = some p := h1
      have h2 : some t = some u := h2
      cases h1
      cases h2
      exact e
    | succ j => rw [hj] at h1; simp at h1
def tJoin (K : PySem.W.Frag) (to te : TE) : TE := tM1 (fun x xs H Q => ∃ (a : Str) (p : Addr) (ys : List Str), x = V.str a ∧ xs = [V.ref p] ∧ (SqL K H p (List.map V.str ys) ∨ SqT K H p (List.map V.str ys)) ∧ (List.map (fun x => x.length) ys).sum + ys.length * a.length ≤ 16777216 ∧ Q (V.str (Txt.join a ys)) H) to te
theorem ref_get {as : List Addr} {i : Nat} {x : V} (h : (refs as)[i]? = some x) : ∃ a, as[i]? = some a ∧ x = .ref a := by
  unfold refs at h
  rw [List.getElem?_map] at h
  cases e : as[i]? with
  | none => rw [e] at h; cases h
  | some a => rw [e] at h; exact ⟨a, rfl, (Option.some.inj h).symm⟩
theorem len_get {α β : Type} {as : List α} {ts : List β} {i : Nat} {a : α} (hl : as.length = ts.length) (h : as[i]? = some a) : ∃ t, ts[i]? = some t := by
  have hi := (List.getElem?_eq_some_iff.mp h).1
  exact ⟨ts[i]'(by omega), List.getElem?_eq_getElem (by omega)⟩
section
variable {P : Program} {w : World} {K : PySem.W.Frag} {mg : Str → Option Value} {base : Heap} {f : Addr} {fd : FuncData}
def spLaw (K : PySem.W.Frag) : Sp := fun vs H Q _ => ∃ (a : Addr) (ns : List Int), vs = [.ref a] ∧ SqL K H a (ns.map V.int) ∧ ns.length ≤ 63 ∧ ∀ H', Q (.bl true) H'
theorem ok_law {A : Ad} (F : Fun K "law" "law" s_law f fd) (D : EqTd P w K mg base A)
    (GC : Df P w K mg base CX0 1 "_law_cell" ["_law_script", "_law_k"] (spCell K)) (GB : Df P w K mg base CX0 1 "_law_box" ["_law_cell_here"] spBox) (GT : Df P w K mg base CX0 1 "_law_take" ["_law_box_here", "_law_many"] spTake)
    (GN : Df P w K mg base CX0 3 "_law_names" ["_law_box_here", "_law_many"] spNm) (GH : Df P w K mg base CX0 4 "_law_deed" ["_law_box_here", "_law_names_here"] spLD)
    (GG : Df P w K mg base CX0 14 "_law_right" ["_law_words"] (spRightD A)) (GR : Df P w K mg base CX0 13 "read_deed" ["text"] (spReadD A))
    (mr : mg "range" = none) (mx : mg "max" = none) (mn : mg "min" = none) (ml : mg "len" = none) (mz : mg "zip" = none) :
    FnOk P w K mg base CX0 15 f fd ["_law_script"] (spLaw K) := by
  refine F.ok sc_law (fun vs H Q E h => by obtain ⟨a, ns, rfl, _⟩ := h; rfl) (fun cdv A_ outer s H vs Q E hr h => ?_)
  obtain ⟨a, ns, rfl, hS, hl, q⟩ := h
  have hr1 := hr.mono (show 1 ≤ 14 by decide)
  have hr3 := hr.mono (show 3 ≤ 14 by decide)
  have hr4 := hr.mono (show 4 ≤ 14 by decide)
  have hr13 := hr.mono (show 13 ≤ 14 by decide)
  refine ⟨_, PSs.nox (pss_cons (ps_for PassesOwn.never rfl (pi_range1 (by rfl) mr (pa_cons (pe_callB (call_max2 rfl) (by rfl) mx PyProof.Rows.boot_max (pa_cons pe_int (pa_cons (pe_callB (call_min2 rfl) (by rfl) mn PyProof.Rows.boot_min (pa_cons pe_int (pa_cons (pe_callB call_len_seq (by rfl) ml PySem.boot_len (pa_cons (pv 0) pa_nil)) pa_nil))) pa_nil))) pa_nil)) (pg_name (i := 1) sc_law.nd rfl (.inl rfl))
      (pss_cons (ps_set (i := 2) sc_law.nd rfl (.inr rfl) (pe_df0 GB hr1 (by rfl) (pa_cons (pe_df0 GC hr1 (by rfl) (pa_cons (pv 0) (pa_cons (pv 1) pa_nil))) pa_nil)))
      (pss_cons (ps_set (i := 3) sc_law.nd rfl (.inr rfl) (pe_df0 GN hr3 (by rfl) (pa_cons (pv 2) (pa_cons (pe_op op_add pe_int (pe_df0 GT hr1 (by rfl) (pa_cons (pv 2) (pa_cons pe_int pa_nil)))) pa_nil))))
      (pss_cons (ps_setLc (i := 4) (own := [("_law_turn", 7)]) (g := gName 7) (by rfl) sc_law.nd rfl rfl (sw_true rfl rfl rfl (by decide +kernel)) (pi_range1 (by rfl) mr (pa_cons pe_int pa_nil))
        (blkOk_by (own := [("_law_turn", 7)]) (N := N_law) (sc := defScope s_law) (by decide +kernel)) (fun _ _ _ _ _ => pg_name (i := 7) sc_law.nd rfl (Or.inl rfl)) (fun _ _ _ _ _ => pts_nil)
        (fun _ _ _ _ _ => pe_df0 GH hr4 (by rfl) (pa_cons (pv 2) (pa_cons (pv 3) pa_nil))))
      (pss_cons (ps_if (pt_cmpR (op_neD (hu64 hr)) (pe_lc (own := [("_law_words", 8)]) (g := gName 8) (by rfl) sc_law.nd (pi_list (pv 4))
          (blkOk_by (own := [("_law_words", 8)]) (N := N_law) (sc := defScope s_law) (by decide +kernel)) (fun _ _ _ _ _ => pg_name (i := 8) sc_law.nd rfl (Or.inl rfl)) (fun _ _ _ _ _ => pts_one (pt_not (pt_val (pe_df0 GG hr (by rfl) (pa_cons (pv 8) pa_nil)))))
          (fun _ _ _ _ _ => pv 8)) (pe_lst pa_nil) (by rfl)) (pss_one (ps_ret pe_bl)) pss_nil)
      (pss_cons (ps_setLc (i := 5) (own := [("_law_words", 8)]) (g := gName 8) (by rfl) sc_law.nd rfl rfl (sw_true rfl rfl rfl (by decide +kernel)) (pi_list (pv 4))
        (blkOk_by (own := [("_law_words", 8)]) (N := N_law) (sc := defScope s_law) (by decide +kernel)) (fun _ _ _ _ _ => pg_name (i := 8) sc_law.nd rfl (Or.inl rfl)) (fun _ _ _ _ _ => pts_nil)
        (fun _ _ _ _ _ => pe_df0 GR hr13 (by rfl) (pa_cons (show PE _ _ (tJoin K _ _) from pe_join pe_str (pv 8)) pa_nil)))
      (pss_one (ps_for PassesOwn.never rfl (pi_zip (by rfl) mz (pa_cons (pv 4) (pa_cons (pv 5) pa_nil))) (pg_tup (by rfl) (pgs_cons (pg_name (i := 8) sc_law.nd rfl (.inr rfl)) (pgs_cons (pg_name (i := 6) sc_law.nd rfl (.inr rfl)) pgs_nil)))
        (pss_one (ps_if (pt_cmpR (op_neD (hu64 hr)) (pe_lc (own := [("_law_one", 9)]) (g := gName 9) (by rfl) sc_law.nd (pi_list (pv 5))
            (blkOk_by (own := [("_law_one", 9)]) (N := N_law) (sc := defScope s_law) (by decide +kernel)) (fun _ _ _ _ _ => pg_name (i := 9) sc_law.nd rfl (Or.inl rfl)) (fun _ _ _ _ _ => pts_nil)
            (fun _ _ _ _ _ => pe_cmpR (r := rEqB (DTd A)) (op_eqB (rcBTd D) hr4) (pv 9) (pv 6) (by rfl)))
          (pe_lc (own := [("_law_one", 9)]) (g := gName 9) (by rfl) sc_law.nd (pi_list (pv 4))
            (blkOk_by (own := [("_law_one", 9)]) (N := N_law) (sc := defScope s_law) (by decide +kernel)) (fun _ _ _ _ _ => pg_name (i := 9) sc_law.nd rfl (Or.inl rfl)) (fun _ _ _ _ _ => pts_nil)
            (fun _ _ _ _ _ => pe_cmpR (r := rEqD K) (op_eqD (hu64 hr)) (pv 9) (pv 8) (by rfl))) (by rfl)) (pss_one (ps_ret pe_bl)) pss_nil))))))))))
    (pss_one (ps_ret pe_bl))), ?main⟩
  case main =>
    refine ⟨_, rfl, a, ns.map V.int, rfl, .inl hS, 12, _, rfl, 2, _, rfl, ?_⟩
    obtain ⟨M, eM, m0, m1⟩ : ∃ M : Int, (if (if (((ns.map V.int).length : Nat) : Int) < 12 then (((ns.map V.int).length : Nat) : Int) else 12) > 2 then (if (((ns.map V.int).length : Nat) : Int) < 12 then (((ns.map V.int).length : Nat) : Int) else 12) else 2) = M ∧ 0 ≤ M ∧ M ≤ 12 := ⟨_, rfl, by split <;> (try split) <;> omega, by split <;> (try split) <;> omega⟩
    rw [eM]
    refine ⟨M, rfl, by omega, by omega, for_range (lo := 0) (n := M.toNat) (fun i σ H' => ∃ y1 y2 y3 y4 y5 y6 y7 y8 y9, σ = [some (.ref a), y1, y2, y3, y4, y5, y6, y7, y8, y9] ∧ SqL K H' a (ns.map V.int)) ⟨_, _, _, _, _, _, _, _, _, rfl, hS⟩ ?_ ?_⟩
    · intro i_ σ H0 hi h0
      obtain ⟨y1, y2, y3, y4, y5, y6, y7, y8, y9, rfl, hS0⟩ := h0
      refine ⟨_, rfl, _, rfl, a, ns, i_, by rw [Int.zero_add]; rfl, hS0, by omega, by omega, fun v => ⟨v, rfl, fun b H1 nb s1 hb1 => ?_⟩⟩
      have fin : ∀ H', Keep b H1 H' → SqL K H' a (ns.map V.int) := fun H' k2 => hS0.imp (fun h => h.imp (fun e => k2 _ _ (fun z => by rw [z, nb] at e; cases e) (s1 _ _ e)) fun ⟨o, e⟩ => ⟨o, k2 _ _ (fun z => by rw [z, nb] at e; cases e) (s1 _ _ e)⟩) id
      refine ⟨_, rfl, _, rfl, b, 9, 0, rfl, by decide, by decide, by decide, by decide, hb1, fun d H2 d0 d9 k2 hb2 => ?_⟩
      refine ⟨1, d, rfl, rfl, b, 1 + d.toNat, 0 + 1, by show [V.ref b, V.int (1 + d)] = [V.ref b, V.int ((1 + d.toNat : Nat) : Int)]; rw [show (1 + d : Int) = ((1 + d.toNat : Nat) : Int) by omega], by omega, by omega, by decide, by decide, hb2, fun pN ys H3 ly nd oky npN eN k3 hb3 => ?_⟩
      have hN : Nm H3 pN ys := ⟨eN, by omega, by omega, nd, oky⟩
      have k13 := k2.trans k3
      refine ⟨8, rfl, by decide, by decide, fun L nL => ?_⟩
      have nLb := ne_box hb3 nL
      refine lc_range (lo := 0) (n := 8) (fun i H' => ∃ rs ts, H' L = some (.lst (refs rs)) ∧ ts.length = i ∧ Ws H' rs ts ∧ L ∉ rs ∧ Keep b H3 H' ∧ Bx H' b (41 + 100 * (i : Int))) ⟨[], [], upd_same, rfl, ⟨rfl, fun i r t h1 h2 => by cases h1⟩, by simp, Keep.new nL, (hb3.same (same_upd nL)).mono (by omega)⟩ ?_ ?_
      · intro i H4 hi h
        obtain ⟨rs, ts, eL, lt, hW, nrs, k4, hb4⟩ := h
        refine ⟨rfl, ?_⟩
        unfold tYes
        refine iteT ?_
        have hN4 := hN.keep k4 hb3
        refine ⟨_, rfl, _, rfl, b, pN, 41 + 100 * (i : Int), ys, rfl, by omega, by omega, hb4, hN4, fun r t H6 okt nr er k6 hb6 => ?_⟩
        have eL6 := k6 _ _ nLb eL
        have nLr : L ≠ r := fun z => by rw [← z, eL] at nr; cases nr
        have nas : L ∉ rs ++ [r] := by
          intro z
          rcases List.mem_append.mp z with z | z
          · exact nrs z
          · exact nLr (List.mem_singleton.mp z)
        have lr : rs.length = i := by rw [hW.1, lt]
        refine ⟨refs rs, eL6, ?_, rs ++ [r], ts ++ [t], ?_, ?_, ?_, nas, ?_, ?_⟩
        · unfold refs
          rw [List.length_map, lr]
          exact Nat.lt_of_lt_of_le (show i < 1000 by omega) (by decide)
        · rw [upd_same]
          unfold refs
          rw [List.map_append]
          rfl
        · rw [List.length_append, lt]
          rfl
        · exact ((hW.keep k6 hb4).snoc okt er).upd nas
        · intro y o ne ey
          rw [upd_ne (fun z => by rw [z, nL] at ey; cases ey)]
          exact k6 _ _ ne (k4 _ _ ne ey)
        · obtain ⟨g, m, cc, eb, r1, r2, r3, r4, r5⟩ := hb6
          exact ⟨g, m, cc, by rw [upd_ne (Ne.symm nLb)]; exact eb, r1, r2, r3, r4, by omega⟩
      intro H4 h4
      obtain ⟨rs, ts, eL, lt, hW, nrs, k4, hb4⟩ := h4
      have lr : rs.length = 8 := by rw [hW.1, lt]
      have k14 := k13.trans k4
      have okts : ∀ t ∈ ts, okTd t := fun t ht => by
        obtain ⟨j, hj⟩ := List.mem_iff_getElem?.mp ht
        obtain ⟨r, hr'⟩ := len_get hW.1.symm hj
        exact (hW.2 j r t hr' hj).1
      have e41 : (41 : Int) + 100 * ((8 : Nat) : Int) = 841 := by decide
      rw [e41] at hb4
      -- none is wrong
      refine ⟨_, rfl, L, rfl, ⟨_, SqL.of eL⟩, fun L2' nL2 => ?_⟩
      refine lc_list (K := K) (xs := refs rs) (fun i H' => H' L2' = some (.lst []) ∧ Same H4 H') ⟨upd_same, same_upd nL2⟩ (fun i H' _ h => SqL.of (h.2 _ _ eL)) ?_ ?_
      · intro i x H5 hx h
        obtain ⟨e2, s5⟩ := h
        obtain ⟨r, er, rfl⟩ := ref_get hx
        obtain ⟨t, et⟩ := len_get hW.1 er
        obtain ⟨okt, ew⟩ := (hW.same s5).2 i r t er et
        refine ⟨rfl, ?_⟩
        refine ⟨_, rfl, r, t, rfl, ew, okt, fun H6 s6 => ⟨_, rfl, iteF ?_⟩⟩
        exact ⟨s6 _ _ e2, s5.trans s6⟩
      intro H5 h5
      obtain ⟨e2, s5⟩ := h5
      have k5 : Keep b H4 H5 := Keep.of s5
      refine ⟨by show 0 ≤ sizeLine; decide, fun p2 np2 => ?_⟩
      have s6 := same_upd (o := .lst ([] : List V)) np2
      have e6 : (upd H5 p2 (.lst [])) p2 = some (.lst []) := upd_same
      have e2 := s6 _ _ e2
      have k46 : Keep b H4 (upd H5 p2 (.lst [])) := k5.trans (Keep.of s6)
      generalize upd H5 p2 (.lst []) = H6 at s6 e6 e2 k46 ⊢
      refine ⟨.list (blsP []), .list (blsP []), .lst (SqL.of e2) .nil, .lst (SqL.of e6) .nil, by decide +kernel, by decide +kernel, _, rfl, ?_⟩
      rw [SeqAt.eqv_refl _ (SeqAt.canLay_of_shaped (by decide +kernel : SeqAt.shaped (.list (blsP [])) = true))]
      refine iteF ?_
      have hW6 := hW.keep k46 hb4
      have eL6 := k46 _ _ nLb eL
      have k16 := k14.trans k46
      -- the things
      refine ⟨_, rfl, L, rfl, ⟨_, SqL.of eL6⟩, fun T3 nT3 => ?_⟩
      refine lc_list (K := K) (xs := refs rs) (fun i H' => ∃ as, H' T3 = some (.lst (refs as)) ∧ ThD A H' T3 as (ts.take i) ∧ Same H6 H') ⟨[], upd_same, ⟨rfl, fun i r t h1 h2 => by cases h1⟩, same_upd nT3⟩ (fun i H' _ h => by
        obtain ⟨_, _, _, s7⟩ := h
        exact SqL.of (s7 _ _ eL6)) ?_ ?_
      · intro i x H7 hx h
        obtain ⟨as, e3, hT, s7⟩ := h
        obtain ⟨r, er, rfl⟩ := ref_get hx
        obtain ⟨t, et⟩ := len_get hW.1 er
        have hi : i < 8 := by rw [← lr]; exact (List.getElem?_eq_some_iff.mp er).1
        obtain ⟨okt, ew⟩ := (hW6.same s7).2 i r t er et
        have lw := td_len okt
        refine ⟨rfl, ?_⟩
        unfold tYes
        refine iteT ?_
        refine ⟨⟨_, rfl⟩, _, rfl, _, r, tdW t, rfl, rfl, .inl (SqL.of ew), join_fits (td_w okt) (by omega) _ (by decide), t, rfl, okt, fun x3 H8 s8 hn => ?_⟩
        have la : as.length = i := by
          rw [hT.1, List.length_take, lt]
          omega
        refine ⟨refs as, s8 _ _ e3, ?_, as ++ [x3], ?_, ?_, ?_⟩
        · unfold refs
          rw [List.length_map, la]
          exact Nat.lt_of_lt_of_le (show i < 1000 by omega) (by decide)
        · rw [upd_same]
          unfold refs
          rw [List.map_append]
          rfl
        · rw [List.take_add_one, et]
          exact ((hT.same s8).snoc fun zs => hn.own T3 _ zs e3).upd
        · intro y o ey
          rw [upd_ne (fun z => by rw [z, nT3] at ey; cases ey)]
          exact s8 _ _ (s7 _ _ ey)
      intro H7 h7
      obtain ⟨as, e3, hT, s7⟩ := h7
      have ht8 : ts.take (refs rs).length = ts := by
        unfold refs
        rw [List.length_map, lr, ← lt, List.take_length]
      rw [ht8] at hT
      have hTs := hT.ths e3
      have hW7 := hW6.same s7
      have eL7 := s7 _ _ eL6
      have k17 := k16.trans (Keep.of s7)
      have la : as.length = 8 := by rw [hT.1, lt]
      -- each against all
      refine ⟨_, rfl, _, rfl, L, T3, refs rs, refs as, rfl, SqL.of eL7, SqL.of e3, ?_⟩
      refine for_it (walk_zip (K := K) (n := 8) (xs := refs rs) (ys := refs as) (by unfold refs; rw [List.length_map, List.length_map, lr, la]; rfl))
        (fun i σ H' => ∃ y6 y7 y8 y9, σ = [some (.ref a), some (.int (0 + (i_ : Int))), some (.ref b), some (.ref pN), some (.ref L), some (.ref T3), y6, y7, y8, y9] ∧ Same H7 H') ⟨_, _, _, _, rfl, fun _ _ e => e⟩ (fun i σ H' _ h => by
        obtain ⟨_, _, _, _, _, s8⟩ := h
        exact ⟨SqL.of (s8 _ _ eL7), SqL.of (s8 _ _ e3)⟩) ?_ ?_
      · intro i x σ H8 H9 hi h hy
        obtain ⟨y6, y7, y8, y9, rfl, s8⟩ := h
        obtain ⟨T, u, v2, rfl, nT, rfl, hu, hv⟩ := hy
        obtain ⟨r, er, rfl⟩ := ref_get hu
        obtain ⟨x3, ea, rfl⟩ := ref_get hv
        obtain ⟨t, et⟩ := len_get hW.1 er
        have s9 : Same H7 (upd H8 T (.tup [.ref r, .ref x3])) := s8.trans (same_upd nT)
        have eT : (upd H8 T (.tup [.ref r, .ref x3])) T = some (.tup [.ref r, .ref x3]) := upd_same
        generalize upd H8 T (.tup [.ref r, .ref x3]) = H9 at s9 eT ⊢
        have okt := okts t (List.mem_of_getElem? et)
        refine ⟨T, _, rfl, .inl (.inl eT), rfl, _, _, rfl, _, _, rfl, rfl, ?_⟩
        refine ⟨_, rfl, T3, rfl, ⟨_, SqL.of (s9 _ _ e3)⟩, fun L4 nL4 => ?_⟩
        refine lc_list (K := K) (xs := refs as) (fun i H' => H' L4 = some (.lst (((ts.take i).map fun t' => decide (t' = t)).map V.bl)) ∧ Same H9 H') ⟨upd_same, same_upd nL4⟩ (fun i H' _ h => SqL.of (h.2 _ _ (s9 _ _ e3))) ?_ ?_
        · intro j x H10 hx h
          obtain ⟨e4, s10⟩ := h
          obtain ⟨x5, ej, rfl⟩ := ref_get hx
          obtain ⟨t', et'⟩ := len_get hTs.1 ej
          have hj : j < 8 := by rw [← la]; exact (List.getElem?_eq_some_iff.mp ej).1
          have s710 := s9.trans s10
          refine ⟨rfl, ?_⟩
          unfold tYes
          refine iteT ?_
          refine ⟨_, rfl, _, rfl, _, ⟨x5, x3, t', t, rfl, rfl, (hTs.2 j x5 t' ej et').same s710, (hTs.2 i x3 t ea et).same s710, okts t' (List.mem_of_getElem? et'), okt, rfl⟩, fun H11 s11 => ?_⟩
          refine ⟨_, s11 _ _ e4, ?_, ?_, ?_⟩
          · rw [List.length_map, List.length_map, List.length_take]
            exact Nat.lt_of_lt_of_le (show min j ts.length < 1000 by omega) (by decide)
          · rw [upd_same, List.take_add_one, et', List.map_append, List.map_append]
            rfl
          · intro y o ey
            rw [upd_ne (fun z => by rw [z, nL4] at ey; cases ey)]
            exact s11 _ _ (s10 _ _ ey)
        intro H10 h10
        obtain ⟨e4, s10⟩ := h10
        have ta : ts.take (refs as).length = ts := by
          unfold refs
          rw [List.length_map, la, ← lt, List.take_length]
        rw [ta] at e4
        have s710 := s9.trans s10
        refine ⟨_, rfl, L, rfl, ⟨_, SqL.of (s710 _ _ eL7)⟩, fun L5 nL5 => ?_⟩
        refine lc_list (K := K) (xs := refs rs) (fun i H' => H' L5 = some (.lst (((ts.take i).map fun t' => decide (t' = t)).map V.bl)) ∧ Same H10 H') ⟨upd_same, same_upd nL5⟩ (fun i H' _ h => SqL.of (h.2 _ _ (s710 _ _ eL7))) ?_ ?_
        · intro j x H11 hx h
          obtain ⟨e5, s11⟩ := h
          obtain ⟨r5, ej, rfl⟩ := ref_get hx
          obtain ⟨t', et'⟩ := len_get hW.1 ej
          have s711 := s710.trans s11
          obtain ⟨ok', ew'⟩ := (hW7.same s711).2 j r5 t' ej et'
          obtain ⟨_, ew⟩ := (hW7.same s711).2 i r t er et
          refine ⟨rfl, ?_⟩
          unfold tYes
          refine iteT ?_
          refine ⟨_, rfl, _, rfl, .list (strsP (tdW t')), .list (strsP (tdW t)), .lst (SqL.of ew') (strs_all _), .lst (SqL.of ew) (strs_all _), strs_shaped fun y hy => w_txt (td_w ok' y hy), strs_shaped fun y hy => w_txt (td_w okt y hy), ?_⟩
          rw [strs_eqv]
          have ed : decide (tdW t' = tdW t) = decide (t' = t) := by
            rw [Bool.eq_iff_iff]
            simp only [decide_eq_true_eq]
            exact ⟨tdW_inj ok' okt, fun e => by rw [e]⟩
          rw [ed]
          refine ⟨_, e5, ?_, ?_, ?_⟩
          · rw [List.length_map, List.length_map, List.length_take]
            exact Nat.lt_of_lt_of_le (show min j ts.length < 1000 by omega) (by decide)
          · rw [upd_same, List.take_add_one, et', List.map_append, List.map_append]
            rfl
          · intro y o ey
            rw [upd_ne (fun z => by rw [z, nL5] at ey; cases ey)]
            exact s11 _ _ ey
        intro H11 h11
        obtain ⟨e5, s11⟩ := h11
        rw [ht8] at e5
        have e4 := s11 _ _ e4
        have SH := bls_shaped (ts.map fun t' => decide (t' = t))
        refine ⟨.list (blsP (ts.map fun t' => decide (t' = t))), .list (blsP (ts.map fun t' => decide (t' = t))), .lst (SqL.of e4) (bls_all _), .lst (SqL.of e5) (bls_all _), SH, SH, _, rfl, ?_⟩
        rw [SeqAt.eqv_refl _ (SeqAt.canLay_of_shaped SH)]
        refine iteF ?_
        exact ⟨_, _, _, _, rfl, s710.trans s11⟩
      · intro σ H8 h8
        obtain ⟨y6, y7, y8, y9, rfl, s8⟩ := h8
        exact ⟨_, _, _, _, _, _, _, _, _, rfl, fin H8 (k17.trans (Keep.of s8))⟩
    · intro σ H0 h0
      exact q H0
end
end K56
set_option maxHeartbeats 16000000
namespace K56
open PySem PySem.Spec PyProof.Rows L2 RL RE RN RM TL RQ RC
theorem kr_mk {K : PySem.W.Frag} {w : World} {d : Addr} {n : Nat} {h1 h2 h3 h4 h5 : Int} {t1 t2 t3 t4 t5 u1 u2 u3 u4 u5 : Tok}
    (l : K.lookup d = some ⟨.type "dict", none, .dict #[⟨h1, .str (Str.ofString "inherit") t1, .str tRol u1⟩, ⟨h2, .str (Str.ofString "act") t2, .str tRol u2⟩, ⟨h3, .str (Str.ofString "read") t3, .str tTab u3⟩, ⟨h4, .str (Str.ofString "write") t4, .str tTab u4⟩, ⟨h5, .str (Str.ofString "call") t5, .str tFun u5⟩] n, #[]⟩)
    (k : PySem.W.KeysLit w.params [⟨h1, .str (Str.ofString "inherit") t1, .str tRol u1⟩, ⟨h2, .str (Str.ofString "act") t2, .str tRol u2⟩, ⟨h3, .str (Str.ofString "read") t3, .str tTab u3⟩, ⟨h4, .str (Str.ofString "write") t4, .str tTab u4⟩, ⟨h5, .str (Str.ofString "call") t5, .str tFun u5⟩])
    (lo : (d == sysModules) = false) : KRight K w d := by
  refine ⟨⟨_, n, l, k, lo⟩, fun z => ?_⟩
  unfold PySem.W.nsIn
  rw [l]
  show ∃ r, (match List.find? (fun e : DictEntry => e.key.isStr z) [_, _, _, _, _] with | some e => some (some e.val) | none => _) = some r ∧ _
  have e : ∀ (x : Str) (t : Tok), (Value.str x t).isStr z = (x == z) := fun x t => rfl
  unfold kindT
  simp only [List.find?_cons, List.find?_nil, e]
  by_cases g1 : z = Str.ofString "inherit"
  · subst g1; exact ⟨_, rfl, rfl, fun k e => by cases e; exact ⟨_, rfl⟩⟩
  rw [if_neg g1, beq_eq_false_iff_ne.mpr (Ne.symm g1)]
  by_cases g2 : z = Str.ofString "act"
  · subst g2; exact ⟨_, rfl, rfl, fun k e => by cases e; exact ⟨_, rfl⟩⟩
  rw [if_neg g2, beq_eq_false_iff_ne.mpr (Ne.symm g2)]
  by_cases g3 : z = Str.ofString "read"
  · subst g3; exact ⟨_, rfl, rfl, fun k e => by cases e; exact ⟨_, rfl⟩⟩
  rw [if_neg g3, beq_eq_false_iff_ne.mpr (Ne.symm g3)]
  by_cases g4 : z = Str.ofString "write"
  · subst g4; exact ⟨_, rfl, rfl, fun k e => by cases e; exact ⟨_, rfl⟩⟩
  rw [if_neg g4, beq_eq_false_iff_ne.mpr (Ne.symm g4)]
  by_cases g5 : z = Str.ofString "call"
  · subst g5; exact ⟨_, rfl, rfl, fun k e => by cases e; exact ⟨_, rfl⟩⟩
  rw [if_neg g5, beq_eq_false_iff_ne.mpr (Ne.symm g5)]
  exact ⟨none, rfl, rfl, fun k e => by cases e⟩
theorem kbn_mk {K : PySem.W.Frag} {qual : Str} {params : Arguments} {body : List Stmt} {scope : Scope} {f : Addr} {fd : FuncData} {ps ks : List Str} {n : Nat} (F : FunD K "__init__" qual params body scope [] [] f fd)
    (h : ∀ (kV doc pm : Value) (an : Option Addr) (cdv ct : Value) (s : Shared) (us ws : List Value), us.length = n → ws.length = ks.length → BindsTo s (PySem.W.fnOf "__init__" qual params body scope .none kV doc pm an cdv ct) ⟨us, ks.zip ws⟩ (ps.zip (us ++ ws))) :
    KBn K fd ps n ks (fun us ws => us ++ ws) (fun vs zs => vs ++ zs) := by
  obtain ⟨oc, od, dV, kV, doc, pm, an, cdv, ct, osl, rfl, lk, hcd, hD, hK⟩ := F.ex
  rcases hD with ⟨_, rfl⟩ | ⟨e, _⟩
  · exact ⟨fun s us ws X h1 h2 => h _ _ _ _ _ _ s us ws h1 h2, fun r1 r2 => r1.append r2⟩
  · exact absurd rfl e
theorem kt_mk {K : PySem.W.Frag} {a : Addr} {od : Option Addr} {sl : Array (Option Value)} {n : Nat} {z1 z2 : Str} {t1 t2 : Tok} (l : K.lookup a = some ⟨.type "tuple", od, .seq #[.str z1 t1, .str z2 t2] n, sl⟩) : KTup K a [z1, z2] :=
  ⟨_, _, _, l, rfl, rfl, by show 2 ≤ sizeLine; decide, .cons ⟨_, rfl⟩ (.cons ⟨_, rfl⟩ .nil)⟩
theorem kt3_mk {K : PySem.W.Frag} {a : Addr} {od : Option Addr} {sl : Array (Option Value)} {n : Nat} {z1 z2 z3 : Str} {t1 t2 t3 : Tok} (l : K.lookup a = some ⟨.type "tuple", od, .seq #[.str z1 t1, .str z2 t2, .str z3 t3] n, sl⟩) : KTup K a [z1, z2, z3] :=
  ⟨_, _, _, l, rfl, rfl, by show 3 ≤ sizeLine; decide, .cons ⟨_, rfl⟩ (.cons ⟨_, rfl⟩ (.cons ⟨_, rfl⟩ .nil))⟩
theorem df_mk {P : Program} {w : World} {K : PySem.W.Frag} {mg : Str → Option Value} {base : Heap} {CX : CXT} {k : Nat} {x : Str} {ps : List Str} {sp : Sp} {f : Addr} {fd : FuncData} (F : FnOk P w K mg base CX k f fd ps sp) (b : Binds K fd ps []) (kp : PySem.W.keepIn K (.ref f) = true) (g : mg x = some (.ref f)) : Df P w K mg base CX k x ps sp := ⟨f, fd, F, b, kp, g⟩
abbrev EqF (P : Program) (w : World) (K : PySem.W.Frag) (mg : Str → Option Value) (base : Heap) (C : Addr) (R : Addr → V → Hp → Bool → Prop) : Prop :=
  ∃ (f : Addr) (fd : FuncData), FnOk P w K mg base CX0 3 f fd ["self", "other"] (spEqB R) ∧ PySem.W.findIn K (.ref C) "__eq__" = some (some (.ref f)) ∧ PySem.W.isFn K (.ref f) = true ∧ Binds K fd ["self", "other"] []
theorem eqok_mk {P : Program} {w : World} {K : PySem.W.Frag} {mg : Str → Option Value} {base : Heap} {c : Cs} {r b f : Addr} (t1 : TyC K r) (t2 : TyC K b) (t3 : TyC K f)
    (e1 : EqF P w K mg base r (RE_ K c ⟨r, b, f⟩ tRol)) (e2 : EqF P w K mg base b (RE_ K c ⟨r, b, f⟩ tTab)) (e3 : EqF P w K mg base f (RE_ K c ⟨r, b, f⟩ tFun))
    (ner : PySem.W.findIn K (.ref r) "__ne__" = some (some (.builtin "object.__ne__")))
    (neb : PySem.W.findIn K (.ref b) "__ne__" = some (some (.builtin "object.__ne__")))
    (nef : PySem.W.findIn K (.ref f) "__ne__" = some (some (.builtin "object.__ne__")))
    (nfrr : PySem.W.notFirst K r (.ref r) = true)
    (nfrb : PySem.W.notFirst K r (.ref b) = true)
    (nfrf : PySem.W.notFirst K r (.ref f) = true)
    (nfbr : PySem.W.notFirst K b (.ref r) = true)
    (nfbb : PySem.W.notFirst K b (.ref b) = true)
    (nfbf : PySem.W.notFirst K b (.ref f) = true)
    (nffr : PySem.W.notFirst K f (.ref r) = true)
    (nffb : PySem.W.notFirst K f (.ref b) = true)
    (nfff : PySem.W.notFirst K f (.ref f) = true)
    (orr : PySem.W.kitOne K (.ref r) (.ref r) = some true)
    (orb : PySem.W.kitOne K (.ref b) (.ref r) = some false)
    (orf : PySem.W.kitOne K (.ref f) (.ref r) = some false)
    (obr : PySem.W.kitOne K (.ref r) (.ref b) = some false)
    (obb : PySem.W.kitOne K (.ref b) (.ref b) = some true)
    (obf : PySem.W.kitOne K (.ref f) (.ref b) = some false)
    (ofr : PySem.W.kitOne K (.ref r) (.ref f) = some false)
    (ofb : PySem.W.kitOne K (.ref b) (.ref f) = some false)
    (off : PySem.W.kitOne K (.ref f) (.ref f) = some true)
    : EqOk P w K mg base c ⟨r, b, f⟩ := by
  have c1 : clsK ⟨r, b, f⟩ tRol = r := cls_rol _
  have c2 : clsK ⟨r, b, f⟩ tTab = b := cls_tab _
  have c3 : clsK ⟨r, b, f⟩ tFun = f := cls_fun _
  refine ⟨fun k h => ?_, fun k h => ?_, fun k h => ?_, fun k k' h h' => ?_, fun k k' h h' => ?_⟩
  · rcases h with rfl | rfl | rfl
    · rw [c1]; exact t1
    · rw [c2]; exact t2
    · rw [c3]; exact t3
  · rcases h with rfl | rfl | rfl
    · rw [c1]; exact e1
    · rw [c2]; exact e2
    · rw [c3]; exact e3
  · rcases h with rfl | rfl | rfl
    · rw [c1]; exact ner
    · rw [c2]; exact neb
    · rw [c3]; exact nef
  · rcases h with rfl | rfl | rfl <;> rcases h' with rfl | rfl | rfl
    · rw [c1]; exact nfrr
    · rw [c1, c2]; exact nfrb
    · rw [c1, c3]; exact nfrf
    · rw [c2, c1]; exact nfbr
    · rw [c2]; exact nfbb
    · rw [c2, c3]; exact nfbf
    · rw [c3, c1]; exact nffr
    · rw [c3, c2]; exact nffb
    · rw [c3]; exact nfff
  · rcases h with rfl | rfl | rfl <;> rcases h' with rfl | rfl | rfl
    · rw [c1, show decide (tRol = tRol) = true by decide +kernel]; exact orr
    · rw [c1, c2, show decide (tTab = tRol) = false by decide +kernel]; exact orb
    · rw [c1, c3, show decide (tFun = tRol) = false by decide +kernel]; exact orf
    · rw [c2, c1, show decide (tRol = tTab) = false by decide +kernel]; exact obr
    · rw [c2, show decide (tTab = tTab) = true by decide +kernel]; exact obb
    · rw [c2, c3, show decide (tFun = tTab) = false by decide +kernel]; exact obf
    · rw [c3, c1, show decide (tRol = tFun) = false by decide +kernel]; exact ofr
    · rw [c3, c2, show decide (tTab = tFun) = false by decide +kernel]; exact ofb
    · rw [c3, show decide (tFun = tFun) = true by decide +kernel]; exact off
/-! ### facts by names -/
theorem ktup_of {K : PySem.W.Frag} {x : Str} {zs : List Str} (h : He.tupB K x (zs.map He.Dv.str) = true) : KTup K (He.ga K x) zs := by
  have s := He.tupB_ok h (fun _ => none)
  have e : (zs.map He.Dv.str).map (He.Dv.v K) = zs.map V.str := by rw [List.map_map]; rfl
  rw [e] at s
  rcases s with s | ⟨o, its, n, l, h1, h2, h3, h4⟩
  · rcases s with s | ⟨o, s⟩ <;> cases s
  · exact ⟨o, its, n, l, h1, h2, h3, h4⟩
theorem kright_of {K : PySem.W.Frag} {w : World} {a : Addr} (h : krB K a = true) (d : ∃ es n, KDict K w a es n) : KRight K w a := by
  obtain ⟨es, n, l, k, lo⟩ := d
  unfold krB at h
  rw [l] at h
  have h : (match es.toList with
    | [⟨_, .str a1 _, .str b1 _⟩, ⟨_, .str a2 _, .str b2 _⟩, ⟨_, .str a3 _, .str b3 _⟩, ⟨_, .str a4 _, .str b4 _⟩, ⟨_, .str a5 _, .str b5 _⟩] => decide ([a1, b1, a2, b2, a3, b3, a4, b4, a5, b5] = [Str.ofString "inherit", tRol, Str.ofString "act", tRol, Str.ofString "read", tTab, Str.ofString "write", tTab, Str.ofString "call", tFun])
    | _ => false) = true := h
  split at h
  · rename_i ee
    have h := of_decide_eq_true h
    simp only [List.cons.injEq, and_true] at h
    obtain ⟨rfl, rfl, rfl, rfl, rfl, rfl, rfl, rfl, rfl, rfl⟩ := h
    obtain ⟨es⟩ := es
    have ee : es = _ := ee
    subst ee
    exact kr_mk l k lo
  · cases h
theorem df_mk5 {P : Program} {w : World} {K : PySem.W.Frag} {mg : Str → Option Value} {base : Heap} {CX : CXT} {k : Nat} {x : Str} {ps : List Str} {sp : Sp} {f : Addr} {fd : FuncData} (F : FnOk P w K mg base CX k f fd ps sp) (b : Binds K fd ps []) (kp : PySem.W.keepIn K (.ref f) = true) (g : mg x = some (.ref f)) : K5F.Df P w K mg base CX k x ps sp := ⟨f, fd, F, b, kp, g⟩
def c5f (g t c p u : Addr) : K5F.Cs
  | .give => g
  | .take => t
  | .call => c
  | .preset => p
  | .use => u
theorem all_mk2 {l : PySem.W.OpenLaw} {w : World} {K : PySem.W.Frag} {h : Heap} {mg : Str → Option Value} {fa : Addr} (X : K.In h) (G : h.Ns mainGlobals mg) (hfa : mg "law" = some (.ref fa)) (c : HX.Says fas dfs tbs exs w K) :
    ∃ fd : FuncData, (∀ (s : Shared) (v : Value), BindsTo s fd ⟨[v], []⟩ [("_law_script", v)]) ∧ ∀ base : Heap, K.In base → base.Ns mainGlobals mg → FnOk l.prog w K mg base CX0 15 fa fd ["_law_script"] (spLaw K) := by
  obtain ⟨fd0, F0⟩ : ∃ fd, Fun K "is_name" "is_name" s_is_name (He.ga K "is_name") fd := c.df 0
  have b0 := F0.binds (ps := ["value"]) fun _ _ _ _ _ _ us hl => match us, hl with | [_], _ => rfl
  have g0 := He.glo_ok X G (c.fact 0)
  have k0 := F0.kp
  obtain ⟨fd1, F1⟩ : ∃ fd, Fun K "is_taker" "is_taker" s_is_taker (He.ga K "is_taker") fd := c.df 1
  have b1 := F1.binds (ps := ["value"]) fun _ _ _ _ _ _ us hl => match us, hl with | [_], _ => rfl
  have g1 := He.glo_ok X G (c.fact 1)
  have k1 := F1.kp
  obtain ⟨fd2, F2⟩ : ∃ fd, Fun K "is_right" "is_right" s_is_right (He.ga K "is_right") fd := c.df 2
  have b2 := F2.binds (ps := ["value"]) fun _ _ _ _ _ _ us hl => match us, hl with | [_], _ => rfl
  have g2 := He.glo_ok X G (c.fact 2)
  have k2 := F2.kp
  obtain ⟨fd3, F3⟩ : ∃ fd, Fun K "is_made_kind" "is_made_kind" s_is_made_kind (He.ga K "is_made_kind") fd := c.df 3
  have b3 := F3.binds (ps := ["value"]) fun _ _ _ _ _ _ us hl => match us, hl with | [_], _ => rfl
  have g3 := He.glo_ok X G (c.fact 3)
  have k3 := F3.kp
  obtain ⟨fd4, F4⟩ : ∃ fd, Fun K "is_flag" "is_flag" s_is_flag (He.ga K "is_flag") fd := c.df 4
  have b4 := F4.binds (ps := ["value"]) fun _ _ _ _ _ _ us hl => match us, hl with | [_], _ => rfl
  have g4 := He.glo_ok X G (c.fact 4)
  have k4 := F4.kp
  obtain ⟨fd5, F5⟩ : ∃ fd, Fun K "is_list" "is_list" s_is_list (He.ga K "is_list") fd := c.df 5
  have b5 := F5.binds (ps := ["value"]) fun _ _ _ _ _ _ us hl => match us, hl with | [_], _ => rfl
  have g5 := He.glo_ok X G (c.fact 5)
  have k5 := F5.kp
  obtain ⟨fd6, F6⟩ : ∃ fd, Fun K "is_names" "is_names" s_is_names (He.ga K "is_names") fd := c.df 6
  have b6 := F6.binds (ps := ["value", "most"]) fun _ _ _ _ _ _ us hl => match us, hl with | [_, _], _ => rfl
  have g6 := He.glo_ok X G (c.fact 6)
  have k6 := F6.kp
  obtain ⟨fd7, F7⟩ : ∃ fd, Fun K "is_body" "is_body" s_is_body (He.ga K "is_body") fd := c.df 7
  have b7 := F7.binds (ps := ["value"]) fun _ _ _ _ _ _ us hl => match us, hl with | [_], _ => rfl
  have g7 := He.glo_ok X G (c.fact 7)
  have k7 := F7.kp
  obtain ⟨fd8, F8⟩ : ∃ fd, Fun K "kind_of" "kind_of" s_kind_of (He.ga K "kind_of") fd := c.df 8
  have b8 := F8.binds (ps := ["right"]) fun _ _ _ _ _ _ us hl => match us, hl with | [_], _ => rfl
  have g8 := He.glo_ok X G (c.fact 8)
  have k8 := F8.kp
  obtain ⟨fd9, F9⟩ : ∃ fd, Fun K "check_name" "check_name" s_check_name (He.ga K "check_name") fd := c.df 9
  have b9 := F9.binds (ps := ["value"]) fun _ _ _ _ _ _ us hl => match us, hl with | [_], _ => rfl
  have g9 := He.glo_ok X G (c.fact 9)
  have k9 := F9.kp
  obtain ⟨fd10, F10⟩ : ∃ fd, Fun K "check_taker" "check_taker" s_check_taker (He.ga K "check_taker") fd := c.df 10
  have b10 := F10.binds (ps := ["value"]) fun _ _ _ _ _ _ us hl => match us, hl with | [_], _ => rfl
  have g10 := He.glo_ok X G (c.fact 10)
  have k10 := F10.kp
  obtain ⟨fd11, F11⟩ : ∃ fd, Fun K "check_taker_from" "check_taker_from" s_check_taker_from (He.ga K "check_taker_from") fd := c.df 11
  have b11 := F11.binds (ps := ["giver", "value"]) fun _ _ _ _ _ _ us hl => match us, hl with | [_, _], _ => rfl
  have g11 := He.glo_ok X G (c.fact 11)
  have k11 := F11.kp
  obtain ⟨fd12, F12⟩ : ∃ fd, Fun K "check_right" "check_right" s_check_right (He.ga K "check_right") fd := c.df 12
  have b12 := F12.binds (ps := ["value"]) fun _ _ _ _ _ _ us hl => match us, hl with | [_], _ => rfl
  have g12 := He.glo_ok X G (c.fact 12)
  have k12 := F12.kp
  obtain ⟨fd13, F13⟩ : ∃ fd, Fun K "check_right_on" "check_right_on" s_check_right_on (He.ga K "check_right_on") fd := c.df 13
  have b13 := F13.binds (ps := ["kind", "value"]) fun _ _ _ _ _ _ us hl => match us, hl with | [_, _], _ => rfl
  have g13 := He.glo_ok X G (c.fact 13)
  have k13 := F13.kp
  obtain ⟨fd14, F14⟩ : ∃ fd, Fun K "check_made_kind" "check_made_kind" s_check_made_kind (He.ga K "check_made_kind") fd := c.df 14
  have b14 := F14.binds (ps := ["value"]) fun _ _ _ _ _ _ us hl => match us, hl with | [_], _ => rfl
  have g14 := He.glo_ok X G (c.fact 14)
  have k14 := F14.kp
  obtain ⟨fd15, F15⟩ : ∃ fd, Fun K "check_flag" "check_flag" s_check_flag (He.ga K "check_flag") fd := c.df 15
  have b15 := F15.binds (ps := ["value"]) fun _ _ _ _ _ _ us hl => match us, hl with | [_], _ => rfl
  have g15 := He.glo_ok X G (c.fact 15)
  have k15 := F15.kp
  obtain ⟨fd16, F16⟩ : ∃ fd, Fun K "check_option" "check_option" s_check_option (He.ga K "check_option") fd := c.df 16
  have b16 := F16.binds (ps := ["value", "taker"]) fun _ _ _ _ _ _ us hl => match us, hl with | [_, _], _ => rfl
  have g16 := He.glo_ok X G (c.fact 16)
  have k16 := F16.kp
  obtain ⟨fd17, F17⟩ : ∃ fd, Fun K "behind_first" "behind_first" s_behind_first (He.ga K "behind_first") fd := c.df 17
  have b17 := F17.binds (ps := ["words", "count"]) fun _ _ _ _ _ _ us hl => match us, hl with | [_, _], _ => rfl
  have g17 := He.glo_ok X G (c.fact 17)
  have k17 := F17.kp
  obtain ⟨fd18, F18⟩ : ∃ fd, Fun K "give_of" "give_of" s_give_of (He.ga K "give_of") fd := c.df 18
  have b18 := F18.binds (ps := ["words"]) fun _ _ _ _ _ _ us hl => match us, hl with | [_], _ => rfl
  have g18 := He.glo_ok X G (c.fact 18)
  have k18 := F18.kp
  obtain ⟨fd19, F19⟩ : ∃ fd, Fun K "take_of" "take_of" s_take_of (He.ga K "take_of") fd := c.df 19
  have b19 := F19.binds (ps := ["words"]) fun _ _ _ _ _ _ us hl => match us, hl with | [_], _ => rfl
  have g19 := He.glo_ok X G (c.fact 19)
  have k19 := F19.kp
  obtain ⟨fd20, F20⟩ : ∃ fd, Fun K "call_of" "call_of" s_call_of (He.ga K "call_of") fd := c.df 20
  have b20 := F20.binds (ps := ["words"]) fun _ _ _ _ _ _ us hl => match us, hl with | [_], _ => rfl
  have g20 := He.glo_ok X G (c.fact 20)
  have k20 := F20.kp
  obtain ⟨fd21, F21⟩ : ∃ fd, Fun K "preset_of" "preset_of" s_preset_of (He.ga K "preset_of") fd := c.df 21
  have b21 := F21.binds (ps := ["words"]) fun _ _ _ _ _ _ us hl => match us, hl with | [_], _ => rfl
  have g21 := He.glo_ok X G (c.fact 21)
  have k21 := F21.kp
  obtain ⟨fd22, F22⟩ : ∃ fd, Fun K "use_of" "use_of" s_use_of (He.ga K "use_of") fd := c.df 22
  have b22 := F22.binds (ps := ["words"]) fun _ _ _ _ _ _ us hl => match us, hl with | [_], _ => rfl
  have g22 := He.glo_ok X G (c.fact 22)
  have k22 := F22.kp
  obtain ⟨fd23, F23⟩ : ∃ fd, Fun K "make_of" "make_of" s_make_of (He.ga K "make_of") fd := c.df 23
  have b23 := F23.binds (ps := ["words"]) fun _ _ _ _ _ _ us hl => match us, hl with | [_], _ => rfl
  have g23 := He.glo_ok X G (c.fact 23)
  have k23 := F23.kp
  obtain ⟨fd24, F24⟩ : ∃ fd, Fun K "role_of" "role_of" s_role_of (He.ga K "role_of") fd := c.df 24
  have b24 := F24.binds (ps := ["words"]) fun _ _ _ _ _ _ us hl => match us, hl with | [_], _ => rfl
  have g24 := He.glo_ok X G (c.fact 24)
  have k24 := F24.kp
  obtain ⟨fd25, F25⟩ : ∃ fd, Fun K "table_of" "table_of" s_table_of (He.ga K "table_of") fd := c.df 25
  have b25 := F25.binds (ps := ["words"]) fun _ _ _ _ _ _ us hl => match us, hl with | [_], _ => rfl
  have g25 := He.glo_ok X G (c.fact 25)
  have k25 := F25.kp
  obtain ⟨fd26, F26⟩ : ∃ fd, Fun K "function_of" "function_of" s_function_of (He.ga K "function_of") fd := c.df 26
  have b26 := F26.binds (ps := ["words"]) fun _ _ _ _ _ _ us hl => match us, hl with | [_], _ => rfl
  have g26 := He.glo_ok X G (c.fact 26)
  have k26 := F26.kp
  obtain ⟨fd27, F27⟩ : ∃ fd, Fun K "audience_in" "audience_in" s_audience_in (He.ga K "audience_in") fd := c.df 27
  have b27 := F27.binds (ps := ["words"]) fun _ _ _ _ _ _ us hl => match us, hl with | [_], _ => rfl
  have g27 := He.glo_ok X G (c.fact 27)
  have k27 := F27.kp
  obtain ⟨fd28, F28⟩ : ∃ fd, Fun K "parts_of" "parts_of" s_parts_of (He.ga K "parts_of") fd := c.df 28
  have b28 := F28.binds (ps := ["words"]) fun _ _ _ _ _ _ us hl => match us, hl with | [_], _ => rfl
  have g28 := He.glo_ok X G (c.fact 28)
  have k28 := F28.kp
  obtain ⟨fd29, F29⟩ : ∃ fd, Fun K "read_from" "read_from" s_read_from (He.ga K "read_from") fd := c.df 29
  have b29 := F29.binds (ps := ["words", "allowed"]) fun _ _ _ _ _ _ us hl => match us, hl with | [_, _], _ => rfl
  have g29 := He.glo_ok X G (c.fact 29)
  have k29 := F29.kp
  obtain ⟨fd30, F30⟩ : ∃ fd, Fun K "read_text" "read_text" s_read_text (He.ga K "read_text") fd := c.df 30
  have b30 := F30.binds (ps := ["text", "allowed"]) fun _ _ _ _ _ _ us hl => match us, hl with | [_, _], _ => rfl
  have g30 := He.glo_ok X G (c.fact 30)
  have k30 := F30.kp
  obtain ⟨fd31, F31⟩ : ∃ fd, Fun K "text_of" "text_of" s_text_of (He.ga K "text_of") fd := c.df 31
  have b31 := F31.binds (ps := ["item"]) fun _ _ _ _ _ _ us hl => match us, hl with | [_], _ => rfl
  have g31 := He.glo_ok X G (c.fact 31)
  have k31 := F31.kp
  obtain ⟨fd32, F32⟩ : ∃ fd, Fun K "read_deed" "read_deed" s_read_deed (He.ga K "read_deed") fd := c.df 32
  have b32 := F32.binds (ps := ["text"]) fun _ _ _ _ _ _ us hl => match us, hl with | [_], _ => rfl
  have g32 := He.glo_ok X G (c.fact 32)
  have k32 := F32.kp
  obtain ⟨fd33, F33⟩ : ∃ fd, Fun K "_law_cell" "_law_cell" s__law_cell (He.ga K "_law_cell") fd := c.df 33
  have b33 := F33.binds (ps := ["_law_script", "_law_k"]) fun _ _ _ _ _ _ us hl => match us, hl with | [_, _], _ => rfl
  have g33 := He.glo_ok X G (c.fact 33)
  have k33 := F33.kp
  obtain ⟨fd34, F34⟩ : ∃ fd, Fun K "_law_box" "_law_box" s__law_box (He.ga K "_law_box") fd := c.df 34
  have b34 := F34.binds (ps := ["_law_cell_here"]) fun _ _ _ _ _ _ us hl => match us, hl with | [_], _ => rfl
  have g34 := He.glo_ok X G (c.fact 34)
  have k34 := F34.kp
  obtain ⟨fd35, F35⟩ : ∃ fd, Fun K "_law_take" "_law_take" s__law_take (He.ga K "_law_take") fd := c.df 35
  have b35 := F35.binds (ps := ["_law_box_here", "_law_many"]) fun _ _ _ _ _ _ us hl => match us, hl with | [_, _], _ => rfl
  have g35 := He.glo_ok X G (c.fact 35)
  have k35 := F35.kp
  obtain ⟨fd36, F36⟩ : ∃ fd, Fun K "_law_mixed" "_law_mixed" s__law_mixed (He.ga K "_law_mixed") fd := c.df 36
  have b36 := F36.binds (ps := ["_law_box_here", "_law_some"]) fun _ _ _ _ _ _ us hl => match us, hl with | [_, _], _ => rfl
  have g36 := He.glo_ok X G (c.fact 36)
  have k36 := F36.kp
  obtain ⟨fd37, F37⟩ : ∃ fd, Fun K "_law_names" "_law_names" s__law_names (He.ga K "_law_names") fd := c.df 37
  have b37 := F37.binds (ps := ["_law_box_here", "_law_many"]) fun _ _ _ _ _ _ us hl => match us, hl with | [_, _], _ => rfl
  have g37 := He.glo_ok X G (c.fact 37)
  have k37 := F37.kp
  obtain ⟨fd38, F38⟩ : ∃ fd, Fun K "_law_deed" "_law_deed" s__law_deed (He.ga K "_law_deed") fd := c.df 38
  have b38 := F38.binds (ps := ["_law_box_here", "_law_names_here"]) fun _ _ _ _ _ _ us hl => match us, hl with | [_, _], _ => rfl
  have g38 := He.glo_ok X G (c.fact 38)
  have k38 := F38.kp
  obtain ⟨fd39, F39⟩ : ∃ fd, Fun K "_law_thing" "_law_thing" s__law_thing (He.ga K "_law_thing") fd := c.df 39
  have b39 := F39.binds (ps := ["_law_box_here", "_law_names_here", "_law_way"]) fun _ _ _ _ _ _ us hl => match us, hl with | [_, _, _], _ => rfl
  have g39 := He.glo_ok X G (c.fact 39)
  have k39 := F39.kp
  obtain ⟨fd40, F40⟩ : ∃ fd, Fun K "_law_body_deed" "_law_body_deed" s__law_body_deed (He.ga K "_law_body_deed") fd := c.df 40
  have b40 := F40.binds (ps := ["_law_box_here", "_law_names_here"]) fun _ _ _ _ _ _ us hl => match us, hl with | [_, _], _ => rfl
  have g40 := He.glo_ok X G (c.fact 40)
  have k40 := F40.kp
  obtain ⟨fd41, F41⟩ : ∃ fd, Fun K "_law_made_deed" "_law_made_deed" s__law_made_deed (He.ga K "_law_made_deed") fd := c.df 41
  have b41 := F41.binds (ps := ["_law_words"]) fun _ _ _ _ _ _ us hl => match us, hl with | [_], _ => rfl
  have g41 := He.glo_ok X G (c.fact 41)
  have k41 := F41.kp
  obtain ⟨fd42, F42⟩ : ∃ fd, Fun K "_law_made_thing" "_law_made_thing" s__law_made_thing (He.ga K "_law_made_thing") fd := c.df 42
  have b42 := F42.binds (ps := ["_law_words"]) fun _ _ _ _ _ _ us hl => match us, hl with | [_], _ => rfl
  have g42 := He.glo_ok X G (c.fact 42)
  have k42 := F42.kp
  obtain ⟨fd43, F43⟩ : ∃ fd, Fun K "_law_class" "_law_class" s__law_class (He.ga K "_law_class") fd := c.df 43
  have b43 := F43.binds (ps := ["_law_deed_here"]) fun _ _ _ _ _ _ us hl => match us, hl with | [_], _ => rfl
  have g43 := He.glo_ok X G (c.fact 43)
  have k43 := F43.kp
  obtain ⟨fd44, F44⟩ : ∃ fd, Fun K "_law_right" "_law_right" s__law_right (He.ga K "_law_right") fd := c.df 44
  have b44 := F44.binds (ps := ["_law_words"]) fun _ _ _ _ _ _ us hl => match us, hl with | [_], _ => rfl
  have g44 := He.glo_ok X G (c.fact 44)
  have k44 := F44.kp
  obtain ⟨fd45, FL45⟩ : ∃ fd, FunD K "law" "law" (defArgs s_law) (defBody s_law) (defScope s_law) [] [] (He.ga K "law") fd := c.dfn 45
  have F45 := HX.fun_of FL45
  have b45 := F45.binds (ps := ["_law_script"]) fun _ _ _ _ _ _ us hl => match us, hl with | [_], _ => rfl
  have g45 := He.glo_ok X G (c.fact 45)
  have k45 := F45.kp
  obtain ⟨fdSW, FXS⟩ : ∃ fd, FunD K "split_words" "split_words" (defArgs s_split_words) (defBody s_split_words) (defScope s_split_words) [] [("separator", .str ⟨#[32]⟩)] (He.ga K "split_words") fd := c.dfn 46
  have mSW := He.glo_ok X G (c.fact 46)
  have kSW := FXS.kp
  have gDeed := He.glo_ok X G (c.fact 47)
  have gThing := He.glo_ok X G (c.fact 48)
  have gRole := He.glo_ok X G (c.fact 49)
  have gTable := He.glo_ok X G (c.fact 50)
  have gFunction := He.glo_ok X G (c.fact 51)
  have gGive := He.glo_ok X G (c.fact 52)
  have gTake := He.glo_ok X G (c.fact 53)
  have gCall := He.glo_ok X G (c.fact 54)
  have gPreset := He.glo_ok X G (c.fact 55)
  have gUse := He.glo_ok X G (c.fact 56)
  have gMake := He.glo_ok X G (c.fact 57)
  obtain ⟨fdTI, FTI⟩ : ∃ fd, Fun K "__init__" "Thing.__init__" s_Thing_init (He.ma K (He.ga K "Thing") "__init__") fd := c.df 47
  have bTI := FTI.binds (ps := ["self", "kind", "name", "owner", "audience"]) fun _ _ _ _ _ _ us hl => match us, hl with | [_, _, _, _, _], _ => rfl
  obtain ⟨fdTHR, FTHR⟩ : ∃ fd, Fun K "same_head" "Thing.same_head" s_Thing_same_head (He.ma K (He.ga K "Role") "same_head") fd := c.df 48
  have bTHR := FTHR.binds (ps := ["self", "other"]) fun _ _ _ _ _ _ us hl => match us, hl with | [_, _], _ => rfl
  have mmTHR := He.meth_ok (c.fact 58)
  have iTHR := mmTHR.at_
  have fnTHR := mmTHR.fn
  obtain ⟨fdTWR, FTWR⟩ : ∃ fd, Fun K "audience_words" "Thing.audience_words" s_Thing_audience_words (He.ma K (He.ga K "Role") "audience_words") fd := c.df 49
  have bTWR := FTWR.binds (ps := ["self"]) fun _ _ _ _ _ _ us hl => match us, hl with | [_], _ => rfl
  have mmTWR := He.meth_ok (c.fact 59)
  have iTWR := mmTWR.at_
  have fnTWR := mmTWR.fn
  obtain ⟨fdTSR, FTSR⟩ : ∃ fd, Fun K "__str__" "Thing.__str__" s_Thing_str (He.ma K (He.ga K "Role") "__str__") fd := c.df 50
  have bTSR := FTSR.binds (ps := ["self"]) fun _ _ _ _ _ _ us hl => match us, hl with | [_], _ => rfl
  have mmTSR := He.meth_ok (c.fact 60)
  have iTSR := mmTSR.at_
  have fnTSR := mmTSR.fn
  obtain ⟨fdRI, FXRI⟩ : ∃ fd, FunD K "__init__" "Role.__init__" (defArgs s_Role_init) (defBody s_Role_init) (defScope s_Role_init) [] [] (He.ma K (He.ga K "Role") "__init__") fd := c.dfn 51
  obtain ⟨fdRE, FRE⟩ : ∃ fd, Fun K "__eq__" "Role.__eq__" s_Role_eq (He.ma K (He.ga K "Role") "__eq__") fd := c.df 52
  have bRE := FRE.binds (ps := ["self", "other"]) fun _ _ _ _ _ _ us hl => match us, hl with | [_, _], _ => rfl
  have mmRE := He.meth_ok (c.fact 61)
  have iRE := mmRE.at_
  have fnRE := mmRE.fn
  obtain ⟨fdTHB, FTHB⟩ : ∃ fd, Fun K "same_head" "Thing.same_head" s_Thing_same_head (He.ma K (He.ga K "Table") "same_head") fd := c.df 53
  have bTHB := FTHB.binds (ps := ["self", "other"]) fun _ _ _ _ _ _ us hl => match us, hl with | [_, _], _ => rfl
  have mmTHB := He.meth_ok (c.fact 62)
  have iTHB := mmTHB.at_
  have fnTHB := mmTHB.fn
  obtain ⟨fdTWB, FTWB⟩ : ∃ fd, Fun K "audience_words" "Thing.audience_words" s_Thing_audience_words (He.ma K (He.ga K "Table") "audience_words") fd := c.df 54
  have bTWB := FTWB.binds (ps := ["self"]) fun _ _ _ _ _ _ us hl => match us, hl with | [_], _ => rfl
  have mmTWB := He.meth_ok (c.fact 63)
  have iTWB := mmTWB.at_
  have fnTWB := mmTWB.fn
  obtain ⟨fdTSB, FTSB⟩ : ∃ fd, Fun K "__str__" "Thing.__str__" s_Thing_str (He.ma K (He.ga K "Table") "__str__") fd := c.df 55
  have bTSB := FTSB.binds (ps := ["self"]) fun _ _ _ _ _ _ us hl => match us, hl with | [_], _ => rfl
  have mmTSB := He.meth_ok (c.fact 64)
  have iTSB := mmTSB.at_
  have fnTSB := mmTSB.fn
  obtain ⟨fdBI, FXBI⟩ : ∃ fd, FunD K "__init__" "Table.__init__" (defArgs s_Table_init) (defBody s_Table_init) (defScope s_Table_init) [] [] (He.ma K (He.ga K "Table") "__init__") fd := c.dfn 56
  obtain ⟨fdBE, FBE⟩ : ∃ fd, Fun K "__eq__" "Table.__eq__" s_Table_eq (He.ma K (He.ga K "Table") "__eq__") fd := c.df 57
  have bBE := FBE.binds (ps := ["self", "other"]) fun _ _ _ _ _ _ us hl => match us, hl with | [_, _], _ => rfl
  have mmBE := He.meth_ok (c.fact 65)
  have iBE := mmBE.at_
  have fnBE := mmBE.fn
  obtain ⟨fdTHF, FTHF⟩ : ∃ fd, Fun K "same_head" "Thing.same_head" s_Thing_same_head (He.ma K (He.ga K "Function") "same_head") fd := c.df 58
  have bTHF := FTHF.binds (ps := ["self", "other"]) fun _ _ _ _ _ _ us hl => match us, hl with | [_, _], _ => rfl
  have mmTHF := He.meth_ok (c.fact 66)
  have iTHF := mmTHF.at_
  have fnTHF := mmTHF.fn
  obtain ⟨fdTWF, FTWF⟩ : ∃ fd, Fun K "audience_words" "Thing.audience_words" s_Thing_audience_words (He.ma K (He.ga K "Function") "audience_words") fd := c.df 59
  have bTWF := FTWF.binds (ps := ["self"]) fun _ _ _ _ _ _ us hl => match us, hl with | [_], _ => rfl
  have mmTWF := He.meth_ok (c.fact 67)
  have iTWF := mmTWF.at_
  have fnTWF := mmTWF.fn
  obtain ⟨fdFI, FXFI⟩ : ∃ fd, FunD K "__init__" "Function.__init__" (defArgs s_Function_init) (defBody s_Function_init) (defScope s_Function_init) [] [] (He.ma K (He.ga K "Function") "__init__") fd := c.dfn 60
  obtain ⟨fdFE, FFE⟩ : ∃ fd, Fun K "__eq__" "Function.__eq__" s_Function_eq (He.ma K (He.ga K "Function") "__eq__") fd := c.df 61
  have bFE := FFE.binds (ps := ["self", "other"]) fun _ _ _ _ _ _ us hl => match us, hl with | [_, _], _ => rfl
  have mmFE := He.meth_ok (c.fact 68)
  have iFE := mmFE.at_
  have fnFE := mmFE.fn
  obtain ⟨fdFS, FFS⟩ : ∃ fd, Fun K "__str__" "Function.__str__" s_Function_str (He.ma K (He.ga K "Function") "__str__") fd := c.df 62
  have bFS := FFS.binds (ps := ["self"]) fun _ _ _ _ _ _ us hl => match us, hl with | [_], _ => rfl
  have mmFS := He.meth_ok (c.fact 69)
  have iFS := mmFS.at_
  have fnFS := mmFS.fn
  obtain ⟨fdDGI, FXDGI⟩ : ∃ fd, FunD K "__init__" "Give.__init__" (defArgs s_Give_init) (defBody s_Give_init) (defScope s_Give_init) [] [] (He.ma K (He.ga K "Give") "__init__") fd := c.dfn 63
  obtain ⟨fdDGE, FDGE⟩ : ∃ fd, Fun K "__eq__" "Give.__eq__" s_Give_eq (He.ma K (He.ga K "Give") "__eq__") fd := c.df 64
  have bDGE := FDGE.binds (ps := ["self", "other"]) fun _ _ _ _ _ _ us hl => match us, hl with | [_, _], _ => rfl
  have mmDGE := He.meth_ok (c.fact 70)
  have iDGE := mmDGE.at_
  have fnDGE := mmDGE.fn
  obtain ⟨fdDGS, FDGS⟩ : ∃ fd, Fun K "__str__" "Give.__str__" s_Give_str (He.ma K (He.ga K "Give") "__str__") fd := c.df 65
  have bDGS := FDGS.binds (ps := ["self"]) fun _ _ _ _ _ _ us hl => match us, hl with | [_], _ => rfl
  have mmDGS := He.meth_ok (c.fact 71)
  have iDGS := mmDGS.at_
  have fnDGS := mmDGS.fn
  obtain ⟨fdDTI, FXDTI⟩ : ∃ fd, FunD K "__init__" "Take.__init__" (defArgs s_Take_init) (defBody s_Take_init) (defScope s_Take_init) [] [] (He.ma K (He.ga K "Take") "__init__") fd := c.dfn 66
  obtain ⟨fdDTE, FDTE⟩ : ∃ fd, Fun K "__eq__" "Take.__eq__" s_Take_eq (He.ma K (He.ga K "Take") "__eq__") fd := c.df 67
  have bDTE := FDTE.binds (ps := ["self", "other"]) fun _ _ _ _ _ _ us hl => match us, hl with | [_, _], _ => rfl
  have mmDTE := He.meth_ok (c.fact 72)
  have iDTE := mmDTE.at_
  have fnDTE := mmDTE.fn
  obtain ⟨fdDTS, FDTS⟩ : ∃ fd, Fun K "__str__" "Take.__str__" s_Take_str (He.ma K (He.ga K "Take") "__str__") fd := c.df 68
  have bDTS := FDTS.binds (ps := ["self"]) fun _ _ _ _ _ _ us hl => match us, hl with | [_], _ => rfl
  have mmDTS := He.meth_ok (c.fact 73)
  have iDTS := mmDTS.at_
  have fnDTS := mmDTS.fn
  obtain ⟨fdDCI, FDCI⟩ : ∃ fd, Fun K "__init__" "Call.__init__" s_Call_init (He.ma K (He.ga K "Call") "__init__") fd := c.df 69
  have bDCI := FDCI.binds (ps := ["self", "function"]) fun _ _ _ _ _ _ us hl => match us, hl with | [_, _], _ => rfl
  obtain ⟨fdDCE, FDCE⟩ : ∃ fd, Fun K "__eq__" "Call.__eq__" s_Call_eq (He.ma K (He.ga K "Call") "__eq__") fd := c.df 70
  have bDCE := FDCE.binds (ps := ["self", "other"]) fun _ _ _ _ _ _ us hl => match us, hl with | [_, _], _ => rfl
  have mmDCE := He.meth_ok (c.fact 74)
  have iDCE := mmDCE.at_
  have fnDCE := mmDCE.fn
  obtain ⟨fdDCS, FDCS⟩ : ∃ fd, Fun K "__str__" "Call.__str__" s_Call_str (He.ma K (He.ga K "Call") "__str__") fd := c.df 71
  have bDCS := FDCS.binds (ps := ["self"]) fun _ _ _ _ _ _ us hl => match us, hl with | [_], _ => rfl
  have mmDCS := He.meth_ok (c.fact 75)
  have iDCS := mmDCS.at_
  have fnDCS := mmDCS.fn
  obtain ⟨fdDPI, FXDPI⟩ : ∃ fd, FunD K "__init__" "Preset.__init__" (defArgs s_Preset_init) (defBody s_Preset_init) (defScope s_Preset_init) [] [] (He.ma K (He.ga K "Preset") "__init__") fd := c.dfn 72
  obtain ⟨fdDPE, FDPE⟩ : ∃ fd, Fun K "__eq__" "Preset.__eq__" s_Preset_eq (He.ma K (He.ga K "Preset") "__eq__") fd := c.df 73
  have bDPE := FDPE.binds (ps := ["self", "other"]) fun _ _ _ _ _ _ us hl => match us, hl with | [_, _], _ => rfl
  have mmDPE := He.meth_ok (c.fact 76)
  have iDPE := mmDPE.at_
  have fnDPE := mmDPE.fn
  obtain ⟨fdDPS, FDPS⟩ : ∃ fd, Fun K "__str__" "Preset.__str__" s_Preset_str (He.ma K (He.ga K "Preset") "__str__") fd := c.df 74
  have bDPS := FDPS.binds (ps := ["self"]) fun _ _ _ _ _ _ us hl => match us, hl with | [_], _ => rfl
  have mmDPS := He.meth_ok (c.fact 77)
  have iDPS := mmDPS.at_
  have fnDPS := mmDPS.fn
  obtain ⟨fdDUI, FDUI⟩ : ∃ fd, Fun K "__init__" "Use.__init__" s_Use_init (He.ma K (He.ga K "Use") "__init__") fd := c.df 75
  have bDUI := FDUI.binds (ps := ["self", "right", "thing"]) fun _ _ _ _ _ _ us hl => match us, hl with | [_, _, _], _ => rfl
  obtain ⟨fdDUE, FDUE⟩ : ∃ fd, Fun K "__eq__" "Use.__eq__" s_Use_eq (He.ma K (He.ga K "Use") "__eq__") fd := c.df 76
  have bDUE := FDUE.binds (ps := ["self", "other"]) fun _ _ _ _ _ _ us hl => match us, hl with | [_, _], _ => rfl
  have mmDUE := He.meth_ok (c.fact 78)
  have iDUE := mmDUE.at_
  have fnDUE := mmDUE.fn
  obtain ⟨fdDUS, FDUS⟩ : ∃ fd, Fun K "__str__" "Use.__str__" s_Use_str (He.ma K (He.ga K "Use") "__str__") fd := c.df 77
  have bDUS := FDUS.binds (ps := ["self"]) fun _ _ _ _ _ _ us hl => match us, hl with | [_], _ => rfl
  have mmDUS := He.meth_ok (c.fact 79)
  have iDUS := mmDUS.at_
  have fnDUS := mmDUS.fn
  obtain ⟨fdDMI, FDMI⟩ : ∃ fd, Fun K "__init__" "Make.__init__" s_Make_init (He.ma K (He.ga K "Make") "__init__") fd := c.df 78
  have bDMI := FDMI.binds (ps := ["self", "thing"]) fun _ _ _ _ _ _ us hl => match us, hl with | [_, _], _ => rfl
  obtain ⟨fdDME, FDME⟩ : ∃ fd, Fun K "__eq__" "Make.__eq__" s_Make_eq (He.ma K (He.ga K "Make") "__eq__") fd := c.df 79
  have bDME := FDME.binds (ps := ["self", "other"]) fun _ _ _ _ _ _ us hl => match us, hl with | [_, _], _ => rfl
  have mmDME := He.meth_ok (c.fact 80)
  have iDME := mmDME.at_
  have fnDME := mmDME.fn
  obtain ⟨fdDMS, FDMS⟩ : ∃ fd, Fun K "__str__" "Make.__str__" s_Make_str (He.ma K (He.ga K "Make") "__str__") fd := c.df 80
  have bDMS := FDMS.binds (ps := ["self"]) fun _ _ _ _ _ _ us hl => match us, hl with | [_], _ => rfl
  have mmDMS := He.meth_ok (c.fact 81)
  have iDMS := mmDMS.at_
  have fnDMS := mmDMS.fn
  have hn := of_decide_eq_true (c.tru 0)
  have ht := of_decide_eq_true (c.tru 1)
  have c0R := He.cls_ok (c.fact 82)
  have MR := He.mkr_ok (c.fact 83)
  have haR := of_decide_eq_true (c.tru 2)
  have hmR := of_decide_eq_true (c.tru 3)
  have YtR : TyC K (He.ga K "Role") := ⟨c0R, haR, hn, ht, hmR⟩
  have nRkind := He.noat_ok (c.fact 84)
  have nRname := He.noat_ok (c.fact 85)
  have nRowner := He.noat_ok (c.fact 86)
  have nR_audience := He.noat_ok (c.fact 87)
  have neR := of_decide_eq_true (c.tru 4)
  have fmR := of_decide_eq_true (c.tru 5)
  have c0B := He.cls_ok (c.fact 88)
  have MB := He.mkr_ok (c.fact 89)
  have haB := of_decide_eq_true (c.tru 6)
  have hmB := of_decide_eq_true (c.tru 7)
  have YtB : TyC K (He.ga K "Table") := ⟨c0B, haB, hn, ht, hmB⟩
  have nBkind := He.noat_ok (c.fact 90)
  have nBname := He.noat_ok (c.fact 91)
  have nBowner := He.noat_ok (c.fact 92)
  have nB_audience := He.noat_ok (c.fact 93)
  have neB := of_decide_eq_true (c.tru 8)
  have fmB := of_decide_eq_true (c.tru 9)
  have c0F := He.cls_ok (c.fact 94)
  have MF := He.mkr_ok (c.fact 95)
  have haF := of_decide_eq_true (c.tru 10)
  have hmF := of_decide_eq_true (c.tru 11)
  have YtF : TyC K (He.ga K "Function") := ⟨c0F, haF, hn, ht, hmF⟩
  have nFkind := He.noat_ok (c.fact 96)
  have nFname := He.noat_ok (c.fact 97)
  have nFowner := He.noat_ok (c.fact 98)
  have nF_audience := He.noat_ok (c.fact 99)
  have nFmode := He.noat_ok (c.fact 100)
  have nF_body := He.noat_ok (c.fact 101)
  have neF := of_decide_eq_true (c.tru 12)
  have fmF := of_decide_eq_true (c.tru 13)
  have c0G := He.cls_ok (c.fact 102)
  have MG := He.mkr_ok (c.fact 103)
  have haG := of_decide_eq_true (c.tru 14)
  have hmG := of_decide_eq_true (c.tru 15)
  have YtG : TyC K (He.ga K "Give") := ⟨c0G, haG, hn, ht, hmG⟩
  have TfG : K5F.TyC K (He.ga K "Give") := ⟨c0G, haG, hn, ht, hmG⟩
  have nGright := He.noat_ok (c.fact 104)
  have nGthing := He.noat_ok (c.fact 105)
  have nGtaker := He.noat_ok (c.fact 106)
  have nGoption := He.noat_ok (c.fact 107)
  have neG := of_decide_eq_true (c.tru 16)
  have c0T := He.cls_ok (c.fact 108)
  have MT := He.mkr_ok (c.fact 109)
  have haT := of_decide_eq_true (c.tru 17)
  have hmT := of_decide_eq_true (c.tru 18)
  have YtT : TyC K (He.ga K "Take") := ⟨c0T, haT, hn, ht, hmT⟩
  have TfT : K5F.TyC K (He.ga K "Take") := ⟨c0T, haT, hn, ht, hmT⟩
  have nTright := He.noat_ok (c.fact 110)
  have nTthing := He.noat_ok (c.fact 111)
  have nTtaker := He.noat_ok (c.fact 112)
  have nTgiver := He.noat_ok (c.fact 113)
  have nTonly_option := He.noat_ok (c.fact 114)
  have nTcascade := He.noat_ok (c.fact 115)
  have neT := of_decide_eq_true (c.tru 19)
  have c0C := He.cls_ok (c.fact 116)
  have MC := He.mkr_ok (c.fact 117)
  have haC := of_decide_eq_true (c.tru 20)
  have hmC := of_decide_eq_true (c.tru 21)
  have YtC : TyC K (He.ga K "Call") := ⟨c0C, haC, hn, ht, hmC⟩
  have TfC : K5F.TyC K (He.ga K "Call") := ⟨c0C, haC, hn, ht, hmC⟩
  have nCfunction := He.noat_ok (c.fact 118)
  have neC := of_decide_eq_true (c.tru 22)
  have c0P := He.cls_ok (c.fact 119)
  have MP := He.mkr_ok (c.fact 120)
  have haP := of_decide_eq_true (c.tru 23)
  have hmP := of_decide_eq_true (c.tru 24)
  have YtP : TyC K (He.ga K "Preset") := ⟨c0P, haP, hn, ht, hmP⟩
  have TfP : K5F.TyC K (He.ga K "Preset") := ⟨c0P, haP, hn, ht, hmP⟩
  have nPkind := He.noat_ok (c.fact 121)
  have nPright := He.noat_ok (c.fact 122)
  have nPtaker := He.noat_ok (c.fact 123)
  have nPoption := He.noat_ok (c.fact 124)
  have neP := of_decide_eq_true (c.tru 25)
  have c0U := He.cls_ok (c.fact 125)
  have MU := He.mkr_ok (c.fact 126)
  have haU := of_decide_eq_true (c.tru 26)
  have hmU := of_decide_eq_true (c.tru 27)
  have YtU : TyC K (He.ga K "Use") := ⟨c0U, haU, hn, ht, hmU⟩
  have TfU : K5F.TyC K (He.ga K "Use") := ⟨c0U, haU, hn, ht, hmU⟩
  have nUright := He.noat_ok (c.fact 127)
  have nUthing := He.noat_ok (c.fact 128)
  have neU := of_decide_eq_true (c.tru 28)
  have c0M := He.cls_ok (c.fact 129)
  have MM := He.mkr_ok (c.fact 130)
  have haM := of_decide_eq_true (c.tru 29)
  have hmM := of_decide_eq_true (c.tru 30)
  have YtM : TyC K (He.ga K "Make") := ⟨c0M, haM, hn, ht, hmM⟩
  have nMthing := He.noat_ok (c.fact 131)
  have neM := of_decide_eq_true (c.tru 31)
  have oRR := of_decide_eq_true (c.tru 32)
  have nfRR := id (c.tru 33)
  have oRB := of_decide_eq_true (c.tru 34)
  have nfRB := id (c.tru 35)
  have oRF := of_decide_eq_true (c.tru 36)
  have nfRF := id (c.tru 37)
  have oBR := of_decide_eq_true (c.tru 38)
  have nfBR := id (c.tru 39)
  have oBB := of_decide_eq_true (c.tru 40)
  have nfBB := id (c.tru 41)
  have oBF := of_decide_eq_true (c.tru 42)
  have nfBF := id (c.tru 43)
  have oFR := of_decide_eq_true (c.tru 44)
  have nfFR := id (c.tru 45)
  have oFB := of_decide_eq_true (c.tru 46)
  have nfFB := id (c.tru 47)
  have oFF := of_decide_eq_true (c.tru 48)
  have nfFF := id (c.tru 49)
  have oGG := of_decide_eq_true (c.tru 50)
  have nfGG := id (c.tru 51)
  have oGT := of_decide_eq_true (c.tru 52)
  have nfGT := id (c.tru 53)
  have oGC := of_decide_eq_true (c.tru 54)
  have nfGC := id (c.tru 55)
  have oGP := of_decide_eq_true (c.tru 56)
  have nfGP := id (c.tru 57)
  have oGU := of_decide_eq_true (c.tru 58)
  have nfGU := id (c.tru 59)
  have oGM := of_decide_eq_true (c.tru 60)
  have nfGM := id (c.tru 61)
  have oTG := of_decide_eq_true (c.tru 62)
  have nfTG := id (c.tru 63)
  have oTT := of_decide_eq_true (c.tru 64)
  have nfTT := id (c.tru 65)
  have oTC := of_decide_eq_true (c.tru 66)
  have nfTC := id (c.tru 67)
  have oTP := of_decide_eq_true (c.tru 68)
  have nfTP := id (c.tru 69)
  have oTU := of_decide_eq_true (c.tru 70)
  have nfTU := id (c.tru 71)
  have oTM := of_decide_eq_true (c.tru 72)
  have nfTM := id (c.tru 73)
  have oCG := of_decide_eq_true (c.tru 74)
  have nfCG := id (c.tru 75)
  have oCT := of_decide_eq_true (c.tru 76)
  have nfCT := id (c.tru 77)
  have oCC := of_decide_eq_true (c.tru 78)
  have nfCC := id (c.tru 79)
  have oCP := of_decide_eq_true (c.tru 80)
  have nfCP := id (c.tru 81)
  have oCU := of_decide_eq_true (c.tru 82)
  have nfCU := id (c.tru 83)
  have oCM := of_decide_eq_true (c.tru 84)
  have nfCM := id (c.tru 85)
  have oPG := of_decide_eq_true (c.tru 86)
  have nfPG := id (c.tru 87)
  have oPT := of_decide_eq_true (c.tru 88)
  have nfPT := id (c.tru 89)
  have oPC := of_decide_eq_true (c.tru 90)
  have nfPC := id (c.tru 91)
  have oPP := of_decide_eq_true (c.tru 92)
  have nfPP := id (c.tru 93)
  have oPU := of_decide_eq_true (c.tru 94)
  have nfPU := id (c.tru 95)
  have oPM := of_decide_eq_true (c.tru 96)
  have nfPM := id (c.tru 97)
  have oUG := of_decide_eq_true (c.tru 98)
  have nfUG := id (c.tru 99)
  have oUT := of_decide_eq_true (c.tru 100)
  have nfUT := id (c.tru 101)
  have oUC := of_decide_eq_true (c.tru 102)
  have nfUC := id (c.tru 103)
  have oUP := of_decide_eq_true (c.tru 104)
  have nfUP := id (c.tru 105)
  have oUU := of_decide_eq_true (c.tru 106)
  have nfUU := id (c.tru 107)
  have oUM := of_decide_eq_true (c.tru 108)
  have nfUM := id (c.tru 109)
  have oMG := of_decide_eq_true (c.tru 110)
  have nfMG := id (c.tru 111)
  have oMT := of_decide_eq_true (c.tru 112)
  have nfMT := id (c.tru 113)
  have oMC := of_decide_eq_true (c.tru 114)
  have nfMC := id (c.tru 115)
  have oMP := of_decide_eq_true (c.tru 116)
  have nfMP := id (c.tru 117)
  have oMU := of_decide_eq_true (c.tru 118)
  have nfMU := id (c.tru 119)
  have oMM := of_decide_eq_true (c.tru 120)
  have nfMM := id (c.tru 121)
  have oDG := of_decide_eq_true (c.tru 122)
  have oDT := of_decide_eq_true (c.tru 123)
  have oDC := of_decide_eq_true (c.tru 124)
  have oDP := of_decide_eq_true (c.tru 125)
  have oDU := of_decide_eq_true (c.tru 126)
  have oDM := of_decide_eq_true (c.tru 127)
  have tfR : TF K (He.ga K "Role") := ⟨c0R, nRkind, nRname, nRowner, nR_audience⟩
  have mHR := mmTHR
  have mWR := mmTWR
  have tfB : TF K (He.ga K "Table") := ⟨c0B, nBkind, nBname, nBowner, nB_audience⟩
  have mHB := mmTHB
  have mWB := mmTWB
  have tfF : TF K (He.ga K "Function") := ⟨c0F, nFkind, nFname, nFowner, nF_audience⟩
  have mHF := mmTHF
  have mWF := mmTWF
  have rdT := id (c.tru 128)
  have gaT := of_decide_eq_true (c.tru 129)
  have inT := HX.clsB_ok (c.tru 130)
  obtain ⟨tmL, mL⟩ := He.int_ok X G (c.fact 132)
  obtain ⟨tmMB, mMB⟩ := He.int_ok X G (c.fact 133)
  obtain ⟨tmMA, mMA⟩ := He.int_ok X G (c.fact 134)
  have mR := He.glo_ok X G (c.fact 135)
  have hR0 := id (c.tru 131)
  have hR : KTup K (He.ga K "RESERVED") [tPub, tCal] := ktup_of (zs := [tPub, tCal]) hR0
  have mM := He.glo_ok X G (c.fact 136)
  have hM0 := id (c.tru 132)
  have hM : KTup K (He.ga K "MODES") [(Str.ofString "owner"), (Str.ofString "caller")] := ktup_of (zs := [(Str.ofString "owner"), (Str.ofString "caller")]) hM0
  have mDs := He.glo_ok X G (c.fact 137)
  have hDs0 := id (c.tru 133)
  have hDs : KTup K (He.ga K "DEEDS") [(Str.ofString "give"), (Str.ofString "take"), (Str.ofString "call"), (Str.ofString "preset"), (Str.ofString "use"), (Str.ofString "make")] := ktup_of (zs := [(Str.ofString "give"), (Str.ofString "take"), (Str.ofString "call"), (Str.ofString "preset"), (Str.ofString "use"), (Str.ofString "make")]) hDs0
  have mMk := He.glo_ok X G (c.fact 138)
  have hMk0 := id (c.tru 134)
  have hMk : KTup K (He.ga K "MADE_KINDS") [(Str.ofString "table"), (Str.ofString "function")] := ktup_of (zs := [(Str.ofString "table"), (Str.ofString "function")]) hMk0
  have mK := He.glo_ok X G (c.fact 139)
  have krd := id (c.tru 135)
  have hKr : KRight K w (He.ga K "KIND_BY_RIGHT") := kright_of krd (c.tbl 0)
  have mRd := He.glo_ok X G (c.fact 140)
  have hRd2 : ∃ es n, KDict K w (He.ga K "READERS") es n := c.tbl 1
  have r_give := of_decide_eq_true (c.tru 136)
  have kr_give : KRd K w (He.ga K "READERS") "give" (He.ga K "give_of") := ⟨hRd2, r_give⟩
  have r_take := of_decide_eq_true (c.tru 137)
  have kr_take : KRd K w (He.ga K "READERS") "take" (He.ga K "take_of") := ⟨hRd2, r_take⟩
  have r_call := of_decide_eq_true (c.tru 138)
  have kr_call : KRd K w (He.ga K "READERS") "call" (He.ga K "call_of") := ⟨hRd2, r_call⟩
  have r_preset := of_decide_eq_true (c.tru 139)
  have kr_preset : KRd K w (He.ga K "READERS") "preset" (He.ga K "preset_of") := ⟨hRd2, r_preset⟩
  have r_use := of_decide_eq_true (c.tru 140)
  have kr_use : KRd K w (He.ga K "READERS") "use" (He.ga K "use_of") := ⟨hRd2, r_use⟩
  have r_make := of_decide_eq_true (c.tru 141)
  have kr_make : KRd K w (He.ga K "READERS") "make" (He.ga K "make_of") := ⟨hRd2, r_make⟩
  have r_role := of_decide_eq_true (c.tru 142)
  have kr_role : KRd K w (He.ga K "READERS") "role" (He.ga K "role_of") := ⟨hRd2, r_role⟩
  have r_table := of_decide_eq_true (c.tru 143)
  have kr_table : KRd K w (He.ga K "READERS") "table" (He.ga K "table_of") := ⟨hRd2, r_table⟩
  have r_function := of_decide_eq_true (c.tru 144)
  have kr_function : KRd K w (He.ga K "READERS") "function" (He.ga K "function_of") := ⟨hRd2, r_function⟩
  have misinstance := He.free_ok X G (c.fact 141)
  have mstr := He.free_ok X G (c.fact 142)
  have mlen := He.free_ok X G (c.fact 143)
  have mrange := He.free_ok X G (c.fact 144)
  have mmax := He.free_ok X G (c.fact 145)
  have mmin := He.free_ok X G (c.fact 146)
  have mlist := He.free_ok X G (c.fact 147)
  have mtuple := He.free_ok X G (c.fact 148)
  have mall := He.free_ok X G (c.fact 149)
  have mset := He.free_ok X G (c.fact 150)
  have msorted := He.free_ok X G (c.fact 151)
  have mint := He.free_ok X G (c.fact 152)
  have mzip := He.free_ok X G (c.fact 153)
  have ffF : FF K (He.ga K "Function") := ⟨tfF, nFmode, nF_body⟩
  have cdef : CDef K mg "Thing" (He.ga K "Thing") (.type "type") "__init__" (He.ma K (He.ga K "Thing") "__init__") := ⟨gThing, rdT, gaT, inT, FTI.kp⟩
  have dc : DC K mg ⟨(He.ga K "Call"), (He.ga K "Give")⟩ := ⟨gCall, gGive, YtC, YtG, oCC, oGC, oCG, oGG, nCfunction, nGright, nGthing, nGtaker, nGoption⟩
  have t5 : ∀ x, K5F.TyC K ((c5f (He.ga K "Give") (He.ga K "Take") (He.ga K "Call") (He.ga K "Preset") (He.ga K "Use")) x) := fun x => match x with | .give => TfG | .take => TfT | .call => TfC | .preset => TfP | .use => TfU
  have kk5 : ∀ x y, PySem.W.kitOne K (.ref ((c5f (He.ga K "Give") (He.ga K "Take") (He.ga K "Call") (He.ga K "Preset") (He.ga K "Use")) x)) (.ref ((c5f (He.ga K "Give") (He.ga K "Take") (He.ga K "Call") (He.ga K "Preset") (He.ga K "Use")) y)) = some (decide (x = y)) := fun x y => match x, y with | .give, .give => oGG | .give, .take => oTG | .give, .call => oCG | .give, .preset => oPG | .give, .use => oUG | .take, .give => oGT | .take, .take => oTT | .take, .call => oCT | .take, .preset => oPT | .take, .use => oUT | .call, .give => oGC | .call, .take => oTC | .call, .call => oCC | .call, .preset => oPC | .call, .use => oUC | .preset, .give => oGP | .preset, .take => oTP | .preset, .call => oCP | .preset, .preset => oPP | .preset, .use => oUP | .use, .give => oGU | .use, .take => oTU | .use, .call => oCU | .use, .preset => oPU | .use, .use => oUU
  have dc5 : K5F.DC K mg (c5f (He.ga K "Give") (He.ga K "Take") (He.ga K "Call") (He.ga K "Preset") (He.ga K "Use")) := ⟨t5, kk5, gGive, nGright, nGthing, nGtaker, nGoption, gTake, nTright, nTthing, nTtaker, nTgiver, nTonly_option, nTcascade, gCall, nCfunction, gPreset, nPkind, nPright, nPtaker, nPoption, gUse, nUright, nUthing⟩
  have bGI := kbn_mk (ps := ["self", "right", "thing", "taker", "option"]) (ks := ["option"]) (n := 4) FXDGI fun _ _ _ _ _ _ s us ws h1 h2 => match us, ws, h1, h2 with | [_, _, _, _], [_], _, _ => .of_eq rfl
  have bTI5 := kbn_mk (ps := ["self", "right", "thing", "taker", "giver", "only_option", "cascade"]) (ks := ["giver", "only_option", "cascade"]) (n := 4) FXDTI fun _ _ _ _ _ _ s us ws h1 h2 => match us, ws, h1, h2 with | [_, _, _, _], [_, _, _], _, _ => .of_eq rfl
  have bPI := kbn_mk (ps := ["self", "kind", "right", "taker", "option"]) (ks := ["option"]) (n := 4) FXDPI fun _ _ _ _ _ _ s us ws h1 h2 => match us, ws, h1, h2 with | [_, _, _, _], [_], _, _ => .of_eq rfl
  obtain ⟨dsS, vS, bSW⟩ := FXS.binds0 (ps := ["text", "separator"]) 1 (by simp) rfl fun D doc pm an cdv ct us ks h1 h2 => match us, ks, h1, h2 with
    | [_], [k], _, _ => ⟨_, _, _, _, _, _, rfl, rfl, rfl⟩
  have b1R := kbn_mk (ps := psR) (ks := ["audience"]) (n := 3) FXRI fun _ _ _ _ _ _ s us ws h1 h2 => match us, ws, h1, h2 with | [_, _, _], [_], _, _ => .of_eq rfl
  have b1B := kbn_mk (ps := psR) (ks := ["audience"]) (n := 3) FXBI fun _ _ _ _ _ _ s us ws h1 h2 => match us, ws, h1, h2 with | [_, _, _], [_], _, _ => .of_eq rfl
  have b1F := kbn_mk (ps := psF) (ks := ["audience", "mode", "body"]) (n := 3) FXFI fun _ _ _ _ _ _ s us ws h1 h2 => match us, ws, h1, h2 with | [_, _, _], [_, _, _], _, _ => .of_eq rfl
  have e := hfa.symm.trans g45
  cases e
  refine ⟨fd45, fun s v => ?_, fun base _ _ => ?_⟩
  · exact (FunD.bindsA (ps := ["_law_script"]) FL45 fun _ _ _ _ _ _ us hl => match us, hl with | [_], _ => rfl) s [v] rfl
  have oN : FnOk l.prog w K mg base CX0 1 (He.ga K "is_name") _ ["value"] (spP K isName) := ok_is_name F0 misinstance mstr mlen mL mR hR
  have oT : FnOk l.prog w K mg base CX0 2 (He.ga K "is_taker") _ ["value"] (spP K isTaker) := ok_is_taker F1 oN b0 k0 g0
  have oR : FnOk l.prog w K mg base CX0 1 (He.ga K "is_right") _ ["value"] (spP K isRight) := ok_is_right F2 misinstance mstr mK hKr
  have oF : FnOk l.prog w K mg base CX0 1 (He.ga K "is_flag") _ ["value"] (spP K isFlag) := ok_is_flag F4
  have dN := df_mk (oN) b0 k0 g0
  have dT_ := df_mk (oT) b1 k1 g1
  have dRi := df_mk (oR) b2 k2 g2
  have dFl := df_mk (oF) b4 k4 g4
  have dcN := df_mk (ok_check_name F9 dN) b9 k9 g9
  have dcT := df_mk (ok_check_taker F10 dT_) b10 k10 g10
  have dcR := df_mk (ok_check_right F12 dRi) b12 k12 g12
  have dcO := df_mk (ok_check_option F16 dFl) b16 k16 g16
  have hKr5 : K5F.KRight K w (He.ga K "KIND_BY_RIGHT") := ⟨hKr.dict, hKr.get⟩
  have oN5 : FnOk l.prog w K mg base CX0 1 (He.ga K "is_name") _ ["value"] (K5F.spP K isName) := K5F.ok_is_name F0 misinstance mstr mlen mL mR hR
  have oT5 : FnOk l.prog w K mg base CX0 2 (He.ga K "is_taker") _ ["value"] (K5F.spP K isTaker) := K5F.ok_is_taker F1 oN5 b0 k0 g0
  have oR5 : FnOk l.prog w K mg base CX0 1 (He.ga K "is_right") _ ["value"] (K5F.spP K isRight) := K5F.ok_is_right F2 misinstance mstr mK hKr5
  have oF5 : FnOk l.prog w K mg base CX0 1 (He.ga K "is_flag") _ ["value"] (K5F.spP K isFlag) := K5F.ok_is_flag F4
  have oM5 : FnOk l.prog w K mg base CX0 1 (He.ga K "is_made_kind") _ ["value"] (K5F.spP K isMade) := K5F.ok_is_made F3 mMk hMk
  have eN := df_mk5 (oN5) b0 k0 g0
  have eT := df_mk5 (oT5) b1 k1 g1
  have eRi := df_mk5 (oR5) b2 k2 g2
  have eFl := df_mk5 (oF5) b4 k4 g4
  have eMk := df_mk5 (oM5) b3 k3 g3
  have eKo := df_mk5 (K5F.ok_kind_of F8 eRi mK hKr5) b8 k8 g8
  have ecN := df_mk5 (K5F.ok_check_name F9 eN) b9 k9 g9
  have ecT := df_mk5 (K5F.ok_check_taker F10 eT) b10 k10 g10
  have ecR := df_mk5 (K5F.ok_check_right F12 eRi) b12 k12 g12
  have ecO := df_mk5 (K5F.ok_check_option F16 eFl) b16 k16 g16
  have ecF := df_mk5 (K5F.ok_check_flag F15 eFl) b15 k15 g15
  have ecM := df_mk5 (K5F.ok_check_made F14 eMk) b14 k14 g14
  have ecOn := df_mk5 (K5F.ok_check_right_on F13 eKo) b13 k13 g13
  have ecFr := df_mk5 (K5F.ok_check_from F11 eT) b11 k11 g11
  have chk : K5F.Chk l.prog w K mg base := ⟨ecR, ecN, ecT, ecO, ecF, ecM, ecOn, ecFr⟩
  have dLi := df_mk (ok_is_list (P := l.prog) (w := w) (base := base) F5 misinstance mlist mtuple) b5 k5 g5
  have dNs := df_mk (ok_is_names F6 dLi dN mlen mall mset) b6 k6 g6
  have dBo := df_mk (ok_is_body F7 dc dLi misinstance mlen mall mMB) b7 k7 g7
  have oGI := ok_GiveI FXDGI dcR dcN dcT dcO c0G nGright nGthing nGtaker nGoption
  have oCI := ok_CallI FDCI dcN c0C nCfunction
  have mkd : MkD l.prog w K mg base ⟨(He.ga K "Call"), (He.ga K "Give")⟩ := ⟨⟨(He.ma K (He.ga K "Call") "__init__"), _, MC, oCI.mono (by decide), gCall, bDCI⟩, ⟨(He.ma K (He.ga K "Give") "__init__"), _, MG, oGI, gGive, bGI⟩⟩
  have de : DE l.prog w K mg base ⟨(He.ga K "Call"), (He.ga K "Give")⟩ := ⟨⟨(He.ma K (He.ga K "Call") "__eq__"), _, ok_CallE FDCE dc misinstance, iDCE, fnDCE, bDCE⟩, ⟨(He.ma K (He.ga K "Give") "__eq__"), _, ok_GiveE FDGE dc misinstance, iDGE, fnDGE, bDGE⟩, fun d d' => match d, d' with | .call _, .call _ => nfCC | .call _, .give _ _ _ _ => nfCG | .give _ _ _ _, .call _ => nfGC | .give _ _ _ _, .give _ _ _ _ => nfGG⟩
  have ds : DS l.prog w K mg base ⟨(He.ga K "Call"), (He.ga K "Give")⟩ := ⟨⟨(He.ma K (He.ga K "Call") "__str__"), _, ok_CallS FDCS dc, iDCS, fnDCS, bDCS⟩, ⟨(He.ma K (He.ga K "Give") "__str__"), _, ok_GiveS FDGS dc, iDGS, fnDGS, bDGS⟩⟩
  have m5 : Mk5 l.prog w K mg base (c5f (He.ga K "Give") (He.ga K "Take") (He.ga K "Call") (He.ga K "Preset") (He.ga K "Use")) := ⟨⟨(He.ma K (He.ga K "Give") "__init__"), _, MG, K5F.ok_GiveI FXDGI chk c0G nGright nGthing nGtaker nGoption, gGive, bGI⟩, ⟨(He.ma K (He.ga K "Take") "__init__"), _, MT, K5F.ok_TakeI FXDTI chk c0T nTright nTthing nTtaker nTgiver nTonly_option nTcascade, gTake, bTI5⟩, ⟨(He.ma K (He.ga K "Call") "__init__"), _, MC, K5F.ok_CallI FDCI chk c0C nCfunction, gCall, bDCI⟩, ⟨(He.ma K (He.ga K "Preset") "__init__"), _, MP, K5F.ok_PresetI FXDPI chk c0P nPkind nPright nPtaker nPoption, gPreset, bPI⟩, ⟨(He.ma K (He.ga K "Use") "__init__"), _, MU, K5F.ok_UseI FDUI chk c0U nUright nUthing, gUse, bDUI⟩⟩
  have oTI := ok_Thing FTI dcN dNs mMA msorted mstr
  have oRI := ok_Role FXRI cdef oTI bTI tfR
  have oBI := ok_Table FXBI cdef oTI bTI tfB
  have oFI := ok_Function FXFI cdef oTI bTI dBo ffF mM hM mlist
  have oTHR := ok_head (P := l.prog) (w := w) (mg := mg) (base := base) FTHR
  have oTWR := ok_audw (P := l.prog) (w := w) (mg := mg) (base := base) FTWR
  have oTHB := ok_head (P := l.prog) (w := w) (mg := mg) (base := base) FTHB
  have oTWB := ok_audw (P := l.prog) (w := w) (mg := mg) (base := base) FTWB
  have oTHF := ok_head (P := l.prog) (w := w) (mg := mg) (base := base) FTHF
  have oTWF := ok_audw (P := l.prog) (w := w) (mg := mg) (base := base) FTWF
  have mkR : MkR l.prog w K mg base "Role" tRol (He.ga K "Role") (He.ma K (He.ga K "Role") "__init__") _ _ := ⟨MR, oRI, gRole, b1R⟩
  have mkB : MkR l.prog w K mg base "Table" tTab (He.ga K "Table") (He.ma K (He.ga K "Table") "__init__") _ _ := ⟨MB, oBI, gTable, b1B⟩
  have mkF : MkFn l.prog w K mg base ⟨(He.ga K "Call"), (He.ga K "Give")⟩ (He.ga K "Function") (He.ma K (He.ga K "Function") "__init__") _ _ := ⟨MF, oFI, gFunction, b1F⟩
  have oRE := ok_RoleE (c := ⟨(He.ga K "Call"), (He.ga K "Give")⟩) (k := ⟨(He.ga K "Role"), (He.ga K "Table"), (He.ga K "Function")⟩) FRE tfR gRole misinstance mHR oTHR bTHR
  have oBE := ok_TableE (c := ⟨(He.ga K "Call"), (He.ga K "Give")⟩) (k := ⟨(He.ga K "Role"), (He.ga K "Table"), (He.ga K "Function")⟩) FBE tfB gTable misinstance mHB oTHB bTHB
  have oFE := ok_FunctionE (c := ⟨(He.ga K "Call"), (He.ga K "Give")⟩) (k := ⟨(He.ga K "Role"), (He.ga K "Table"), (He.ga K "Function")⟩) FFE de ffF gFunction misinstance mHF oTHF bTHF
  have ktR : KTh l.prog w K mg base (He.ga K "Role") := ⟨tfR, (He.ma K (He.ga K "Role") "audience_words"), _, mWR, oTWR, bTWR⟩
  have ktB : KTh l.prog w K mg base (He.ga K "Table") := ⟨tfB, (He.ma K (He.ga K "Table") "audience_words"), _, mWB, oTWB, bTWB⟩
  have ktF : KTh l.prog w K mg base (He.ga K "Function") := ⟨tfF, (He.ma K (He.ga K "Function") "audience_words"), _, mWF, oTWF, bTWF⟩
  have oSR := ok_strH (c := ⟨(He.ga K "Call"), (He.ga K "Give")⟩) (k := ⟨(He.ga K "Role"), (He.ga K "Table"), (He.ga K "Function")⟩) FTSR ktR
  have oSB := ok_strH (c := ⟨(He.ga K "Call"), (He.ga K "Give")⟩) (k := ⟨(He.ga K "Role"), (He.ga K "Table"), (He.ga K "Function")⟩) FTSB ktB
  have oSF := ok_strF (c := ⟨(He.ga K "Call"), (He.ga K "Give")⟩) (k := ⟨(He.ga K "Role"), (He.ga K "Table"), (He.ga K "Function")⟩) FFS ffF ktF ds mlen mstr
  have eqo : EqOk l.prog w K mg base ⟨(He.ga K "Call"), (He.ga K "Give")⟩ ⟨(He.ga K "Role"), (He.ga K "Table"), (He.ga K "Function")⟩ := eqok_mk YtR YtB YtF ⟨(He.ma K (He.ga K "Role") "__eq__"), _, oRE, iRE, fnRE, bRE⟩ ⟨(He.ma K (He.ga K "Table") "__eq__"), _, oBE, iBE, fnBE, bBE⟩ ⟨(He.ma K (He.ga K "Function") "__eq__"), _, oFE, iFE, fnFE, bFE⟩ neR neB neF nfRR nfRB nfRF nfBR nfBB nfBF nfFR nfFB nfFF oRR oRB oRF oBR oBB oBF oFR oFB oFF
  have ss : SS l.prog w K mg base ⟨(He.ga K "Call"), (He.ga K "Give")⟩ ⟨(He.ga K "Role"), (He.ga K "Table"), (He.ga K "Function")⟩ := ⟨fun kd h n => by
    rcases h with rfl | rfl | rfl
    · rw [cls_rol]; exact ⟨(He.ma K (He.ga K "Role") "__str__"), _, oSR, iTSR, fnTSR, bTSR⟩
    · rw [cls_tab]; exact ⟨(He.ma K (He.ga K "Table") "__str__"), _, oSB, iTSB, fnTSB, bTSB⟩
    · exact absurd rfl n, ⟨(He.ma K (He.ga K "Function") "__str__"), _, oSF, iFS, fnFS, bFS⟩⟩
  have mki : MkI K mg ⟨(He.ga K "Role"), (He.ga K "Table"), (He.ga K "Function")⟩ (He.ga K "Make") := ⟨fun kd h => by
    rcases h with rfl | rfl | rfl
    · rw [cls_rol]; exact YtR
    · rw [cls_tab]; exact YtB
    · rw [cls_fun]; exact YtF, fun kd h => by
    rcases h with rfl | rfl | rfl
    · rw [cls_rol]; exact fmR
    · rw [cls_tab]; exact fmB
    · rw [cls_fun]; exact fmF, fun kd h n => by
    rcases h with rfl | rfl | rfl
    · exact absurd rfl n
    · rw [cls_tab]; exact kitAny_cons oBB (fun h => nomatch h) (fun _ => rfl)
    · rw [cls_fun]; exact kitAny_cons oBF (fun _ => kitAny_cons oFF (fun h => nomatch h) (fun _ => rfl)) (fun h => nomatch h), gTable, gFunction, gMake, YtM, nMthing⟩
  have oMI := ok_MakeI (P := l.prog) (w := w) (base := base) (c := ⟨(He.ga K "Call"), (He.ga K "Give")⟩) FDMI mki misinstance
  have oME := ok_MakeE FDME mki eqo misinstance
  have oMS := ok_MakeS FDMS ss mki
  have mmk : MkMk l.prog w K mg base (He.ga K "Make") ⟨(He.ga K "Call"), (He.ga K "Give")⟩ ⟨(He.ga K "Role"), (He.ga K "Table"), (He.ga K "Function")⟩ := ⟨⟨(He.ma K (He.ga K "Make") "__init__"), _, MM, oMI, gMake, bDMI⟩⟩
  have sd : SD l.prog w K mg base ⟨(c5f (He.ga K "Give") (He.ga K "Take") (He.ga K "Call") (He.ga K "Preset") (He.ga K "Use")), (He.ga K "Make"), ⟨(He.ga K "Call"), (He.ga K "Give")⟩, ⟨(He.ga K "Role"), (He.ga K "Table"), (He.ga K "Function")⟩⟩ := ⟨fun x => match x with | .give => ⟨_, _, K5F.ok_GiveS FDGS dc5, iDGS, fnDGS, bDGS⟩ | .take => ⟨_, _, K5F.ok_TakeS FDTS dc5, iDTS, fnDTS, bDTS⟩ | .call => ⟨_, _, K5F.ok_CallS FDCS dc5, iDCS, fnDCS, bDCS⟩ | .preset => ⟨_, _, K5F.ok_PresetS FDPS dc5, iDPS, fnDPS, bDPS⟩ | .use => ⟨_, _, K5F.ok_UseS FDUS dc5, iDUS, fnDUS, bDUS⟩, ⟨_, _, oMS, iDMS, fnDMS, bDMS⟩⟩
  have kd : KD K mg ⟨(c5f (He.ga K "Give") (He.ga K "Take") (He.ga K "Call") (He.ga K "Preset") (He.ga K "Use")), (He.ga K "Make"), ⟨(He.ga K "Call"), (He.ga K "Give")⟩, ⟨(He.ga K "Role"), (He.ga K "Table"), (He.ga K "Function")⟩⟩ (He.ga K "Deed") (He.ga K "Thing") := ⟨t5, YtM, gDeed, gThing, fun x => match x with | .give => kitAny_cons oDG (fun h => nomatch h) (fun _ => rfl) | .take => kitAny_cons oDT (fun h => nomatch h) (fun _ => rfl) | .call => kitAny_cons oDC (fun h => nomatch h) (fun _ => rfl) | .preset => kitAny_cons oDP (fun h => nomatch h) (fun _ => rfl) | .use => kitAny_cons oDU (fun h => nomatch h) (fun _ => rfl), kitAny_cons oDM (fun h => nomatch h) (fun _ => rfl)⟩
  have km : ∀ x, PySem.W.kitOne K (.ref ((c5f (He.ga K "Give") (He.ga K "Take") (He.ga K "Call") (He.ga K "Preset") (He.ga K "Use")) x)) (.ref (He.ga K "Make")) = some false := fun x => match x with | .give => oMG | .take => oMT | .call => oMC | .preset => oMP | .use => oMU
  have k5 : ∀ x, PySem.W.kitOne K (.ref (He.ga K "Make")) (.ref ((c5f (He.ga K "Give") (He.ga K "Take") (He.ga K "Call") (He.ga K "Preset") (He.ga K "Use")) x)) = some false := fun x => match x with | .give => oGM | .take => oTM | .call => oCM | .preset => oPM | .use => oUM
  have nf5 : ∀ x y, PySem.W.notFirst K ((c5f (He.ga K "Give") (He.ga K "Take") (He.ga K "Call") (He.ga K "Preset") (He.ga K "Use")) x) (.ref ((c5f (He.ga K "Give") (He.ga K "Take") (He.ga K "Call") (He.ga K "Preset") (He.ga K "Use")) y)) = true := fun x y => match x, y with | .give, .give => nfGG | .give, .take => nfGT | .give, .call => nfGC | .give, .preset => nfGP | .give, .use => nfGU | .take, .give => nfTG | .take, .take => nfTT | .take, .call => nfTC | .take, .preset => nfTP | .take, .use => nfTU | .call, .give => nfCG | .call, .take => nfCT | .call, .call => nfCC | .call, .preset => nfCP | .call, .use => nfCU | .preset, .give => nfPG | .preset, .take => nfPT | .preset, .call => nfPC | .preset, .preset => nfPP | .preset, .use => nfPU | .use, .give => nfUG | .use, .take => nfUT | .use, .call => nfUC | .use, .preset => nfUP | .use, .use => nfUU
  have nf5m : ∀ x, PySem.W.notFirst K ((c5f (He.ga K "Give") (He.ga K "Take") (He.ga K "Call") (He.ga K "Preset") (He.ga K "Use")) x) (.ref (He.ga K "Make")) = true := fun x => match x with | .give => nfGM | .take => nfTM | .call => nfCM | .preset => nfPM | .use => nfUM
  have nfm5 : ∀ x, PySem.W.notFirst K (He.ga K "Make") (.ref ((c5f (He.ga K "Give") (He.ga K "Take") (He.ga K "Call") (He.ga K "Preset") (He.ga K "Use")) x)) = true := fun x => match x with | .give => nfMG | .take => nfMT | .call => nfMC | .preset => nfMP | .use => nfMU
  have eqd : EqTd l.prog w K mg base ⟨(c5f (He.ga K "Give") (He.ga K "Take") (He.ga K "Call") (He.ga K "Preset") (He.ga K "Use")), (He.ga K "Make"), ⟨(He.ga K "Call"), (He.ga K "Give")⟩, ⟨(He.ga K "Role"), (He.ga K "Table"), (He.ga K "Function")⟩⟩ := ⟨t5, YtM, fun x => match x with | .give => ⟨_, _, K5F.ok_GiveE FDGE dc5 misinstance, iDGE, fnDGE, bDGE⟩ | .take => ⟨_, _, K5F.ok_TakeE FDTE dc5 misinstance, iDTE, fnDTE, bDTE⟩ | .call => ⟨_, _, K5F.ok_CallE FDCE dc5 misinstance, iDCE, fnDCE, bDCE⟩ | .preset => ⟨_, _, K5F.ok_PresetE FDPE dc5 misinstance, iDPE, fnDPE, bDPE⟩ | .use => ⟨_, _, K5F.ok_UseE FDUE dc5 misinstance, iDUE, fnDUE, bDUE⟩,
    ⟨_, _, oME, iDME, fnDME, bDME⟩, fun x => match x with | .give => neG | .take => neT | .call => neC | .preset => neP | .use => neU, neM, fun t t' => match t, t' with | .dm d, .dm d' => nf5 _ _ | .dm d, .mk t => nf5m _ | .mk t, .dm d => nfm5 _ | .mk _, .mk _ => nfMM, km, k5, oMM⟩
  have kc : KC K mg ⟨(c5f (He.ga K "Give") (He.ga K "Take") (He.ga K "Call") (He.ga K "Preset") (He.ga K "Use")), (He.ga K "Make"), ⟨(He.ga K "Call"), (He.ga K "Give")⟩, ⟨(He.ga K "Role"), (He.ga K "Table"), (He.ga K "Function")⟩⟩ := ⟨t5, YtM, gGive, gTake, gCall, gPreset, gUse, gMake, kk5, km, k5, oMM⟩
  have dBF := df_mk (ok_bf (P := l.prog) (w := w) (mg := mg) (base := base) F17) b17 k17 g17
  have dAI := df_mk (ok_ai (P := l.prog) (w := w) (mg := mg) (base := base) F27) b27 k27 g27
  have dPO := df_mk (ok_parts (P := l.prog) (w := w) (base := base) F28 mlen) b28 k28 g28
  have oGO := ok_give_of F18 mkd dBF
  have oCO := ok_call_of F20 mkd dBF
  have oTO := ok_table_of (c := ⟨(He.ga K "Call"), (He.ga K "Give")⟩) (k := ⟨(He.ga K "Role"), (He.ga K "Table"), (He.ga K "Function")⟩) F25 mkB dBF dAI
  have oRF7 : FnOk l.prog w K mg base CX0 7 (He.ga K "read_from") _ ["words", "allowed"] (spRFD K ⟨(He.ga K "Call"), (He.ga K "Give")⟩) := FnOk_or (ok_rf F29 oGO b18 k18 kr_give mlen mRd) (ok_rf F29 oCO b20 k20 kr_call mlen mRd)
  have dRF7 := df_mk (oRF7) b29 k29 g29
  have oFO := ok_function_of (k := ⟨(He.ga K "Role"), (He.ga K "Table"), (He.ga K "Function")⟩) F26 mkF dBF dAI dPO dRF7 mlen
  have oRF9 : FnOk l.prog w K mg base CX0 9 (He.ga K "read_from") _ ["words", "allowed"] (spRFT2 K ⟨(He.ga K "Call"), (He.ga K "Give")⟩ ⟨(He.ga K "Role"), (He.ga K "Table"), (He.ga K "Function")⟩) := FnOk_or ((ok_rf F29 oTO b25 k25 kr_table mlen mRd).mono (by decide)) (ok_rf F29 oFO b26 k26 kr_function mlen mRd)
  have dRF9 := df_mk (oRF9) b29 k29 g29
  have oG5 := ok_give_of5 F18 m5 dBF
  have oT5_ := ok_take_of F19 m5 dBF mlen
  have oC5 := ok_call_of5 F20 m5 dBF
  have oP5 := ok_preset_of5 F21 m5 dBF
  have oU5 := ok_use_of5 F22 m5 dBF
  have oMO := ok_make_of F23 mmk dRF9
  have oRF11 : FnOk l.prog w K mg base CX0 11 (He.ga K "read_from") _ ["words", "allowed"] (spRF6 K ⟨(c5f (He.ga K "Give") (He.ga K "Take") (He.ga K "Call") (He.ga K "Preset") (He.ga K "Use")), (He.ga K "Make"), ⟨(He.ga K "Call"), (He.ga K "Give")⟩, ⟨(He.ga K "Role"), (He.ga K "Table"), (He.ga K "Function")⟩⟩) := FnOk_or ((ok_rf F29 oG5 b18 k18 kr_give mlen mRd).mono (by decide)) (FnOk_or ((ok_rf F29 oT5_ b19 k19 kr_take mlen mRd).mono (by decide)) (FnOk_or ((ok_rf F29 oC5 b20 k20 kr_call mlen mRd).mono (by decide)) (FnOk_or ((ok_rf F29 oP5 b21 k21 kr_preset mlen mRd).mono (by decide)) (FnOk_or ((ok_rf F29 oU5 b22 k22 kr_use mlen mRd).mono (by decide)) (ok_rf F29 oMO b23 k23 kr_make mlen mRd)))))
  have dRF11 := df_mk (oRF11) b29 k29 g29
  have oSW := ok_split (P := l.prog) (w := w) (base := base) FXS misinstance mstr
  have dTO := df_mk (ok_text_ofD F31 kd sd misinstance mstr) b31 k31 g31
  have dRT := df_mk (ok_read_textD F30 oSW bSW vS kSW mSW dRF11 dTO) b30 k30 g30
  have dRd := df_mk (ok_read_deed F32 dRT mDs hDs) b32 k32 g32
  have dC := df_mk (ok_cell (P := l.prog) (w := w) (base := base) F33 mlen) b33 k33 g33
  have dB := df_mk (ok_box (P := l.prog) (w := w) (base := base) F34 mmax) b34 k34 g34
  have dTk := df_mk (ok_take (P := l.prog) (w := w) (mg := mg) (base := base) F35) b35 k35 g35
  have dMx := df_mk (ok_mixed F36 dTk mrange mlen mlist) b36 k36 g36
  have dNm := df_mk (ok_names F37 dTk dMx mrange) b37 k37 g37
  have dBd := df_mk (ok_bd F40 dTk mlen mint) b40 k40 g40
  have dTh := df_mk (ok_thing F39 dTk dMx dBd mlen mrange mmin msorted mstr) b39 k39 g39
  have dLD := df_mk (ok_law_deed F38 dTk dTh mlen mint) b38 k38 g38
  have dMD := df_mk (ok_made_deed F41 mkd mlen) b41 k41 g41
  have dMT := df_mk (ok_made_thing (k := ⟨(He.ga K "Role"), (He.ga K "Table"), (He.ga K "Function")⟩) F42 mkR mkB mkF dMD mlen) b42 k42 g42
  have dMt := df_mk (ok_made_top (A := ⟨(c5f (He.ga K "Give") (He.ga K "Take") (He.ga K "Call") (He.ga K "Preset") (He.ga K "Use")), (He.ga K "Make"), ⟨(He.ga K "Call"), (He.ga K "Give")⟩, ⟨(He.ga K "Role"), (He.ga K "Table"), (He.ga K "Function")⟩⟩) F41 m5 mmk dMT mlen) b41 k41 g41
  have dCl := df_mk (ok_class (P := l.prog) (w := w) (base := base) F43 kc misinstance) b43 k43 g43
  have dRg := df_mk (ok_rightD F44 eqd sd dMt dRd dCl mrange mstr) b44 k44 g44
  exact ok_law F45 eqd dC dB dTk dNm dLD dRg dRd mrange mmax mmin mlen mzip
end K56
set_option maxHeartbeats 0
open PySem PySem.W PySem.Calls PyProof.Rows
theorem PySem.Challenge.cw_rolereach_k56_deeds_as_texts_holds : PySem.Challenge.rw_rolereach_k56_deeds_as_texts.Holds := by
  w_on; o_law
  refine HandSHeadRun.head_any (r := OpenLaw.row PySem.Challenge.rw_rolereach_k56_deeds_as_texts) (q := view (OpenLaw.row PySem.Challenge.rw_rolereach_k56_deeds_as_texts).prog [98]) (H := K56H.hk) (ob := K56H.ob) (M := 12000) (loose := K56H.names) (d := HandSHeadRun.topDef (OpenLaw.row PySem.Challenge.rw_rolereach_k56_deeds_as_texts).prog 98) (kwd := []) K56H.ob_eq
    (by kernel_rfl) (fun s => by kernel_rfl) K56H.run (by kernel_rfl) (by kernel_rfl) (by kernel_rfl) (by rfl) (by first | assumption | decide +kernel) (by decide +kernel) ⟨rfl, rfl, rfl, rfl, rfl, by decide +kernel⟩ ?hw ?hc
  case hw => w_witness2
  case hc =>
    refine L2.walk_ofE (l := PySem.Challenge.rw_rolereach_k56_deeds_as_texts) (n := 63) (k := 15) (x := "_law_script") (CX := L2.CX0) rfl (by decide) (by kernel_rfl) ⟨rfl, by decide, by decide⟩ ?F (fun _ _ _ _ z => z)
    intro w mg fa h Y G hmg0
    obtain ⟨K, KX, c⟩ := Y
    have hmg : mg ("law" : PySem.Str) = some (.ref fa) := by
      have e : (HandSHeadRun.topDef (OpenLaw.row PySem.Challenge.rw_rolereach_k56_deeds_as_texts).prog 98).name = ("law" : PySem.Str) := by kernel_rfl
      rw [← e]
      exact hmg0
    obtain ⟨fd, hb, hF⟩ := K56.all_mk2 (l := PySem.Challenge.rw_rolereach_k56_deeds_as_texts) (w := w) KX G hmg c
    exact ⟨K, fd, K56.spLaw K, KX, hb, fun H a ns hl _ hS => ⟨a, ns, rfl, hS, hl, fun _ => rfl⟩, hF⟩
