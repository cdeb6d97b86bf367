import PyProof.Rows.All
import Wide.All
import OpenK.AllK
import Wide.FinOn
import HandS.ForMost
import HandS.Walk
import HandS.Wide
import HandS.Defaults
import HandS.IsInst
import HandS.Zip
import HandS.Ends
import KE.KExcPX
import HandS.ForExc
import HandS.ExcInit
import HandS.ExcField
import HandS.TryMany
import HandS.ClsMeth
import HandS.OwnEq
import PyProof.InstNe
import HandS.Call
import KE.KCallOwn
import HandS.MakeKwOnly
import HandS.Style
import HandS.WrittenGet
import HandS.More
import PyProof.EqAt
import PyProof.EqKinds
import PyProof.NeData
import HandS.StrMore
import HandS.Flow
import PySem.Challenge.RW_rolereach_k10_functions_made
set_option Elab.async false
set_option linter.all false
set_option maxRecDepth 100000
set_option maxHeartbeats 4000000
namespace RL
open PySem PySem.Spec PyProof.Rows L2
/-! ### rules of my own: enumerate of a text, a text times a number, a call by keywords alone -/
def YEnumS (x : Str) : It :=
  ⟨fun i _ => i < x.cps.size, fun i H v H' => ∃ T c, v = .ref T ∧ H T = none ∧ H' = upd H T (.tup [.int (i : Nat), .str ⟨#[c]⟩]) ∧ x.cps[i]? = some c, fun i _ => i = x.cps.size⟩
theorem turn_enumS {P : Program} {w : World} {K : PySem.W.Frag} {elts : List Expr} {kk : Nat} {tpos : Pos} (e it : Addr) (x : Str) (t : Tok) (ty : String) (hty : ty = "str_ascii_iterator" ∨ ty = "str_iterator") :
    Turn P w K (.Tuple elts kk tpos) (YEnumS x) [e, it] e (fun i h => (∃ old, IsEnum h e it ((i : Nat) : Int) old) ∧ h.IsStrIter it ty x t i ∧ e ≠ it) where
  mem := by simp
  obj := fun i h st b hb => by
    obtain ⟨⟨old, he⟩, ⟨o, ho, hc, hd⟩, _⟩ := st
    have e' : b = e ∨ b = it := by simpa using hb
    rcases e' with z | z
    · rw [z]; exact ⟨_, he, fun v q => nomatch q⟩
    · rw [z]; exact ⟨o, ho, fun v q => by rw [hd] at q; cases q⟩
  keep := fun i h h' st k => by
    obtain ⟨⟨old, he⟩, ⟨o, ho, r⟩, hne⟩ := st
    exact ⟨⟨old, k e (by simp) _ he⟩, ⟨o, k it (by simp) o ho, r⟩, hne⟩
  item := by
    intro X hP hw hK hc i pins s σ H E I hf st hg
    subst hP hw hK
    obtain ⟨⟨old, he⟩, hit, hne⟩ := st
    have hel : e < s.heap.objs.size := Heap.lt_size he
    have hil : it < s.heap.objs.size := by obtain ⟨_, q, _⟩ := hit; exact Heap.lt_size q
    have D : Draws X.prog X.w X.A.in1 it [it] x.cps.size (fun i v => ∃ c u, x.cps[i]? = some c ∧ v = .str ⟨#[c]⟩ u) (fun i h => h.IsStrIter it ty x t i) := by
      rcases hty with z | z
      · rw [z]; exact Draws.strAscii (A := X.A.in1) (I.ok.hd hc) it x t
      · rw [z]; exact Draws.strWide (A := X.A.in1) (I.ok.hd hc) it x t
    refine wpAny_pyNext_enum_itemD D he hit hg hne (fun z => hne (by simpa using z)) fun u h' tk hu ho hit' hT hsz hk => ?_
    obtain ⟨c, u', hcx, rfl⟩ := hu
    refine ⟨_, rfl, wpAny_letOwnedTupleGo_enum (s := { s with heap := h', toks := tk + 1 }) ho fun h'' he' sb => ?_⟩
    have hT2 : h''.get? s.heap.objs.size = some { cls := .type "tuple", data := .seq #[.int i tk, .str ⟨#[c]⟩ u'] } := (sb.2 _ (Nat.ne_of_gt hel)).trans hT
    have new : ObjOk X.prog X.w (upd H s.heap.objs.size (.tup [.int (i : Nat), .str ⟨#[c]⟩])) h'' s.heap.objs.size (.tup [.int (i : Nat), .str ⟨#[c]⟩]) :=
      ⟨by show 2 ≤ sizeLine; decide, [.int i tk, .str ⟨#[c]⟩ u'], .cons ⟨_, rfl⟩ (.cons ⟨_, rfl⟩ .nil), ⟨_, hT2, rfl, _, rfl⟩⟩
    have I1 : Inv X pins σ (upd H s.heap.objs.size (.tup [.int (i : Nat), .str ⟨#[c]⟩])) { s with heap := h'', toks := tk + 1 } :=
      I.turnedNew (ch := [e, it]) (fun b ob hb q => (sb.2 b (fun z => hb (by simp [z]))).trans (hk b ob (fun z => hb (by simp [z])) (fun z => hb (by simp [z])) q)) hf (Nat.le_refl _) new
    have hit2 : h''.IsStrIter it ty x t (i + 1) := by
      obtain ⟨o, ho, r⟩ := hit'
      exact ⟨o, (sb.2 it (Ne.symm hne)).trans ho, r⟩
    refine ⟨.ref s.heap.objs.size, _, I1, rfl, ⟨_, c, rfl, I.hok.fresh (Nat.le_refl _), rfl, hcx⟩, ⟨⟨.str ⟨#[c]⟩ u', ?_⟩, hit2, hne⟩, fun b hb => ?_⟩
    · have e1 : ((i + 1 : Nat) : Int) = (i : Int) + 1 := by omega
      rw [e1]; exact he'
    · have hb' : b < s.heap.objs.size := by
        have e' : b = e ∨ b = it := by simpa using hb
        rcases e' with z | z
        · rw [z]; exact hel
        · rw [z]; exact hil
      rw [upd_ne (Nat.ne_of_lt hb')]
      exact (hf b hb).1
  done := by
    intro X hP hw hK hc i pins s σ H E I hf st hg
    subst hP hw hK
    obtain ⟨⟨old, he⟩, hit, hne⟩ := st
    obtain ⟨f0, f1, f2, f3, f4, f5⟩ := hf it (by simp)
    have hg : i = x.cps.size := hg
    subst hg
    have D : Draws X.prog X.w X.A.in1 it [it] x.cps.size (fun i v => ∃ c u, x.cps[i]? = some c ∧ v = .str ⟨#[c]⟩ u) (fun i h => h.IsStrIter it ty x t i) := by
      rcases hty with z | z
      · rw [z]; exact Draws.strAscii (A := X.A.in1) (I.ok.hd hc) it x t
      · rw [z]; exact Draws.strWide (A := X.A.in1) (I.ok.hd hc) it x t
    exact wpAny_pyNext_enum_endD D he hit fun h' eb => ⟨rfl, I.turned (t' := s.toks) (fun b o hb q => eb b o hb q) f0 f1 f3 f4 f5⟩
  self := fun A i s Q E st h => let ⟨⟨_, he⟩, _⟩ := st; wpAny_pyIter_enum he h
def iEnumS (ta : TA) : TI := fun σ H R => ta σ H fun vs H1 => ∃ x, vs = [.str x] ∧ R (YEnumS x) H1
theorem pi_enumS {X : Cx} {e : Expr} {ta : TA} {p pos tpos : Pos} {elts : List Expr} {kk : Nat} (hg : Gl X "enumerate") (hm : X.mg "enumerate" = none) (ha : PA X [e] ta) (hs : starEach [e] X.env = [(false, eval e X.env)] := by rfl) :
    PI X (.Tuple elts kk tpos) (.Call (.Name "enumerate" p) [e] [] pos) (iEnumS ta) := by
  refine ⟨fun pins s σ H R I h => ?_⟩
  refine Call_ (ld_blt I hg hm boot_enumerate (PyProof.Rows.callWith_type1 (thn (ha.run pos pins s σ H _ I h) fun us s1 ⟨vs, H1, I1, r1, q1⟩ => ?_) hs rfl))
  obtain ⟨x, ex, q⟩ := q1
  subst ex
  cases r1 with
  | cons r rr =>
    cases rr
    obtain ⟨t, rfl⟩ := r
    refine call_enumerate_str fun h' he hit hsz hk => wpAny_pyIter_enum he ?_
    have I2 : Inv X pins σ H1 { s1 with heap := h' } := I1.kept (t' := s1.toks) hk
    have hty : strIterType x = "str_ascii_iterator" ∨ strIterType x = "str_iterator" := by
      unfold strIterType
      split
      · exact .inl rfl
      · exact .inr rfl
    refine ⟨s1.heap.objs.size + 1, [s1.heap.objs.size + 1, s1.heap.objs.size], _, _, H1, rfl, I2, turn_enumS (s1.heap.objs.size + 1) s1.heap.objs.size x t (strIterType x) hty, ⟨⟨.none, he⟩, hit, Nat.succ_ne_self _⟩, fun b hb => ?_, q⟩
    have e' : b = s1.heap.objs.size + 1 ∨ b = s1.heap.objs.size := by simpa using hb
    have hle : s1.heap.objs.size ≤ b := by
      rcases e' with z | z
      · rw [z]; exact Nat.le_add_right _ _
      · rw [z]; exact Nat.le_refl _
    exact I1.fpOk hle (I1.hok.fresh hle)
theorem walk_enumS {x : Str} : Walk (YEnumS x) x.cps.size (fun _ => True) (YPair (fun i => some (.int (i : Nat))) (fun i => x.cps[i]?.map fun c => .str ⟨#[c]⟩)) := by
  refine ⟨fun _ _ hi _ => hi, fun _ _ => rfl, fun i H v H' _ _ y => ?_⟩
  obtain ⟨T, c, h1, h2, h3, h4⟩ := y
  exact ⟨T, .int (i : Nat), .str ⟨#[c]⟩, h1, h2, h3, rfl, by show (x.cps[i]?).map _ = _; rw [h4]; rfl⟩
/-- a text n times, its length said -/
def repS (x : Str) (n : Nat) : Str := ⟨((List.replicate n x.cps.toList).flatten).toArray⟩
theorem foldl_app (x : Array Nat) : ∀ (n : Nat) (acc : Array Nat), ((List.replicate n x).foldl (· ++ ·) acc).toList = acc.toList ++ (List.replicate n x.toList).flatten
  | 0, acc => by simp
  | n + 1, acc => by
    rw [List.replicate_succ, List.foldl_cons, foldl_app x n, List.replicate_succ, List.flatten_cons, Array.toList_append, List.append_assoc]
theorem repS_len (x : Str) (n : Nat) : (repS x n).length = n * x.length := by
  show ((List.replicate n x.cps.toList).flatten).toArray.size = _
  rw [List.size_toArray]
  induction n with
  | zero => simp
  | succ n ih =>
    rw [List.replicate_succ, List.flatten_cons, List.length_append, ih, Nat.succ_mul]
    show x.cps.size + _ = _
    rw [Nat.add_comm]
    rfl
theorem op_mul_str {X : Cx} : OpR X (binaryOp .Mult) (fun x y H Q => ∃ (a : Str) (k : Int), x = .str a ∧ y = .int k ∧ 1 ≤ k ∧ k < 1000000000 ∧ a.length * k.toNat ≤ 16000000 ∧ Q (.str (repS a k.toNat)) H) := by
  intro pins s σ H x y v u Q I rx ry h
  obtain ⟨a, k, rfl, rfl, h1, h2, h3, q⟩ := h
  obtain ⟨t, rfl⟩ := rx
  obtain ⟨t', rfl⟩ := ry
  have hn : ¬ k < 1 := by omega
  refine PySem.P.mul_str ?_ ?_ ?_ ?_
  · have e1 : ¬ k < -(2 ^ 63 : Int) := by omega
    have e2 : ¬ k ≥ 2 ^ 63 := by omega
    rw [decide_eq_false e1, decide_eq_false e2]; rfl
  · intro _ _ z
    have z2 : ((a.length : Int) * k) ≤ 16000000 := by
      have : ((a.length * k.toNat : Nat) : Int) ≤ 16000000 := by omega
      rw [Int.natCast_mul, Int.toNat_of_nonneg (by omega)] at this
      exact this
    have z3 : (a.length : Int) ≤ (2 ^ 63 - 1) / k := Int.le_ediv_of_mul_le (by omega) (by omega)
    omega
  · intro _ _
    unfold PySem.Builtin.Str.tooLong
    exact decide_eq_false (by show ¬ _ > 2 ^ 24; omega)
  · rw [if_neg hn]
    by_cases hc : (k == 1 || a.length == 0) = true
    · rw [if_pos hc]
      have e : repS a k.toNat = a := by
        unfold repS
        rw [Bool.or_eq_true, beq_iff_eq, beq_iff_eq] at hc
        rcases hc with hc | hc
        · rw [hc]
          show (⟨((List.replicate 1 a.cps.toList).flatten).toArray⟩ : Str) = a
          simp
        · have z : a.cps.toList = [] := List.eq_nil_of_length_eq_zero (by rw [Array.length_toList]; exact hc)
          have z2 : a = ⟨#[]⟩ := by
            cases a with
            | mk c =>
              congr 1
              apply Array.ext'
              exact z
          rw [z]
          rw [z2]
          congr 1
          apply Array.ext'
          simp
      rw [e] at q
      exact ⟨.str a, H, I, ⟨_, rfl⟩, q⟩
    · rw [if_neg hc]
      have e : (⟨(List.replicate k.toNat a.cps).foldl (· ++ ·) #[]⟩ : Str) = repS a k.toNat := by
        unfold repS
        congr 1
        apply Array.ext'
        rw [foldl_app]
        simp
      rw [e]
      refine ⟨?_, .str (repS a k.toNat), H, I.tok _, ⟨_, rfl⟩, q⟩
      rw [repS_len]
      show _ ≤ 2 ^ 24
      rw [Nat.mul_comm]
      omega
section
variable {X : Cx} {CX : CXT} {k n : Nat} {f : Addr} {fd : FuncData} {ps ks : List Str} {sp : Sp} {E : XK} {x : Str} {p pos : Pos} {kws : List Keyword} {tk : TA} {g : List Value → List Value → List Value} {gV : List V → List V → List V}
def tCallN0 (m : Nat) (sp : Sp) (gV : List V → List V → List V) (E : XK) (tk : TA) : TE := fun σ H Q => tk σ H fun zs H2 => zs.length = m ∧ sp (gV [] zs) H2 Q E
/-- f(k = v, ..) -/
theorem pe_callN0 (F : FnOk X.prog X.w X.K X.mg X.base CX k f fd ps sp) (hr : Room k X.A) (hg : Gl X x) (hm : X.mg x = some (.ref f)) (hk : PySem.W.keepIn X.K (.ref f) = true) (hb : KBn X.K fd ps 0 ks g gV) (hx : Passes CX X E)
    (hkw : PK X kws tk) (hall : (backToKw pos (keywordEach kws X.env)).all (·.1.isSome) = true := by rfl) (hks : (backToKw pos (keywordEach kws X.env)).filterMap (·.1) = ks := by rfl)
    (hdb : (x == ("__debug__" : Str)) = false := by decide)
    (hpl : ((backTo pos (starEach [] X.env)).any (·.1) || (backToKw pos (keywordEach kws X.env)).any (·.1.isNone)) = false := by rfl) :
    PE X (.Call (.Name x p) [] kws pos) (tCallN0 ks.length sp gV E tk) := by
  refine ⟨fun pins s σ H Q I h => ?_⟩
  refine wpAny_Call_Name_kw (ld_glob I hg hm ?_ hdb)
  refine PySem.W.callWith_KW0 (h₀ := X.base) I.ok.mod.kin hk hall ?_ hpl
  refine thn (hkw.run pos pins s σ H _ I h) fun ws s2 ⟨zs, H2, I2, rz, l2, q2⟩ => ⟨I2.kIn, ?_⟩
  rw [hks]
  exact run_fnN (n := 0) F hr hb hx I2 .nil rz rfl l2 q2
end
/-! ### heaps -/
theorem same_upd {H : Hp} {p : Addr} {o : HO} (h : H p = none) : Same H (upd H p o) := fun b x e => by
  rw [upd_ne (ne_of_none e h)]
  exact e
/-- all but b stands as it stood -/
def Keep (b : Addr) (H H' : Hp) : Prop := ∀ a o, a ≠ b → H a = some o → H' a = some o
theorem Keep.refl {b : Addr} {H : Hp} : Keep b H H := fun _ _ _ e => e
theorem Keep.trans {b : Addr} {H H1 H2 : Hp} (k1 : Keep b H H1) (k2 : Keep b H1 H2) : Keep b H H2 := fun a o n e => k2 a o n (k1 a o n e)
theorem Keep.upd {b : Addr} {H : Hp} {o : HO} : Keep b H (upd H b o) := fun a x n e => by
  rw [upd_ne n]
  exact e
theorem Keep.new {b p : Addr} {H : Hp} {o : HO} (h : H p = none) : Keep b H (L2.upd H p o) := fun a x n e => same_upd h a x e
theorem Keep.of {b : Addr} {H H1 : Hp} (s : Same H H1) : Keep b H H1 := fun a o _ e => s a o e
end RL
set_option maxHeartbeats 4000000
/-! ### defs that may ask for a repr: promises where nothing is being shown -/
namespace RG
open PySem PySem.Spec PyProof.Rows L2
section
variable {CX : CXT} {P : Program} {w : World} {K : PySem.W.Frag} {mg : Str → Option Value} {base : Heap} {k : Nat} {f : Addr} {fd : FuncData} {ps : List Str} {sp : Sp}
/-- nothing is being shown -/
abbrev Quiet (A : Around) : Prop := A.guards = some []
/-- as FnOk, where nothing is being shown -/
structure FnG (P : Program) (w : World) (K : PySem.W.Frag) (mg : Str → Option Value) (base : Heap) (CX : CXT) (k : Nat) (f : Addr) (fd : FuncData) (ps : List Str) (sp : Sp) : Prop where
  args : ∀ {vs H Q E}, sp vs H Q E → vs.length = ps.length
  go : ∀ {A : Around} {fr : List Env} {s : Shared} {H : Hp} {ar : Args} {us : List Value} {vs : List V} {Q : VK} {E : XK}, Quiet A → Room k A → Env0 P w K mg base A fr s H → BindsTo s fd ar (ps.zip us) → Vals vs us → sp vs H Q E →
    codeAny (model P w) A (.call (.ref f) ar) (CR CX fr P w H s Q E) s
theorem FnG.of (F : FnOk P w K mg base CX k f fd ps sp) : FnG P w K mg base CX k f fd ps sp where
  args h := F.len _ _ _ _ h
  go _ hr e0 hb r h := F.run _ _ _ _ _ _ _ _ _ hr e0 hb r h
theorem FnG.mono {j : Nat} (F : FnG P w K mg base CX j f fd ps sp) (h : j ≤ k) : FnG P w K mg base CX k f fd ps sp where
  args := F.args
  go q hr := F.go q (hr.mono h)
/-- what a body's end hands on -/
theorem body_end {N : List Str} {qual : Str} {scope : Scope} {cdv : Value} {A : Around} {fr : List Env} {s s2 : Shared} {H : Hp} {Q : VK} {E : XK} {fl : Flow}
    (h : SP (cxOf CX P w K mg base N qual scope f cdv A fr s H E) [] { nx := fun _ H' => Q .non H', rt := Q } fl s2) : CR CX fr P w H s Q E (.ok (match fl with | .next => .ret .none | z => z)) s2 := by
  cases fl with
  | ret u => exact let ⟨v, _, H', J, rv, q⟩ := h; ⟨v, H', J.os, J.bare, J.base, J.hok, rv, q⟩
  | next => exact let ⟨_, H', J, q⟩ := h; ⟨.non, H', J.os, J.bare, J.base, J.hok, rfl, q⟩
  | brk => exact let ⟨_, _, _, q⟩ := h; q.elim
  | cont => exact let ⟨_, _, _, q⟩ := h; q.elim
theorem FnG.mk' {name qual : Str} {params : Arguments} {body : List Stmt} {scope : Scope} {dV kV doc pm cdv ct oc : Value} {an od : Option Addr} {osl : Array (Option Value)} {N : List Str}
    (lk : K.lookup f = some ⟨oc, od, .func (PySem.W.fnOf name qual params body scope dV kV doc pm an cdv ct), osl⟩) (hcd : PySem.W.codeIn K cdv qual = true) (S : FnScope N ps scope) (len : ∀ {vs H Q E}, sp vs H Q E → vs.length = ps.length)
    (hbody : ∀ {A : Around} {fr : List Env} {s : Shared} {H : Hp} {vs : List V} {Q : VK} {E : XK}, Quiet A → Room k (A.deeper (envOfC qual scope s.heap.objs.size f cdv)) → sp vs H Q E →
      ∃ t, PSs (cxOf CX P w K mg base N qual scope f cdv A fr s H E) body t ∧ t { nx := fun _ H' => Q .non H', rt := Q } (start N vs) H) :
    FnG P w K mg base CX (k + 1) f (PySem.W.fnOf name qual params body scope dV kV doc pm an cdv ct) ps sp where
  args := len
  go {A fr s H ar us vs Q E} qt hr e0 hb r h := by
    have old : ∀ {b o}, base.get? b = some o → s.heap.get? b = some o := fun e => (e0.bs _ _ e).1
    refine codeAny_call_function hr.depth (e0.mod.kin.keeps (fun _ _ e => old e) _ _ lk) rfl S.co S.gen rfl (PySem.W.codeRec_of (e0.mod.kin.keeps fun _ _ e => old e) hcd) (hb _ _ _ _ ?_)
    refine wpAny_newFunctionEnv_cells S.kind (fun y hy => (S.par y.1 (List.of_mem_zip hy).1).imp id fun q => ⟨q, PySem.W.cellsFrom_some _ _ _ (.inl q)⟩) fun env he s1 x => ?_
    subst he
    obtain ⟨t, ht, hq⟩ := hbody (fr := fr) qt (hr.deeper _) h
    refine ⟨(e0.mod.nolimit.keeps fun _ _ e => old e).keeps x.toInCall.keep, codeAny_func (wpAny_mono (ht.run [] s1 (start N vs) H _ (inv_start S hr.hd e0 (len h) r x) hq) (fun fl s' hs => ?_) fun _ _ z => z)⟩
    have z := body_end hs
    cases fl with
    | ret u => exact z
    | next => exact z
    | brk => exact (show False from z).elim
    | cont => exact (show False from z).elim
end
section
variable {X : Cx} {CX : CXT} {k : Nat} {f : Addr} {fd : FuncData} {ps : List Str} {sp : Sp} {E : XK} {ds : List Value} {dvs : List V} {x : Str} {p pos : Pos} {e : Expr} {es : List Expr} {t : TA}
/-- f(e, ..) of such a def -/
theorem pe_callG (F : FnG X.prog X.w X.K X.mg X.base CX k f fd ps sp) (qt : Quiet X.A) (hr : Room k X.A) (hg : Gl X x) (hm : X.mg x = some (.ref f)) (hk : PySem.W.keepIn X.K (.ref f) = true) (hb : Binds X.K fd ps ds) (hd : Vals dvs ds) (hx : Passes CX X E)
    (ha : PA X (e :: es) t) (hdb : (x == ("__debug__" : Str)) = false := by decide) (he : starEach (e :: es) X.env = (false, eval e X.env) :: starEach es X.env := by rfl) (hpl : (backTo pos (starEach es X.env)).any (·.1) = false := by rfl) :
    PE X (.Call (.Name x p) (e :: es) [] pos) (tCall sp dvs E t) := ⟨fun pins s σ H Q I h => by
  refine wpAny_Call_Name_kw (ld_glob I hg hm (PySem.W.callWith_K (h₀ := X.base) I.ok.mod.kin hk (thn (ha.run pos pins s σ H _ I h) fun us s1 ⟨vs, H1, I1, r, q⟩ => ⟨I1.kIn, ?_⟩) he hpl) hdb)
  have r2 := r.append hd
  refine wpAny_call (codeAny_mono (F.go qt hr I1.env0 (hb s1 us I1.kIn (r2.length.symm.trans (F.args q))) r2 q) fun rs s2 z => ?_)
  match rs, z with
  | .error er, z => exact hx pins σ H1 s1 er s2 I1 z
  | .ok (.ret u), z => exact I1.after z⟩
end
/-! ### the repr of a list -/
/-- what an item may be: data without a dict; an empty dict; a dict of one text -/
inductive Sd (K : PySem.W.Frag) (H : Hp) : V → PyData → Prop
  | dp {v : V} {d : PyData} : Dp K H v d → Sd K H v d
  | dic0 {a : Addr} : H a = some (.dK []) → Sd K H (.ref a) (.dict [])
  | dic1 {a : Addr} {i : Int} {z : Str} : H a = some (.dK [(.inl i, .str z)]) → Sd K H (.ref a) (.dict [(.int i, .str z)])
/-- items of a list that is shown: plain ones ahead, anything as the last one; or none with a dict -/
inductive SdAll (K : PySem.W.Frag) (H : Hp) : List V → List PyData → Prop
  | last {v : V} {d : PyData} : Sd K H v d → SdAll K H [v] [d]
  | txt {z : Str} {vs : List V} {ds : List PyData} : SdAll K H vs ds → SdAll K H (.str z :: vs) (.str z :: ds)
  | all {vs : List V} {ds : List PyData} : DpAll K H vs ds → SdAll K H vs ds
section
variable {X : Cx} {pins : List (Addr × Obj)} {σ : L2.St} {H : Hp} {s : Shared}
mutual
theorem dp_nodict {K : PySem.W.Frag} {H : Hp} : ∀ {v : V} {d : PyData}, Dp K H v d → d.hasDict = false
  | _, _, .non => by simp [PyData.hasDict]
  | _, _, .bl _ => by simp [PyData.hasDict]
  | _, _, .int _ => by simp [PyData.hasDict]
  | _, _, .str _ => by simp [PyData.hasDict]
  | _, _, .lst _ h => by simp only [PyData.hasDict]; exact dpAll_nodict h
  | _, _, .tup _ h => by simp only [PyData.hasDict]; exact dpAll_nodict h
theorem dpAll_nodict {K : PySem.W.Frag} {H : Hp} : ∀ {vs : List V} {ds : List PyData}, DpAll K H vs ds → PyData.hasDictAll ds = false
  | _, _, .nil => by simp [PyData.hasDictAll]
  | _, _, .cons h t => by simp only [PyData.hasDictAll, dp_nodict h, dpAll_nodict t, Bool.or_self]
end
theorem sd_reads (I : Inv X pins σ H s) {v : V} {d : PyData} {u : Value} (h : Sd X.K H v d) (r : RelV v u) : ∃ as, Reads s.heap u d as ∧ (d.hasDict = true → sysModules ∉ as) := by
  cases h with
  | dp h =>
    obtain ⟨as, q⟩ := Dp.reads I d v u h r
    exact ⟨as, q, fun z => by rw [dp_nodict h] at z; cases z⟩
  | dic0 e =>
    cases r
    obtain ⟨_, hs, vs, kv, o, es, ep, h1, h2, h3, _, hp, _⟩ := (show ObjOk X.prog X.w H s.heap _ (.dK []) from I.hok _ _ e)
    cases kv
    have ee : es.toList = [] := by
      cases hh : es.toList with
      | nil => rfl
      | cons a b => rw [hh] at hp; cases hp
    refine ⟨_, Reads.dict (kvs := []) (as := []) (bs := []) h1 h2.1 h3 (by rw [ee]; exact .nil) (by rw [ee]; exact .nil), fun _ hm => ?_⟩
    have := beq_eq_false_iff_ne.mp hs
    rcases List.mem_cons.mp hm with z | z
    · exact this z.symm
    · simp at z
  | dic1 e =>
    cases r
    rename_i a i z
    obtain ⟨_, hs, vs, kv, o, es, ep, h1, h2, h3, _, hp, _⟩ := (show ObjOk X.prog X.w H s.heap _ (.dK [(.inl i, .str z)]) from I.hok _ _ e)
    cases kv with
    | cons q1 q2 =>
      cases q2
      obtain ⟨q0, q1⟩ := q1
      rename_i kv0 _
      obtain ⟨k0, v0⟩ := kv0
      have q0 : (Sum.inl i : L2.Key) = k0 := q0
      subst q0
      obtain ⟨t, q1⟩ := (show ∃ t, v0 = Value.str z t from q1)
      subst q1
      cases hh : es.toList with
      | nil => rw [hh] at hp; cases hp
      | cons e1 e2 =>
        rw [hh] at hp
        cases hp with
        | cons p1 p2 p3 =>
          cases p3
          have p1 : keyIs (.inl i) e1.key = true := p1
          rcases keyIs_shape p1 with ⟨j, u, hj, hk⟩ | ⟨x, u, hj, hk⟩
          · have ej : i = j := Sum.inl.inj hj
            subst ej
            refine ⟨_, Reads.dict (kvs := [(.int i, .str z)]) (as := [] ++ []) (bs := [] ++ []) h1 h2.1 h3 ?_ ?_, fun _ hm => ?_⟩
            · rw [hh]
              show ReadsAll s.heap [e1.key] [.int i] _
              rw [hk]
              exact .cons (.int _ _) .nil
            · rw [hh]
              show ReadsAll s.heap [e1.val] [.str z] _
              rw [p2]
              exact .cons (.str _ _) .nil
            · have := beq_eq_false_iff_ne.mp hs
              rcases List.mem_cons.mp hm with z | z
              · exact this z.symm
              · simp at z
          · cases hj
theorem sd_readsAll (I : Inv X pins σ H s) : ∀ {vs : List V} {ds : List PyData} {us : List Value}, SdAll X.K H vs ds → Vals vs us → ∃ as, ReadsAll s.heap us ds as ∧ (PyData.hasDictAll ds = true → sysModules ∉ as)
  | _, _, _, .last h, .cons r .nil => by
    obtain ⟨as, q, n⟩ := sd_reads I h r
    refine ⟨_, .cons q .nil, fun z hm => n ?_ (by simpa using hm)⟩
    simpa [PyData.hasDictAll] using z
  | _, _, _, .txt h, .cons r rr => by
    obtain ⟨t, rfl⟩ := r
    obtain ⟨bs, q2, n2⟩ := sd_readsAll I h rr
    exact ⟨_, .cons (.str _ t) q2, fun z hm => n2 (by simpa [PyData.hasDictAll, PyData.hasDict] using z) (by simpa using hm)⟩
  | _, _, _, .all h, r => by
    obtain ⟨as, q⟩ := Dp.readsAll I _ _ _ h r
    exact ⟨as, q, fun z => by rw [dpAll_nodict h] at z; cases z⟩
/-- repr(x), x a list -/
def rRepr (K : PySem.W.Frag) : List V → Hp → VK → Prop := fun vs H Q => ∃ (a : Addr) (xs : List V) (ds : List PyData), vs = [.ref a] ∧ SqL K H a xs ∧ SdAll K H xs ds ∧ PyData.showable (.list ds) = true ∧ (PyData.shown (.list ds)).length ≤ sizeLine ∧ PyData.depth (.list ds) ≤ 60 ∧ Q (.str (PyData.shown (.list ds))) H
theorem call_reprL {k : Nat} (qt : Quiet X.A) (hr : Room k X.A) : CallR X (.builtin "repr") (rRepr X.K) := by
  intro pins s σ H vs us Q I r h
  obtain ⟨a, xs, ds, rfl, hq, hd, hs, hz, hdp, q⟩ := h
  cases r with
  | cons r rr =>
    cases rr
    cases r
    obtain ⟨its, rv, ⟨o, n, ho, hc, _, hdt⟩, _⟩ := I.list hq
    obtain ⟨as, ra, hsm⟩ := sd_readsAll I hd rv
    have hu := hr.units
    have hs' : PyData.showableAll ds = true := by simpa [PyData.showable] using hs
    have hz' : (listText (PyData.shownAll ds)).length ≤ sizeLine := by simpa only [PyData.shown] using hz
    have fin : ∀ (h' : Heap) (u tk : Tok), (∀ b o, s.heap.get? b = some o → h'.get? b = some o) → EP X pins σ Q (.str (PyData.shown (.list ds)) u) { s with heap := h', toks := tk } :=
      fun h' u tk kp => ⟨.str _, H, I.kept kp, ⟨u, rfl⟩, q⟩
    obtain ⟨bs, hb, hk⟩ := ReprAllK.of_readsAll (prog := X.prog) (w := X.w) ra hs' hsm (fun t ht => Nat.le_trans (listText_mem_le ht) hz')
    have hna : a ∉ bs := not_mem_of_deeper (.list (vs := its.toArray) ho hc hdt (by simpa using ra)) (by simp only [PyData.depth]; omega) hb
    have hdp' : PyData.depthAll ds + 1 ≤ 60 := by simpa only [PyData.depth] using hdp
    refine call_repr_slot (by omega) ⟨o, ho, hc⟩ F.slot_list_repr.toG ?_
    cases its with
    | nil =>
      cases ra
      simp only [PyData.shown, PyData.shownAll, listText_nil] at fin
      exact call_list_repr_empty ⟨o, ho, hc⟩ ho hdt ⟨_, _, rfl, fin s.heap _ _ fun _ _ e => e⟩
    | cons x l =>
      refine call_list_reprK ho hc hdt hna (by simpa using hk.length_eq) (fun i y e => hk.item i y (by simpa using e)) (g := []) qt (fun b _ => Clear.nil b) (by show X.A.units + 1 + _ < _; omega) (fun _ _ e => e) (fun h' u tk kp => ⟨_, _, rfl, ?_⟩) hz'
      have := fin h' u tk kp
      simpa only [PyData.shown] using this
end
end RG
set_option maxHeartbeats 4000000
/-! ### the head, where nothing is being shown -/
namespace RG
open PySem PySem.Spec PyProof.Rows L2
section
variable {P : Program} {w : World} {K : PySem.W.Frag} {mg mb : Str → Option Value} {CX : CXT} {k : Nat} {fa a : Addr} {fd : FuncData} {x : Str} {sp : Sp} {s1 : Shared} {vs : List Value} {ns : List Int}
/-- what the law's call is to come to -/
abbrev Won (s1 : Shared) : Result → Shared → Prop := fun r s' => r = .ok (.ret (.bool true)) ∧ OldK s1.heap s'.heap ∧ s'.os = s1.os ∧ AllBare s'.gens
/-- from a tracked heap that holds the script at most -/
theorem won_from {H : Hp} (KX : K.In s1.heap) (hns : s1.heap.Ns mainGlobals mg) (hb : s1.heap.Ns builtinsNs mb) (hbb : ∀ x : Str, x ≠ "__name__" → mb x = bootBuiltins x) (hlim : s1.heap.NoLimit) (hg : s1.gens = #[])
    (hl : ∀ b, H b ≠ none → ∃ o xs, H b = some (.frz o (.lst xs)) ∧ K.lookup b = none) (hdt : ∀ b o es n, s1.heap.get? b = some o → o.data = .dict es n → H b = none) (hok : HOk P w H s1.heap)
    (hr : Room k callerA) (F : ∀ base : Heap, K.In base → base.Ns mainGlobals mg → FnG P w K mg base CX k fa fd [x] sp) (hbind : ∀ (s : Shared) (u : Value), BindsTo s fd ⟨[u], []⟩ [(x, u)])
    (hsp : sp [.ref a] H (fun v _ => v = .bl true) fun _ _ _ => False) (hCX : ∀ e s', CX [] H s1 (fun _ _ _ => False) e s' → False) :
    codeAny (model P w) callerA (.call (.ref fa) ⟨[.ref a], []⟩) (Won s1) s1 := by
  -- the part of the heap that nothing tracks
  have un : ∀ {b : Addr} {m : Str → Option Value}, s1.heap.Ns b m → (hidT s1.heap H).Ns b m := fun ⟨o, es, ep, e, d, r⟩ => ⟨o, es, ep, hidT_get e (hdt _ _ _ _ e d), d, r⟩
  have kin : K.In (hidT s1.heap H) := fun b o e => by
    refine hidT_get (KX b o e) ?_
    cases q : H b with
    | none => rfl
    | some u =>
      obtain ⟨_, _, _, z⟩ := hl b (by rw [q]; exact fun z => nomatch z)
      rw [z] at e
      cases e
  obtain ⟨mc, l1, l2⟩ := hlim
  have env : Env0 P w K mg (hidT s1.heap H) callerA [] s1 H :=
    { frames := rfl, mod := ⟨kin, un hns, ⟨mb, un hb, hbb⟩, mc, un l1, l2⟩, bs := fun _ _ e => of_hidT e, bsz := Nat.le_of_eq (hidT_size _ _), funs := trivial, frf := fun _ z => (nomatch z), hok := hok, bare := .of_eq hg }
  refine codeAny_mono ((F _ kin (un hns)).go (us := [.ref a]) (vs := [.ref a]) rfl hr env (hbind s1 (.ref a)) (.cons rfl .nil) hsp) fun r s2 h => ?_
  match r, h with
  | .error e, h => exact (hCX e s2 h).elim
  | .ok (.ret u), ⟨v, H2, os, bare, U, ok2, rv, ev⟩ =>
    have ev : v = .bl true := ev
    subst ev
    have rv : u = Value.bool true := rv
    subst rv
    refine ⟨rfl, OldK.of_keep fun b o e => ?_, os, bare⟩
    cases q : H b with
    | none => exact U.keep b o e q (fun z => nomatch z) (fun z => nomatch z)
    | some u =>
      obtain ⟨ob, xs, z, _⟩ := hl b (by rw [q]; exact fun z => nomatch z)
      have e1 := (hok b _ z).1
      have e2 := (ok2 b _ (U.frzs b ob _ z)).1
      rw [e1] at e
      cases e
      exact e2
theorem law_callG (KX : K.In s1.heap) (hns : s1.heap.Ns mainGlobals mg) (hb : s1.heap.Ns builtinsNs mb) (hbb : ∀ x : Str, x ≠ "__name__" → mb x = bootBuiltins x) (hlim : s1.heap.NoLimit) (hg : s1.gens = #[])
    (ha : s1.heap.get? a = some { cls := .type "list", data := .seq vs.toArray }) (hi : IntsAre vs ns) (hl : ns.length ≤ sizeLine) (hr : Room k callerA)
    (F : ∀ base : Heap, K.In base → base.Ns mainGlobals mg → FnG P w K mg base CX k fa fd [x] sp) (hbind : ∀ (s : Shared) (u : Value), BindsTo s fd ⟨[u], []⟩ [(x, u)])
    (hsp : ∀ H : Hp, Only H → SqL K H a (ns.map V.int) → sp [.ref a] H (fun v _ => v = .bl true) fun _ _ _ => False) (hCX : ∀ H e s', CX [] H s1 (fun _ _ _ => False) e s' → False) :
    codeAny (model P w) callerA (.call (.ref fa) ⟨[.ref a], []⟩) (Won s1) s1 := by
  have rv := vals_ints hi
  have lenV := hi.length
  cases hk : K.lookup a with
  | some o =>
    have e := (KX a o hk).symm.trans ha
    cases e
    have hS : SqL K (fun _ => none) a (ns.map V.int) := .inr ⟨_, vs.toArray, _, hk, rfl, rfl, rfl, by rw [List.size_toArray, lenV]; exact hl, rv⟩
    exact won_from KX hns hb hbb hlim hg (H := fun _ => none) (fun _ z => absurd rfl z) (fun _ _ _ _ _ _ => rfl) (fun _ _ z => nomatch z) hr F hbind (hsp _ (fun _ => .inl rfl) hS) (hCX _)
  | none =>
    -- the script is tracked, locked
    let H : Hp := upd (fun _ => none) a (.frz { cls := .type "list", data := .seq vs.toArray } (.lst (ns.map V.int)))
    have at_ : H a = some (.frz { cls := .type "list", data := .seq vs.toArray } (.lst (ns.map V.int))) := upd_same
    have off : ∀ {b}, b ≠ a → H b = none := fun n => upd_ne n
    refine won_from KX hns hb hbb hlim hg (H := H) (fun b z => ?_) (fun b o es n e d => ?_) (fun b u z => ?_) hr F hbind (hsp H (fun b => ?_) (.inl (.inr ⟨_, at_⟩))) (hCX _)
    · by_cases q : b = a
      · subst q
        exact ⟨_, _, at_, hk⟩
      · exact absurd (off q) z
    · by_cases q : b = a
      · subst q
        rw [ha] at e
        cases e
        cases d
      · exact off q
    · by_cases q : b = a
      · subst q
        have z2 := Option.some.inj (z.symm.trans at_)
        subst z2
        exact ⟨ha, by rw [List.length_map]; exact hl, vs, _, rv, ha⟩
      · rw [off q] at z
        cases z
    · by_cases q : b = a
      · subst q
        exact .inr ⟨_, _, at_⟩
      · exact .inl (off q)
end
theorem walk_ofG {l : PySem.W.OpenLaw} {n k : Nat} {q : Program} {loose : List Str} {XP : (Str → Option Value) → Heap → Prop} {YP : World → Heap → Prop} {d : DefRec} {K : Params → PySem.W.Frag} {CX : World → CXT} {sp : World → Sp} {x : Str}
    (hn : l.most = some n) (hn2 : n ≤ sizeLine) (hdf : d.params.defaults = []) (hr : Room k callerA) (hY : ∀ (w : World) (h : Heap), YP w h → (K w.params).In h)
    (F : ∀ (w : World) (mg : Str → Option Value) (fa : Addr) (h : Heap), (K w.params).In h → h.Ns mainGlobals mg → mg d.name = some (.ref fa) →
      ∃ fd : FuncData, (∀ (s : Shared) (u : Value), BindsTo s fd ⟨[u], []⟩ [(x, u)]) ∧ ∀ base : Heap, (K w.params).In base → base.Ns mainGlobals mg → FnG l.prog w (K w.params) mg base (CX w) k fa fd [x] (sp w))
    (hsp : ∀ (w : World) (H : Hp) (a : Addr) (ns : List Int), ns.length ≤ n → Only H → SqL (K w.params) H a (ns.map V.int) → sp w [.ref a] H (fun v _ => v = .bl true) fun _ _ _ => False)
    (hCX : ∀ (w : World) (H : Hp) (s : Shared) (e : Value) (s' : Shared), CX w [] H s (fun _ _ _ => False) e s' → False) : PySem.W.WalkO q loose XP YP l.row.toRowW d [] (fun f vs => PySem.call f vs) :=
  Att.attach_call hn hdf fun w s0 s1 mg mb fa o pm cd doc a vs ns G Y _ _ _ hmg hobj hints hlen hg =>
    let ⟨_, hb, hF⟩ := F w mg fa _ (hY w _ Y) G.T.g hmg
    law_callG (hY w _ Y) G.T.g G.T.b G.T.builtins G.T.nolimit hg hobj hints (Nat.le_trans hlen hn2) hr hF hb (fun H hO hS => hsp w H a ns hlen hO hS) fun H e s' => hCX w H s1 e s'
end RG
set_option maxHeartbeats 4000000
/-! ### a try with several clauses that bind the error -/
namespace RX
open PySem PySem.Spec PyProof.Rows L2
/-- a clause: its class, the slot of its name, its suite's reading -/
structure Cl where
  c : Value
  i : Nat
  ts : Addr → Value → Option Addr → TS
/-- behind a suite the slot is empty again -/
def Ends.wipe (D : Ends) (i : Nat) : Ends := { nx := fun σ H => D.nx (σ.set i none) H, rt := D.rt, bk := fun σ H => D.bk (σ.set i none) H, ct := fun σ H => D.ct (σ.set i none) H }
/-- what is wanted of an error: the first clause that takes it; one must -/
def wCl (K : PySem.W.Frag) (D : Ends) : List Cl → WX
  | [] => fun _ _ _ _ => False
  | q :: r => fun cls d σ H => ∃ b, PySem.W.exmOne K cls q.c = some b ∧ (b = true → ∀ a, H a = none → q.ts a cls d (Ends.wipe D q.i) (σ.set q.i (some (.ref a))) H) ∧ (b = false → wCl K D r cls d σ H)
/-- the clauses, from the first; those behind the last of l are never asked -/
inductive Cls' (X : Cx) : List ExceptHandler → List Cl → Prop
  | rest {hs : List ExceptHandler} : Cls' X hs []
  | cons {x n : Str} {q : Cl} {b0 : Stmt} {su : List Stmt} {np ps : Pos} {hs : List ExceptHandler} {l : List Cl} (hi : X.N[q.i]? = some n) (hl : X.env.kindOf n = some .local) (hc : Names X x q.c)
      (hsu : ∀ (a : Addr) (oe : Obj) (cls : Value) (d : Option Addr) (pn : List (Addr × Obj)), Zc cls d oe → (∃ vs, oe.data = .fields vs) → PSs (X.suite a ((a, oe) :: pn)) (b0 :: su) (q.ts a cls d)) (r : Cls' X hs l) :
      Cls' X (.ExceptHandler (some (.Name x np)) (some n) (b0 :: su) ps :: hs) (q :: l)
section
variable {X : Cx} {body : List Stmt} {h0 : ExceptHandler} {hs : List ExceptHandler} {l : List Cl} {pos : Pos} {tb : WX → TS}
theorem ps_tryC (hst : X.stack = X.env :: X.outer) (hf : X.env.frame = some X.env.locals) (hN : X.N.Nodup)
    (hb : ∀ (W : WX) (pn : List (Addr × Obj)) (xe : Value → Shared → Prop), Takes (X.tr pn xe) W → PassesOwn (model X.prog X.w) X.A X.env xe → PSs (X.tr pn xe) body (tb W))
    (hh : Cls' X (h0 :: hs) l) : PS X (.Try body (h0 :: hs) [] [] pos) (fun D σ H => tb (wCl X.K D l) D σ H) := ⟨fun pins s σ H D I h => by
  have ok := I.ok
  refine wpAny_Try_except ?_
  -- the error's way: noted, set in flight, then to the clauses
  let away : Value → Shared → Prop := fun e s1 => wpAny (model X.prog X.w) X.A (noteFrame e X.env) (fun _ s2 => wpAny (model X.prog X.w) X.A (setFlight e none) (fun _ s3 => wpAny (model X.prog X.w) X.A (handleBy e X.env (h0 :: hs)) (SP X pins D) X.xe s3) X.xe s2) X.xe s1
  have take : Takes (X.tr (X.pn ++ pins) away) (wCl X.K D l) := fun u s' xx => by
    obtain ⟨a, B, sI, pins', σ1, H1, cls, d, rfl, J0, nb, up, sky, na, os, ag, w⟩ := xx
    have J : Inv X pins σ1 H1 sI := J0.ofTry ok
    have hfr : X.A.frames = some (X.env :: X.outer) := ok.frames.trans (congrArg some hst)
    have sky1 : Sky B (X.env :: X.outer) a (Zc cls d) X.env.locals s'.heap := hst ▸ sky
    refine Sky.land Zc.steady hfr hf sky1 fun h3 fl up3 => ?_
    have J3 : Inv X pins σ1 H1 { s' with heap := h3 } := J.landed nb fl.1 (up.trans up3) os ag
    obtain ⟨oe, vs, he, hz, hd⟩ := fl.there
    have apart : ∀ {e : Env}, e ∈ X.env :: X.outer → ∀ {z : Addr}, e.frame = some z → z ≠ a := fun {e} he' {z} ez q => by
      subst q
      obtain ⟨_, o', e', hnf⟩ := fl.2.2.1.mem (List.mem_filterMap.mpr ⟨e, he', ez⟩)
      exact hnf _ (by rw [he] at e'; cases e'; exact hd)
    have nL : a ≠ X.env.locals := fun z => apart List.mem_cons_self hf z.symm
    have nF : a ∉ X.fs := fun hm => by
      obtain ⟨e, he', q⟩ := List.mem_filterMap.mp hm
      exact apart (List.mem_cons_of_mem _ he') q rfl
    have S3 := J3.suite he hd na nL nF
    have go : ∀ {hs' : List ExceptHandler} {l' : List Cl}, Cls' X hs' l' → wCl X.K D l' cls d σ1 H1 → wpAny (model X.prog X.w) X.A (handleBy (.ref a) X.env hs') (SP X pins D) X.xe { s' with heap := h3 } := by
      intro hs' l' hk
      induction hk with
      | rest => exact fun w => w.elim
      | @cons x n q b0 su np ps hs2 l2 hi hl hc hsu r ih =>
        rintro ⟨b, hb1, yes, no⟩
        have test : ∀ {Q' : Value → Shared → Prop} {E' : Value → Shared → Prop}, Q' q.c { s' with heap := h3 } → wpAny (model X.prog X.w) (X.A.mark (some (.ref a))) (eval (.Name x np) X.env) Q' E' { s' with heap := h3 } := fun {Q' E'} hq => by
          obtain ⟨g1, g2, m | ⟨m, v, nn⟩⟩ := hc
          · exact ld_glob (X := X.suite a ((a, oe) :: (X.pn ++ pins))) S3 g1 m hq g2
          · exact ld_blt (X := X.suite a ((a, oe) :: (X.pn ++ pins))) S3 g1 m v hq nn g2
        cases b with
        | false => exact PySem.PX.clause_passZ J3.kIn (fun o z => z.1) fl hb1 test (ih (no rfl))
        | true =>
          refine PySem.PX.clause_asZ J3.kIn (fun o z => z.1) fl hb1 test fun h4 fl4 up4 => ?_
          obtain ⟨oe4, vs4, he4, hz4, hd4⟩ := fl4.there
          have S4 := (J.landed nb fl4.1 ((up.trans up3).trans up4) os ag : Inv X pins σ1 H1 { s' with heap := h4 }).suite he4 hd4 na nL nF
          refine store_ok (X := X.suite a ((a, oe4) :: (X.pn ++ pins))) (v := .ref a) S4 hN hi (.inl hl) rfl (fun s5 S5 => ?_) (.inr hl)
          refine wpAny_mono ((hsu a oe4 cls d (X.pn ++ pins) hz4 ⟨_, hd4⟩).run [] s5 _ H1 _ S5 (yes rfl a na)) (fun f s6 hsp => ?_) fun _ _ z => z.elim
          match f, hsp with
          | .next, ⟨_, _, S6, q6⟩ => exact gone_ok (S6.unsuite ok) hN hi hl fun s7 J7 => ⟨_, _, J7, q6⟩
          | .brk, ⟨_, _, S6, q6⟩ => exact gone_ok (S6.unsuite ok) hN hi hl fun s7 J7 => ⟨_, _, J7, q6⟩
          | .cont, ⟨_, _, S6, q6⟩ => exact gone_ok (S6.unsuite ok) hN hi hl fun s7 J7 => ⟨_, _, J7, q6⟩
          | .ret u, ⟨_, _, _, S6, r6, q6⟩ => exact gone_ok (S6.unsuite ok) hN hi hl fun s7 J7 => ⟨_, _, _, J7, r6, q6⟩
    exact go hh w
  refine wpAny_mono ((hb (wCl X.K D l) (X.pn ++ pins) away take PassesOwn.looking).run [] s σ H D (I.toTry _) h) (fun f s1 hsp => ?_) fun e s1 he => he
  match f, hsp with
  | .next, ⟨_, _, J, q⟩ => exact wpAny_execs_nil ⟨_, _, J.ofTry ok, q⟩
  | .brk, ⟨_, _, J, q⟩ => exact ⟨_, _, J.ofTry ok, q⟩
  | .cont, ⟨_, _, J, q⟩ => exact ⟨_, _, J.ofTry ok, q⟩
  | .ret u, ⟨_, _, _, J, r, q⟩ => exact ⟨_, _, _, J.ofTry ok, r, q⟩⟩
end
end RX
set_option maxHeartbeats 4000000
/-! ### an own error whose __init__ calls that of its base by the base's name, then keeps its fields -/
namespace RX
open PySem PySem.Spec PyProof.Rows L2
section
variable {X : Cx} {x : Str} {CR : Addr} {mc : Value} {e : Expr} {es : List Expr} {ta : TA} {p1 p2 pos : Pos}
/-- what of the base's class is read -/
structure BaseI (K : PySem.W.Frag) (mg : Str → Option Value) (x : Str) (CR : Addr) (mc : Value) : Prop where
  gl : mg x = some (.ref CR)
  rd : PySem.W.readsIn K CR mc = true
  ga : PySem.W.specialIn K (.ref CR) "__getattribute__" = some (some (.builtin "type.__getattribute__"))
  ini : PySem.W.findCls K (.ref CR) mc "__init__" = some (.val (.builtin "ValueError.__init__"))
theorem pe_cinit {pl : Sem Bool} (B : BaseI X.K X.mg x CR mc) (hg : Gl X x) (ha : PA X (e :: es) ta) (hdb : (x == ("__debug__" : Str)) = false := by decide)
    (hc : eval (.Call (.Attribute (.Name x p1) "__init__" p2) (e :: es) [] pos) X.env = (do
      let ov ← eval (.Name x p1) X.env
      standAt p2.atName
      let (f, first) ← holding [ov] (getMethod ov "__init__" pl)
      callWith pos f first (backTo pos (starEach (e :: es) X.env)) (backToKw pos (keywordEach [] X.env))) := by rfl)
    (he : starEach (e :: es) X.env = (false, eval e X.env) :: starEach es X.env := by rfl) (hpl : (backTo pos (starEach es X.env)).any (·.1) = false := by rfl) :
    PE X (.Call (.Attribute (.Name x p1) "__init__" p2) (e :: es) [] pos) (tVeI X.K ta) := ⟨fun pins s σ H Q I h => by
  refine PySem.W.methodCall_KW (ld_glob I hg B.gl ?_ hdb) hc
  refine PySem.W.method_cls I.kIn B.ga (PySem.W.cls_value I.kIn B.rd B.ini (by rfl) ?_)
  show wpAny _ _ (callWith pos (Value.builtin "ValueError.__init__") [] (backTo pos (starEach (e :: es) X.env)) []) _ _ _
  refine PyProof.Rows.callWith_method1 (thn (ha.run pos pins _ σ H _ (I.tok _) h) fun us s1 ⟨vs, H1, I1, r1, a, C, ws, ev, hl, T, ea, q⟩ => ?_) he hpl
  subst ev
  match us, r1 with
  | u0 :: ur, .cons ra rw' =>
    cases (show u0 = Value.ref a from ra)
    exact oinit_ok T I1 ea (by rw [← Paired.length rw', sizeLine_eq]; omega) fun s' J => ⟨.non, H1, J, rfl, q⟩⟩
end
end RX
set_option maxHeartbeats 4000000
/-! ### == by own __eq__, either answer: lists item by item -/
namespace RQ
open PySem PySem.SeqAt GQ
open AutoSeq1 (wpAny_loadPart')
open MeetsSeq MeetsSeq2 MeetsSeq3 SeqRoads2
section
variable {prog : Program} {w : World} {A : Around} {R : Result → Shared → Prop}
/-- at each turn the two lists are read anew; the i-th two items compare as ds tells -/
def ListB (prog : Program) (w : World) (A : Around) (E : Value → Shared → Prop) (l b : Addr) (N : Nat) (ds : Nat → Bool) (I : Nat → Shared → Prop) : Prop :=
  ∀ i s, I i s → ∃ (items items2 : Array Value) (n n2 : Nat), s.heap.get? l = some { cls := .type "list", data := .seq items n } ∧ s.heap.get? b = some { cls := .type "list", data := .seq items2 n2 } ∧ items.size = N ∧ items2.size = N ∧
    ∀ (h1 : i < items.size) (h2 : i < items2.size), wpAny (model prog w) A.in1 (eqBool items[i] items2[i]) (fun r s' => r = ds i ∧ I (i + 1) s') E s
theorem eq_loopB (l b : Addr) (N : Nat) (ds : Nat → Bool) (I : Nat → Shared → Prop) (hl : ListB prog w A (fun e s' => R (.error e) s') l b N ds I)
    (fin : ∀ s, (∀ j, j < N → ds j = true) → I N s → R (.ok (.ret (.bool true))) s) (finF : ∀ i s, i < N → ds i = false → I (i + 1) s → R (.ok (.ret (.bool false))) s) (k : Nat) :
    ∀ i : Nat, N - i = k → i ≤ N → (∀ j, j < i → ds j = true) → ∀ s, I i s →
      wpAny (model prog w) A.in1 (Builtin.«list.__eq__.loop» ⟨[.ref l, .ref b, rawInt i, rawInt 2], []⟩) (FinOf prog w A R) (fun e s' => R (.error e) s') s := by
  induction k with
  | zero =>
    intro i hk hi hd s h
    obtain ⟨items, items2, n, n2, hl1, hb1, hs1, hs2, _⟩ := hl _ _ h
    have hi' : i = N := by omega
    have hR : R (.ok (.ret (.bool true))) s := fin s (hi' ▸ hd) (hi' ▸ h)
    obtain ⟨hp, g, d, tk, os⟩ := s
    wp_walk using wpAny_loadPart' hl1, wpAny_loadPart' hb1
    have hi1 : items[((i : Nat) : Int).toNat]? = none := by simp; omega
    have hi2 : items2[((i : Nat) : Int).toNat]? = none := by simp; omega
    rw [hi1, hi2]
    wp_walk using wpAny_loadPart' hl1, wpAny_loadPart' hb1
    show R (.ok (.ret (.bool (items.size == items2.size)))) _
    rw [hs1, hs2]
    simpa using hR
  | succ k ih =>
    intro i hk hi hd s h
    obtain ⟨items, items2, n, n2, hl1, hb1, hs1, hs2, turn⟩ := hl _ _ h
    have hlt : i < items.size := by omega
    have hlt2 : i < items2.size := by omega
    have ht := turn hlt hlt2
    obtain ⟨hp, g, d, tk, os⟩ := s
    wp_walk using wpAny_loadPart' hl1, wpAny_loadPart' hb1
    have hi1 : items[((i : Nat) : Int).toNat]? = some items[i] := by simp [hlt]
    have hi2 : items2[((i : Nat) : Int).toNat]? = some items2[i] := by simp [hlt2]
    have hc : ((i : Int) + 1) = ((i + 1 : Nat) : Int) := by omega
    rw [hi1, hi2]
    refine wpAny_bind (wpAny_mono ht (fun r s2 h2 => ?_) fun _ _ x => x)
    obtain ⟨hr, h2⟩ := h2
    subst hr
    cases hb : ds i with
    | false =>
      have hF := finF i s2 (by omega) hb h2
      obtain ⟨items', items2', n', n2', hl1', hb1', hs1', hs2', _⟩ := hl _ _ h2
      obtain ⟨hp2, g2, d2, tk2, os2⟩ := s2
      wp_walk using wpAny_loadPart' hl1', wpAny_loadPart' hb1'
      have hj1 : items'[((i : Nat) : Int).toNat]? = some (items'[i]'(by omega)) := by
        rw [show ((i : Nat) : Int).toNat = i by simp]
        exact Array.getElem?_eq_getElem (by omega)
      have hj2 : items2'[((i : Nat) : Int).toNat]? = some (items2'[i]'(by omega)) := by
        rw [show ((i : Nat) : Int).toNat = i by simp]
        exact Array.getElem?_eq_getElem (by omega)
      rw [hj1, hj2]
      wp_walk
      exact hF
    | true =>
      have hrec := ih (i + 1) (by omega) (by omega) (fun j hj => by
        rcases Nat.lt_or_ge j i with q | q
        · exact hd j q
        · have : j = i := by omega
          rw [this]; exact hb) s2 h2
      obtain ⟨hp2, g2, d2, tk2, os2⟩ := s2
      wp_walk
      rw [hc]
      exact ⟨plainId_quiet plain_eq_loop _, codeAny_builtin entry_eq_loop (by
        rw [Around.under_plainId plain_eq_loop _]
        exact hrec)⟩
theorem list_eqB (l b : Addr) (N : Nat) (ds : Nat → Bool) (I : Nat → Shared → Prop) (hl : ListB prog w A (fun e s' => R (.error e) s') l b N ds I)
    (fin : ∀ s, (∀ j, j < N → ds j = true) → I N s → R (.ok (.ret (.bool true))) s) (finF : ∀ i s, i < N → ds i = false → I (i + 1) s → R (.ok (.ret (.bool false))) s) {s : Shared} (h : I 0 s) :
    wpAny (model prog w) A.in1 (Builtin.«list.__eq__» ⟨[.ref l, .ref b], []⟩) (FinOf prog w A R) (fun e s' => R (.error e) s') s := by
  obtain ⟨items, items2, n, n2, hl1, hb1, hs1, hs2, _⟩ := hl _ _ h
  have hrec := eq_loopB (A := A) (R := R) l b N ds I hl fin finF _ 0 rfl (Nat.zero_le _) (fun j hj => absurd hj (Nat.not_lt_zero j)) s h
  obtain ⟨hp, g, d, tk, os⟩ := s
  have f3 := AutoSeq1.sub_list_list
  have hne : ¬ (items.size != items2.size) = true := by simp [hs1, hs2]
  wp_walk using wpAny_loadPart' hl1, wpAny_loadPart' hb1
  exact ⟨plainId_quiet plain_eq_loop _, codeAny_builtin entry_eq_loop (by
    rw [Around.under_plainId plain_eq_loop _]
    exact hrec)⟩
/-- lists of unlike lengths -/
theorem list_eqL (l b : Addr) {items items2 : Array Value} {n n2 : Nat} {s : Shared} (hl1 : s.heap.get? l = some { cls := .type "list", data := .seq items n }) (hb1 : s.heap.get? b = some { cls := .type "list", data := .seq items2 n2 }) (hne : items.size ≠ items2.size)
    (q : R (.ok (.ret (.bool false))) s) : wpAny (model prog w) A.in1 (Builtin.«list.__eq__» ⟨[.ref l, .ref b], []⟩) (FinOf prog w A R) (fun e s' => R (.error e) s') s := by
  obtain ⟨hp, g, d, tk, os⟩ := s
  have f3 := AutoSeq1.sub_list_list
  have hne : (items.size != items2.size) = true := by simpa using hne
  wp_walk using wpAny_loadPart' hl1, wpAny_loadPart' hb1
  exact q
end
section
variable {prog : Program} {w : World} {A : Around} {E : Value → Shared → Prop} {s : Shared}
theorem rc_listB {l b : Addr} {N : Nat} {Q : Value → Shared → Prop} (hu : A.units < cLine) (ds : Nat → Bool) (I : Nat → Shared → Prop) (hl : ListB prog w A E l b N ds I)
    (fin : ∀ s, (∀ j, j < N → ds j = true) → I N s → Q (.bool true) s) (finF : ∀ i s, i < N → ds i = false → I (i + 1) s → Q (.bool false) s) (h : I 0 s) : wpAny (model prog w) A (richCompare .Eq (.ref l) (.ref b)) Q E s := by
  obtain ⟨items, items2, n, n2, hl1, hb1, _, _, _⟩ := hl _ _ h
  refine wpAny_richCompare_same_room (op := .Eq) ⟨_, hl1, rfl⟩ ⟨_, hb1, rfl⟩ F.slot_list_eq (call_here F.slot_list_eq ⟨_, hl1, rfl⟩ F.entry_list_eq (F.args_list_eq_2 _ _) ?_) hu
  exact list_eqB (R := wants (fun v s' => v ≠ .notImplemented ∧ Q v s') E) l b N ds I hl (fun s' a q => ⟨(fun x => nomatch x), fin s' a q⟩) (fun i s' a c q => ⟨(fun x => nomatch x), finF i s' a c q⟩) h
theorem rc_listL {l b : Addr} {items items2 : Array Value} {n n2 : Nat} {Q : Value → Shared → Prop} (hu : A.units < cLine) (hl1 : s.heap.get? l = some { cls := .type "list", data := .seq items n }) (hb1 : s.heap.get? b = some { cls := .type "list", data := .seq items2 n2 }) (hne : items.size ≠ items2.size)
    (q : Q (.bool false) s) : wpAny (model prog w) A (richCompare .Eq (.ref l) (.ref b)) Q E s := by
  refine wpAny_richCompare_same_room (op := .Eq) ⟨_, hl1, rfl⟩ ⟨_, hb1, rfl⟩ F.slot_list_eq (call_here F.slot_list_eq ⟨_, hl1, rfl⟩ F.entry_list_eq (F.args_list_eq_2 _ _) ?_) hu
  exact list_eqL (R := wants (fun v s' => v ≠ .notImplemented ∧ Q v s') E) l b hl1 hb1 hne ⟨(fun x => nomatch x), q⟩
end
end RQ
namespace RQ
open PySem PySem.Spec PyProof.Rows L2
/-- how two values compare, by the abstract heap -/
abbrev EqvB := V → V → Hp → Bool → Prop
def MonB (D : EqvB) : Prop := ∀ x y H H' k, Ext H H' → D x y H k → D x y H' k
/-- == gives k for what D says, and only makes objects -/
def EqB (X : Cx) (n : Nat) (D : EqvB) : Prop :=
  ∀ (A : Around) (pins : List (Addr × Obj)) (s : Shared) (σ : L2.St) (H : Hp) (x y : V) (u v : Value) (k : Bool), L2.Sub X n A → Inv X pins σ H s → RelV x u → RelV y v → D x y H k →
    wpAny (model X.prog X.w) A (eqBool u v) (fun r s' => r = k ∧ ∃ H', Inv X pins σ H' s' ∧ Ext H H') X.xe s
def RcB (X : Cx) (n : Nat) (D : EqvB) : Prop :=
  ∀ (A : Around) (pins : List (Addr × Obj)) (s : Shared) (σ : L2.St) (H : Hp) (x y : V) (u v : Value) (k : Bool), L2.Sub X n A → Inv X pins σ H s → RelV x u → RelV y v → D x y H k →
    wpAny (model X.prog X.w) A (richCompare .Eq u v) (fun r s' => r = .bool k ∧ ∃ H', Inv X pins σ H' s' ∧ Ext H H') X.xe s
section
variable {X : Cx} {n : Nat} {D : EqvB}
/-- an own == with either answer -/
def spEqB (R : Addr → V → Hp → Bool → Prop) : Sp := fun vs H Q _ => ∃ a y k, vs = [.ref a, y] ∧ R a y H k ∧ ∀ H', Ext H H' → Q (.bl k) H'
/-- instances of the class at C with the text's own ==, the other one of a class C' that isn't asked first -/
def DInsB (K : PySem.W.Frag) (C : Addr) (R : Addr → V → Hp → Bool → Prop) : EqvB := fun x y H k => ∃ a b dx dy fs gs C', x = .ref a ∧ y = .ref b ∧ H a = some (.ins C dx fs) ∧ H b = some (.ins C' dy gs) ∧ PySem.W.notFirst K C (.ref C') = true ∧ R a (.ref b) H k
theorem rcB_ins {CX : CXT} {C f : Addr} {fd : FuncData} {ps : List Str} {R : Addr → V → Hp → Bool → Prop} {E : XK} (F : FnOk X.prog X.w X.K X.mg X.base CX n f fd ps (spEqB R))
    (hs : PySem.W.findIn X.K (.ref C) "__eq__" = some (some (.ref f))) (hf : PySem.W.isFn X.K (.ref f) = true) (hb : Binds X.K fd ps []) (hx : Passes CX X E) : RcB X n (DInsB X.K C R) := by
  intro A pins s σ H x y u v k sb I rx ry d
  obtain ⟨a, b, dx, dy, fs, gs, C', rfl, rfl, ha, hb', hn, hr⟩ := d
  cases rx
  cases ry
  obtain ⟨mA, J, _⟩ := ins_get I.hok ha
  obtain ⟨mB, J', _⟩ := ins_get I.hok hb'
  obtain ⟨od, J, _⟩ := J.look
  obtain ⟨od', J', _⟩ := J'.look
  obtain ⟨m, hF⟩ := I.fr
  refine PySem.W.cmp_K (op := .Eq) (tb := .ref C') sb.room.units0 hF I.ok.mod.kin J J'.type hn hs hf ?_
  have hsp : spEqB R [.ref a, .ref b] H (fun v H' => v = .bl k ∧ Ext H H') E := ⟨a, .ref b, k, rfl, hr, fun H' e => ⟨rfl, e⟩⟩
  have e0 : Env0 X.prog X.w X.K X.mg X.base A X.stack s H := by
    have e := I.env0
    exact ⟨by rw [sb.fr]; exact e.frames, e.mod, e.bs, e.bsz, e.funs, e.frf, e.hok, e.bare⟩
  have hl := F.len _ _ _ _ hsp
  have r2 : Vals [V.ref a, V.ref b] [Value.ref a, Value.ref b] := .cons rfl (.cons rfl .nil)
  refine wpAny_call (codeAny_mono (F.run A X.stack s H ⟨[.ref a, .ref b], []⟩ [.ref a, .ref b] [.ref a, .ref b] _ E sb.room e0 (by
    have := hb s [.ref a, .ref b] I.kIn (by simpa using hl)
    simpa using this) r2 hsp) fun r s' hq => ?_)
  cases r with
  | error e => exact hx pins σ H s e s' I hq
  | ok fl =>
    cases fl with
    | ret w =>
      obtain ⟨z, H', I', rz, ez, ex⟩ := I.after hq
      subst ez
      cases rz
      exact ⟨rfl, H', I', ex⟩
    | next => exact False.elim hq
    | brk => exact False.elim hq
    | cont => exact False.elim hq
/-- == of two objects within a list: the same object is equal to itself -/
theorem RcB.eqB (h : RcB X n D) (hr : ∀ x y H k, D x y H k → ∃ a b, x = .ref a ∧ y = .ref b) (self : ∀ x H k, D x x H k → k = true) : EqB X n D := by
  intro A pins s σ H x y u v k sb I rx ry d
  obtain ⟨a, b, rfl, rfl⟩ := hr _ _ _ _ d
  cases rx
  cases ry
  by_cases hab : a = b
  · subst hab
    have e := self _ _ _ d
    subst e
    exact SeqAt.EqAt.same (A := A) (s := s) (.ref a) X.prog X.w X.xe _ ⟨rfl, H, I, Ext.rfl'⟩
  · refine GQ.eqBool_refG hab (wpAny_mono (h A pins s σ H (.ref a) (.ref b) _ _ k sb I rfl rfl d) (fun r s' q => ?_) fun _ _ x => x)
    obtain ⟨hr', q⟩ := q
    exact ⟨k, hr', rfl, q⟩
/-- lists, item by item: ks the items' answers -/
def DListB (D : EqvB) : EqvB := fun x y H k => ∃ a b xs ys, x = .ref a ∧ y = .ref b ∧ H a = some (.lst xs) ∧ H b = some (.lst ys) ∧
  ((xs.length ≠ ys.length ∧ k = false) ∨ ∃ ks : List Bool, xs.length = ys.length ∧ ks.length = xs.length ∧ (∀ (i : Nat) x y d, xs[i]? = some x → ys[i]? = some y → ks[i]? = some d → D x y H d) ∧ k = ks.all id)
theorem rcB_list (hD : MonB D) (h : EqB X n D) : RcB X (n + 1) (DListB D) := by
  intro A pins s σ H x y u v k sb I rx ry d
  obtain ⟨a, b, xs, ys, rfl, rfl, ha, hb, d⟩ := d
  cases rx
  cases ry
  obtain ⟨z, its, k1, r, e⟩ := I.hok a _ ha
  obtain ⟨z2, its2, k2, r2, e2⟩ := I.hok b _ hb
  rcases d with ⟨hne, rfl⟩ | ⟨ks, hl, hk, hd, rfl⟩
  · exact rc_listL sb.room.units0 e e2 (by rw [List.size_toArray, List.size_toArray, ← r.length, ← r2.length]; exact hne) ⟨rfl, H, I, Ext.rfl'⟩
  · refine rc_listB (N := xs.length) sb.room.units0 (fun i => ks.getD i true) (fun _ s' => LoopI X pins σ H s') (fun i s' q => ?_) (fun s' a q => ⟨?_, q⟩) (fun i s' hi hf q => ⟨?_, q⟩) ⟨H, I, Ext.rfl'⟩
    · obtain ⟨H1, I1, e1⟩ := id q
      obtain ⟨z, its, k1, r, e⟩ := I1.hok a _ (e1 _ _ ha)
      obtain ⟨z2, its2, k2, r2, e2⟩ := I1.hok b _ (e1 _ _ hb)
      refine ⟨its.toArray, its2.toArray, k1, k2, e, e2, by rw [List.size_toArray, ← r.length], by rw [List.size_toArray, ← r2.length, ← hl], fun h1 h2 => ?_⟩
      have g1 : its[i]? = some its.toArray[i] := by
        have h1' : i < its.length := by simpa using h1
        rw [List.getElem?_eq_getElem h1'] <;> simp
      have g2 : its2[i]? = some its2.toArray[i] := by
        have h2' : i < its2.length := by simpa using h2
        rw [List.getElem?_eq_getElem h2'] <;> simp
      have q1 : i < xs.length := by rw [r.length]; simpa using h1
      have q2 : i < ys.length := by rw [r2.length]; simpa using h2
      have q3 : i < ks.length := by omega
      obtain ⟨u, hu, ru⟩ := r.get (List.getElem?_eq_getElem q1)
      obtain ⟨v, hv, rv⟩ := r2.get (List.getElem?_eq_getElem q2)
      rw [g1] at hu
      rw [g2] at hv
      rw [Option.some.inj hu, Option.some.inj hv]
      have ek : ks.getD i true = ks[i] := by simp [List.getD, List.getElem?_eq_getElem q3]
      refine wpAny_mono (h A.in1 pins s' σ H1 _ _ u v ks[i] sb.in1 I1 ru rv (hD _ _ _ _ _ e1 (hd i _ _ _ (List.getElem?_eq_getElem q1) (List.getElem?_eq_getElem q2) (List.getElem?_eq_getElem q3)))) (fun r s2 q => ?_) fun _ _ x => x
      obtain ⟨hr, H2, I2, e3⟩ := q
      exact ⟨hr.trans ek.symm, H2, I2, e1.trans e3⟩
    · have e : ks.all id = true := by
        rw [List.all_eq_true]
        intro d hd
        obtain ⟨i, hi, rfl⟩ := List.getElem_of_mem hd
        have := a i (by omega)
        simpa [List.getD, List.getElem?_eq_getElem hi] using this
      rw [e]
    · have q3 : i < ks.length := by omega
      have e : ks.all id = false := by
        rw [List.all_eq_false]
        refine ⟨ks[i], List.getElem_mem q3, ?_⟩
        have : ks[i] = false := by simpa [List.getD, List.getElem?_eq_getElem q3] using hf
        rw [this]
        simp
      rw [e]
/-- x == y as an expression -/
def rEqB (D : EqvB) : R2 := fun x y H Q => ∃ k, D x y H k ∧ ∀ H', Ext H H' → Q (.bl k) H'
theorem op_eqB (h : RcB X n D) (hr : Room n X.A) : OpR X (compareOp .Eq) (rEqB D) := by
  intro pins s σ H x y v u Q I rx ry hq
  obtain ⟨k, d, q⟩ := hq
  show wpAny (model X.prog X.w) X.A (richCompare .Eq v u) (EP X pins σ Q) X.xe s
  refine wpAny_mono (h X.A pins s σ H x y v u k ⟨hr, rfl⟩ I rx ry d) (fun r s' z => ?_) fun _ _ x => x
  obtain ⟨hr', H', I', e⟩ := z
  subst hr'
  exact ⟨.bl k, H', I', rfl, q H' e⟩
end
end RQ
set_option maxHeartbeats 4000000
/-! ### != of instances by their own __eq__ -/
namespace RQ
open PySem PySem.Spec PyProof.Rows PySem.SeqAt Builtin
section
variable {M : Model} {prog : Program} {w : World} {A : Around} {E : Value → Shared → Prop} {s : Shared} {K : PySem.W.Frag} {x y C f : Addr} {ox : Obj} {od : Option Obj}
theorem entry_ne (hu : A.units < cLine) (X : K.In s.heap) (I : PySem.W.InstAt s.heap x ox C od) (hs : PySem.W.findIn K (.ref C) "__eq__" = some (some (.ref f))) (hf : PySem.W.isFn K (.ref f) = true) {Q : Fin → Shared → Prop}
    (hcall : wpAny M A (call (.ref f) [.ref x, .ref y]) (fun v s' => ∃ b, v = .bool b ∧ Q (.done (.ret (.bool (!b)))) s') E s) : wpAny M A (Builtin.«object.__ne__» ⟨[.ref x, .ref y], []⟩) Q E s := by
  unfold Builtin.«object.__ne__»
  repeat (first
    | with_reducible refine wpAny_cRoomFor hu ?_
    | (refine wpAny_bind (m := callSpecialIfBound? (.ref x) (Str.ofString "__eq__") [.ref y])
        (PySem.W.ifBound_K X I hs hf (wpAny_mono hcall (fun r s' hr => by
          obtain ⟨b, rfl, hq⟩ := hr
          repeat (first | exact hq | exact wpAny_pure hq | exact wpAny_truthy_bool hq | (refine wpAny_bind (m := truthy (.bool _)) (wpAny_truthy_bool ?_)) | wp_step)) fun _ _ e => e)))
    | wp_step)
theorem ifBound_objNe {args : List Value} {Q : Option Value → Shared → Prop} (X : K.In s.heap) (I : PySem.W.InstAt s.heap x ox C od) (hs : PySem.W.findIn K (.ref C) "__ne__" = some (some (.builtin "object.__ne__")))
    (h : wpAny M A (call (.builtin "object.__ne__") (.ref x :: args)) (fun v => Q (some v)) E s) : wpAny M A (callSpecialIfBound? (.ref x) "__ne__" args) Q E s := by
  simp only [callSpecialIfBound?, bindSpecialIfBound?]
  refine wpAny_holding (wpAny_bind (wpAny_bind (wpAny_bind (I.type.here ((PySem.W.looks_findIn X hs).here ?_)))))
  refine wpAny_bind (wpAny_askSetting (wpAny_ite ?_))
  have fin : wpAny M A (call (.builtin "object.__ne__") ([.ref x] ++ args) >>= fun v => pure (some v)) Q E s := wpAny_bind (wpAny_mono h (fun v s' h' => wpAny_pure h') fun _ _ h' => h')
  split
  · exact wpAny_bind (wpAny_of_eq (F.cmp_object.ne.bind _) (wpAny_pure (by exact fin)))
  · exact wpAny_tryCatch (wpAny_bind (wpAny_of_eq (F.cmp_object.ne.bind _) (wpAny_pure (by exact fin))))
theorem call_objNe (hu : A.units + 1 < cLine) (X : K.In s.heap) (I : PySem.W.InstAt s.heap x ox C od) (hm : PySem.W.mroIn K C (.type "object") = some true) (hs : PySem.W.findIn K (.ref C) "__eq__" = some (some (.ref f))) (hf : PySem.W.isFn K (.ref f) = true) {Q : Value → Shared → Prop}
    (hcall : wpAny (model prog w) A.in1 (call (.ref f) [.ref x, .ref y]) (fun v s' => ∃ b, v = .bool b ∧ Q (.bool (!b)) s') E s) : wpAny (model prog w) A (call (.builtin "object.__ne__") [.ref x, .ref y]) Q E s :=
  wpAny_call (codeAny_call_builtin F.cmp_object.ne.plain F.cmpEntry_ne (PySem.W.check_slot F.cmpKind_ne F.cmpSplit_ne (I.type.andThen (PySem.W.looks_mroIn X hm)) (F.cmpArgs_ne _ _)
    (entry_ne (A := A.in1) hu X I hs hf (wpAny_mono hcall (fun v s' hv => by obtain ⟨b, rfl, q⟩ := hv; exact ⟨b, rfl, q⟩) fun _ _ e => e))))
theorem ne_K {tb : Value} {Q : Value → Shared → Prop} (hu : A.units + 1 < cLine) (X : K.In s.heap) (I : PySem.W.InstAt s.heap x ox C od) (hb : PySem.W.Looks (model prog w) s.heap (typeOf (.ref y)) tb)
    (hn : PySem.W.notFirst K C tb = true) (hm : PySem.W.mroIn K C (.type "object") = some true) (hne : PySem.W.findIn K (.ref C) "__ne__" = some (some (.builtin "object.__ne__"))) (hs : PySem.W.findIn K (.ref C) "__eq__" = some (some (.ref f))) (hf : PySem.W.isFn K (.ref f) = true)
    (hcall : wpAny (model prog w) A.in1 (call (.ref f) [.ref x, .ref y]) (fun v s' => ∃ b, v = .bool b ∧ Q (.bool (!b)) s') E s) : wpAny (model prog w) A (richCompare .NotEq (.ref x) (.ref y)) Q E s := by
  have one : wpAny (model prog w) A (tryCompare (.ref x) "__ne__" (.ref y)) (fun r s' => ∃ b, r = some (.bool b) ∧ Q (.bool b) s') E s := by
    unfold tryCompare
    refine wpAny_bind (ifBound_objNe X I hne (call_objNe hu X I hm hs hf (wpAny_mono hcall (fun v s' hv => ?_) fun _ _ e => e)))
    obtain ⟨b, rfl, q⟩ := hv
    exact ⟨b, rfl, wpAny_pure ⟨_, rfl, q⟩⟩
  simp only [richCompare, cmpInfo_NotEq, oneThing_ref]
  refine wpAny_holding (wpAny_bind (wpAny_cRoomFor (Nat.lt_of_succ_lt hu) ?_))
  refine wpAny_bind (I.type.here (wpAny_bind (hb.here ?_)))
  split
  · rename_i q
    have e : PySem.W.subIn K tb (.ref C) = some false := by
      rcases Bool.or_eq_true_iff.mp hn with e | e
      · rw [beq_iff_eq.mp e] at q; simp at q
      · exact beq_iff_eq.mp e
    refine wpAny_bind ((PySem.W.looks_subIn X e).here ?_)
    simp only [Bool.false_eq_true, if_false]
    refine wpAny_bind (wpAny_mono one (fun r s' z => ?_) fun _ _ e => e)
    obtain ⟨b, rfl, hq⟩ := z
    exact wpAny_pure hq
  · refine wpAny_bind (wpAny_pure ?_)
    simp only [Bool.false_eq_true, if_false]
    refine wpAny_bind (wpAny_mono one (fun r s' z => ?_) fun _ _ e => e)
    obtain ⟨b, rfl, hq⟩ := z
    exact wpAny_pure hq
end
end RQ
namespace RQ
open PySem PySem.Spec PyProof.Rows L2
section
variable {X : Cx} {n : Nat}
/-- x != y, x an instance with an own == and no own != -/
def rNeB (D : EqvB) : R2 := fun x y H Q => ∃ k, D x y H k ∧ ∀ H', Ext H H' → Q (.bl (!k)) H'
theorem op_neB {CX : CXT} {C f : Addr} {fd : FuncData} {ps : List Str} {R : Addr → V → Hp → Bool → Prop} {E : XK} (F : FnOk X.prog X.w X.K X.mg X.base CX n f fd ps (spEqB R)) (hr : Room (n + 1) X.A)
    (hm : PySem.W.mroIn X.K C (.type "object") = some true) (hne : PySem.W.findIn X.K (.ref C) "__ne__" = some (some (.builtin "object.__ne__"))) (hs : PySem.W.findIn X.K (.ref C) "__eq__" = some (some (.ref f))) (hf : PySem.W.isFn X.K (.ref f) = true) (hb : Binds X.K fd ps []) (hx : Passes CX X E) :
    OpR X (compareOp .NotEq) (rNeB (DInsB X.K C R)) := by
  intro pins s σ H x y v u Q I rx ry hq
  obtain ⟨k, d, q⟩ := hq
  obtain ⟨a, b, dx, dy, fs, gs, C', rfl, rfl, ha, hb', hn, hrr⟩ := d
  cases rx
  cases ry
  obtain ⟨mA, J, _⟩ := ins_get I.hok ha
  obtain ⟨mB, J', _⟩ := ins_get I.hok hb'
  obtain ⟨od, J, _⟩ := J.look
  obtain ⟨od', J', _⟩ := J'.look
  show wpAny (model X.prog X.w) X.A (richCompare .NotEq (.ref a) (.ref b)) (EP X pins σ Q) X.xe s
  refine ne_K (tb := .ref C') (by have := hr.un; omega) I.kIn J J'.type hn hm hne hs hf ?_
  have hsp : spEqB R [.ref a, .ref b] H (fun v H' => v = .bl k ∧ Ext H H') E := ⟨a, .ref b, k, rfl, hrr, fun H' e => ⟨rfl, e⟩⟩
  have e0 : Env0 X.prog X.w X.K X.mg X.base X.A.in1 X.stack s H := by
    have e := I.env0
    exact ⟨e.frames, e.mod, e.bs, e.bsz, e.funs, e.frf, e.hok, e.bare⟩
  have hl := F.len _ _ _ _ hsp
  have r2 : Vals [V.ref a, V.ref b] [Value.ref a, Value.ref b] := .cons rfl (.cons rfl .nil)
  refine wpAny_call (codeAny_mono (F.run X.A.in1 X.stack s H ⟨[.ref a, .ref b], []⟩ [.ref a, .ref b] [.ref a, .ref b] _ E hr.in1 e0 (by
    have := hb s [.ref a, .ref b] I.kIn (by simpa using hl)
    simpa using this) r2 hsp) fun r s' hq => ?_)
  cases r with
  | error e => exact hx pins σ H s e s' I hq
  | ok fl =>
    cases fl with
    | ret w =>
      obtain ⟨z, H', I', rz, ez, ex⟩ := I.after hq
      subst ez
      cases rz
      exact ⟨k, rfl, .bl (!k), H', I', rfl, q H' ex⟩
    | next => exact False.elim hq
    | brk => exact False.elim hq
    | cont => exact False.elim hq
end
end RQ
set_option maxHeartbeats 4000000
/-! ### B.m(e, ..), B an own class, m a plain def of it: as __init__ of a base within that of a subclass -/
namespace RC
open PySem PySem.Spec PyProof.Rows L2
/-- what of the class is read -/
structure CDef (K : PySem.W.Frag) (mg : Str → Option Value) (x : Str) (CR : Addr) (mc : Value) (m : Str) (g : Addr) : Prop where
  gl : mg x = some (.ref CR)
  rd : PySem.W.readsIn K CR mc = true
  ga : PySem.W.specialIn K (.ref CR) "__getattribute__" = some (some (.builtin "type.__getattribute__"))
  at_ : PySem.W.findCls K (.ref CR) mc m = some (.val (.ref g))
  kp : PySem.W.keepIn K (.ref g) = true
section
variable {X : Cx} {CX : CXT} {k : Nat} {g : Addr} {fd : FuncData} {ps : List Str} {sp : Sp} {dvs : List V} {ds : List Value} {E : XK} {x m : Str} {CR : Addr} {mc : Value} {e : Expr} {es : List Expr} {t : TA} {p1 p2 pos : Pos}
theorem pe_ccall {pl : Sem Bool} (B : CDef X.K X.mg x CR mc m g) (F : FnOk X.prog X.w X.K X.mg X.base CX k g fd ps sp) (hr : Room k X.A) (hb : Binds X.K fd ps ds) (hd : Vals dvs ds) (hx : Passes CX X E) (hg : Gl X x) (ha : PA X (e :: es) t) (hdb : (x == ("__debug__" : Str)) = false := by decide)
    (hc : eval (.Call (.Attribute (.Name x p1) m p2) (e :: es) [] pos) X.env = (do
      let ov ← eval (.Name x p1) X.env
      standAt p2.atName
      let (f, first) ← holding [ov] (getMethod ov m pl)
      callWith pos f first (backTo pos (starEach (e :: es) X.env)) (backToKw pos (keywordEach [] X.env))) := by rfl)
    (he : starEach (e :: es) X.env = (false, eval e X.env) :: starEach es X.env := by rfl) (hpl : (backTo pos (starEach es X.env)).any (·.1) = false := by rfl) :
    PE X (.Call (.Attribute (.Name x p1) m p2) (e :: es) [] pos) (tCall sp dvs E t) := ⟨fun pins s σ H Q I h => by
  refine PySem.W.methodCall_KW (ld_glob I hg B.gl ?_ hdb) hc
  refine PySem.W.method_cls I.kIn B.ga (PySem.W.cls_value I.kIn B.rd B.at_ (by rfl) ?_)
  show wpAny _ _ (callWith pos (Value.ref g) [] (backTo pos (starEach (e :: es) X.env)) []) _ _ _
  exact PySem.W.callWith_K (h₀ := X.base) I.ok.mod.kin B.kp (thn (ha.run pos pins _ σ H _ (I.tok _) h) fun us s1 ⟨vs, H1, I1, r, q⟩ => ⟨I1.kIn, run_fn F hr hb hd hx I1 r q⟩) he hpl⟩
end
end RC
set_option maxHeartbeats 4000000
/-! ### len(o), str(o) by an own __len__, __str__ -/
namespace RC
open PySem PySem.Spec PyProof.Rows L2
section
variable {X : Cx} {CX : CXT} {n : Nat} {C f : Addr} {fd : FuncData} {ps : List Str} {sp : Sp} {E : XK}
/-- an own special def of one argument, somewhere below -/
theorem run_special {A : Around} {pins : List (Addr × Obj)} {σ : L2.St} {H : Hp} {s : Shared} {a : Addr} {Q : VK} {R : Value → Shared → Prop} (F : FnOk X.prog X.w X.K X.mg X.base CX n f fd ps sp) (hr : Room n A) (hfr : A.frames = X.A.frames) (hb : Binds X.K fd ps []) (hx : Passes CX X E) (I : Inv X pins σ H s)
    (h : sp [.ref a] H Q E) (hR : ∀ v u H' s', Inv X pins σ H' s' → RelV v u → Q v H' → R u s') : wpAny (model X.prog X.w) A (call (.ref f) [.ref a]) R X.xe s := by
  have e0 : Env0 X.prog X.w X.K X.mg X.base A X.stack s H := by
    have e := I.env0
    exact ⟨by rw [hfr]; exact e.frames, e.mod, e.bs, e.bsz, e.funs, e.frf, e.hok, e.bare⟩
  have hl := F.len _ _ _ _ h
  refine wpAny_call (codeAny_mono (F.run A X.stack s H ⟨[.ref a], []⟩ [.ref a] [.ref a] _ E hr e0 (by
    have := hb s [.ref a] I.kIn (by simpa using hl)
    simpa using this) (.cons rfl .nil) h) fun r s' hq => ?_)
  cases r with
  | error e => exact hx pins σ H s e s' I hq
  | ok fl =>
    cases fl with
    | ret w =>
      obtain ⟨z, H', I', rz, q⟩ := I.after hq
      exact hR z w H' s' I' rz q
    | next => exact False.elim hq
    | brk => exact False.elim hq
    | cont => exact False.elim hq
theorem call_lenO (F : FnOk X.prog X.w X.K X.mg X.base CX n f fd ps sp) (hr : Room (n + 1) X.A) (hs : PySem.W.findIn X.K (.ref C) "__len__" = some (some (.ref f))) (hf : PySem.W.isFn X.K (.ref f) = true) (hb : Binds X.K fd ps []) (hx : Passes CX X E) :
    CallR X (.builtin "len") (fun xs H Q => ∃ a dx fs, xs = [.ref a] ∧ H a = some (.ins C dx fs) ∧ sp [.ref a] H (fun v H' => ∃ k : Int, v = .int k ∧ 0 ≤ k ∧ k < 2 ^ 63 ∧ Q (.int k) H') E) := by
  intro pins s σ H xs us Q I r h
  obtain ⟨a, dx, fs, rfl, ha, h⟩ := h
  cases r with
  | cons r rr =>
    cases rr
    cases r
    obtain ⟨mA, J, _⟩ := ins_get I.hok ha
    obtain ⟨od, J, _⟩ := J.look
    obtain ⟨m, hF⟩ := I.fr
    refine PySem.W.len_K hF I.ok.mod.kin J hs hf (run_special F hr.in1 rfl hb hx I h fun v u H' s' I' rz q => ?_)
    obtain ⟨k, rfl, h0, h1, q⟩ := q
    obtain ⟨t, rfl⟩ := rz
    exact ⟨⟨h0, h1⟩, .int k, H', I'.tok _, ⟨_, rfl⟩, q⟩
theorem call_strO (F : FnOk X.prog X.w X.K X.mg X.base CX n f fd ps sp) (hr : Room (n + 2) X.A) (hs : PySem.W.findIn X.K (.ref C) "__str__" = some (some (.ref f))) (hf : PySem.W.isFn X.K (.ref f) = true) (hb : Binds X.K fd ps []) (hx : Passes CX X E) :
    CallR X (.type "str") (fun xs H Q => ∃ a dx fs, xs = [.ref a] ∧ H a = some (.ins C dx fs) ∧ sp [.ref a] H (fun v H' => ∃ z : Str, v = .str z ∧ Q (.str z) H') E) := by
  intro pins s σ H xs us Q I r h
  obtain ⟨a, dx, fs, rfl, ha, h⟩ := h
  cases r with
  | cons r rr =>
    cases rr
    cases r
    obtain ⟨mA, J, _⟩ := ins_get I.hok ha
    obtain ⟨od, J, _⟩ := J.look
    refine PySem.W.kso_call (hr.in1.in1.units0) I.kIn J hs hf (run_special F hr.in1.in1 rfl hb hx I h fun v u H' s' I' rz q => ?_)
    obtain ⟨z, rfl, q⟩ := q
    obtain ⟨t, rfl⟩ := rz
    exact ⟨.str z, H', I', ⟨_, rfl⟩, q⟩
end
end RC
set_option maxHeartbeats 4000000
namespace K10
open PySem PySem.Spec PyProof.Rows L2
/-! ### the text -/
def topS (i : Nat) : Stmt := PySem.Challenge.pw_rolereach_k10_functions_made.main.body.getD i (.Pass ⟨0, 0, 0, 0⟩)
abbrev s_InvalidName_init : Stmt := inClass (topS 2) 0
abbrev N_InvalidName_init : List Str := ["self", "value"]
theorem sc_InvalidName_init : FnScope N_InvalidName_init ["self", "value"] (defScope s_InvalidName_init) := ⟨rfl, rfl, rfl, by decide +kernel, rfl, by decide +kernel, by decide +kernel⟩
abbrev s_InvalidTaker_init : Stmt := inClass (topS 3) 0
abbrev N_InvalidTaker_init : List Str := ["self", "value"]
theorem sc_InvalidTaker_init : FnScope N_InvalidTaker_init ["self", "value"] (defScope s_InvalidTaker_init) := ⟨rfl, rfl, rfl, by decide +kernel, rfl, by decide +kernel, by decide +kernel⟩
abbrev s_InvalidRight_init : Stmt := inClass (topS 4) 0
abbrev N_InvalidRight_init : List Str := ["self", "value"]
theorem sc_InvalidRight_init : FnScope N_InvalidRight_init ["self", "value"] (defScope s_InvalidRight_init) := ⟨rfl, rfl, rfl, by decide +kernel, rfl, by decide +kernel, by decide +kernel⟩
abbrev s_InvalidKind_init : Stmt := inClass (topS 5) 0
abbrev N_InvalidKind_init : List Str := ["self", "value"]
theorem sc_InvalidKind_init : FnScope N_InvalidKind_init ["self", "value"] (defScope s_InvalidKind_init) := ⟨rfl, rfl, rfl, by decide +kernel, rfl, by decide +kernel, by decide +kernel⟩
abbrev s_InvalidFlag_init : Stmt := inClass (topS 6) 0
abbrev N_InvalidFlag_init : List Str := ["self", "value"]
theorem sc_InvalidFlag_init : FnScope N_InvalidFlag_init ["self", "value"] (defScope s_InvalidFlag_init) := ⟨rfl, rfl, rfl, by decide +kernel, rfl, by decide +kernel, by decide +kernel⟩
abbrev s_InvalidAudience_init : Stmt := inClass (topS 7) 0
abbrev N_InvalidAudience_init : List Str := ["self", "value"]
theorem sc_InvalidAudience_init : FnScope N_InvalidAudience_init ["self", "value"] (defScope s_InvalidAudience_init) := ⟨rfl, rfl, rfl, by decide +kernel, rfl, by decide +kernel, by decide +kernel⟩
abbrev s_InvalidMode_init : Stmt := inClass (topS 8) 0
abbrev N_InvalidMode_init : List Str := ["self", "value"]
theorem sc_InvalidMode_init : FnScope N_InvalidMode_init ["self", "value"] (defScope s_InvalidMode_init) := ⟨rfl, rfl, rfl, by decide +kernel, rfl, by decide +kernel, by decide +kernel⟩
abbrev s_InvalidBody_init : Stmt := inClass (topS 9) 0
abbrev N_InvalidBody_init : List Str := ["self", "value"]
theorem sc_InvalidBody_init : FnScope N_InvalidBody_init ["self", "value"] (defScope s_InvalidBody_init) := ⟨rfl, rfl, rfl, by decide +kernel, rfl, by decide +kernel, by decide +kernel⟩
abbrev s_InvalidThing_init : Stmt := inClass (topS 10) 0
abbrev N_InvalidThing_init : List Str := ["self", "value"]
theorem sc_InvalidThing_init : FnScope N_InvalidThing_init ["self", "value"] (defScope s_InvalidThing_init) := ⟨rfl, rfl, rfl, by decide +kernel, rfl, by decide +kernel, by decide +kernel⟩
abbrev s_is_name : Stmt := topS 16
abbrev N_is_name : List Str := ["value"]
theorem sc_is_name : FnScope N_is_name ["value"] (defScope s_is_name) := ⟨rfl, rfl, rfl, by decide +kernel, rfl, by decide +kernel, by decide +kernel⟩
abbrev s_is_taker : Stmt := topS 17
abbrev N_is_taker : List Str := ["value"]
theorem sc_is_taker : FnScope N_is_taker ["value"] (defScope s_is_taker) := ⟨rfl, rfl, rfl, by decide +kernel, rfl, by decide +kernel, by decide +kernel⟩
abbrev s_is_right : Stmt := topS 18
abbrev N_is_right : List Str := ["value"]
theorem sc_is_right : FnScope N_is_right ["value"] (defScope s_is_right) := ⟨rfl, rfl, rfl, by decide +kernel, rfl, by decide +kernel, by decide +kernel⟩
abbrev s_is_kind : Stmt := topS 19
abbrev N_is_kind : List Str := ["value"]
theorem sc_is_kind : FnScope N_is_kind ["value"] (defScope s_is_kind) := ⟨rfl, rfl, rfl, by decide +kernel, rfl, by decide +kernel, by decide +kernel⟩
abbrev s_is_flag : Stmt := topS 20
abbrev N_is_flag : List Str := ["value"]
theorem sc_is_flag : FnScope N_is_flag ["value"] (defScope s_is_flag) := ⟨rfl, rfl, rfl, by decide +kernel, rfl, by decide +kernel, by decide +kernel⟩
abbrev s_is_list : Stmt := topS 21
abbrev N_is_list : List Str := ["value"]
theorem sc_is_list : FnScope N_is_list ["value"] (defScope s_is_list) := ⟨rfl, rfl, rfl, by decide +kernel, rfl, by decide +kernel, by decide +kernel⟩
abbrev s_is_names : Stmt := topS 22
abbrev N_is_names : List Str := ["value", "most", "item"]
theorem sc_is_names : FnScope N_is_names ["value", "most"] (defScope s_is_names) := ⟨rfl, rfl, rfl, by decide +kernel, rfl, by decide +kernel, by decide +kernel⟩
abbrev s_rights_of : Stmt := topS 23
abbrev N_rights_of : List Str := ["kind"]
theorem sc_rights_of : FnScope N_rights_of ["kind"] (defScope s_rights_of) := ⟨rfl, rfl, rfl, by decide +kernel, rfl, by decide +kernel, by decide +kernel⟩
abbrev s_check_name : Stmt := topS 25
abbrev N_check_name : List Str := ["value"]
theorem sc_check_name : FnScope N_check_name ["value"] (defScope s_check_name) := ⟨rfl, rfl, rfl, by decide +kernel, rfl, by decide +kernel, by decide +kernel⟩
abbrev s_check_taker : Stmt := topS 26
abbrev N_check_taker : List Str := ["value"]
theorem sc_check_taker : FnScope N_check_taker ["value"] (defScope s_check_taker) := ⟨rfl, rfl, rfl, by decide +kernel, rfl, by decide +kernel, by decide +kernel⟩
abbrev s_check_right : Stmt := topS 27
abbrev N_check_right : List Str := ["value"]
theorem sc_check_right : FnScope N_check_right ["value"] (defScope s_check_right) := ⟨rfl, rfl, rfl, by decide +kernel, rfl, by decide +kernel, by decide +kernel⟩
abbrev s_check_option : Stmt := topS 28
abbrev N_check_option : List Str := ["value", "taker"]
theorem sc_check_option : FnScope N_check_option ["value", "taker"] (defScope s_check_option) := ⟨rfl, rfl, rfl, by decide +kernel, rfl, by decide +kernel, by decide +kernel⟩
abbrev s_Give_init : Stmt := inClass (topS 34) 0
abbrev N_Give_init : List Str := ["self", "right", "thing", "taker", "option"]
theorem sc_Give_init : FnScope N_Give_init ["self", "right", "thing", "taker", "option"] (defScope s_Give_init) := ⟨rfl, rfl, rfl, by decide +kernel, rfl, by decide +kernel, by decide +kernel⟩
abbrev s_Give_eq : Stmt := inClass (topS 34) 1
abbrev N_Give_eq : List Str := ["self", "other"]
theorem sc_Give_eq : FnScope N_Give_eq ["self", "other"] (defScope s_Give_eq) := ⟨rfl, rfl, rfl, by decide +kernel, rfl, by decide +kernel, by decide +kernel⟩
abbrev s_Give_str : Stmt := inClass (topS 34) 2
abbrev N_Give_str : List Str := ["self", "words"]
theorem sc_Give_str : FnScope N_Give_str ["self"] (defScope s_Give_str) := ⟨rfl, rfl, rfl, by decide +kernel, rfl, by decide +kernel, by decide +kernel⟩
abbrev s_Call_init : Stmt := inClass (topS 35) 0
abbrev N_Call_init : List Str := ["self", "function"]
theorem sc_Call_init : FnScope N_Call_init ["self", "function"] (defScope s_Call_init) := ⟨rfl, rfl, rfl, by decide +kernel, rfl, by decide +kernel, by decide +kernel⟩
abbrev s_Call_eq : Stmt := inClass (topS 35) 1
abbrev N_Call_eq : List Str := ["self", "other"]
theorem sc_Call_eq : FnScope N_Call_eq ["self", "other"] (defScope s_Call_eq) := ⟨rfl, rfl, rfl, by decide +kernel, rfl, by decide +kernel, by decide +kernel⟩
abbrev s_Call_str : Stmt := inClass (topS 35) 2
abbrev N_Call_str : List Str := ["self"]
theorem sc_Call_str : FnScope N_Call_str ["self"] (defScope s_Call_str) := ⟨rfl, rfl, rfl, by decide +kernel, rfl, by decide +kernel, by decide +kernel⟩
abbrev s_Thing_init : Stmt := inClass (topS 36) 0
abbrev N_Thing_init : List Str := ["self", "kind", "name", "owner", "audience", "admitted"]
theorem sc_Thing_init : FnScope N_Thing_init ["self", "kind", "name", "owner", "audience"] (defScope s_Thing_init) := ⟨rfl, rfl, rfl, by decide +kernel, rfl, by decide +kernel, by decide +kernel⟩
abbrev s_Thing_same_head : Stmt := inClass (topS 36) 4
abbrev N_Thing_same_head : List Str := ["self", "other"]
theorem sc_Thing_same_head : FnScope N_Thing_same_head ["self", "other"] (defScope s_Thing_same_head) := ⟨rfl, rfl, rfl, by decide +kernel, rfl, by decide +kernel, by decide +kernel⟩
abbrev s_Thing_eq : Stmt := inClass (topS 36) 6
abbrev N_Thing_eq : List Str := ["self", "other"]
theorem sc_Thing_eq : FnScope N_Thing_eq ["self", "other"] (defScope s_Thing_eq) := ⟨rfl, rfl, rfl, by decide +kernel, rfl, by decide +kernel, by decide +kernel⟩
abbrev s_Thing_str : Stmt := inClass (topS 36) 7
abbrev N_Thing_str : List Str := ["self", "words"]
theorem sc_Thing_str : FnScope N_Thing_str ["self"] (defScope s_Thing_str) := ⟨rfl, rfl, rfl, by decide +kernel, rfl, by decide +kernel, by decide +kernel⟩
abbrev s_Table_init : Stmt := inClass (topS 37) 0
abbrev N_Table_init : List Str := ["self", "name", "owner", "audience"]
theorem sc_Table_init : FnScope N_Table_init ["self", "name", "owner", "audience"] (defScope s_Table_init) := ⟨rfl, rfl, rfl, by decide +kernel, rfl, by decide +kernel, by decide +kernel⟩
abbrev s_Table_eq : Stmt := inClass (topS 37) 3
abbrev N_Table_eq : List Str := ["self", "other"]
theorem sc_Table_eq : FnScope N_Table_eq ["self", "other"] (defScope s_Table_eq) := ⟨rfl, rfl, rfl, by decide +kernel, rfl, by decide +kernel, by decide +kernel⟩
abbrev s_Function_init : Stmt := inClass (topS 38) 0
abbrev N_Function_init : List Str := ["self", "name", "owner", "audience", "mode", "body"]
theorem sc_Function_init : FnScope N_Function_init ["self", "name", "owner", "audience", "mode", "body"] (defScope s_Function_init) := ⟨rfl, rfl, rfl, by decide +kernel, rfl, by decide +kernel, by decide +kernel⟩
abbrev s_Function_body : Stmt := inClass (topS 38) 3
abbrev N_Function_body : List Str := ["self"]
theorem sc_Function_body : FnScope N_Function_body ["self"] (defScope s_Function_body) := ⟨rfl, rfl, rfl, by decide +kernel, rfl, by decide +kernel, by decide +kernel⟩
abbrev s_Function_len : Stmt := inClass (topS 38) 4
abbrev N_Function_len : List Str := ["self"]
theorem sc_Function_len : FnScope N_Function_len ["self"] (defScope s_Function_len) := ⟨rfl, rfl, rfl, by decide +kernel, rfl, by decide +kernel, by decide +kernel⟩
abbrev s_Function_eq : Stmt := inClass (topS 38) 5
abbrev N_Function_eq : List Str := ["self", "other"]
theorem sc_Function_eq : FnScope N_Function_eq ["self", "other"] (defScope s_Function_eq) := ⟨rfl, rfl, rfl, by decide +kernel, rfl, by decide +kernel, by decide +kernel⟩
abbrev s_Function_str : Stmt := inClass (topS 38) 6
abbrev N_Function_str : List Str := ["self", "words", "deed"]
theorem sc_Function_str : FnScope N_Function_str ["self"] (defScope s_Function_str) := ⟨rfl, rfl, rfl, by decide +kernel, rfl, by decide +kernel, by decide +kernel⟩
abbrev s_Make_init : Stmt := inClass (topS 39) 0
abbrev N_Make_init : List Str := ["self", "thing"]
theorem sc_Make_init : FnScope N_Make_init ["self", "thing"] (defScope s_Make_init) := ⟨rfl, rfl, rfl, by decide +kernel, rfl, by decide +kernel, by decide +kernel⟩
abbrev s_Make_eq : Stmt := inClass (topS 39) 1
abbrev N_Make_eq : List Str := ["self", "other"]
theorem sc_Make_eq : FnScope N_Make_eq ["self", "other"] (defScope s_Make_eq) := ⟨rfl, rfl, rfl, by decide +kernel, rfl, by decide +kernel, by decide +kernel⟩
abbrev s_Make_str : Stmt := inClass (topS 39) 2
abbrev N_Make_str : List Str := ["self"]
theorem sc_Make_str : FnScope N_Make_str ["self"] (defScope s_Make_str) := ⟨rfl, rfl, rfl, by decide +kernel, rfl, by decide +kernel, by decide +kernel⟩
abbrev s_is_body : Stmt := topS 40
abbrev N_is_body : List Str := ["value", "deed"]
theorem sc_is_body : FnScope N_is_body ["value"] (defScope s_is_body) := ⟨rfl, rfl, rfl, by decide +kernel, rfl, by decide +kernel, by decide +kernel⟩
abbrev s__law_cell : Stmt := topS 42
abbrev N__law_cell : List Str := ["_law_script", "_law_k"]
theorem sc__law_cell : FnScope N__law_cell ["_law_script", "_law_k"] (defScope s__law_cell) := ⟨rfl, rfl, rfl, by decide +kernel, rfl, by decide +kernel, by decide +kernel⟩
abbrev s__law_box : Stmt := topS 43
abbrev N__law_box : List Str := ["_law_cell_here"]
theorem sc__law_box : FnScope N__law_box ["_law_cell_here"] (defScope s__law_box) := ⟨rfl, rfl, rfl, by decide +kernel, rfl, by decide +kernel, by decide +kernel⟩
abbrev s__law_take : Stmt := topS 44
abbrev N__law_take : List Str := ["_law_box_here", "_law_many", "_law_digit", "_law_number"]
theorem sc__law_take : FnScope N__law_take ["_law_box_here", "_law_many"] (defScope s__law_take) := ⟨rfl, rfl, rfl, by decide +kernel, rfl, by decide +kernel, by decide +kernel⟩
abbrev s__law_names : Stmt := topS 45
abbrev N__law_names : List Str := ["_law_box_here", "_law_many", "_law_letters", "_law_stems", "_law_way", "_law_first", "_law_at", "_law_stem", "_law_found", "_law_letter", "_law_group", "_law_k"]
theorem sc__law_names : FnScope N__law_names ["_law_box_here", "_law_many"] (defScope s__law_names) := ⟨rfl, rfl, rfl, by decide +kernel, rfl, by decide +kernel, by decide +kernel⟩
abbrev s__law_deeds : Stmt := topS 46
abbrev N__law_deeds : List Str := ["_law_rows", "_law_found", "_law_row_here"]
theorem sc__law_deeds : FnScope N__law_deeds ["_law_rows"] (defScope s__law_deeds) := ⟨rfl, rfl, rfl, by decide +kernel, rfl, by decide +kernel, by decide +kernel⟩
abbrev s__law_row : Stmt := topS 47
abbrev N__law_row : List Str := ["_law_box_here", "_law_names_here", "_law_word", "_law_taker"]
theorem sc__law_row : FnScope N__law_row ["_law_box_here", "_law_names_here"] (defScope s__law_row) := ⟨rfl, rfl, rfl, by decide +kernel, rfl, by decide +kernel, by decide +kernel⟩
abbrev s__law_texts : Stmt := topS 48
abbrev N__law_texts : List Str := ["_law_rows", "_law_found", "_law_row_here", "_law_words"]
theorem sc__law_texts : FnScope N__law_texts ["_law_rows"] (defScope s__law_texts) := ⟨rfl, rfl, rfl, by decide +kernel, rfl, by decide +kernel, by decide +kernel⟩
abbrev s__law_made : Stmt := topS 49
abbrev N__law_made : List Str := ["_law_names_here", "_law_way", "_law_rows"]
theorem sc__law_made : FnScope N__law_made ["_law_names_here", "_law_way", "_law_rows"] (defScope s__law_made) := ⟨rfl, rfl, rfl, by decide +kernel, rfl, by decide +kernel, by decide +kernel⟩
abbrev s__law_told_right : Stmt := topS 50
abbrev N__law_told_right : List Str := ["_law_thing", "_law_way", "_law_rows", "_law_turn", "_law_found", "_law_deed"]
theorem sc__law_told_right : FnScope N__law_told_right ["_law_thing", "_law_way", "_law_rows"] (defScope s__law_told_right) := ⟨rfl, rfl, rfl, by decide +kernel, rfl, by decide +kernel, by decide +kernel⟩
abbrev s__law_otherwise : Stmt := topS 51
abbrev N__law_otherwise : List Str := ["_law_box_here", "_law_names_here", "_law_rows", "_law_at", "_law_way"]
theorem sc__law_otherwise : FnScope N__law_otherwise ["_law_box_here", "_law_names_here", "_law_rows"] (defScope s__law_otherwise) := ⟨rfl, rfl, rfl, by decide +kernel, rfl, by decide +kernel, by decide +kernel⟩
abbrev s__law_right : Stmt := topS 52
abbrev N__law_right : List Str := ["_law_box_here", "_law_names_here", "_law_rows", "_law_way", "_law_deeds_here", "_law_thing", "_law_other", "_law_made_here", "_law_turn"]
theorem sc__law_right : FnScope N__law_right ["_law_box_here"] (defScope s__law_right) := ⟨rfl, rfl, rfl, by decide +kernel, rfl, by decide +kernel, by decide +kernel⟩
abbrev s_law : Stmt := topS 53
abbrev N_law : List Str := ["_law_script", "_law_k", "_law_box_here", "_law_turn"]
theorem sc_law : FnScope N_law ["_law_script"] (defScope s_law) := ⟨rfl, rfl, rfl, by decide +kernel, rfl, by decide +kernel, by decide +kernel⟩
end K10
set_option maxHeartbeats 4000000
namespace RM
open PySem PySem.Spec PyProof.Rows L2 TL
/-! ### the words between the places of a sign are what split tells -/
def sp (c : Nat) : List Nat → List (List Nat)
  | [] => [[]]
  | x :: r => if x = c then [] :: sp c r else (x :: (sp c r).headD []) :: (sp c r).tail
theorem sp_ne (c : Nat) : ∀ l, sp c l ≠ []
  | [] => by simp [sp]
  | x :: r => by
    unfold sp
    split <;> simp
/-- the places -/
def pos (c : Nat) : List Nat → Int → List Int
  | [], _ => []
  | x :: r, k => if x = c then k :: pos c r (k + 1) else pos c r (k + 1)
def sl (l : List Nat) (i j : Int) : List Nat := (l.drop i.toNat).take (j.toNat - i.toNat)
def G (l : List Nat) : Int → List Int → List (List Nat)
  | _, [] => []
  | a, b :: bs => sl l (a + 1) b :: G l b bs
theorem G_shift (x : Nat) (r : List Nat) : ∀ (bs : List Int) (a : Int), -1 ≤ a → (∀ b ∈ bs, 0 ≤ b) → G (x :: r) (a + 1) (bs.map (· + 1)) = G r a bs
  | [], _, _, _ => rfl
  | b :: bs, a, ha, hb => by
    have h0 : 0 ≤ b := hb b (List.mem_cons_self ..)
    show sl (x :: r) (a + 1 + 1) (b + 1) :: G (x :: r) (b + 1) (bs.map (· + 1)) = sl r (a + 1) b :: G r b bs
    rw [G_shift x r bs b (by omega) (fun z hz => hb z (List.mem_cons_of_mem _ hz))]
    congr 1
    unfold sl
    have e1 : (a + 1 + 1).toNat = (a + 1).toNat + 1 := by omega
    have e2 : (b + 1).toNat = b.toNat + 1 := by omega
    rw [e1, e2, List.drop_succ_cons]
    congr 1
    omega
theorem pos_shift (c : Nat) : ∀ (l : List Nat) (k : Int), pos c l (k + 1) = (pos c l k).map (· + 1)
  | [], _ => rfl
  | x :: r, k => by
    unfold pos
    rw [pos_shift c r (k + 1)]
    split <;> simp
theorem pos_nonneg (c : Nat) : ∀ (l : List Nat) (k : Int), 0 ≤ k → ∀ b ∈ pos c l k, 0 ≤ b
  | [], _, _, b, h => by cases h
  | x :: r, k, hk, b, h => by
    unfold pos at h
    split at h
    · rcases List.mem_cons.mp h with e | h
      · omega
      · exact pos_nonneg c r (k + 1) (by omega) b h
    · exact pos_nonneg c r (k + 1) (by omega) b h
theorem G_sp (c : Nat) : ∀ l : List Nat, G l (-1) (pos c l 0 ++ [(l.length : Int)]) = sp c l
  | [] => rfl
  | x :: r => by
    have ih := G_sp c r
    have hn : ∀ b ∈ pos c r 0 ++ [(r.length : Int)], 0 ≤ b := fun b hb => by
      rcases List.mem_append.mp hb with h | h
      · exact pos_nonneg c r 0 (by omega) b h
      · rw [List.mem_singleton.mp h]; omega
    have em : (pos c r 1 ++ [((x :: r).length : Int)]) = (pos c r 0 ++ [(r.length : Int)]).map (· + 1) := by
      rw [List.map_append, ← pos_shift c r 0]
      rfl
    unfold pos sp
    show G (x :: r) (-1) ((if x = c then (0 : Int) :: pos c r (0 + 1) else pos c r (0 + 1)) ++ _) = _
    rw [show (0 : Int) + 1 = 1 from rfl]
    by_cases hx : x = c
    · rw [if_pos hx, if_pos hx, List.cons_append, em]
      show sl (x :: r) 0 0 :: G (x :: r) (-1 + 1) _ = _
      rw [G_shift x r _ (-1) (by omega) hn, ih]
      rfl
    · rw [if_neg hx, if_neg hx, em]
      cases e : pos c r 0 ++ [(r.length : Int)] with
      | nil => simp at e
      | cons b bs =>
        rw [e] at ih hn
        have h0 : 0 ≤ b := hn b (List.mem_cons_self ..)
        rw [List.map_cons]
        show sl (x :: r) 0 (b + 1) :: G (x :: r) (b + 1) (bs.map (· + 1)) = _
        rw [G_shift x r bs b (by omega) (fun z hz => hn z (List.mem_cons_of_mem _ hz)), ← ih]
        show _ = (x :: sl r 0 b) :: G r b bs
        congr 1
        unfold sl
        have e2 : (b + 1).toNat - (0 : Int).toNat = b.toNat + 1 := by
          show (b + 1).toNat - 0 = _
          omega
        rw [e2]
        rfl
theorem sp_hit {c : Nat} (r : List Nat) : sp c (c :: r) = [] :: sp c r := if_pos rfl
theorem sp_miss {c x : Nat} (r : List Nat) (h : x ≠ c) : sp c (x :: r) = (x :: (sp c r).headD []) :: (sp c r).tail := if_neg h
theorem hd_tl {l : List (List Nat)} (h : l ≠ []) : l.headD [] :: l.tail = l := by
  cases l with
  | nil => exact absurd rfl h
  | cons a b => rfl
theorem spl_sp (c : Nat) : ∀ (l acc : List Nat), spl [c] 0 acc l = (acc ++ (sp c l).headD []) :: (sp c l).tail
  | [], acc => by
    rw [spl_nil]
    show [acc] = [acc ++ []]
    rw [List.append_nil]
  | x :: r, acc => by
    by_cases hx : x = c
    · subst hx
      have := spl_part1 (s := x) (S := []) (p := []) (rest := r) (acc := acc) (by simp)
      rw [List.nil_append] at this
      have e : ([x] ++ r) = x :: r := rfl
      rw [e] at this
      rw [this, spl_sp x r [], sp_hit, List.append_nil, List.nil_append, hd_tl (sp_ne x r)]
      show _ = (acc ++ []) :: sp x r
      rw [List.append_nil]
    · have e : spl [c] 0 acc (x :: r) = spl [c] 0 (acc ++ [x]) r := spl_miss (pre_of_head [] r hx)
      rw [e, spl_sp c r (acc ++ [x]), sp_miss r hx, List.append_assoc]
      rfl
/-- what is due of a line: none, or its words -/
def due (c : Nat) (l : List Nat) : Option (List (List Nat)) := if 10 ∈ l then none else if [] ∈ sp c l then none else some (sp c l)
theorem split_eq (x : Str) {c : Nat} (hc : c < 256) : (Txt.split x ⟨#[c]⟩).map tl = sp c (tl x) := by
  have h := split_spl x ⟨#[c]⟩ (by show [c] ≠ []; simp) (kind_ok (by simp [hc]))
  rw [h]
  show spl [c] 0 [] (tl x) = _
  rw [spl_sp, List.nil_append]
  have := sp_ne c (tl x)
  cases h : sp c (tl x) with
  | nil => exact absurd h this
  | cons a b => rfl
/-- texts of lists of codes -/
def tx (l : List Nat) : Str := ⟨l.toArray⟩
theorem tx_tl (x : Str) : tx (tl x) = x := by
  unfold tx tl
  cases x
  simp
theorem split_tx (x : Str) {c : Nat} (hc : c < 256) : Txt.split x ⟨#[c]⟩ = (sp c (tl x)).map tx := by
  rw [← split_eq x hc, List.map_map]
  have : (tx ∘ tl) = id := by
    funext z
    exact tx_tl z
  rw [this, List.map_id]
theorem sp_nil (c : Nat) : sp c [] = [[]] := rfl
theorem due_nil (c : Nat) : due c [] = none := by
  unfold due
  rw [if_neg (by simp), if_pos (by rw [sp_nil]; simp)]
theorem sp_len (c : Nat) : ∀ l, (sp c l).length ≤ l.length + 1
  | [] => Nat.le_refl _
  | x :: r => by
    have := sp_len c r
    unfold sp
    split
    · simp only [List.length_cons]; omega
    · simp only [List.length_cons, List.length_tail]; omega
end RM
set_option maxHeartbeats 4000000
/-! ### a dict beside a text -/
namespace RE
open PySem PySem.SeqAt PySem.Spec PyProof.Rows
open AutoSeq1 (wpAny_loadPart')
open MeetsSeq
theorem dict_eq_txt (a : Addr) (o : Obj) (hc : o.cls = .type "dict") (b : Str) (u : Tok) :
    Meets (Builtin.«dict.__eq__» ⟨[.ref a, .str b u], []⟩) (fun _ R s => s.heap.get? a = some o ∧ R (.ok (.ret .notImplemented)) s) :=
  .of_wp fun prog w A R s h => by
    obtain ⟨hp, g, d, tk, os⟩ := s
    obtain ⟨hl, h⟩ := h
    have f1 := F.sub_str_dict
    wp_walk using wpAny_loadPart' hl, wpAny_load hl
    exact ⟨_, rfl, h⟩
theorem dict_ne_txt (a : Addr) (o : Obj) (hc : o.cls = .type "dict") (b : Str) (u : Tok) :
    Meets (Builtin.«dict.__ne__» ⟨[.ref a, .str b u], []⟩) (fun _ R s => s.heap.get? a = some o ∧ R (.ok (.ret .notImplemented)) s) :=
  .of_wp fun prog w A R s h => by
    obtain ⟨hp, g, d, tk, os⟩ := s
    obtain ⟨hl, h⟩ := h
    have f1 := F.sub_str_dict
    wp_walk using wpAny_loadPart' hl, wpAny_load hl
    exact ⟨_, rfl, h⟩
theorem txt_eq_dict (a : Addr) (o : Obj) (es) (n) (hd : o.data = .dict es n) (b : Str) (u : Tok) :
    Meets (Builtin.«str.__eq__» ⟨[.str b u, .ref a], []⟩) (fun _ R s => s.heap.get? a = some o ∧ R (.ok (.ret .notImplemented)) s) :=
  .of_wp fun prog w A R s h => by
    obtain ⟨hp, g, d, tk, os⟩ := s
    obtain ⟨hl, h⟩ := h
    obtain ⟨cls, dd, data, sl⟩ := o
    simp only at hd
    subst hd
    wp_walk using wpAny_loadPart' hl, wpAny_load hl
    exact ⟨_, rfl, h⟩
theorem txt_ne_dict (a : Addr) (o : Obj) (es) (n) (hd : o.data = .dict es n) (b : Str) (u : Tok) :
    Meets (Builtin.«str.__ne__» ⟨[.str b u, .ref a], []⟩) (fun _ R s => s.heap.get? a = some o ∧ R (.ok (.ret .notImplemented)) s) :=
  .of_wp fun prog w A R s h => by
    obtain ⟨hp, g, d, tk, os⟩ := s
    obtain ⟨hl, h⟩ := h
    obtain ⟨cls, dd, data, sl⟩ := o
    simp only at hd
    subst hd
    wp_walk using wpAny_loadPart' hl, wpAny_load hl
    exact ⟨_, rfl, h⟩
section
variable {A : Around} {s : Shared}
theorem rc_dict_str {a : Addr} {o : Obj} (ho : s.heap.get? a = some o) (hc : o.cls = .type "dict") {es} {n} (hd : o.data = .dict es n) (b : Str) (u : Tok) (hu : A.units < cLine) : RcAt A s (.ref a) (.str b u) false := fun prog w E Q h =>
  rc_eq_decline_or (k := false) ⟨_, ho, hc⟩ (typeIs_str s b u) (by decide) F.sub_str_dict F.slot_dict_eq F.slot_str_eq_refl
    (fun _ hq => call_meets F.slot_dict_eq ⟨_, ho, hc⟩ F.entry_dict_eq (F.args_dict_eq_2 _ _) (dict_eq_txt a o hc b u) ⟨ho, hq⟩)
    (fun _ hq => call_meets F.slot_str_eq_refl (typeIs_str s b u) F.entry_str_eq (F.args_str_eq_2 _ _) (txt_eq_dict a o _ _ hd b u) ⟨ho, hq⟩)
    (fun _ hq => wpAny_of_eq (rfl : isSame (.ref a) (.str b u) = pure false) hq) (.inr hu) h
theorem rc_str_dict {a : Addr} {o : Obj} (ho : s.heap.get? a = some o) (hc : o.cls = .type "dict") {es} {n} (hd : o.data = .dict es n) (b : Str) (u : Tok) (hu : A.units < cLine) : RcAt A s (.str b u) (.ref a) false := fun prog w E Q h =>
  rc_eq_decline_or (k := false) (typeIs_str s b u) ⟨_, ho, hc⟩ (by decide) F.sub_dict_str F.slot_str_eq F.slot_dict_eq_refl
    (fun _ hq => call_meets F.slot_str_eq (typeIs_str s b u) F.entry_str_eq (F.args_str_eq_2 _ _) (txt_eq_dict a o _ _ hd b u) ⟨ho, hq⟩)
    (fun _ hq => call_meets F.slot_dict_eq_refl ⟨_, ho, hc⟩ F.entry_dict_eq (F.args_dict_eq_2 _ _) (dict_eq_txt a o hc b u) ⟨ho, hq⟩)
    (fun _ hq => wpAny_of_eq (rfl : isSame (.str b u) (.ref a) = pure false) hq) (.inr hu) h
theorem rn_dict_str {a : Addr} {o : Obj} (ho : s.heap.get? a = some o) (hc : o.cls = .type "dict") {es} {n} (hd : o.data = .dict es n) (b : Str) (u : Tok) (hu : A.units < cLine) : RcNeAt A s (.ref a) (.str b u) true := fun prog w E Q h =>
  rc_ne_decline_or (k := false) ⟨_, ho, hc⟩ (typeIs_str s b u) (by decide) F.sub_str_dict F.slot_dict_ne F.slot_str_ne_refl
    (fun _ hq => call_meets F.slot_dict_ne ⟨_, ho, hc⟩ F.entry_dict_ne (F.args_dict_ne_2 _ _) (dict_ne_txt a o hc b u) ⟨ho, hq⟩)
    (fun _ hq => call_meets F.slot_str_ne_refl (typeIs_str s b u) F.entry_str_ne (F.args_str_ne_2 _ _) (txt_ne_dict a o _ _ hd b u) ⟨ho, hq⟩)
    (fun _ hq => wpAny_of_eq (rfl : isSame (.ref a) (.str b u) = pure false) hq) (.inr hu) h
theorem eq_str_dict {a : Addr} {o : Obj} (ho : s.heap.get? a = some o) (hc : o.cls = .type "dict") {es} {n} (hd : o.data = .dict es n) (b : Str) (u : Tok) (hu : A.units < cLine) : EqAt A s (.str b u) (.ref a) false := fun prog w E Q h => by
  unfold eqBool
  refine wpAny_holding ?_
  refine wpAny_ite_split (fun hab => absurd (eq_of_beq hab) nofun) (fun _ => ?_)
  exact wpAny_bind (rc_str_dict ho hc hd b u hu prog w E _ (wpAny_truthy_bool h))
end
end RE
namespace RE
open PySem PySem.Spec PyProof.Rows L2
/-- a value of these kinds: flat, a list, a tuple, a dict -/
inductive OdV (K : PySem.W.Frag) (H : Hp) : V → Prop
  | flat {v : V} : flatV v = true → OdV K H v
  | lst {p : Addr} {xs : List V} : SqL K H p xs → OdV K H (.ref p)
  | tup {p : Addr} {xs : List V} : SqT K H p xs → OdV K H (.ref p)
  | dic {p : Addr} {kvs : List (Key × V)} : H p = some (.dK kvs) → OdV K H (.ref p)
def isT (z : Str) : V → Bool
  | .str x => x == z
  | _ => false
theorem isT_dec (z : Str) (v : V) : decide (v = .str z) = isT z v := by
  cases v with
  | str x =>
    show _ = (x == z)
    rw [Bool.eq_iff_iff]
    simp
  | _ => exact decide_eq_false (fun e => nomatch e)
section
variable {X : Cx}
/-- v == text -/
def rOdEq (K : PySem.W.Frag) : R2 := fun x y H Q => ∃ z, y = .str z ∧ OdV K H x ∧ Q (.bl (isT z x)) H
def rOdNe (K : PySem.W.Frag) : R2 := fun x y H Q => ∃ z, y = .str z ∧ OdV K H x ∧ Q (.bl (!isT z x)) H
theorem op_odEq (hu : X.A.units < cLine) : OpR X (compareOp .Eq) (rOdEq X.K) := by
  intro pins s σ H x y v u Q I rx ry h
  obtain ⟨z, rfl, ho, q⟩ := h
  have ryr := ry
  obtain ⟨t, rfl⟩ := ry
  cases ho with
  | flat f =>
    have q2 := q
    rw [← isT_dec] at q2
    refine op_eq pins s σ H x (.str z) v (.str z t) Q I rx ryr ⟨?_, q2⟩
    cases x <;> first | rfl | exact absurd (show false = true from f) Bool.false_ne_true
  | lst hl =>
    cases rx
    obtain ⟨its, rv, pl, hz⟩ := I.list hl
    exact SeqAt.RcAt.list_str z t pl.isList hu X.prog X.w _ _ ⟨.bl false, H, I, rfl, q⟩
  | tup hl =>
    cases rx
    obtain ⟨its, rv, pl, hz⟩ := I.tuple hl
    exact SeqAt.RcAt.tuple_str z t pl hu X.prog X.w _ _ ⟨.bl false, H, I, rfl, q⟩
  | dic e =>
    cases rx
    obtain ⟨_, hs, vs, kv, o, es, ep, h1, h2, h3, _, hp, _⟩ := (show ObjOk X.prog X.w H s.heap _ (.dK _) from I.hok _ _ e)
    exact rc_dict_str h1 h2.1 h3 z t hu X.prog X.w _ _ ⟨.bl false, H, I, rfl, q⟩
theorem op_odNe (hu : X.A.units < cLine) : OpR X (compareOp .NotEq) (rOdNe X.K) := by
  intro pins s σ H x y v u Q I rx ry h
  obtain ⟨z, rfl, ho, q⟩ := h
  have ryr := ry
  obtain ⟨t, rfl⟩ := ry
  cases ho with
  | flat f =>
    have q2 := q
    rw [← isT_dec] at q2
    refine op_ne pins s σ H x (.str z) v (.str z t) Q I rx ryr ⟨?_, q2⟩
    cases x <;> first | rfl | exact absurd (show false = true from f) Bool.false_ne_true
  | lst hl =>
    cases rx
    obtain ⟨its, rv, pl, hz⟩ := I.list hl
    exact SeqAt.RcNeAt.list_str z t pl.isList hu X.prog X.w _ _ ⟨.bl true, H, I, rfl, q⟩
  | tup hl =>
    cases rx
    obtain ⟨its, rv, pl, hz⟩ := I.tuple hl
    exact SeqAt.RcNeAt.tuple_str z t pl hu X.prog X.w _ _ ⟨.bl true, H, I, rfl, q⟩
  | dic e =>
    cases rx
    obtain ⟨_, hs, vs, kv, o, es, ep, h1, h2, h3, _, hp, _⟩ := (show ObjOk X.prog X.w H s.heap _ (.dK _) from I.hok _ _ e)
    exact rn_dict_str h1 h2.1 h3 z t hu X.prog X.w _ _ ⟨.bl true, H, I, rfl, q⟩
/-! ### v in a tuple or list of texts -/
def inT (x : V) (zs : List Str) : Bool := zs.any fun z => isT z x
theorem odEqAt {A : Around} {pins : List (Addr × Obj)} {σ : L2.St} {H : Hp} {s : Shared} (I : Inv X pins σ H s) (hu : A.units < cLine) {x : V} {v : Value} (rx : RelV x v) (ho : OdV X.K H x) (z : Str) (t : Tok) : SeqAt.EqAt A s (.str z t) v (isT z x) := by
  cases ho with
  | flat f =>
    have h := eqAt_V (A := A) (s := s) (y := .str z) (u := .str z t) ⟨t, rfl⟩ rx rfl f
    have e : eqV (.str z) x = isT z x := by
      cases x <;> first | rfl | exact Bool.eq_iff_iff.mpr ⟨fun e => beq_iff_eq.mpr (beq_iff_eq.mp e).symm, fun e => beq_iff_eq.mpr (beq_iff_eq.mp e).symm⟩
    rw [e] at h
    exact h
  | lst hl =>
    cases rx
    obtain ⟨its, rv, pl, hz⟩ := I.list hl
    exact SeqAt.EqAt.str_list z t pl.isList hu
  | tup hl =>
    cases rx
    obtain ⟨its, rv, pl, hz⟩ := I.tuple hl
    exact SeqAt.EqAt.str_tuple z t pl hu
  | dic e =>
    cases rx
    obtain ⟨_, hs, vs, kv, o, es, ep, h1, h2, h3, _, hp, _⟩ := (show ObjOk X.prog X.w H s.heap _ (.dK _) from I.hok _ _ e)
    exact eq_str_dict h1 h2.1 h3 z t hu
def inU (x : V) : Value → Bool
  | .str z _ => isT z x
  | _ => false
theorem any_inU {x : V} : ∀ {zs : List Str} {us : List Value}, Vals (zs.map V.str) us → us.any (inU x) = inT x zs
  | [], _, .nil => rfl
  | z :: zs, _, .cons r t => by
    obtain ⟨tk, rfl⟩ := r
    rw [List.any_cons, any_inU t]
    rfl
theorem mem_inU {A : Around} {pins : List (Addr × Obj)} {σ : L2.St} {H : Hp} {s : Shared} (I : Inv X pins σ H s) (hu : A.units < cLine) {x : V} {v : Value} (rx : RelV x v) (ho : OdV X.K H x) : ∀ {zs : List Str} {us : List Value}, Vals (zs.map V.str) us → ∀ u ∈ us, SeqAt.EqAt A s u v (inU x u)
  | [], _, .nil => fun u hu => by cases hu
  | z :: zs, _, .cons r t => fun u' hm => by
    rcases List.mem_cons.mp hm with rfl | hm
    · obtain ⟨tk, rfl⟩ := r
      exact odEqAt I hu rx ho z tk
    · exact mem_inU I hu rx ho t u' hm
def rOdIn (K : PySem.W.Frag) (neg : Bool) : R2 := fun x y H Q => ∃ p zs, y = .ref p ∧ (SqL K H p (zs.map V.str) ∨ SqT K H p (zs.map V.str)) ∧ OdV K H x ∧ Q (.bl (if neg then !inT x zs else inT x zs)) H
theorem op_odIn (hu : X.A.units + 1 < cLine) : OpR X (compareOp .In) (rOdIn X.K false) := by
  intro pins s σ H x y v u Q I rx ry h
  obtain ⟨p, zs, rfl, hq, ho, q⟩ := h
  cases ry
  have hu1 : X.A.in1.units < cLine := hu
  rcases hq with hq | hq
  · obtain ⟨its, r, pl, hz⟩ := I.list hq
    refine SeqAt.in_listAt (inU x) pl.isList (fun w hw => mem_inU I hu1 rx ho r w (by simpa using hw)) ⟨.bl _, H, I, rfl, ?_⟩
    rw [show its.toArray.any (inU x) = its.any (inU x) by simp, any_inU r]
    exact q
  · obtain ⟨its, r, pl, hz⟩ := I.tuple hq
    refine SeqAt.in_tupleAt (inU x) pl (fun w hw => mem_inU I hu1 rx ho r w (by simpa using hw)) ⟨.bl _, H, I, rfl, ?_⟩
    rw [show its.toArray.any (inU x) = its.any (inU x) by simp, any_inU r]
    exact q
/-- v is True, v is False -/
theorem op_isB : OpR X (compareOp .Is) (fun x y H Q => ∃ b, y = .bl b ∧ OdV X.K H x ∧ Q (.bl (decide (x = .bl b))) H) := by
  intro pins s σ H x y v u Q I rx ry h
  obtain ⟨b, rfl, ho, q⟩ := h
  cases (show u = Value.bool b from ry)
  have no : ∀ {a : Addr}, x = .ref a → EP X pins σ Q (.bool false) s := fun e => ⟨.bl false, H, I, rfl, by rw [decide_eq_false (by rw [e]; exact fun z => nomatch z)] at q; exact q⟩
  cases ho with
  | flat f =>
    cases x with
    | bl c =>
      cases (show v = Value.bool c from rx)
      by_cases e : c = b
      · subst e
        exact wpAny_is_self rfl ⟨.bl true, H, I, rfl, by simpa using q⟩
      · exact wpAny_is_other rfl (fun z => e (Value.bool.inj z)) ⟨.bl false, H, I, rfl, by simpa [e] using q⟩
    | non =>
      cases (show v = Value.none from rx)
      exact wpAny_is_other rfl (fun z => nomatch z) ⟨.bl false, H, I, rfl, q⟩
    | int i =>
      obtain ⟨t, rfl⟩ := rx
      exact wpAny_is_other rfl (fun z => nomatch z) ⟨.bl false, H, I, rfl, q⟩
    | str z =>
      obtain ⟨t, rfl⟩ := rx
      exact wpAny_is_other rfl (fun z => nomatch z) ⟨.bl false, H, I, rfl, q⟩
    | _ => exact absurd (show false = true from f) Bool.false_ne_true
  | lst hl =>
    cases rx
    exact wpAny_is_other rfl (fun z => nomatch z) (no rfl)
  | tup hl =>
    cases rx
    exact wpAny_is_other rfl (fun z => nomatch z) (no rfl)
  | dic e =>
    cases rx
    exact wpAny_is_other rfl (fun z => nomatch z) (no rfl)
end
end RE
set_option maxHeartbeats 4000000
/-! ### names, rights, takers, flags, read off a value -/
namespace RN
open PySem PySem.Spec PyProof.Rows L2 TL RE
def lowC (c : Nat) : Bool := decide (97 ≤ c) && decide (c ≤ 122)
def upC (c : Nat) : Bool := decide (65 ≤ c) && decide (c ≤ 90)
theorem tab : ∀ c, c < 128 → Unicode.isAlpha c = (upC c || lowC c) ∧ Unicode.isLower c = lowC c ∧ (Unicode.isUpper c || Unicode.isTitle c) = upC c := by decide +kernel
theorem low_eq (z : Str) : (Txt.isascii z && (Txt.isalpha z && Txt.islower z)) = (decide (0 < z.length) && (tl z).all lowC) := by
  have e1 : Txt.isascii z = (tl z).all (fun c => decide (c < 128)) := by
    show z.cps.all _ = _
    rw [← Array.all_toList]
  have e2 : Txt.isalpha z = (decide (0 < z.length) && (tl z).all Unicode.isAlpha) := by
    show (decide (z.length > 0) && z.cps.all _) = _
    rw [← Array.all_toList]
  have e3 : Txt.islower z = ((tl z).any Unicode.isLower && !(tl z).any fun c => Unicode.isUpper c || Unicode.isTitle c) := by
    show (z.cps.any _ && !z.cps.any _) = _
    rw [← Array.any_toList, ← Array.any_toList]
  have hl : z.length = (tl z).length := len_tl z
  rw [e1, e2, e3, hl]
  generalize tl z = l
  clear e1 e2 e3 hl z
  rw [Bool.eq_iff_iff]
  simp only [Bool.and_eq_true, List.all_eq_true, decide_eq_true_eq, Bool.not_eq_true', List.any_eq_true, List.any_eq_false]
  constructor
  · rintro ⟨h1, ⟨h2, h3⟩, h4, h5⟩
    refine ⟨h2, fun c hc => ?_⟩
    have t := tab c (h1 c hc)
    have a := h3 c hc
    have u := h5 c hc
    rw [t.1] at a
    rw [t.2.2] at u
    cases hu : upC c with
    | true => exact absurd hu u
    | false => rw [hu, Bool.false_or] at a; exact a
  · rintro ⟨h2, h3⟩
    have lt : ∀ c ∈ l, c < 128 := fun c hc => by
      have := h3 c hc
      simp only [lowC, Bool.and_eq_true, decide_eq_true_eq] at this
      omega
    refine ⟨lt, ⟨h2, fun c hc => ?_⟩, ?_, fun c hc => ?_⟩
    · rw [(tab c (lt c hc)).1, h3 c hc, Bool.or_true]
    · cases l with
      | nil => exact absurd h2 (Nat.lt_irrefl 0)
      | cons c r => exact ⟨c, List.mem_cons_self .., by rw [(tab c (lt c (List.mem_cons_self ..))).2.1]; exact h3 c (List.mem_cons_self ..)⟩
    · rw [(tab c (lt c hc)).2.2]
      have := h3 c hc
      simp only [lowC, upC, Bool.and_eq_true, decide_eq_true_eq] at this ⊢
      omega
def isS : V → Bool
  | .str _ => true
  | _ => false
def isFlag : V → Bool
  | .bl _ => true
  | _ => false
abbrev tPub : Str := Str.ofString "public"
abbrev tCal : Str := Str.ofString "caller"
def nameT (z : Str) : Bool := decide (1 ≤ z.length) && decide (z.length ≤ 8) && (tl z).all lowC && !(z == tPub) && !(z == tCal)
def isName : V → Bool
  | .str z => nameT z
  | _ => false
def isTaker (v : V) : Bool := isName v || isT tPub v
def rightsT : List Str := [Str.ofString "inherit", Str.ofString "act", Str.ofString "read", Str.ofString "write", Str.ofString "call"]
def kindT (z : Str) : Option Str :=
  if z = Str.ofString "inherit" then some (Str.ofString "role") else if z = Str.ofString "act" then some (Str.ofString "role") else if z = Str.ofString "read" then some (Str.ofString "table") else
  if z = Str.ofString "write" then some (Str.ofString "table") else if z = Str.ofString "call" then some (Str.ofString "function") else none
def isRight : V → Bool
  | .str z => (kindT z).isSome
  | _ => false
def isMade (v : V) : Bool := isT (Str.ofString "table") v || isT (Str.ofString "function") v
theorem k_NoneType_str : kitB "NoneType" "str" = some false := by decide +kernel
theorem k_NoneType_bool : kitB "NoneType" "bool" = some false := by decide +kernel
theorem k_NoneType_list : kitB "NoneType" "list" = some false := by decide +kernel
theorem k_NoneType_dict : kitB "NoneType" "dict" = some false := by decide +kernel
theorem k_bool_str : kitB "bool" "str" = some false := by decide +kernel
theorem k_bool_bool : kitB "bool" "bool" = some true := by decide +kernel
theorem k_bool_list : kitB "bool" "list" = some false := by decide +kernel
theorem k_bool_dict : kitB "bool" "dict" = some false := by decide +kernel
theorem k_int_str : kitB "int" "str" = some false := by decide +kernel
theorem k_int_bool : kitB "int" "bool" = some false := by decide +kernel
theorem k_int_list : kitB "int" "list" = some false := by decide +kernel
theorem k_int_dict : kitB "int" "dict" = some false := by decide +kernel
theorem k_str_str : kitB "str" "str" = some true := by decide +kernel
theorem k_str_bool : kitB "str" "bool" = some false := by decide +kernel
theorem k_str_list : kitB "str" "list" = some false := by decide +kernel
theorem k_str_dict : kitB "str" "dict" = some false := by decide +kernel
theorem k_list_str : kitB "list" "str" = some false := by decide +kernel
theorem k_list_bool : kitB "list" "bool" = some false := by decide +kernel
theorem k_list_list : kitB "list" "list" = some true := by decide +kernel
theorem k_list_dict : kitB "list" "dict" = some false := by decide +kernel
theorem k_tuple_str : kitB "tuple" "str" = some false := by decide +kernel
theorem k_tuple_bool : kitB "tuple" "bool" = some false := by decide +kernel
theorem k_tuple_list : kitB "tuple" "list" = some false := by decide +kernel
theorem k_tuple_dict : kitB "tuple" "dict" = some false := by decide +kernel
theorem k_dict_str : kitB "dict" "str" = some false := by decide +kernel
theorem k_dict_bool : kitB "dict" "bool" = some false := by decide +kernel
theorem k_dict_list : kitB "dict" "list" = some false := by decide +kernel
theorem k_dict_dict : kitB "dict" "dict" = some true := by decide +kernel
theorem od_ty {K : PySem.W.Frag} {H : Hp} {x : V} (h : OdV K H x) : ∃ t, TyX K H x t ∧ PySem.W.kitOne K t (.type "str") = some (isS x) ∧ PySem.W.kitOne K t (.type "bool") = some (isFlag x) := by
  cases h with
  | flat f =>
    cases x with
    | non => exact ⟨_, .base .non, kit_ty k_NoneType_str, kit_ty k_NoneType_bool⟩
    | bl b => exact ⟨_, .base (.bl b), kit_ty k_bool_str, kit_ty k_bool_bool⟩
    | int i => exact ⟨_, .base (.int i), kit_ty k_int_str, kit_ty k_int_bool⟩
    | str z => exact ⟨_, .base (.str z), kit_ty k_str_str, kit_ty k_str_bool⟩
    | _ => exact absurd (show false = true from f) Bool.false_ne_true
  | lst h =>
    rcases h with h | ⟨o, its, n, h, c, _⟩
    · rcases h with h | ⟨o, h⟩
      · exact ⟨_, .base (.lst h), kit_ty k_list_str, kit_ty k_list_bool⟩
      · exact ⟨_, .base (.frz h), kit_ty k_list_str, kit_ty k_list_bool⟩
    · exact ⟨_, .kList h c, kit_ty k_list_str, kit_ty k_list_bool⟩
  | tup h =>
    rcases h with h | ⟨o, its, n, h, c, _⟩
    · rcases h with h | ⟨o, h⟩
      · exact ⟨_, .base (.tup h), kit_ty k_tuple_str, kit_ty k_tuple_bool⟩
      · exact ⟨_, .fTuple h, kit_ty k_tuple_str, kit_ty k_tuple_bool⟩
    · exact ⟨_, .kTuple h c, kit_ty k_tuple_str, kit_ty k_tuple_bool⟩
  | dic h => exact ⟨_, .base (.dK h), kit_ty k_dict_str, kit_ty k_dict_bool⟩
theorem isS_str {x : V} (h : isS x = true) : ∃ z, x = .str z := by
  cases x with
  | str z => exact ⟨z, rfl⟩
  | _ => exact absurd (show false = true from h) Bool.false_ne_true
theorem notS_name {x : V} (h : isS x = false) : isName x = false := by
  cases x with
  | str z => exact absurd (show false = true from (show true = false from h).symm) Bool.false_ne_true
  | _ => rfl
end RN
set_option maxHeartbeats 4000000
namespace K10
open PySem PySem.Spec PyProof.Rows L2 RL RE RN TL
/-- a tuple or list of the module with these texts -/
def KTup (K : PySem.W.Frag) (a : Addr) (zs : List Str) : Prop :=
  ∃ (o : Obj) (its : Array Value) (n : Nat), K.lookup a = some o ∧ o.cls = .type "tuple" ∧ o.data = .seq its n ∧ its.size ≤ sizeLine ∧ Vals (zs.map V.str) its.toList
theorem KTup.sq {K : PySem.W.Frag} {a : Addr} {zs : List Str} {H : Hp} (h : KTup K a zs) : SqT K H a (zs.map V.str) := .inr h
/-- KIND_BY_RIGHT -/
structure KRight (K : PySem.W.Frag) (w : World) (d : Addr) : Prop where
  dict : ∃ es n, KDict K w d es n
  get : ∀ z, ∃ r, PySem.W.nsIn K d z = some r ∧ r.isSome = (kindT z).isSome ∧ ∀ k, kindT z = some k → ∃ t, r = some (.str k t)
/-- a value of a row -/
def Od (K : PySem.W.Frag) (H : Hp) (v : V) : Prop := OdV K H v ∧ ∀ z, v = .str z → z.length ≤ 1000 ∧ ∀ x ∈ tl z, x < 256
theorem le_ite {z : Str} {n : Nat} (h : z.length ≤ 1000) (hn : 1000 ≤ n) : z.length ≤ n := Nat.le_trans h hn
theorem nameT_no1 {z : Str} (h : ¬ 1 ≤ z.length) : nameT z = false := by
  unfold nameT
  rw [decide_eq_false h]
  simp
theorem nameT_no8 {z : Str} (h : ¬ z.length ≤ 8) : nameT z = false := by
  unfold nameT
  rw [decide_eq_false h]
  simp
theorem inV2 (z a b : Str) : inV (.str z) [.str a, .str b] = (z == a || z == b) := by
  show ((a == z) || ((b == z) || false)) = _
  rw [Bool.or_false, BEq.comm (a := a), BEq.comm (a := b)]
theorem nameT_eq {z : Str} (h1 : 1 ≤ z.length) (h8 : z.length ≤ 8) : nameT z = (Txt.isascii z && (Txt.isalpha z && (Txt.islower z && !(inV (.str z) [.str tPub, .str tCal])))) := by
  have e := low_eq z
  have h0 : decide (0 < z.length) = true := decide_eq_true (by omega)
  rw [h0, Bool.true_and] at e
  unfold nameT
  rw [decide_eq_true h1, decide_eq_true h8, ← e, inV2]
  cases Txt.isascii z <;> cases Txt.isalpha z <;> cases Txt.islower z <;> cases (z == tPub) <;> cases (z == tCal) <;> rfl
section
variable {P : Program} {w : World} {K : PySem.W.Frag} {mg : Str → Option Value} {base : Heap} {f : Addr} {fd : FuncData}
def spP (K : PySem.W.Frag) (p : V → Bool) : Sp := fun vs H Q _ => ∃ v, vs = [v] ∧ Od K H v ∧ Q (.bl (p v)) H
theorem spP_len {p : V → Bool} : ∀ vs H Q E, spP K p vs H Q E → vs.length = 1 := fun vs H Q E h => by
  obtain ⟨v, rfl, _⟩ := h
  rfl
theorem ok_is_name {aR : Addr} {tL : Tok} (F : Fun K "is_name" "is_name" s_is_name f fd) (mi : mg "isinstance" = none) (ms : mg "str" = none) (ml : mg "len" = none) (mL : mg "LONGEST_NAME" = some (.int 8 tL)) (mR : mg "RESERVED" = some (.ref aR)) (hR : KTup K aR [tPub, tCal]) :
    FnOk P w K mg base CX0 1 f fd ["value"] (spP K isName) := by
  refine F.ok sc_is_name spP_len (fun cdv A outer s H vs Q E hr h => ?_)
  obtain ⟨v, rfl, hv, q⟩ := h
  refine ⟨_, PSs.nox (pss_cons (ps_if (PW.pt (pw_or (pt_not (pt_val (pe_callB call_isi (by rfl) mi boot_isinstance (pa_cons (pv 0) (pa_cons (pe_bltn (v := .ty "str") (by rfl) ms PyProof.Rows.boot_str rfl) pa_nil)))))
      (pw_or1 (pt_not (pt_chain op_le op_le pe_int (pe_callB call_len_str (by rfl) ml PySem.boot_len (pa_cons (pv 0) pa_nil)) (pe_glob (v := .int 8) (by rfl) mL ⟨_, rfl⟩)))))) (pss_one (ps_ret pe_bl)) pss_nil)
    (pss_one (ps_ret (pe_and (pe_m0 PySem.F.slot_str_isascii PySem.F.type_str_isascii mt_isascii (pv 0)) (pe_and (pe_m0 PySem.F.slot_str_isalpha PySem.F.type_str_isalpha mt_isalpha (pv 0)) (pe_and (pe_m0 PySem.F.slot_str_islower PySem.F.type_str_islower mt_islower (pv 0))
      (pe_one (pe_cmpR op_notIn_seq (pv 0) (pe_glob (v := .ref aR) (by rfl) mR rfl) (by rfl))))))))), ?_⟩
  obtain ⟨t, ht, hs, hb⟩ := od_ty hv.1
  refine ⟨_, rfl, v, .ty "str", t, .type "str", _, rfl, .ty _, ht, hs, _, rfl, ?_⟩
  cases hS : isS v with
  | false =>
    rw [notS_name hS] at q
    exact iteT q
  | true =>
    obtain ⟨z, rfl⟩ := isS_str hS
    have hz := (hv.2 z rfl).1
    refine iteF ?_
    refine ⟨_, rfl, z, rfl, Nat.le_trans hz (by decide), 1, z.length, rfl, rfl, _, rfl, ?_⟩
    by_cases h1 : 1 ≤ z.length
    · have e1 : decide ((1 : Int) ≤ (z.length : Nat)) = true := decide_eq_true (by omega)
      rw [e1]
      refine iteT ⟨z.length, 8, rfl, rfl, _, rfl, ?_⟩
      by_cases h8 : z.length ≤ 8
      · have e2 : decide (((z.length : Nat) : Int) ≤ 8) = true := decide_eq_true (by omega)
        rw [e2]
        refine iteF ?_
        have e := nameT_eq h1 h8
        have q : Q (.bl (nameT z)) H := q
        rw [e] at q
        refine ⟨_, rfl, ⟨z, rfl⟩, z, rfl, rfl, trivial, _, rfl, ?_⟩
        cases hA : Txt.isascii z with
        | false => rw [hA] at q; exact iteF q
        | true =>
          rw [hA] at q
          refine iteT ⟨_, rfl, ⟨z, rfl⟩, z, rfl, rfl, trivial, _, rfl, ?_⟩
          cases hB : Txt.isalpha z with
          | false => rw [hB] at q; exact iteF q
          | true =>
            rw [hB] at q
            refine iteT ⟨_, rfl, ⟨z, rfl⟩, z, rfl, rfl, trivial, _, rfl, ?_⟩
            cases hC : Txt.islower z with
            | false => rw [hC] at q; exact iteF q
            | true =>
              rw [hC] at q
              exact iteT ⟨_, rfl, aR, _, rfl, .inr hR.sq, rfl, rfl, q⟩
      · have e2 : decide (((z.length : Nat) : Int) ≤ 8) = false := decide_eq_false (by omega)
        rw [e2]
        have q : Q (.bl (nameT z)) H := q
        rw [nameT_no8 h8] at q
        exact iteT q
    · have e1 : decide ((1 : Int) ≤ (z.length : Nat)) = false := decide_eq_false (by omega)
      rw [e1]
      have q : Q (.bl (nameT z)) H := q
      rw [nameT_no1 h1] at q
      exact ⟨_, rfl, iteT q⟩
end
end K10
set_option maxHeartbeats 4000000
namespace K10
open PySem PySem.Spec PyProof.Rows L2 RL RE RN TL
section
variable {P : Program} {w : World} {K : PySem.W.Frag} {mg : Str → Option Value} {base : Heap} {f : Addr} {fd : FuncData}
theorem ok_is_taker {fN : Addr} {fdN : FuncData} (F : Fun K "is_taker" "is_taker" s_is_taker f fd) (N : FnOk P w K mg base CX0 1 fN fdN ["value"] (spP K isName)) (bN : Binds K fdN ["value"] []) (kN : PySem.W.keepIn K (.ref fN) = true) (gN : mg "is_name" = some (.ref fN)) :
    FnOk P w K mg base CX0 2 f fd ["value"] (spP K isTaker) := by
  refine F.ok sc_is_taker spP_len (fun cdv A outer s H vs Q E hr h => ?_)
  obtain ⟨v, rfl, hv, q⟩ := h
  refine ⟨_, PSs.nox (pss_one (ps_ret (pe_or (pe_call N hr (by rfl) gN kN bN .nil pass0 (pa_cons (pv 0) pa_nil)) (pe_one (pe_cmpR (op_odEq (Nat.lt_of_succ_lt (hu_of hr))) (pv 0) pe_str (nomark _)))))), ?_⟩
  refine ⟨_, rfl, v, rfl, hv, _, rfl, ?_⟩
  have q : Q (.bl (isName v || isT tPub v)) H := q
  cases hN : isName v with
  | true => rw [hN] at q; exact iteT q
  | false => rw [hN] at q; exact iteF ⟨_, rfl, _, rfl, hv.1, q⟩
theorem ok_is_right {d : Addr} (F : Fun K "is_right" "is_right" s_is_right f fd) (mi : mg "isinstance" = none) (ms : mg "str" = none) (mD : mg "KIND_BY_RIGHT" = some (.ref d)) (hD : KRight K w d) :
    FnOk P w K mg base CX0 1 f fd ["value"] (spP K isRight) := by
  obtain ⟨es, n, kd⟩ := hD.dict
  refine F.ok sc_is_right spP_len (fun cdv A outer s H vs Q E hr h => ?_)
  obtain ⟨v, rfl, hv, q⟩ := h
  refine ⟨_, PSs.nox (pss_one (ps_ret (pe_and (pe_callB call_isi (by rfl) mi boot_isinstance (pa_cons (pv 0) (pa_cons (pe_bltn (v := .ty "str") (by rfl) ms PyProof.Rows.boot_str rfl) pa_nil)))
    (pe_one (pe_cmpR (op_in_kd (d := d) (es := es) (n := n) kd) (pv 0) (pe_glob (v := .ref d) (by rfl) mD rfl) (by rfl)))))), ?_⟩
  obtain ⟨t, ht, hs, hb⟩ := od_ty hv.1
  refine ⟨_, rfl, v, .ty "str", t, .type "str", _, rfl, .ty _, ht, hs, _, rfl, ?_⟩
  cases hS : isS v with
  | false =>
    have e : isRight v = false := by
      cases v with
      | str z => exact absurd (show false = true from (show true = false from hS).symm) Bool.false_ne_true
      | _ => rfl
    rw [e] at q
    exact iteF q
  | true =>
    obtain ⟨z, rfl⟩ := isS_str hS
    obtain ⟨r, h1, h2, h3⟩ := hD.get z
    have q : Q (.bl (kindT z).isSome) H := q
    rw [← h2] at q
    exact iteT ⟨_, rfl, z, r, rfl, rfl, h1, q⟩
theorem ok_is_flag (F : Fun K "is_flag" "is_flag" s_is_flag f fd) : FnOk P w K mg base CX0 1 f fd ["value"] (spP K isFlag) := by
  refine F.ok sc_is_flag spP_len (fun cdv A outer s H vs Q E hr h => ?_)
  obtain ⟨v, rfl, hv, q⟩ := h
  refine ⟨_, PSs.nox (pss_one (ps_ret (pe_or (pe_cmpR op_isB (pv 0) pe_bl (by rfl)) (pe_one (pe_cmpR op_isB (pv 0) pe_bl (by rfl)))))), ?_⟩
  refine ⟨_, rfl, _, rfl, hv.1, _, rfl, ?_⟩
  by_cases h1 : v = .bl true
  · rw [decide_eq_true h1]
    rw [h1] at q
    exact iteT q
  · rw [decide_eq_false h1]
    refine iteF ⟨_, rfl, _, rfl, hv.1, ?_⟩
    have e : isFlag v = decide (v = .bl false) := by
      cases v with
      | bl b =>
        cases b with
        | true => exact absurd rfl h1
        | false => rfl
      | _ => exact (decide_eq_false (fun e => nomatch e)).symm
    rw [e] at q
    exact q
end
end K10
set_option maxHeartbeats 4000000
namespace K10
open PySem PySem.Spec PyProof.Rows L2 RL RE RN TL
/-! ### a def that is there, in short -/
def Df (P : Program) (w : World) (K : PySem.W.Frag) (mg : Str → Option Value) (base : Heap) (CX : CXT) (k : Nat) (x : Str) (ps : List Str) (sp : Sp) : Prop :=
  ∃ (f : Addr) (fd : FuncData), FnOk P w K mg base CX k f fd ps sp ∧ Binds K fd ps [] ∧ PySem.W.keepIn K (.ref f) = true ∧ mg x = some (.ref f)
section
variable {X : Cx} {k : Nat} {x : Str} {ps : List Str} {sp : Sp} {t : TA} {e : Expr} {es : List Expr} {p pos : Pos}
theorem pe_df0 (D : Df X.prog X.w X.K X.mg X.base CX0 k x ps sp) (hr : Room k X.A) (hg : Gl X x) (ha : PA X (e :: es) t) (hdb : (x == ("__debug__" : Str)) = false := by decide)
    (he : starEach (e :: es) X.env = (false, eval e X.env) :: starEach es X.env := by rfl) (hpl : (backTo pos (starEach es X.env)).any (·.1) = false := by rfl) : PE X (.Call (.Name x p) (e :: es) [] pos) (tCall sp [] (fun _ _ _ => False) t) := by
  obtain ⟨f, fd, F, b, kp, g⟩ := D
  exact pe_call F hr hg g kp b .nil pass0 ha hdb he hpl
end
/-! ### the checks, where nothing is due -/
section
variable {P : Program} {w : World} {K : PySem.W.Frag} {mg : Str → Option Value} {base : Heap} {f : Addr} {fd : FuncData}
def spG (K : PySem.W.Frag) (p : V → Bool) : Sp := fun vs H Q _ => ∃ v, vs = [v] ∧ Od K H v ∧ p v = true ∧ Q .non H
theorem spG_len {p : V → Bool} : ∀ vs H Q E, spG K p vs H Q E → vs.length = 1 := fun vs H Q E h => by
  obtain ⟨v, rfl, _⟩ := h
  rfl
theorem ok_check_name (F : Fun K "check_name" "check_name" s_check_name f fd) (N : Df P w K mg base CX0 1 "is_name" ["value"] (spP K isName)) : FnOk P w K mg base CX0 2 f fd ["value"] (spG K isName) := by
  refine F.ok sc_check_name spG_len (fun cdv A outer s H vs Q E hr h => ?_)
  obtain ⟨v, rfl, hv, hp, q⟩ := h
  refine ⟨_, PSs.nox (pss_one (ps_if (pt_not (pt_val (pe_df0 N hr (by rfl) (pa_cons (pv 0) pa_nil)))) (pss_one ps_never) pss_nil)), ?_⟩
  refine ⟨_, rfl, v, rfl, hv, _, rfl, ?_⟩
  rw [hp]
  exact iteF q
theorem ok_check_taker (F : Fun K "check_taker" "check_taker" s_check_taker f fd) (N : Df P w K mg base CX0 2 "is_taker" ["value"] (spP K isTaker)) : FnOk P w K mg base CX0 3 f fd ["value"] (spG K isTaker) := by
  refine F.ok sc_check_taker spG_len (fun cdv A outer s H vs Q E hr h => ?_)
  obtain ⟨v, rfl, hv, hp, q⟩ := h
  refine ⟨_, PSs.nox (pss_one (ps_if (pt_not (pt_val (pe_df0 N hr (by rfl) (pa_cons (pv 0) pa_nil)))) (pss_one ps_never) pss_nil)), ?_⟩
  refine ⟨_, rfl, v, rfl, hv, _, rfl, ?_⟩
  rw [hp]
  exact iteF q
theorem ok_check_right (F : Fun K "check_right" "check_right" s_check_right f fd) (N : Df P w K mg base CX0 1 "is_right" ["value"] (spP K isRight)) : FnOk P w K mg base CX0 2 f fd ["value"] (spG K isRight) := by
  refine F.ok sc_check_right spG_len (fun cdv A outer s H vs Q E hr h => ?_)
  obtain ⟨v, rfl, hv, hp, q⟩ := h
  refine ⟨_, PSs.nox (pss_one (ps_if (pt_not (pt_val (pe_df0 N hr (by rfl) (pa_cons (pv 0) pa_nil)))) (pss_one ps_never) pss_nil)), ?_⟩
  refine ⟨_, rfl, v, rfl, hv, _, rfl, ?_⟩
  rw [hp]
  exact iteF q
/-- check_option: a flag, False beside public -/
def spGO (K : PySem.W.Frag) : Sp := fun vs H Q _ => ∃ (b : Bool) (t : V), vs = [.bl b, t] ∧ Od K H t ∧ (b = true → isT tPub t = false) ∧ Q .non H
theorem ok_check_option (F : Fun K "check_option" "check_option" s_check_option f fd) (N : Df P w K mg base CX0 1 "is_flag" ["value"] (spP K isFlag)) : FnOk P w K mg base CX0 2 f fd ["value", "taker"] (spGO K) := by
  refine F.ok sc_check_option (fun vs H Q E h => by obtain ⟨b, t, rfl, _⟩ := h; rfl) (fun cdv A outer s H vs Q E hr h => ?_)
  obtain ⟨b, t, rfl, ht, hp, q⟩ := h
  refine ⟨_, PSs.nox (pss_one (ps_if (PW.pt (pw_or (pt_not (pt_val (pe_df0 N hr (by rfl) (pa_cons (pv 0) pa_nil)))) (pw_or1 (PW.pt (pw_and (pt_val (pv 0)) (pw_and1 (pt_cmpR (op_odEq (Nat.lt_of_succ_lt (hu_of hr))) (pv 1) pe_str (nomark _)))))))) (pss_one ps_never) pss_nil)), ?_⟩
  refine ⟨_, rfl, .bl b, rfl, ⟨.flat rfl, fun z e => nomatch e⟩, _, rfl, ?_⟩
  refine iteF ⟨_, rfl, _, rfl, ?_⟩
  cases b with
  | false => exact iteF (iteF q)
  | true =>
    refine iteT ⟨_, rfl, _, rfl, ht.1, _, rfl, ?_⟩
    rw [hp rfl]
    exact iteF q
end
end K10
set_option maxHeartbeats 4000000
namespace K10
open PySem PySem.Spec PyProof.Rows L2 RL RE RN TL RQ RC
/-! ### deeds -/
inductive Dm
  | call (n : Str)
  | give (w t k : Str) (o : Bool)
  deriving DecidableEq
def txt (z : Str) : Prop := z.length ≤ 1000 ∧ ∀ x ∈ tl z, x < 256
theorem txt.od {K : PySem.W.Frag} {H : Hp} {z : Str} (h : txt z) : Od K H (.str z) := ⟨.flat rfl, fun y e => by cases e; exact h⟩
def okD : Dm → Prop
  | .call n => txt n ∧ nameT n = true
  | .give w t k o => txt w ∧ txt t ∧ txt k ∧ (kindT w).isSome = true ∧ nameT t = true ∧ (isT tCal (.str k) = true ∨ isTaker (.str k) = true) ∧ (o = true → isT tPub (.str k) = false)
/-- where the classes are -/
structure Cs where
  call : Addr
  give : Addr
def fieldsD : Dm → List (Str × V)
  | .call n => [("function", .str n)]
  | .give w t k o => [("right", .str w), ("thing", .str t), ("taker", .str k), ("option", .bl o)]
def clsD (c : Cs) : Dm → Addr
  | .call _ => c.call
  | .give .. => c.give
def DeedAt (c : Cs) (H : Hp) (a : Addr) (d : Dm) : Prop := ∃ dx, H a = some (.ins (clsD c d) dx (fieldsD d))
section
variable {P : Program} {w : World} {K : PySem.W.Frag} {mg : Str → Option Value} {base : Heap} {f : Addr} {fd : FuncData}
def spInit (K : PySem.W.Frag) (C : Addr) (d : Dm → Option (List V)) : Sp := fun vs H Q _ => ∃ (a dx : Addr) (m : Dm) (xs : List V), vs = .ref a :: xs ∧ d m = some xs ∧ okD m ∧ H a = some (.ins C dx []) ∧ Q .non (upd H a (.ins C dx (fieldsD m)))
def argC : Dm → Option (List V)
  | .call n => some [.str n]
  | _ => none
def argG : Dm → Option (List V)
  | .give w t k o => some [.str w, .str t, .str k, .bl o]
  | _ => none
theorem ok_CallI {C : Addr} (F : Fun K "__init__" "Call.__init__" s_Call_init f fd) (G : Df P w K mg base CX0 2 "check_name" ["value"] (spG K isName)) (c : Cls K C) (n1 : NoAttr K C "function") :
    FnOk P w K mg base CX0 3 f fd ["self", "function"] (spInit K C argC) := by
  refine F.ok sc_Call_init (fun vs H Q E h => by obtain ⟨a, dx, m, xs, rfl, e, _⟩ := h; cases m <;> cases e; rfl) (fun cdv A outer s H vs Q E hr h => ?_)
  obtain ⟨a, dx, m, xs, rfl, e, ok, ea, q⟩ := h
  cases m <;> cases e
  refine ⟨_, PSs.nox (pss_cons (ps_expr (pe_df0 G hr (by rfl) (pa_cons (pv 1) pa_nil))) (pss_one (ps_fld (pv 0) (pv 1) rfl))), ?_⟩
  refine ⟨_, rfl, _, rfl, ok.1.od, ok.2, ?_⟩
  exact ⟨_, rfl, _, rfl, a, C, dx, _, rfl, ea, c, n1, by decide, q⟩
theorem ok_GiveI {C : Addr} {dvs : List V} {kws : List (Str × V)} (F : FunD K "__init__" "Give.__init__" (defArgs s_Give_init) (defBody s_Give_init) (defScope s_Give_init) dvs kws f fd) (GR : Df P w K mg base CX0 2 "check_right" ["value"] (spG K isRight)) (GN : Df P w K mg base CX0 2 "check_name" ["value"] (spG K isName)) (GT : Df P w K mg base CX0 3 "check_taker" ["value"] (spG K isTaker)) (GO : Df P w K mg base CX0 2 "check_option" ["value", "taker"] (spGO K))
    (c : Cls K C) (n1 : NoAttr K C "right") (n2 : NoAttr K C "thing") (n3 : NoAttr K C "taker") (n4 : NoAttr K C "option") :
    FnOk P w K mg base CX0 4 f fd ["self", "right", "thing", "taker", "option"] (spInit K C argG) := by
  refine F.ok sc_Give_init (fun vs H Q E h => by obtain ⟨a, dx, m, xs, rfl, e, _⟩ := h; cases m <;> cases e; rfl) (fun cdv A outer s H vs Q E hr h => ?_)
  obtain ⟨a, dx, m, xs, rfl, e, ok, ea, q⟩ := h
  cases m <;> cases e
  rename_i wd t k o
  obtain ⟨tw, tt, tk, h1, h2, h3, h4⟩ := ok
  refine ⟨_, PSs.nox (pss_cons (ps_expr (pe_df0 GR (hr.mono (by decide)) (by rfl) (pa_cons (pv 1) pa_nil)))
    (pss_cons (ps_expr (pe_df0 GN (hr.mono (by decide)) (by rfl) (pa_cons (pv 2) pa_nil)))
    (pss_cons (ps_if (pt_cmpR (op_odNe (Nat.lt_of_succ_lt (hu_of hr))) (pv 3) pe_str (nomark _)) (pss_one (ps_expr (pe_df0 GT hr (by rfl) (pa_cons (pv 3) pa_nil)))) pss_nil)
    (pss_cons (ps_expr (pe_df0 GO (hr.mono (by decide)) (by rfl) (pa_cons (pv 4) (pa_cons (pv 3) pa_nil))))
    (pss_cons (ps_fld (pv 0) (pv 1) rfl) (pss_cons (ps_fld (pv 0) (pv 2) rfl) (pss_cons (ps_fld (pv 0) (pv 3) rfl) (pss_one (ps_fld (pv 0) (pv 4) rfl))))))))), ?_⟩
  refine ⟨_, rfl, _, rfl, tw.od, h1, ?_⟩
  refine ⟨_, rfl, _, rfl, tt.od, h2, ?_⟩
  refine ⟨_, rfl, _, rfl, tk.od.1, _, rfl, ?_⟩
  have up : ∀ {u v x : HO}, upd (upd (upd (upd H a u) a v) a x) a (.ins C dx (fieldsD (.give wd t k o))) = upd H a (.ins C dx (fieldsD (.give wd t k o))) := by
    intro u v x
    rw [upd_upd, upd_upd, upd_upd]
  cases hc : isT tCal (.str k) with
  | true =>
    refine iteF ?_
    refine ⟨_, rfl, _, rfl, o, _, rfl, tk.od, h4, ?_⟩
    refine ⟨_, rfl, _, rfl, a, C, dx, _, rfl, ea, c, n1, by decide, ?_⟩
    refine ⟨_, rfl, _, rfl, a, C, dx, _, rfl, upd_same, c, n2, by show 1 < 1000; decide, ?_⟩
    refine ⟨_, rfl, _, rfl, a, C, dx, _, rfl, upd_same, c, n3, by show 2 < 1000; decide, ?_⟩
    refine ⟨_, rfl, _, rfl, a, C, dx, _, rfl, upd_same, c, n4, by show 3 < 1000; decide, ?_⟩
    rw [← up] at q
    exact q
  | false =>
    have ht : isTaker (.str k) = true := h3.resolve_left (by rw [hc]; exact Bool.false_ne_true)
    refine iteT ⟨_, rfl, _, rfl, tk.od, ht, ?_⟩
    refine ⟨_, rfl, _, rfl, o, _, rfl, tk.od, h4, ?_⟩
    refine ⟨_, rfl, _, rfl, a, C, dx, _, rfl, ea, c, n1, by decide, ?_⟩
    refine ⟨_, rfl, _, rfl, a, C, dx, _, rfl, upd_same, c, n2, by show 1 < 1000; decide, ?_⟩
    refine ⟨_, rfl, _, rfl, a, C, dx, _, rfl, upd_same, c, n3, by show 2 < 1000; decide, ?_⟩
    refine ⟨_, rfl, _, rfl, a, C, dx, _, rfl, upd_same, c, n4, by show 3 < 1000; decide, ?_⟩
    rw [← up] at q
    exact q
end
end K10
set_option maxHeartbeats 4000000
namespace K10
open PySem PySem.Spec PyProof.Rows L2 RL RE RN TL RQ RC
/-- an own class's instance has its class as its type -/
structure TyC (K : PySem.W.Frag) (C : Addr) : Prop where
  cl : Cls K C
  ha : PySem.W.findIn K (.ref C) "__class__" = some (some (.builtin "object.__class__"))
  hn : PySem.W.specialIn K (.builtin "object.__class__") "__get__" = some (some (.builtin "getset_descriptor.__get__"))
  ht : PySem.W.takesIn K (.builtin "object.__class__") = some true
  hm : PySem.W.mroIn K C (.type "object") = some true
theorem TyC.ty {K : PySem.W.Frag} {C : Addr} (t : TyC K C) {H : Hp} {a dx : Addr} {fs : List (Str × V)} (e : H a = some (.ins C dx fs)) : TyX K H (.ref a) (.ref C) := .base (.ins e t.cl t.ha t.hn t.ht t.hm)
/-- the two classes of deeds -/
structure DC (K : PySem.W.Frag) (mg : Str → Option Value) (c : Cs) : Prop where
  gC : mg "Call" = some (.ref c.call)
  gG : mg "Give" = some (.ref c.give)
  tC : TyC K c.call
  tG : TyC K c.give
  cc : PySem.W.kitOne K (.ref c.call) (.ref c.call) = some true
  cg : PySem.W.kitOne K (.ref c.call) (.ref c.give) = some false
  gc : PySem.W.kitOne K (.ref c.give) (.ref c.call) = some false
  gg : PySem.W.kitOne K (.ref c.give) (.ref c.give) = some true
  nC : NoAttr K c.call "function"
  n1 : NoAttr K c.give "right"
  n2 : NoAttr K c.give "thing"
  n3 : NoAttr K c.give "taker"
  n4 : NoAttr K c.give "option"
/-- how two deeds compare -/
def RD (c : Cs) : Addr → V → Hp → Bool → Prop := fun a y H k => ∃ (d d' : Dm) (b : Addr), DeedAt c H a d ∧ y = .ref b ∧ DeedAt c H b d' ∧ k = decide (d = d')
def RDC (c : Cs) : Addr → V → Hp → Bool → Prop := fun a y H k => ∃ (n : Str) (d' : Dm) (b : Addr), DeedAt c H a (.call n) ∧ y = .ref b ∧ DeedAt c H b d' ∧ k = decide (Dm.call n = d')
def RDG (c : Cs) : Addr → V → Hp → Bool → Prop := fun a y H k => ∃ (w t kk : Str) (o : Bool) (d' : Dm) (b : Addr), DeedAt c H a (.give w t kk o) ∧ y = .ref b ∧ DeedAt c H b d' ∧ k = decide (Dm.give w t kk o = d')
section
variable {P : Program} {w : World} {K : PySem.W.Frag} {mg : Str → Option Value} {base : Heap} {f : Addr} {fd : FuncData}
theorem spEqB_len {R : Addr → V → Hp → Bool → Prop} : ∀ vs H Q E, spEqB R vs H Q E → vs.length = 2 := fun vs H Q E h => by
  obtain ⟨a, y, k, rfl, _⟩ := h
  rfl
theorem ok_CallE {c : Cs} (F : Fun K "__eq__" "Call.__eq__" s_Call_eq f fd) (G : DC K mg c) (mi : mg "isinstance" = none) : FnOk P w K mg base CX0 1 f fd ["self", "other"] (spEqB (RDC c)) := by
  refine F.ok sc_Call_eq spEqB_len (fun cdv A outer s H vs Q E hr h => ?_)
  obtain ⟨a, y, k, rfl, ⟨n, d', b, ⟨dx, ea⟩, rfl, ⟨dy, eb⟩, rfl⟩, q⟩ := h
  refine ⟨_, PSs.nox (pss_one (ps_ret (pe_and (pe_callB call_isi (by rfl) mi boot_isinstance (pa_cons (pv 1) (pa_cons (pe_glob (v := .ref c.call) (by rfl) G.gC rfl) pa_nil)))
    (pe_one (pe_cmpR op_eq (pe_fld (pv 0) rfl) (pe_fld (pv 1) rfl) (by rfl)))))), ?_⟩
  cases d' with
  | give wd t kk o =>
    refine ⟨_, rfl, .ref b, .ref c.call, .ref c.give, .ref c.call, _, rfl, .own _, G.tG.ty eb, G.gc, _, rfl, ?_⟩
    exact iteF (q H Ext.rfl')
  | call n' =>
    refine ⟨_, rfl, .ref b, .ref c.call, .ref c.call, .ref c.call, _, rfl, .own _, G.tC.ty eb, G.cc, _, rfl, ?_⟩
    refine iteT ⟨_, rfl, a, c.call, dx, _, _, rfl, ea, G.tC.cl, G.nC, rfl, _, rfl, b, c.call, dy, _, _, rfl, eb, G.tC.cl, G.nC, rfl, rfl, ?_⟩
    have e : decide (V.str n = V.str n') = decide (Dm.call n = Dm.call n') := by
      rw [Bool.eq_iff_iff]
      simp
    show Q (.bl (decide (V.str n = V.str n'))) H
    rw [e]
    exact q H Ext.rfl'
theorem ok_GiveE {c : Cs} (F : Fun K "__eq__" "Give.__eq__" s_Give_eq f fd) (G : DC K mg c) (mi : mg "isinstance" = none) : FnOk P w K mg base CX0 1 f fd ["self", "other"] (spEqB (RDG c)) := by
  refine F.ok sc_Give_eq spEqB_len (fun cdv A outer s H vs Q E hr h => ?_)
  obtain ⟨a, y, k, rfl, ⟨wd, t, kk, o, d', b, ⟨dx, ea⟩, rfl, ⟨dy, eb⟩, rfl⟩, q⟩ := h
  refine ⟨_, PSs.nox (pss_one (ps_ret (pe_and (pe_callB call_isi (by rfl) mi boot_isinstance (pa_cons (pv 1) (pa_cons (pe_glob (v := .ref c.give) (by rfl) G.gG rfl) pa_nil)))
    (pe_and (pe_cmpR op_eq (pe_fld (pv 0) rfl) (pe_fld (pv 1) rfl) (by rfl)) (pe_and (pe_cmpR op_eq (pe_fld (pv 0) rfl) (pe_fld (pv 1) rfl) (by rfl)) (pe_and (pe_cmpR op_eq (pe_fld (pv 0) rfl) (pe_fld (pv 1) rfl) (by rfl)) (pe_one (pe_cmpR op_eq (pe_fld (pv 0) rfl) (pe_fld (pv 1) rfl) (by rfl))))))))), ?_⟩
  cases d' with
  | call n' =>
    refine ⟨_, rfl, .ref b, .ref c.give, .ref c.call, .ref c.give, _, rfl, .own _, G.tC.ty eb, G.cg, _, rfl, ?_⟩
    exact iteF (q H Ext.rfl')
  | give w' t' k' o' =>
    refine ⟨_, rfl, .ref b, .ref c.give, .ref c.give, .ref c.give, _, rfl, .own _, G.tG.ty eb, G.gg, _, rfl, ?_⟩
    refine iteT ⟨_, rfl, a, c.give, dx, _, _, rfl, ea, G.tG.cl, G.n1, rfl, _, rfl, b, c.give, dy, _, _, rfl, eb, G.tG.cl, G.n1, rfl, rfl, _, rfl, ?_⟩
    by_cases h1 : wd = w'
    case neg =>
      rw [decide_eq_false (fun e => h1 (V.str.inj e))]
      rw [decide_eq_false (fun e => by cases e; exact h1 rfl)] at q
      exact iteF (q H Ext.rfl')
    subst h1
    rw [decide_eq_true rfl]
    refine iteT ⟨_, rfl, a, c.give, dx, _, _, rfl, ea, G.tG.cl, G.n2, rfl, _, rfl, b, c.give, dy, _, _, rfl, eb, G.tG.cl, G.n2, rfl, rfl, _, rfl, ?_⟩
    by_cases h2 : t = t'
    case neg =>
      rw [decide_eq_false (fun e => h2 (V.str.inj e))]
      rw [decide_eq_false (fun e => by cases e; exact h2 rfl)] at q
      exact iteF (q H Ext.rfl')
    subst h2
    rw [decide_eq_true rfl]
    refine iteT ⟨_, rfl, a, c.give, dx, _, _, rfl, ea, G.tG.cl, G.n3, rfl, _, rfl, b, c.give, dy, _, _, rfl, eb, G.tG.cl, G.n3, rfl, rfl, _, rfl, ?_⟩
    by_cases h3 : kk = k'
    case neg =>
      rw [decide_eq_false (fun e => h3 (V.str.inj e))]
      rw [decide_eq_false (fun e => by cases e; exact h3 rfl)] at q
      exact iteF (q H Ext.rfl')
    subst h3
    rw [decide_eq_true rfl]
    refine iteT ⟨_, rfl, a, c.give, dx, _, _, rfl, ea, G.tG.cl, G.n4, rfl, _, rfl, b, c.give, dy, _, _, rfl, eb, G.tG.cl, G.n4, rfl, rfl, ?_⟩
    have e : decide (V.bl o = V.bl o') = decide (Dm.give wd t kk o = Dm.give wd t kk o') := by
      rw [Bool.eq_iff_iff]
      simp
    show Q (.bl (decide (V.bl o = V.bl o'))) H
    rw [e]
    exact q H Ext.rfl'
end
end K10
set_option maxHeartbeats 4000000
namespace K10
open PySem PySem.Spec PyProof.Rows L2 RL RE RN TL RQ RC
def wordsD : Dm → List Str
  | .call n => [Str.ofString "call", n]
  | .give w t k o => [Str.ofString "give", w, t, k] ++ (if o = true then [Str.ofString "option"] else [])
def strD (d : Dm) : Str := Txt.join (Str.ofString " ") (wordsD d)
section
variable {P : Program} {w : World} {K : PySem.W.Frag} {mg : Str → Option Value} {base : Heap} {f : Addr} {fd : FuncData}
def spStr (c : Cs) (p : Dm → Bool) : Sp := fun vs H Q _ => ∃ (a : Addr) (d : Dm), vs = [.ref a] ∧ DeedAt c H a d ∧ okD d ∧ p d = true ∧ ∀ H', Ext H H' → Q (.str (strD d)) H'
def isC : Dm → Bool
  | .call _ => true
  | _ => false
def isG : Dm → Bool
  | .give .. => true
  | _ => false
theorem ok_CallS {c : Cs} (F : Fun K "__str__" "Call.__str__" s_Call_str f fd) (G : DC K mg c) : FnOk P w K mg base CX0 1 f fd ["self"] (spStr c isC) := by
  refine F.ok sc_Call_str (fun vs H Q E h => by obtain ⟨a, d, rfl, _⟩ := h; rfl) (fun cdv A outer s H vs Q E hr h => ?_)
  obtain ⟨a, d, rfl, ⟨dx, ea⟩, ok, hp, q⟩ := h
  refine ⟨_, PSs.nox (pss_one (ps_ret (pe_join pe_str (pe_lst (pa_cons pe_str (pa_cons (pe_fld (pv 0) rfl) pa_nil)))))), ?_⟩
  cases d with
  | give wd t k o => exact absurd (show false = true from hp) Bool.false_ne_true
  | call n =>
    have hl := ok.1.1
    refine ⟨⟨_, rfl⟩, _, rfl, a, c.call, dx, _, _, rfl, ea, G.tC.cl, G.nC, rfl, by show 2 ≤ sizeLine; decide, fun p np => ?_⟩
    refine ⟨_, p, wordsD (.call n), rfl, rfl, .inl (SqL.of upd_same), ?_, q _ (Ext.upd np)⟩
    show (4 + (n.length + 0)) + 2 * 1 ≤ 16777216
    omega
theorem ok_GiveS {c : Cs} (F : Fun K "__str__" "Give.__str__" s_Give_str f fd) (G : DC K mg c) : FnOk P w K mg base CX0 1 f fd ["self"] (spStr c isG) := by
  refine F.ok sc_Give_str (fun vs H Q E h => by obtain ⟨a, d, rfl, _⟩ := h; rfl) (fun cdv A outer s H vs Q E hr h => ?_)
  obtain ⟨a, d, rfl, ⟨dx, ea⟩, ok, hp, q⟩ := h
  refine ⟨_, PSs.nox (pss_cons (ps_set (i := 1) sc_Give_str.nd rfl (.inl rfl) (pe_lst (pa_cons pe_str (pa_cons (pe_fld (pv 0) rfl) (pa_cons (pe_fld (pv 0) rfl) (pa_cons (pe_fld (pv 0) rfl) pa_nil))))))
    (pss_cons (ps_if (pt_val (pe_fld (pv 0) rfl)) (pss_one (ps_expr (pe_bm PySem.F.plainAttrs_list PySem.F.slot_list_append PySem.F.type_list_append mt_append (pv 1) (pa_cons pe_str pa_nil)))) pss_nil)
    (pss_one (ps_ret (pe_join pe_str (pv 1)))))), ?_⟩
  cases d with
  | call n => exact absurd (show false = true from hp) Bool.false_ne_true
  | give wd t k o =>
    obtain ⟨⟨l1, _⟩, ⟨l2, _⟩, ⟨l3, _⟩, _⟩ := ok
    refine ⟨_, rfl, a, c.give, dx, _, _, rfl, ea, G.tG.cl, G.n1, rfl, ?_⟩
    refine ⟨_, rfl, a, c.give, dx, _, _, rfl, ea, G.tG.cl, G.n2, rfl, ?_⟩
    refine ⟨_, rfl, a, c.give, dx, _, _, rfl, ea, G.tG.cl, G.n3, rfl, by show 4 ≤ sizeLine; decide, fun p np => ?_⟩
    have e1 : (upd H p (.lst [.str (Str.ofString "give"), .str wd, .str t, .str k])) p = some (.lst [.str (Str.ofString "give"), .str wd, .str t, .str k]) := upd_same
    have x1 : Ext H (upd H p (.lst [.str (Str.ofString "give"), .str wd, .str t, .str k])) := Ext.upd np
    generalize upd H p (.lst [.str (Str.ofString "give"), .str wd, .str t, .str k]) = H1 at e1 x1 ⊢
    refine ⟨_, rfl, a, c.give, dx, _, _, rfl, x1 _ _ ea, G.tG.cl, G.n4, rfl, _, rfl, ?_⟩
    cases o with
    | false =>
      refine iteF ⟨⟨_, rfl⟩, _, rfl, _, p, wordsD (.give wd t k false), rfl, rfl, .inl (SqL.of e1), ?_, q _ x1⟩
      show (4 + (wd.length + (t.length + (k.length + 0)))) + 4 * 1 ≤ 16777216
      omega
    | true =>
      refine iteT ⟨_, rfl, .inl ⟨rfl, _, .inl (.inl e1)⟩, p, _, _, rfl, rfl, e1, by show 4 < sizeLine; decide, ?_⟩
      have x2 : Ext H (upd H1 p (.lst ([.str (Str.ofString "give"), .str wd, .str t, .str k] ++ [.str (Str.ofString "option")]))) := fun b o e => by
        rw [upd_ne (fun z => by rw [z, np] at e; cases e)]
        exact x1 b o e
      refine ⟨⟨_, rfl⟩, _, rfl, _, p, wordsD (.give wd t k true), rfl, rfl, .inl (SqL.of upd_same), ?_, q _ x2⟩
      show (4 + (wd.length + (t.length + (k.length + (6 + 0))))) + 5 * 1 ≤ 16777216
      omega
end
end K10
set_option maxHeartbeats 4000000
namespace K10
open PySem PySem.Spec PyProof.Rows L2 RL RE RN TL RQ RC
theorem pt_never {X : Cx} {e : Expr} : PT X e (fun _ _ _ => False) := ⟨fun _ _ _ _ _ _ h => h.elim⟩
/-- the fields of any thing -/
def headT (kind name owner : Str) : List (Str × V) := [("kind", .str kind), ("name", .str name), ("owner", .str owner), ("_audience", .non)]
structure TF (K : PySem.W.Frag) (C : Addr) : Prop where
  cl : Cls K C
  n1 : NoAttr K C "kind"
  n2 : NoAttr K C "name"
  n3 : NoAttr K C "owner"
  n4 : NoAttr K C "_audience"
section
variable {P : Program} {w : World} {K : PySem.W.Frag} {mg : Str → Option Value} {base : Heap} {f : Addr} {fd : FuncData}
def spThing (K : PySem.W.Frag) : Sp := fun vs H Q _ => ∃ (a C dx : Addr) (kind name owner : Str), vs = [.ref a, .str kind, .str name, .str owner, .non] ∧ TF K C ∧ H a = some (.ins C dx []) ∧ txt name ∧ nameT name = true ∧ txt owner ∧ nameT owner = true ∧ Q .non (upd H a (.ins C dx (headT kind name owner)))
theorem ok_Thing (F : Fun K "__init__" "Thing.__init__" s_Thing_init f fd) (G : Df P w K mg base CX0 2 "check_name" ["value"] (spG K isName)) : FnOk P w K mg base CX0 3 f fd ["self", "kind", "name", "owner", "audience"] (spThing K) := by
  refine F.ok sc_Thing_init (fun vs H Q E h => by obtain ⟨a, C, dx, kd, nm, ow, rfl, _⟩ := h; rfl) (fun cdv A outer s H vs Q E hr h => ?_)
  obtain ⟨a, C, dx, kd, nm, ow, rfl, T, ea, t1, n1, t2, n2, q⟩ := h
  refine ⟨_, PSs.nox (pss_cons (ps_expr (pe_df0 G hr (by rfl) (pa_cons (pv 2) pa_nil))) (pss_cons (ps_expr (pe_df0 G hr (by rfl) (pa_cons (pv 3) pa_nil)))
    (pss_cons (ps_if (PW.pt (pw_and (pt_cmpR op_notN (pv 4) pe_non (by rfl)) (pw_and1 pt_never))) (pss_one ps_never) pss_nil)
    (pss_cons (ps_fld (pv 0) (pv 1) rfl) (pss_cons (ps_fld (pv 0) (pv 2) rfl) (pss_cons (ps_fld (pv 0) (pv 3) rfl) (pss_cons (ps_fld (pv 0) pe_non rfl)
    (pss_one (ps_if (pt_cmpR op_notN (pv 4) pe_non (by rfl)) (pss_one ps_never) pss_nil))))))))), ?_⟩
  refine ⟨_, rfl, _, rfl, t1.od, n1, ?_⟩
  refine ⟨_, rfl, _, rfl, t2.od, n2, ?_⟩
  refine ⟨_, rfl, rfl, _, rfl, ?_⟩
  refine iteF (iteF ?_)
  refine ⟨_, rfl, _, rfl, a, C, dx, _, rfl, ea, T.cl, T.n1, by decide, ?_⟩
  refine ⟨_, rfl, _, rfl, a, C, dx, _, rfl, upd_same, T.cl, T.n2, by show 1 < 1000; decide, ?_⟩
  refine ⟨_, rfl, _, rfl, a, C, dx, _, rfl, upd_same, T.cl, T.n3, by show 2 < 1000; decide, ?_⟩
  refine ⟨_, rfl, a, C, dx, _, rfl, upd_same, T.cl, T.n4, by show 3 < 1000; decide, ?_⟩
  refine ⟨_, rfl, rfl, _, rfl, ?_⟩
  refine iteF ?_
  have up : ∀ {u v x : HO}, upd (upd (upd (upd H a u) a v) a x) a (.ins C dx (headT kd nm ow)) = upd H a (.ins C dx (headT kd nm ow)) := by
    intro u v x
    rw [upd_upd, upd_upd, upd_upd]
  rw [← up] at q
  exact q
def spTable (K : PySem.W.Frag) (C : Addr) : Sp := fun vs H Q _ => ∃ (a dx : Addr) (name owner : Str), vs = [.ref a, .str name, .str owner, .non] ∧ H a = some (.ins C dx []) ∧ txt name ∧ nameT name = true ∧ txt owner ∧ nameT owner = true ∧ Q .non (upd H a (.ins C dx (headT (Str.ofString "table") name owner)))
theorem ok_Table {C CT gT : Addr} {fdT : FuncData} {mc : Value} {dvs : List V} {kws : List (Str × V)} (F : FunD K "__init__" "Table.__init__" (defArgs s_Table_init) (defBody s_Table_init) (defScope s_Table_init) dvs kws f fd) (B : CDef K mg "Thing" CT mc "__init__" gT) (FT : FnOk P w K mg base CX0 3 gT fdT ["self", "kind", "name", "owner", "audience"] (spThing K)) (bT : Binds K fdT ["self", "kind", "name", "owner", "audience"] []) (T : TF K C) :
    FnOk P w K mg base CX0 4 f fd ["self", "name", "owner", "audience"] (spTable K C) := by
  refine F.ok sc_Table_init (fun vs H Q E h => by obtain ⟨a, dx, nm, ow, rfl, _⟩ := h; rfl) (fun cdv A outer s H vs Q E hr h => ?_)
  obtain ⟨a, dx, nm, ow, rfl, ea, t1, n1, t2, n2, q⟩ := h
  refine ⟨_, PSs.nox (pss_one (ps_expr (pe_ccall B FT hr bT .nil pass0 (by rfl) (pa_cons (pv 0) (pa_cons pe_str (pa_cons (pv 1) (pa_cons (pv 2) (pa_cons (pv 3) pa_nil)))))))), ?_⟩
  exact ⟨_, rfl, _, rfl, _, rfl, _, rfl, a, C, dx, _, nm, ow, rfl, T, ea, t1, n1, t2, n2, q⟩
end
end K10
set_option maxHeartbeats 4000000
namespace K10
open PySem PySem.Spec PyProof.Rows L2 RL RE RN TL RQ RC
theorem kl_list {K : PySem.W.Frag} : PySem.W.kitAny K (.type "list") [.type "list", .type "tuple"] = some true := kitAny_cons (kit_ty k_list_list) (fun h => nomatch h) (fun _ => rfl)
theorem k_tuple_tuple' : kitB "tuple" "tuple" = some true := by decide +kernel
theorem kl_tup {K : PySem.W.Frag} : PySem.W.kitAny K (.type "tuple") [.type "list", .type "tuple"] = some true := kitAny_cons (kit_ty k_tuple_list) (fun _ => kitAny_cons (kit_ty k_tuple_tuple') (fun h => nomatch h) (fun _ => rfl)) (fun h => nomatch h)
/-- a list or tuple -/
def Sq (K : PySem.W.Frag) (H : Hp) (b : Addr) (xs : List V) : Prop := SqL K H b xs ∨ SqT K H b xs
theorem Sq.ty {K : PySem.W.Frag} {H : Hp} {b : Addr} {xs : List V} (h : Sq K H b xs) : ∃ t, TyX K H (.ref b) t ∧ PySem.W.kitAny K t [.type "list", .type "tuple"] = some true := by
  rcases h with h | h
  · rcases h with h | ⟨o, its, n, h, c, _⟩
    · rcases h with h | ⟨o, h⟩
      · exact ⟨_, .base (.lst h), kl_list⟩
      · exact ⟨_, .base (.frz h), kl_list⟩
    · exact ⟨_, .kList h c, kl_list⟩
  · rcases h with h | ⟨o, its, n, h, c, _⟩
    · rcases h with h | ⟨o, h⟩
      · exact ⟨_, .base (.tup h), kl_tup⟩
      · exact ⟨_, .fTuple h, kl_tup⟩
    · exact ⟨_, .kTuple h c, kl_tup⟩
theorem Sq.ext {K : PySem.W.Frag} {H H' : Hp} {b : Addr} {xs : List V} (h : Sq K H b xs) (e : Ext H H') : Sq K H' b xs := h.imp (fun h => SqL.ext h e) (fun h => SqT.ext h e)
section
variable {P : Program} {w : World} {K : PySem.W.Frag} {mg : Str → Option Value} {base : Heap} {f : Addr} {fd : FuncData}
def spList (K : PySem.W.Frag) : Sp := fun vs H Q _ => ∃ (b : Addr) (xs : List V), vs = [.ref b] ∧ Sq K H b xs ∧ ∀ H', Ext H H' → Q (.bl true) H'
theorem ok_is_list (F : Fun K "is_list" "is_list" s_is_list f fd) (mi : mg "isinstance" = none) (ml : mg "list" = none) (mt : mg "tuple" = none) : FnOk P w K mg base CX0 1 f fd ["value"] (spList K) := by
  refine F.ok sc_is_list (fun vs H Q E h => by obtain ⟨b, xs, rfl, _⟩ := h; rfl) (fun cdv A outer s H vs Q E hr h => ?_)
  obtain ⟨b, xs, rfl, hS, q⟩ := h
  refine ⟨_, PSs.nox (pss_one (ps_ret (pe_callB call_isiT (by rfl) mi boot_isinstance (pa_cons (pv 0) (pa_cons (pe_tup (pa_cons (pe_bltn (v := .ty "list") (by rfl) ml (by decide +kernel) rfl) (pa_cons (pe_bltn (v := .ty "tuple") (by rfl) mt (by decide +kernel) rfl) pa_nil))) pa_nil))))), ?_⟩
  refine ⟨_, rfl, by show 2 ≤ sizeLine; decide, fun p np => ?_⟩
  obtain ⟨t, ht, hk⟩ := (hS.ext (Ext.upd (o := .tup [.ty "list", .ty "tuple"]) np)).ty
  exact ⟨.ref b, p, _, t, _, true, rfl, upd_same, .cons (.ty _) (.cons (.ty _) .nil), ht, hk, q _ (Ext.upd np)⟩
/-- a list of deeds -/
def Deeds (c : Cs) (H : Hp) (xs : List V) (ds : List Dm) : Prop := xs.length = ds.length ∧ ∀ (i : Nat) x d, xs[i]? = some x → ds[i]? = some d → ∃ a, x = .ref a ∧ DeedAt c H a d
theorem Deeds.ext {c : Cs} {H H' : Hp} {xs : List V} {ds : List Dm} (h : Deeds c H xs ds) (e : Ext H H') : Deeds c H' xs ds := ⟨h.1, fun i x d h1 h2 => by
  obtain ⟨a, rfl, dx, ea⟩ := h.2 i x d h1 h2
  exact ⟨a, rfl, dx, e _ _ ea⟩⟩
def spBody (K : PySem.W.Frag) (c : Cs) : Sp := fun vs H Q _ => ∃ (b : Addr) (xs : List V) (ds : List Dm), vs = [.ref b] ∧ Sq K H b xs ∧ Deeds c H xs ds ∧ ds.length ≤ 4 ∧ ∀ H', Ext H H' → Q (.bl true) H'
theorem ok_is_body {c : Cs} {tM : Tok} (F : Fun K "is_body" "is_body" s_is_body f fd) (G : DC K mg c) (L : Df P w K mg base CX0 1 "is_list" ["value"] (spList K)) (mi : mg "isinstance" = none) (ml : mg "len" = none) (ma : mg "all" = none) (mM : mg "MOST_IN_BODY" = some (.int 4 tM)) : FnOk P w K mg base CX0 2 f fd ["value"] (spBody K c) := by
  refine F.ok sc_is_body (fun vs H Q E h => by obtain ⟨b, xs, ds, rfl, _⟩ := h; rfl) (fun cdv A outer s H vs Q E hr h => ?_)
  obtain ⟨b, xs, ds, rfl, hS, hD, hl, q⟩ := h
  have hn : xs.length ≤ 4 := by rw [hD.1]; exact hl
  rcases hS with hS | hS
  · refine ⟨_, PSs.nox (pss_cons (ps_if (PW.pt (pw_or (pt_not (pt_val (pe_df0 L hr (by rfl) (pa_cons (pv 0) pa_nil)))) (pw_or1 (pt_cmpR op_gt (pe_callB call_len_seq (by rfl) ml PySem.boot_len (pa_cons (pv 0) pa_nil)) (pe_glob (v := .int 4) (by rfl) mM ⟨_, rfl⟩) (by rfl))))) (pss_one (ps_ret pe_bl)) pss_nil)
      (pss_one (ps_ret (pe_callB (cr_all rfl) (by rfl) ma (by decide +kernel) (pa_cons (pe_lc (own := [("deed", 1)]) (g := gName 1) (by rfl) sc_is_body.nd (pi_list (pv 0))
        (blkOk_by (own := [("deed", 1)]) (N := N_is_body) (sc := defScope s_is_body) (by decide +kernel)) (fun _ _ _ _ _ => pg_name (i := 1) sc_is_body.nd rfl (Or.inl rfl)) (fun _ _ _ _ _ => pts_nil)
        (fun _ _ _ _ _ => pe_callB (r := rIsiT K) call_isiT (by rfl) mi boot_isinstance (pa_cons (pv 1) (pa_cons (pe_tup (pa_cons (pe_glob (v := .ref c.give) (by rfl) G.gG rfl) (pa_cons (pe_glob (v := .ref c.call) (by rfl) G.gC rfl) pa_nil))) pa_nil)))) pa_nil))))), ?_⟩
    refine ⟨_, rfl, b, xs, rfl, .inl hS, fun H1 x1 => ⟨_, rfl, ?_⟩⟩
    refine iteF ⟨_, rfl, b, xs, rfl, .inl (hS.ext x1), (xs.length : Nat), 4, rfl, rfl, _, rfl, ?_⟩
    have e4 : decide ((4 : Int) < ((xs.length : Nat) : Int)) = false := decide_eq_false (by omega)
    show if decide ((4 : Int) < ((xs.length : Nat) : Int)) = true then _ else _
    rw [e4]
    refine iteF ?_
    refine ⟨_, rfl, b, rfl, ⟨xs, hS.ext x1⟩, fun D nD => lc_list (K := K) (xs := xs) (fun i H' => H' D = some (.lst ((List.replicate i true).map V.bl)) ∧ Ext H1 H') ⟨upd_same, Ext.upd nD⟩ (fun i H' _ h => hS.ext (x1.trans h.2)) ?_ ?_⟩
    · intro i x H2 hx h
      obtain ⟨eD, x2⟩ := h
      have hi : i < ds.length := by
        rw [← hD.1]
        exact (List.getElem?_eq_some_iff.mp hx).1
      obtain ⟨a, rfl, dx, ea⟩ := hD.2 i x _ hx (List.getElem?_eq_getElem hi)
      refine ⟨rfl, ?_⟩
      unfold tYes
      refine iteT ?_
      refine ⟨_, rfl, by show 2 ≤ sizeLine; decide, fun p np => ?_⟩
      have x3 := (x1.trans x2).trans (Ext.upd (o := .tup [.ref c.give, .ref c.call]) np)
      have kt : ∃ t, TyX K (upd H2 p (.tup [.ref c.give, .ref c.call])) (.ref a) t ∧ PySem.W.kitAny K t [.ref c.give, .ref c.call] = some true := by
        have e := x3 _ _ ea
        cases hd : ds[i] with
        | call n =>
          rw [hd] at e
          exact ⟨_, G.tC.ty e, kitAny_cons G.cg (fun _ => kitAny_cons G.cc (fun h => nomatch h) (fun _ => rfl)) (fun h => nomatch h)⟩
        | give wd t k o =>
          rw [hd] at e
          exact ⟨_, G.tG.ty e, kitAny_cons G.gg (fun h => nomatch h) (fun _ => rfl)⟩
      obtain ⟨t, ht, hk⟩ := kt
      refine ⟨.ref a, p, _, t, _, true, rfl, upd_same, .cons (.own _) (.cons (.own _) .nil), ht, hk, ?_⟩
      have nDp : D ≠ p := ne_of_none eD np
      refine ⟨_, by rw [upd_ne nDp]; exact eD, ?_, ?_, ?_⟩
      · rw [List.length_map, List.length_replicate]
        exact Nat.lt_of_lt_of_le (show i < 1000 by omega) (by decide)
      · rw [upd_same, List.replicate_succ', List.map_append]; rfl
      · intro u o eu
        have h2 := x2 _ _ eu
        rw [upd_ne (fun z => by rw [z, nD] at eu; cases eu), upd_ne (ne_of_none h2 np)]
        exact h2
    · intro H2 h
      obtain ⟨eD, x2⟩ := h
      refine ⟨D, List.replicate xs.length true, rfl, SqL.of eD, ?_⟩
      have e : (List.replicate xs.length true).all id = true := by simp
      rw [e]
      exact q _ (x1.trans x2)
  · refine ⟨_, PSs.nox (pss_cons (ps_if (PW.pt (pw_or (pt_not (pt_val (pe_df0 L hr (by rfl) (pa_cons (pv 0) pa_nil)))) (pw_or1 (pt_cmpR op_gt (pe_callB call_len_seq (by rfl) ml PySem.boot_len (pa_cons (pv 0) pa_nil)) (pe_glob (v := .int 4) (by rfl) mM ⟨_, rfl⟩) (by rfl))))) (pss_one (ps_ret pe_bl)) pss_nil)
      (pss_one (ps_ret (pe_callB (cr_all rfl) (by rfl) ma (by decide +kernel) (pa_cons (pe_lc (own := [("deed", 1)]) (g := gName 1) (by rfl) sc_is_body.nd (pi_tup (pv 0))
        (blkOk_by (own := [("deed", 1)]) (N := N_is_body) (sc := defScope s_is_body) (by decide +kernel)) (fun _ _ _ _ _ => pg_name (i := 1) sc_is_body.nd rfl (Or.inl rfl)) (fun _ _ _ _ _ => pts_nil)
        (fun _ _ _ _ _ => pe_callB (r := rIsiT K) call_isiT (by rfl) mi boot_isinstance (pa_cons (pv 1) (pa_cons (pe_tup (pa_cons (pe_glob (v := .ref c.give) (by rfl) G.gG rfl) (pa_cons (pe_glob (v := .ref c.call) (by rfl) G.gC rfl) pa_nil))) pa_nil)))) pa_nil))))), ?_⟩
    refine ⟨_, rfl, b, xs, rfl, .inr hS, fun H1 x1 => ⟨_, rfl, ?_⟩⟩
    refine iteF ⟨_, rfl, b, xs, rfl, .inr (SqT.ext hS x1), (xs.length : Nat), 4, rfl, rfl, _, rfl, ?_⟩
    have e4 : decide ((4 : Int) < ((xs.length : Nat) : Int)) = false := decide_eq_false (by omega)
    show if decide ((4 : Int) < ((xs.length : Nat) : Int)) = true then _ else _
    rw [e4]
    refine iteF ?_
    refine ⟨_, rfl, b, rfl, ⟨xs, SqT.ext hS x1⟩, fun D nD => lc_tup (K := K) (xs := xs) (fun i H' => H' D = some (.lst ((List.replicate i true).map V.bl)) ∧ Ext H1 H') ⟨upd_same, Ext.upd nD⟩ (fun i H' _ h => SqT.ext hS (x1.trans h.2)) ?_ ?_⟩
    · intro i x H2 hx h
      obtain ⟨eD, x2⟩ := h
      have hi : i < ds.length := by
        rw [← hD.1]
        exact (List.getElem?_eq_some_iff.mp hx).1
      obtain ⟨a, rfl, dx, ea⟩ := hD.2 i x _ hx (List.getElem?_eq_getElem hi)
      refine ⟨rfl, ?_⟩
      unfold tYes
      refine iteT ?_
      refine ⟨_, rfl, by show 2 ≤ sizeLine; decide, fun p np => ?_⟩
      have x3 := (x1.trans x2).trans (Ext.upd (o := .tup [.ref c.give, .ref c.call]) np)
      have kt : ∃ t, TyX K (upd H2 p (.tup [.ref c.give, .ref c.call])) (.ref a) t ∧ PySem.W.kitAny K t [.ref c.give, .ref c.call] = some true := by
        have e := x3 _ _ ea
        cases hd : ds[i] with
        | call n =>
          rw [hd] at e
          exact ⟨_, G.tC.ty e, kitAny_cons G.cg (fun _ => kitAny_cons G.cc (fun h => nomatch h) (fun _ => rfl)) (fun h => nomatch h)⟩
        | give wd t k o =>
          rw [hd] at e
          exact ⟨_, G.tG.ty e, kitAny_cons G.gg (fun h => nomatch h) (fun _ => rfl)⟩
      obtain ⟨t, ht, hk⟩ := kt
      refine ⟨.ref a, p, _, t, _, true, rfl, upd_same, .cons (.own _) (.cons (.own _) .nil), ht, hk, ?_⟩
      have nDp : D ≠ p := ne_of_none eD np
      refine ⟨_, by rw [upd_ne nDp]; exact eD, ?_, ?_, ?_⟩
      · rw [List.length_map, List.length_replicate]
        exact Nat.lt_of_lt_of_le (show i < 1000 by omega) (by decide)
      · rw [upd_same, List.replicate_succ', List.map_append]; rfl
      · intro u o eu
        have h2 := x2 _ _ eu
        rw [upd_ne (fun z => by rw [z, nD] at eu; cases eu), upd_ne (ne_of_none h2 np)]
        exact h2
    · intro H2 h
      obtain ⟨eD, x2⟩ := h
      refine ⟨D, List.replicate xs.length true, rfl, SqL.of eD, ?_⟩
      have e : (List.replicate xs.length true).all id = true := by simp
      rw [e]
      exact q _ (x1.trans x2)
end
end K10
set_option maxHeartbeats 4000000
namespace K10
open PySem PySem.Spec PyProof.Rows L2 RL RE RN TL RQ RC
/-- a function: its heading, its mode, its own list of deeds -/
structure Fm where
  name : Str
  owner : Str
  mode : Str
  body : List Dm
  deriving DecidableEq
def FunAt (c : Cs) (C : Addr) (H : Hp) (a : Addr) (m : Fm) : Prop := ∃ (dx p : Addr) (xs : List V), H a = some (.ins C dx (headT (Str.ofString "function") m.name m.owner ++ ([("mode", V.str m.mode), ("_body", V.ref p)] : List (Str × V)))) ∧ H p = some (.lst xs) ∧ Deeds c H xs m.body
/-- the same, its own list at p -/
def FunP (c : Cs) (C : Addr) (H : Hp) (a p : Addr) (m : Fm) : Prop := ∃ (dx : Addr) (xs : List V), H a = some (.ins C dx (headT (Str.ofString "function") m.name m.owner ++ ([("mode", V.str m.mode), ("_body", V.ref p)] : List (Str × V)))) ∧ H p = some (.lst xs) ∧ Deeds c H xs m.body
theorem FunP.at_ {c : Cs} {C a p : Addr} {H : Hp} {m : Fm} (h : FunP c C H a p m) : FunAt c C H a m := by
  obtain ⟨dx, xs, r⟩ := h
  exact ⟨dx, p, xs, r⟩
structure FF (K : PySem.W.Frag) (C : Addr) : Prop where
  t : TF K C
  n5 : NoAttr K C "mode"
  n6 : NoAttr K C "_body"
section
variable {P : Program} {w : World} {K : PySem.W.Frag} {mg : Str → Option Value} {base : Heap} {f : Addr} {fd : FuncData}
def spFunI (K : PySem.W.Frag) (c : Cs) (C : Addr) : Sp := fun vs H Q _ => ∃ (a dx b : Addr) (m : Fm) (xs : List V), vs = [.ref a, .str m.name, .str m.owner, .non, .str m.mode, .ref b] ∧ H a = some (.ins C dx []) ∧ txt m.name ∧ nameT m.name = true ∧ txt m.owner ∧ nameT m.owner = true ∧
  (m.mode = Str.ofString "owner" ∨ m.mode = Str.ofString "caller") ∧ (∀ H', (∀ u o, u ≠ a → H u = some o → H' u = some o) → Sq K H' b xs) ∧ Deeds c H xs m.body ∧ m.body.length ≤ 4 ∧ (∀ H' p, H p = none → (∀ u o, u ≠ a → H u = some o → H' u = some o) → FunP c C H' a p m → Q .non H')
theorem ok_Function {c : Cs} {C CT gT aM : Addr} {fdT : FuncData} {mc : Value} {dvs : List V} {kws : List (Str × V)} (F : FunD K "__init__" "Function.__init__" (defArgs s_Function_init) (defBody s_Function_init) (defScope s_Function_init) dvs kws f fd) (B : CDef K mg "Thing" CT mc "__init__" gT) (FT : FnOk P w K mg base CX0 3 gT fdT ["self", "kind", "name", "owner", "audience"] (spThing K)) (bT : Binds K fdT ["self", "kind", "name", "owner", "audience"] [])
    (L : Df P w K mg base CX0 2 "is_body" ["value"] (spBody K c)) (T : FF K C) (gM : mg "MODES" = some (.ref aM)) (hM : KTup K aM [Str.ofString "owner", Str.ofString "caller"]) (mli : mg "list" = none) :
    FnOk P w K mg base CX0 4 f fd ["self", "name", "owner", "audience", "mode", "body"] (spFunI K c C) := by
  refine F.ok sc_Function_init (fun vs H Q E h => by obtain ⟨a, dx, b, m, xs, rfl, _⟩ := h; rfl) (fun cdv A outer s H vs Q E hr h => ?_)
  obtain ⟨a, dx, b, m, xs, rfl, ea, t1, n1, t2, n2, hm, hS, hD, hl, q⟩ := h
  refine ⟨_, PSs.nox (pss_cons (ps_expr (pe_ccall B FT hr bT .nil pass0 (by rfl) (pa_cons (pv 0) (pa_cons pe_str (pa_cons (pv 1) (pa_cons (pv 2) (pa_cons (pv 3) pa_nil)))))))
    (pss_cons (ps_if (pt_cmpR op_notIn_seq (pv 4) (pe_glob (v := .ref aM) (by rfl) gM rfl) (by rfl)) (pss_one ps_never) pss_nil)
    (pss_cons (ps_if (pt_not (pt_val (pe_df0 L (hr.mono (by decide)) (by rfl) (pa_cons (pv 5) pa_nil)))) (pss_one ps_never) pss_nil)
    (pss_cons (ps_fld (pv 0) (pv 4) rfl) (pss_one (ps_fld (pv 0) (pe_callTy call_list_of (by rfl) mli (by decide +kernel) (pa_cons (pv 5) pa_nil)) rfl)))))), ?_⟩
  refine ⟨_, rfl, _, rfl, _, rfl, _, rfl, a, C, dx, _, _, _, rfl, T.t, ea, t1, n1, t2, n2, ?_⟩
  have keep : ∀ {o : HO} u x, u ≠ a → H u = some x → (upd H a o) u = some x := fun u x n e => by rw [upd_ne n]; exact e
  refine ⟨_, rfl, aM, _, rfl, .inr hM.sq, rfl, rfl, _, rfl, ?_⟩
  have e0 : (if true = true then !inV (.str m.mode) [.str (Str.ofString "owner"), .str (Str.ofString "caller")] else inV (.str m.mode) [.str (Str.ofString "owner"), .str (Str.ofString "caller")]) = false := by
    rw [if_pos rfl, inV2]
    rcases hm with e | e <;> rw [e] <;> decide +kernel
  show if (if true = true then !inV (.str m.mode) [.str (Str.ofString "owner"), .str (Str.ofString "caller")] else inV (.str m.mode) [.str (Str.ofString "owner"), .str (Str.ofString "caller")]) = true then _ else _
  rw [e0]
  refine iteF ?_
  have nda : ∀ {u : Addr} {d : Dm}, DeedAt c H u d → u ≠ a := fun {u d} h z => by
    obtain ⟨dy, e⟩ := h
    rw [z, ea] at e
    have e2 := Option.some.inj e
    cases d <;> cases e2
  have d1 : ∀ {H' : Hp}, (∀ u o, u ≠ a → H u = some o → H' u = some o) → Deeds c H' xs m.body := fun k => ⟨hD.1, fun i x d g1 g2 => by
    obtain ⟨u, rfl, h⟩ := hD.2 i x d g1 g2
    have n := nda h
    obtain ⟨dy, e⟩ := h
    exact ⟨u, rfl, dy, k _ _ n e⟩⟩
  have q1 : ∀ {H' : Hp}, (∀ u o, u ≠ a → H u = some o → H' u = some o) → Sq K H' b xs := fun k => hS _ k
  refine ⟨_, rfl, b, xs, m.body, rfl, q1 keep, d1 keep, hl, fun H2 x2 => ⟨_, rfl, ?_⟩⟩
  refine iteF ?_
  have ea2 : H2 a = some (.ins C dx (headT (Str.ofString "function") m.name m.owner)) := x2 _ _ upd_same
  have k2 : ∀ u o, u ≠ a → H u = some o → H2 u = some o := fun u o n e => x2 _ _ (keep u o n e)
  refine ⟨_, rfl, _, rfl, a, C, dx, _, rfl, ea2, T.t.cl, T.n5, by show 4 < 1000; decide, ?_⟩
  have k3 : ∀ {w : HO} u o, u ≠ a → H u = some o → (upd H2 a w) u = some o := fun u o n e => by rw [upd_ne n]; exact k2 u o n e
  refine ⟨_, rfl, b, xs, rfl, q1 k3, fun p np => ?_⟩
  have npa : p ≠ a := fun z => by rw [z, upd_same] at np; cases np
  have nHp : H p = none := by
    cases e : H p with
    | none => rfl
    | some o => rw [k3 p o npa e] at np; cases np
  refine ⟨_, rfl, a, C, dx, _, rfl, by rw [upd_ne (Ne.symm npa)]; exact upd_same, T.t.cl, T.n6, by show 5 < 1000; decide, ?_⟩
  have k4 : ∀ {w1 w2 w3 : HO} u o, u ≠ a → H u = some o → (upd (upd (upd H2 a w1) p w2) a w3) u = some o := fun u o n e => by
    rw [upd_ne n, upd_ne (fun z => by rw [z, nHp] at e; cases e), upd_ne n]
    exact k2 u o n e
  refine q _ p nHp k4 ⟨dx, xs, ?_, ?_, d1 k4⟩
  · rw [upd_same]; rfl
  · rw [upd_ne npa, upd_same]
end
end K10
set_option maxHeartbeats 4000000
namespace K10
open PySem PySem.Spec PyProof.Rows L2 RL RE RN TL RQ RC
section
variable {P : Program} {w : World} {K : PySem.W.Frag} {mg : Str → Option Value} {base : Heap} {f : Addr} {fd : FuncData}
def spBodyM (c : Cs) (C : Addr) : Sp := fun vs H Q _ => ∃ (a : Addr) (m : Fm), vs = [.ref a] ∧ FunAt c C H a m ∧ ∀ l xs, H l = none → Deeds c H xs m.body → Q (.ref l) (upd H l (.lst xs))
theorem ok_body {c : Cs} {C : Addr} (F : Fun K "body" "Function.body" s_Function_body f fd) (T : FF K C) (mli : mg "list" = none) : FnOk P w K mg base CX0 1 f fd ["self"] (spBodyM c C) := by
  refine F.ok sc_Function_body (fun vs H Q E h => by obtain ⟨a, m, rfl, _⟩ := h; rfl) (fun cdv A outer s H vs Q E hr h => ?_)
  obtain ⟨a, m, rfl, ⟨dx, p, xs, ea, ep, hD⟩, q⟩ := h
  refine ⟨_, PSs.nox (pss_one (ps_ret (pe_callTy call_list_of (by rfl) mli (by decide +kernel) (pa_cons (pe_fld (pv 0) rfl) pa_nil)))), ?_⟩
  exact ⟨_, rfl, a, C, dx, _, _, rfl, ea, T.t.cl, T.n6, rfl, p, xs, rfl, .inl (SqL.of ep), fun l nl => q l xs nl hD⟩
def spLenM (c : Cs) (C : Addr) : Sp := fun vs H Q _ => ∃ (a : Addr) (m : Fm), vs = [.ref a] ∧ FunAt c C H a m ∧ Q (.int m.body.length) H
theorem ok_len {c : Cs} {C : Addr} (F : Fun K "__len__" "Function.__len__" s_Function_len f fd) (T : FF K C) (ml : mg "len" = none) : FnOk P w K mg base CX0 1 f fd ["self"] (spLenM c C) := by
  refine F.ok sc_Function_len (fun vs H Q E h => by obtain ⟨a, m, rfl, _⟩ := h; rfl) (fun cdv A outer s H vs Q E hr h => ?_)
  obtain ⟨a, m, rfl, ⟨dx, p, xs, ea, ep, hD⟩, q⟩ := h
  refine ⟨_, PSs.nox (pss_one (ps_ret (pe_callB call_len_seq (by rfl) ml PySem.boot_len (pa_cons (pe_fld (pv 0) rfl) pa_nil)))), ?_⟩
  refine ⟨_, rfl, a, C, dx, _, _, rfl, ea, T.t.cl, T.n6, rfl, p, xs, rfl, .inl (SqL.of ep), ?_⟩
  rw [hD.1]
  exact q
/-- any thing's heading -/
def HeadAt (C : Addr) (H : Hp) (a : Addr) (k n o : Str) : Prop := ∃ dx fs, H a = some (.ins C dx fs) ∧ fs.lookup (Str.ofString "kind") = some (.str k) ∧ fs.lookup (Str.ofString "name") = some (.str n) ∧ fs.lookup (Str.ofString "owner") = some (.str o) ∧ fs.lookup (Str.ofString "_audience") = some .non
def spHead (K : PySem.W.Frag) : Sp := fun vs H Q _ => ∃ (a b C C' : Addr) (k n o k' n' o' : Str), vs = [.ref a, .ref b] ∧ TF K C ∧ TF K C' ∧ HeadAt C H a k n o ∧ HeadAt C' H b k' n' o' ∧ Q (.bl (decide (k = k') && (decide (n = n') && decide (o = o')))) H
theorem decS (x y : Str) : decide (V.str x = V.str y) = decide (x = y) := by
  rw [Bool.eq_iff_iff]
  simp
theorem ok_head (F : Fun K "same_head" "Thing.same_head" s_Thing_same_head f fd) : FnOk P w K mg base CX0 1 f fd ["self", "other"] (spHead K) := by
  refine F.ok sc_Thing_same_head (fun vs H Q E h => by obtain ⟨a, b, C, C', k, n, o, k', n', o', rfl, _⟩ := h; rfl) (fun cdv A outer s H vs Q E hr h => ?_)
  obtain ⟨a, b, C, C', k, n, o, k', n', o', rfl, T, T', ⟨dx, fs, ea, f1, f2, f3, f4⟩, ⟨dy, gs, eb, g1, g2, g3, g4⟩, q⟩ := h
  refine ⟨_, PSs.nox (pss_one (ps_ret (pe_and (pe_cmpR op_eq (pe_fld (pv 0) rfl) (pe_fld (pv 1) rfl) (by rfl)) (pe_and (pe_cmpR op_eq (pe_fld (pv 0) rfl) (pe_fld (pv 1) rfl) (by rfl)) (pe_and (pe_cmpR op_eq (pe_fld (pv 0) rfl) (pe_fld (pv 1) rfl) (by rfl)) (pe_one (pe_cmpR op_eq (pe_fld (pv 0) rfl) (pe_fld (pv 1) rfl) (by rfl)))))))), ?_⟩
  refine ⟨_, rfl, a, C, dx, fs, _, rfl, ea, T.cl, T.n1, f1, _, rfl, b, C', dy, gs, _, rfl, eb, T'.cl, T'.n1, g1, rfl, _, rfl, ?_⟩
  rw [decS]
  cases h1 : decide (k = k') with
  | false => rw [h1] at q; exact iteF q
  | true =>
    rw [h1] at q
    refine iteT ⟨_, rfl, a, C, dx, fs, _, rfl, ea, T.cl, T.n2, f2, _, rfl, b, C', dy, gs, _, rfl, eb, T'.cl, T'.n2, g2, rfl, _, rfl, ?_⟩
    rw [decS]
    cases h2 : decide (n = n') with
    | false => rw [h2] at q; exact iteF q
    | true =>
      rw [h2] at q
      refine iteT ⟨_, rfl, a, C, dx, fs, _, rfl, ea, T.cl, T.n3, f3, _, rfl, b, C', dy, gs, _, rfl, eb, T'.cl, T'.n3, g3, rfl, _, rfl, ?_⟩
      rw [decS]
      cases h3 : decide (o = o') with
      | false => rw [h3] at q; exact iteF q
      | true =>
        rw [h3] at q
        refine iteT ⟨_, rfl, a, C, dx, fs, _, rfl, ea, T.cl, T.n4, f4, _, rfl, b, C', dy, gs, _, rfl, eb, T'.cl, T'.n4, g4, rfl, ?_⟩
        show Q (.bl (decide (V.non = V.non))) H
        rw [decide_eq_true rfl]
        exact q
end
end K10
set_option maxHeartbeats 4000000
namespace K10
open PySem PySem.Spec PyProof.Rows L2 RL RE RN TL RQ RC
/-- two deeds at hand -/
def DDeed (c : Cs) : EqvB := fun x y H k => ∃ (a b : Addr) (d d' : Dm), x = .ref a ∧ y = .ref b ∧ DeedAt c H a d ∧ DeedAt c H b d' ∧ k = decide (d = d')
theorem deed_inj {c : Cs} {H : Hp} {a : Addr} {d d' : Dm} (h : DeedAt c H a d) (h' : DeedAt c H a d') : d = d' := by
  obtain ⟨dx, e⟩ := h
  obtain ⟨dy, e'⟩ := h'
  rw [e] at e'
  have e2 := Option.some.inj e'
  cases d with
  | call n =>
    cases d' with
    | call n' =>
      have e3 : (fieldsD (.call n)) = fieldsD (.call n') := by injection e2
      simp only [fieldsD, List.cons.injEq, Prod.mk.injEq, V.str.injEq] at e3
      rw [e3.1.2]
    | give wd t k o =>
      have e3 : (fieldsD (.call n)) = fieldsD (.give wd t k o) := by injection e2
      simp [fieldsD] at e3
  | give wd t k o =>
    cases d' with
    | call n' =>
      have e3 : (fieldsD (.give wd t k o)) = fieldsD (.call n') := by injection e2
      simp [fieldsD] at e3
    | give w' t' k' o' =>
      have e3 : (fieldsD (.give wd t k o)) = fieldsD (.give w' t' k' o') := by injection e2
      simp only [fieldsD, List.cons.injEq, Prod.mk.injEq, V.str.injEq, V.bl.injEq, true_and, and_true] at e3
      obtain ⟨h1, h2, h3, h4⟩ := e3
      rw [h1, h2, h3, h4]
theorem mon_deed {c : Cs} : MonB (DDeed c) := fun x y H H' k e d => by
  obtain ⟨a, b, d, d', hx, hy, ⟨dx, h1⟩, ⟨dy, h2⟩, hk⟩ := d
  exact ⟨a, b, d, d', hx, hy, ⟨dx, e _ _ h1⟩, ⟨dy, e _ _ h2⟩, hk⟩
/-- what == of deeds needs -/
structure DE (P : Program) (w : World) (K : PySem.W.Frag) (mg : Str → Option Value) (base : Heap) (c : Cs) : Prop where
  C : ∃ (f : Addr) (fd : FuncData), FnOk P w K mg base CX0 1 f fd ["self", "other"] (spEqB (RDC c)) ∧ PySem.W.findIn K (.ref c.call) "__eq__" = some (some (.ref f)) ∧ PySem.W.isFn K (.ref f) = true ∧ Binds K fd ["self", "other"] []
  G : ∃ (f : Addr) (fd : FuncData), FnOk P w K mg base CX0 1 f fd ["self", "other"] (spEqB (RDG c)) ∧ PySem.W.findIn K (.ref c.give) "__eq__" = some (some (.ref f)) ∧ PySem.W.isFn K (.ref f) = true ∧ Binds K fd ["self", "other"] []
  nf : ∀ d d' : Dm, PySem.W.notFirst K (clsD c d) (.ref (clsD c d')) = true
theorem rcB_deed {X : Cx} {c : Cs} (D : DE X.prog X.w X.K X.mg X.base c) : RcB X 1 (DDeed c) := by
  intro A pins s σ H x y u v k sb I rx ry h
  obtain ⟨a, b, d, d', rfl, rfl, ⟨dx, ea⟩, ⟨dy, eb⟩, rfl⟩ := h
  obtain ⟨f1, fd1, F1, s1, i1, b1⟩ := D.C
  obtain ⟨f2, fd2, F2, s2, i2, b2⟩ := D.G
  cases d with
  | call n => exact rcB_ins F1 s1 i1 b1 pass0 A pins s σ H _ _ u v _ sb I rx ry ⟨a, b, dx, dy, _, _, clsD c d', rfl, rfl, ea, eb, D.nf (.call n) d', n, d', b, ⟨dx, ea⟩, rfl, ⟨dy, eb⟩, rfl⟩
  | give wd t kk o => exact rcB_ins F2 s2 i2 b2 pass0 A pins s σ H _ _ u v _ sb I rx ry ⟨a, b, dx, dy, _, _, clsD c d', rfl, rfl, ea, eb, D.nf (.give wd t kk o) d', wd, t, kk, o, d', b, ⟨dx, ea⟩, rfl, ⟨dy, eb⟩, rfl⟩
theorem eqB_deed {X : Cx} {c : Cs} (D : DE X.prog X.w X.K X.mg X.base c) : EqB X 1 (DDeed c) :=
  (rcB_deed D).eqB (fun x y H k ⟨a, b, _, _, hx, hy, _⟩ => ⟨a, b, hx, hy⟩) (fun x H k ⟨a, b, d, d', hx, hy, h1, h2, hk⟩ => by
    subst hx
    cases hy
    rw [hk, deed_inj h1 h2]
    exact decide_eq_true rfl)
theorem zip_all : ∀ (ds ds' : List Dm), ds.length = ds'.length → (List.zipWith (fun d d' => decide (d = d')) ds ds').all id = decide (ds = ds')
  | [], [], _ => rfl
  | d :: ds, d' :: ds', h => by
    have ih := zip_all ds ds' (by simpa using h)
    rw [List.zipWith_cons_cons, List.all_cons, ih]
    rw [Bool.eq_iff_iff]
    simp
/-- two lists of deeds -/
theorem list_deeds {c : Cs} {H : Hp} {p q : Addr} {xs ys : List V} {ds ds' : List Dm} (h1 : H p = some (.lst xs)) (h2 : H q = some (.lst ys)) (d1 : Deeds c H xs ds) (d2 : Deeds c H ys ds') : DListB (DDeed c) (.ref p) (.ref q) H (decide (ds = ds')) := by
  refine ⟨p, q, xs, ys, rfl, rfl, h1, h2, ?_⟩
  by_cases hl : xs.length = ys.length
  · refine .inr ⟨List.zipWith (fun d d' => decide (d = d')) ds ds', hl, ?_, ?_, ?_⟩
    · rw [List.length_zipWith, ← d1.1, ← d2.1, hl, Nat.min_self]
    · intro i x y d g1 g2 g3
      have q1 : i < ds.length := by rw [← d1.1]; exact (List.getElem?_eq_some_iff.mp g1).1
      have q2 : i < ds'.length := by rw [← d2.1]; exact (List.getElem?_eq_some_iff.mp g2).1
      obtain ⟨a, rfl, ea⟩ := d1.2 i x _ g1 (List.getElem?_eq_getElem q1)
      obtain ⟨b, rfl, eb⟩ := d2.2 i y _ g2 (List.getElem?_eq_getElem q2)
      refine ⟨a, b, _, _, rfl, rfl, ea, eb, ?_⟩
      rw [List.getElem?_zipWith, List.getElem?_eq_getElem q1, List.getElem?_eq_getElem q2] at g3
      exact (Option.some.inj g3).symm
    · exact (zip_all ds ds' (by rw [← d1.1, ← d2.1]; exact hl)).symm
  · refine .inl ⟨hl, decide_eq_false fun e => hl ?_⟩
    rw [d1.1, d2.1, e]
end K10
set_option maxHeartbeats 4000000
namespace K10
open PySem PySem.Spec PyProof.Rows L2 RL RE RN TL RQ RC
/-- how a function and another thing compare: another function, or an instance of a class that is none -/
def RF (K : PySem.W.Frag) (c : Cs) (C : Addr) : Addr → V → Hp → Bool → Prop := fun a y H k => ∃ (m : Fm) (b : Addr), FunAt c C H a m ∧ y = .ref b ∧
  ((∃ m', FunAt c C H b m' ∧ k = decide (m = m')) ∨ (∃ (C' dy : Addr) (gs : List (Str × V)), H b = some (.ins C' dy gs) ∧ TyC K C' ∧ PySem.W.kitOne K (.ref C') (.ref C) = some false ∧ k = false))
section
variable {P : Program} {w : World} {K : PySem.W.Frag} {mg : Str → Option Value} {base : Heap} {f : Addr} {fd : FuncData}
theorem ok_FunE {c : Cs} {C fH : Addr} {fdH : FuncData} (F : Fun K "__eq__" "Function.__eq__" s_Function_eq f fd) (D : DE P w K mg base c) (T : FF K C) (TC : TyC K C) (gC : mg "Function" = some (.ref C)) (cc : PySem.W.kitOne K (.ref C) (.ref C) = some true) (mi : mg "isinstance" = none)
    (M : Meth K C "same_head" fH) (FH : FnOk P w K mg base CX0 1 fH fdH ["self", "other"] (spHead K)) (bH : Binds K fdH ["self", "other"] []) : FnOk P w K mg base CX0 3 f fd ["self", "other"] (spEqB (RF K c C)) := by
  refine F.ok sc_Function_eq spEqB_len (fun cdv A outer s H vs Q E hr h => ?_)
  obtain ⟨a, y, k, rfl, ⟨m, b, ⟨dx, p, xs, ea, ep, hD⟩, rfl, hk⟩, q⟩ := h
  refine ⟨_, PSs.nox (pss_one (ps_ret (pe_and (pe_callB call_isi (by rfl) mi boot_isinstance (pa_cons (pv 1) (pa_cons (pe_glob (v := .ref C) (by rfl) gC rfl) pa_nil)))
    (pe_and (pe_meth (pv 0) T.t.cl M FH (hr.mono (by decide)) bH .nil pass0 (pa_cons (pv 1) pa_nil)) (pe_and (pe_cmpR op_eq (pe_fld (pv 0) rfl) (pe_fld (pv 1) rfl) (by rfl)) (pe_one (pe_cmpR (op_eqB (rcB_list mon_deed (eqB_deed D)) hr) (pe_fld (pv 0) rfl) (pe_fld (pv 1) rfl) (by rfl)))))))), ?_⟩
  rcases hk with ⟨m', ⟨dy, p', ys, eb, ep', hD'⟩, rfl⟩ | ⟨C', dy, gs, eb, tc, kf, rfl⟩
  · refine ⟨_, rfl, .ref b, .ref C, .ref C, .ref C, _, rfl, .own _, TC.ty eb, cc, _, rfl, ?_⟩
    refine iteT ⟨_, rfl, a, dx, _, rfl, ea, rfl, _, rfl, a, b, C, C, _, m.name, m.owner, _, m'.name, m'.owner, rfl, T.t, T.t, ⟨dx, _, ea, rfl, rfl, rfl, rfl⟩, ⟨dy, _, eb, rfl, rfl, rfl, rfl⟩, _, rfl, ?_⟩
    rw [decide_eq_true (rfl : Str.ofString "function" = Str.ofString "function"), Bool.true_and]
    have em : decide (m = m') = (decide (m.name = m'.name) && (decide (m.owner = m'.owner) && (decide (m.mode = m'.mode) && decide (m.body = m'.body)))) := by
      cases m
      cases m'
      rw [Bool.eq_iff_iff]
      simp
    rw [em] at q
    cases h1 : decide (m.name = m'.name) with
    | false => rw [h1] at q; exact iteF (q H Ext.rfl')
    | true =>
      rw [h1] at q
      cases h2 : decide (m.owner = m'.owner) with
      | false => rw [h2] at q; exact iteF (q H Ext.rfl')
      | true =>
        rw [h2] at q
        refine iteT ⟨_, rfl, a, C, dx, _, _, rfl, ea, T.t.cl, T.n5, rfl, _, rfl, b, C, dy, _, _, rfl, eb, T.t.cl, T.n5, rfl, rfl, _, rfl, ?_⟩
        rw [decS]
        cases h3 : decide (m.mode = m'.mode) with
        | false => rw [h3] at q; exact iteF (q H Ext.rfl')
        | true =>
          rw [h3] at q
          exact iteT ⟨_, rfl, a, C, dx, _, _, rfl, ea, T.t.cl, T.n6, rfl, _, rfl, b, C, dy, _, _, rfl, eb, T.t.cl, T.n6, rfl, _, list_deeds ep ep' hD hD', fun H' x => q H' x⟩
  · refine ⟨_, rfl, .ref b, .ref C, .ref C', .ref C, _, rfl, .own _, tc.ty eb, kf, _, rfl, ?_⟩
    exact iteF (q H Ext.rfl')
end
end K10
set_option maxHeartbeats 4000000
namespace K10
open PySem PySem.Spec PyProof.Rows L2 RL RE RN RM TL
section
variable {P : Program} {w : World} {K : PySem.W.Frag} {mg : Str → Option Value} {base : Heap}
/-! ### cells and boxes -/
def spCell (K : PySem.W.Frag) : Sp := fun vs H Q _ => ∃ (a : Addr) (ns : List Int) (k : Nat), vs = [.ref a, .int k] ∧ SqL K H a (ns.map V.int) ∧ k < 1000 ∧ ns.length < 1000 ∧ ∀ v : Int, Q (.int v) H
theorem ok_cell {f : Addr} {fd : FuncData} (F : Fun K "_law_cell" "_law_cell" s__law_cell f fd) (ml : mg "len" = none) : FnOk P w K mg base CX0 1 f fd ["_law_script", "_law_k"] (spCell K) := by
  refine F.ok sc__law_cell (fun vs H Q E h => ?_) (fun cdv A outer s H vs Q E hr h => ?_)
  · obtain ⟨a, ns, k, rfl, _⟩ := h
    rfl
  · obtain ⟨a, ns, k, rfl, hS, hk, hl, q⟩ := h
    refine ⟨_, pss_one (ps_ret (pe_ifExp (pt_cmpR op_lt (pv 1) (pe_callB call_len_seq (by rfl) ml PySem.boot_len (pa_cons (pv 0) pa_nil)) (nomark _)) (pe_ix ix_list (pv 0) (pv 1) (fun _ _ => rfl)) (pe_op op_add (pe_op op_mul pe_int (pv 1)) pe_int))), ?_⟩
    refine ⟨_, rfl, .ref a, rfl, a, ns.map V.int, rfl, .inl hS, (k : Int), _, rfl, rfl, _, rfl, ?_⟩
    refine ite2 (fun e => ?_) (fun e => ?_)
    · have h1 := of_decide_eq_true e
      rw [List.length_map] at h1
      have h2 : k < ns.length := by omega
      refine ⟨_, rfl, _, rfl, a, _, (k : Int), .int ns[k], rfl, rfl, hS, ?_, q _⟩
      exact atI_nat (by rw [List.getElem?_map, List.getElem?_eq_getElem h2]; rfl)
    · exact ⟨_, rfl, 7431, (k : Int), rfl, rfl, .inl ⟨by decide, by decide⟩, 7431 * (k : Int), 381, rfl, rfl, q _⟩
def Bx (H : Hp) (b : Addr) (n : Int) : Prop := ∃ g m k : Int, H b = some (.lst [.int g, .int m, .int k]) ∧ 0 ≤ g ∧ 0 ≤ m ∧ m < 2147483629 ∧ 0 ≤ k ∧ k ≤ n
theorem Bx.mono {H : Hp} {b : Addr} {n n' : Int} (h : Bx H b n) (hn : n ≤ n') : Bx H b n' := by
  obtain ⟨g, m, k, e, h1, h2, h3, h4, h5⟩ := h
  exact ⟨g, m, k, e, h1, h2, h3, h4, by omega⟩
theorem Bx.same {H H' : Hp} {b : Addr} {n : Int} (h : Bx H b n) (s : Same H H') : Bx H' b n := by
  obtain ⟨g, m, k, e, r⟩ := h
  exact ⟨g, m, k, s _ _ e, r⟩
def spBox : Sp := fun vs H Q _ => ∃ v : Int, vs = [.int v] ∧ ∀ p H', H p = none → Same H H' → Bx H' p 0 → Q (.ref p) H'
theorem ok_box {f : Addr} {fd : FuncData} (F : Fun K "_law_box" "_law_box" s__law_box f fd) (mm : mg "max" = none) : FnOk P w K mg base CX0 1 f fd ["_law_cell_here"] spBox := by
  refine F.ok sc__law_box (fun vs H Q E h => ?_) (fun cdv A outer s H vs Q E hr h => ?_)
  · obtain ⟨v, rfl, _⟩ := h
    rfl
  · obtain ⟨v, rfl, q⟩ := h
    refine ⟨_, pss_one (ps_ret (pe_lst (pa_cons (pe_callB (call_max2 rfl) (by rfl) mm PyProof.Rows.boot_max (pa_cons pe_int (pa_cons (pe_op op_sub (pv 0) (pe_op op_pow pe_int pe_int)) pa_nil))) (pa_cons (pe_op op_mod (pv 0) pe_int) (pa_cons pe_int pa_nil))))), ?_⟩
    refine ⟨_, rfl, 10, 18, rfl, rfl, ⟨by decide, by decide, by decide⟩, v, _, rfl, rfl, 0, _, rfl, ?_⟩
    refine ⟨_, rfl, v, 2147483629, rfl, rfl, by show (0 : Int) < 2147483629; decide, ?_⟩
    refine ⟨by show 3 ≤ sizeLine; decide, fun p np => ?_⟩
    refine q p _ np (same_upd np) ⟨_, _, 0, upd_same, ?_, Int.emod_nonneg _ (by decide), Int.emod_lt_of_pos _ (by decide), by decide, by decide⟩
    split <;> omega
/-! ### a draw -/
def spTake : Sp := fun vs H Q _ => ∃ (b : Addr) (q : Int) (n : Int), vs = [.ref b, .int q] ∧ 1 ≤ q ∧ q ≤ 1000000 ∧ 0 ≤ n ∧ n ≤ 100000 ∧ Bx H b n ∧ ∀ d H', 0 ≤ d → d < q → Keep b H H' → Bx H' b (n + 1) → Q (.int d) H'
theorem ok_take {f : Addr} {fd : FuncData} (F : Fun K "_law_take" "_law_take" s__law_take f fd) : FnOk P w K mg base CX0 1 f fd ["_law_box_here", "_law_many"] spTake := by
  refine F.ok sc__law_take (fun vs H Q E h => ?_) (fun cdv A outer s H vs Q E hr h => ?_)
  · obtain ⟨b, q, n, rfl, _⟩ := h
    rfl
  · obtain ⟨b, m, n, rfl, m1, m2, n1, n2, ⟨g, x, k, eb, g0, x0, x1, k0, k1⟩, q⟩ := h
    refine ⟨_, pss_cons (ps_if (pt_cmpR op_gt (pe_ix ix_list (pv 0) pe_int (fun _ _ => rfl)) pe_int (nomark _))
        (pss_cons (ps_set (i := 2) sc__law_take.nd rfl (.inl rfl) (pe_op op_mod (pe_ix ix_list (pv 0) pe_int (fun _ _ => rfl)) (pv 1)))
        (pss_cons (ps_asg (pe_op op_fdiv (pe_ix ix_list (pv 0) pe_int (fun _ _ => rfl)) (pv 1)) (pg_sub (pv 0) pe_int set_list))
        (pss_one (ps_ret (pv 2))))) pss_nil)
      (pss_cons (ps_asg (pe_op op_add (pe_ix ix_list (pv 0) pe_int (fun _ _ => rfl)) pe_int) (pg_sub (pv 0) pe_int set_list))
      (pss_cons (ps_set (i := 3) sc__law_take.nd rfl (.inl rfl) (pe_op op_mod (pe_op op_pow (pe_op op_add (pe_op op_add (pe_ix ix_list (pv 0) pe_int (fun _ _ => rfl)) (pe_op op_mul pe_int (pe_ix ix_list (pv 0) pe_int (fun _ _ => rfl)))) pe_int) pe_int) pe_int))
      (pss_cons (ps_set (i := 3) sc__law_take.nd rfl (.inl rfl) (pe_op op_mod (pe_op op_pow (pe_op op_add (pv 3) (pe_op op_mul pe_int (pe_ix ix_list (pv 0) pe_int (fun _ _ => rfl)))) pe_int) pe_int))
      (pss_one (ps_ret (pe_op op_mod (pe_op op_fdiv (pv 3) pe_int) (pv 1))))))), ?_⟩
    have L : SqL K H b [.int g, .int x, .int k] := SqL.of eb
    refine ⟨_, rfl, b, _, 0, .int g, rfl, rfl, L, atI_nat (j := 0) rfl, g, 0, rfl, rfl, _, rfl, ite2 (fun e => ?_) (fun e => ?_)⟩
    · have hg := of_decide_eq_true e
      refine ⟨_, rfl, b, _, 0, .int g, rfl, rfl, L, atI_nat (j := 0) rfl, _, rfl, g, m, rfl, rfl, by show 0 < m; omega, ?_⟩
      refine ⟨_, rfl, b, _, 0, .int g, rfl, rfl, L, atI_nat (j := 0) rfl, _, rfl, g, m, rfl, rfl, ⟨by omega, by omega⟩, ?_⟩
      refine ⟨_, rfl, b, _, _, 0, rfl, rfl, eb, rfl, ?_⟩
      refine ⟨_, rfl, q _ _ (Int.emod_nonneg _ (by omega)) (Int.emod_lt_of_pos _ (by omega)) Keep.upd ⟨g / m, x, k, upd_same, Int.ediv_nonneg (by omega) (by omega), x0, x1, k0, by omega⟩⟩
    · refine ⟨_, rfl, b, _, 2, .int k, rfl, rfl, L, atI_nat (j := 2) rfl, k, 1, rfl, rfl, ?_⟩
      refine ⟨_, rfl, b, _, _, 2, rfl, rfl, eb, rfl, ?_⟩
      have L2 : SqL K (upd H b (.lst [.int g, .int x, .int (k + 1)])) b [.int g, .int x, .int (k + 1)] := SqL.of upd_same
      refine ⟨_, rfl, b, _, 1, .int x, rfl, rfl, L2, atI_nat (j := 1) rfl, _, rfl, b, _, 2, .int (k + 1), rfl, rfl, L2, atI_nat (j := 2) rfl, 6347, k + 1, rfl, rfl, .inl ⟨by decide, by decide⟩, x, _, rfl, rfl, _, 511, rfl, rfl, _, 5, rfl, rfl, ⟨by decide, by decide, by omega⟩, _, 2147483647, rfl, rfl, by show (0 : Int) < 2147483647; decide, ?_⟩
      have b0 := Int.emod_nonneg ((x + 6347 * (k + 1) + 511) ^ (5 : Int).toNat) (show (2147483647 : Int) ≠ 0 by decide)
      have b1 := Int.emod_lt_of_pos ((x + 6347 * (k + 1) + 511) ^ (5 : Int).toNat) (show (0 : Int) < 2147483647 by decide)
      generalize hy : (x + 6347 * (k + 1) + 511) ^ (5 : Int).toNat % 2147483647 = y at b0 b1
      refine ⟨_, rfl, _, rfl, b, _, 2, .int (k + 1), rfl, rfl, L2, atI_nat (j := 2) rfl, 104729, k + 1, rfl, rfl, .inl ⟨by decide, by decide⟩, y, _, by show V.int (_ % _) = _; rw [hy], rfl, _, 3, rfl, rfl, ⟨by decide, by decide, by omega⟩, _, 2147483587, rfl, rfl, by show (0 : Int) < 2147483587; decide, ?_⟩
      refine ⟨_, rfl, _, 16, rfl, rfl, ⟨by decide, by decide⟩, _, rfl, _, m, rfl, rfl, by show 0 < m; omega, ?_⟩
      exact q _ _ (Int.emod_nonneg _ (by omega)) (Int.emod_lt_of_pos _ (by omega)) Keep.upd ⟨g, x, k + 1, upd_same, g0, x0, x1, by omega, by omega⟩
end
end K10
set_option maxHeartbeats 4000000
namespace K10
open PySem PySem.Spec PyProof.Rows L2 RL RE RN RM TL
/-- all signs of a text are such -/
def okP (p : Nat → Bool) (z : Str) : Prop := ∀ x ∈ tl z, p x = true
def stemC (x : Nat) : Bool := lowC x && decide (x ≠ 108)
theorem okP_joinL {p : Nat → Bool} {S : List Nat} (hS : ∀ x ∈ S, p x = true) : ∀ ps : List (List Nat), (∀ q ∈ ps, ∀ x ∈ q, p x = true) → ∀ x ∈ joinL S ps, p x = true
  | [], _, x, h => by cases h
  | [q], hp, x, h => hp q (List.mem_cons_self ..) x h
  | q :: r :: t, hp, x, h => by
    have h : x ∈ q ++ (S ++ joinL S (r :: t)) := h
    rcases List.mem_append.mp h with h | h
    · exact hp q (List.mem_cons_self ..) x h
    · rcases List.mem_append.mp h with h | h
      · exact hS x h
      · exact okP_joinL hS (r :: t) (fun z hz => hp z (List.mem_cons_of_mem _ hz)) x h
theorem okP_join {p : Nat → Bool} {ys : List Str} (hy : ∀ y ∈ ys, okP p y) : okP p (Txt.join (Str.ofString "") ys) := by
  unfold okP
  rw [join_eq, tl_join]
  refine okP_joinL (fun x h => (by cases h)) _ fun q hq => ?_
  obtain ⟨y, h, rfl⟩ := List.mem_map.mp hq
  exact hy y h
theorem joinL_len : ∀ ps : List (List Nat), (∀ q ∈ ps, q.length = 1) → (joinL [] ps).length = ps.length
  | [], _ => rfl
  | [q], h => h q (List.mem_cons_self ..)
  | q :: r :: t, h => by
    have e : joinL [] (q :: r :: t) = q ++ ([] ++ joinL [] (r :: t)) := rfl
    rw [e, List.length_append, List.nil_append, joinL_len (r :: t) fun z hz => h z (List.mem_cons_of_mem _ hz), h q (List.mem_cons_self ..), List.length_cons, List.length_cons, List.length_cons]
    omega
theorem join1_len {ys : List Str} (h : ∀ y ∈ ys, y.length = 1) : (Txt.join (Str.ofString "") ys).length = ys.length := by
  rw [len_tl, join_eq, tl_join]
  show (joinL [] _).length = _
  rw [joinL_len _ (fun q hq => by obtain ⟨y, hy, rfl⟩ := List.mem_map.mp hq; rw [← len_tl]; exact h y hy), List.length_map]
theorem cut_okP {p : Nat → Bool} {z : Str} (h : okP p z) (a b : Option Int) : okP p (cutS z a b) := by
  intro x hx
  unfold cutS tl at hx
  have hx : x ∈ List.take _ (List.drop _ z.cps.toList) := hx
  exact h x (List.mem_of_mem_drop (List.mem_of_mem_take hx))
theorem app_okP {p : Nat → Bool} {x y : Str} (hx : okP p x) (hy : okP p y) : okP p (x ++ y) := by
  intro c hc
  have hc : c ∈ (x.cps ++ y.cps).toList := hc
  rw [Array.toList_append] at hc
  exact (List.mem_append.mp hc).elim (hx c) (hy c)
theorem okP.imp {p q : Nat → Bool} {z : Str} (h : okP p z) (i : ∀ x, p x = true → q x = true) : okP q z := fun x hx => i x (h x hx)
theorem stem_low {z : Str} (h : okP stemC z) : okP lowC z := h.imp fun x e => (Bool.and_eq_true_iff.mp e).1
theorem cut_two (z : Str) {a : Int} (ha : 0 ≤ a) : (cutS z none (some a)).length + (cutS z (some a) none).length = z.length := by
  unfold cutS
  have e1 : HT.sIx z.length 0 (some a) = min a.toNat z.length := by
    show (if a < 0 then _ else _) = _
    rw [if_neg (by omega)]
  have e2 : HT.sIx z.length z.length (some a) = min a.toNat z.length := by
    show (if a < 0 then _ else _) = _
    rw [if_neg (by omega)]
  rw [e1, e2]
  show (List.toArray _).size + (List.toArray _).size = _
  have e3 : HT.sIx z.length 0 none = 0 := rfl
  have e4 : HT.sIx z.length z.length none = z.length := rfl
  rw [e3, e4, List.size_toArray, List.size_toArray, List.length_take, List.length_drop, List.length_take, List.length_drop]
  have : z.cps.toList.length = z.length := Array.length_toList
  omega
/-- a name by its signs -/
theorem name_of {z : Str} (h1 : 1 ≤ z.length) (h8 : z.length ≤ 8) (hl : okP lowC z) (p : z ≠ tPub) (c : z ≠ tCal) : nameT z = true := by
  unfold nameT
  rw [decide_eq_true h1, decide_eq_true h8, List.all_eq_true.mpr hl, beq_eq_false_iff_ne.mpr p, beq_eq_false_iff_ne.mpr c]
  rfl
/-- one letter ahead of a text without l -/
theorem tail_ne {c : Nat} {z : Str} (h : okP stemC z) : (⟨#[c]⟩ : Str) ++ z ≠ tPub ∧ (⟨#[c]⟩ : Str) ++ z ≠ tCal := by
  have e : tl ((⟨#[c]⟩ : Str) ++ z) = c :: tl z := by
    show (#[c] ++ z.cps).toList = _
    rw [Array.toList_append]
    rfl
  have key : ∀ w : Str, 108 ∈ (tl w).tail → (⟨#[c]⟩ : Str) ++ z ≠ w := fun w hw q => by
    rw [← q, e] at hw
    have := h 108 hw
    revert this
    decide
  exact ⟨key _ (by decide +kernel), key _ (by decide +kernel)⟩
theorem txt_low {z : Str} (h : z.length ≤ 8) (hl : okP lowC z) : txt z := ⟨by omega, fun x hx => by
  have := hl x hx
  simp only [lowC, Bool.and_eq_true, decide_eq_true_eq] at this
  omega⟩
end K10
set_option maxHeartbeats 4000000
namespace K10
open PySem PySem.Spec PyProof.Rows L2 RL RE RN RM TL
theorem cut_len (z : Str) (a b : Option Int) : (cutS z a b).length ≤ z.length := by
  unfold cutS
  show (List.toArray _).size ≤ z.cps.size
  rw [List.size_toArray, List.length_take, List.length_drop]
  have : z.cps.toList.length = z.cps.size := Array.length_toList
  omega
theorem app_len (x y : Str) : (x ++ y).length = x.length + y.length := Array.size_append
theorem sz {n : Nat} (h : n ≤ 1000) : n ≤ sizeLine := Nat.le_trans h (by decide)
abbrev stems : Str := Str.ofString "abcdefghijkmnopqrstuvwxyz"
abbrev letters : Str := Str.ofString "abcdefghijklmnopqrstuvwxyz"
theorem stems_len : stems.cps.toList.length = 25 := by decide +kernel
theorem letters_len : letters.cps.toList.length = 26 := by decide +kernel
theorem stems_ok : ∀ x ∈ stems.cps.toList, stemC x = true := by
  have h : (stems.cps.toList.all stemC) = true := by decide +kernel
  exact fun x hx => List.all_eq_true.mp h x hx
theorem letters_ok : ∀ x ∈ letters.cps.toList, lowC x = true := by
  have h : (letters.cps.toList.all lowC) = true := by decide +kernel
  exact fun x hx => List.all_eq_true.mp h x hx
theorem okP_one {p : Nat → Bool} {c : Nat} (h : p c = true) : okP p ⟨#[c]⟩ := fun x hx => by
  have : x = c := by simpa [tl] using hx
  rw [this]; exact h
theorem sum1 {ys : List Str} (h1 : ∀ y ∈ ys, y.length = 1) : (ys.map (·.length)).sum = ys.length := by
  induction ys with
  | nil => rfl
  | cons a r ih =>
    rw [List.map_cons, List.sum_cons, h1 a (List.mem_cons_self ..), ih fun y hy => h1 y (List.mem_cons_of_mem _ hy), List.length_cons, Nat.add_comm]
theorem atI_int {α : Type} {xs : List α} {i : Int} {v : α} (h0 : 0 ≤ i) (h : xs[i.toNat]? = some v) : atI xs i = some v := by
  have e : i = ((i.toNat : Nat) : Int) := by omega
  generalize i.toNat = j at e h
  subst e
  exact atI_nat h
section
variable {P : Program} {w : World} {K : PySem.W.Frag} {mg : Str → Option Value} {base : Heap} {f : Addr} {fd : FuncData}
def spNames : Sp := fun vs H Q _ => ∃ (b : Addr) (n : Int), vs = [.ref b, .int 6] ∧ 0 ≤ n ∧ n ≤ 90000 ∧ Bx H b n ∧ ∀ (p : Addr) (ys : List Str) H', ys.length = 6 → (∀ y ∈ ys, nameT y = true ∧ txt y) → H p = none → H' p = some (.lst (ys.map V.str)) → Keep b H H' → Bx H' b (n + 9) → Q (.ref p) H'
theorem ok_names (F : Fun K "_law_names" "_law_names" s__law_names f fd) (GT : Df P w K mg base CX0 1 "_law_take" ["_law_box_here", "_law_many"] spTake) (mr : mg "range" = none) : FnOk P w K mg base CX0 2 f fd ["_law_box_here", "_law_many"] spNames := by
  refine F.ok sc__law_names (fun vs H Q E h => by obtain ⟨b, n, rfl, _⟩ := h; rfl) (fun cdv A outer s H vs Q E hr h => ?_)
  obtain ⟨b, n, rfl, n0, n1, hb, q⟩ := h
  refine ⟨_, PSs.nox (pss_cons (ps_asg (pe_tup (pa_cons pe_str (pa_cons pe_str pa_nil))) (pg_tup (by rfl) (pgs_cons (pg_name (i := 2) sc__law_names.nd rfl (.inl rfl)) (pgs_cons (pg_name (i := 3) sc__law_names.nd rfl (.inr rfl)) pgs_nil))))
    (pss_cons (ps_par3 (i := 4) (j := 5) (l := 6) rfl sc__law_names.nd rfl rfl rfl (by decide) (by decide) (by decide) rfl rfl rfl (pa_cons (pe_df0 GT hr (by rfl) (pa_cons (pv 0) (pa_cons pe_int pa_nil))) (pa_cons (pe_df0 GT hr (by rfl) (pa_cons (pv 0) (pa_cons pe_int pa_nil))) (pa_cons (pe_df0 GT hr (by rfl) (pa_cons (pv 0) (pa_cons pe_int pa_nil))) pa_nil))) (by rfl))
    (pss_cons (ps_set (i := 7) sc__law_names.nd rfl (.inl rfl) (pe_join pe_str (pe_lc (own := [("_law_k", 11)]) (g := gName 11) (by rfl) sc__law_names.nd (pi_range1 (by rfl) mr (pa_cons pe_int pa_nil))
          (blkOk_by (own := [("_law_k", 11)]) (N := N__law_names) (sc := defScope s__law_names) (by decide +kernel)) (fun _ _ _ _ _ => pg_name (i := 11) sc__law_names.nd rfl (Or.inl rfl)) (fun _ _ _ _ _ => pts_nil)
          (fun _ _ _ _ _ => pe_ix ix_str (pv 3) (pe_df0 GT hr (by rfl) (pa_cons (pv 0) (pa_cons pe_int pa_nil))) (fun _ _ => rfl)))))
    (pss_cons (ps_set (i := 8) sc__law_names.nd rfl (.inl rfl) (pe_lst pa_nil))
    (pss_cons (ps_for PassesOwn.never rfl (pi_range1 (by rfl) mr (pa_cons (pv 1) pa_nil)) (pg_name (i := 11) sc__law_names.nd rfl (Or.inl rfl))
      (pss_cons (ps_set (i := 9) sc__law_names.nd rfl (.inl rfl) (pe_ix ix_str (pv 2) (pe_op op_mod (pe_op op_add (pv 5) (pe_op op_mul pe_int (pv 11))) pe_int) (fun _ _ => rfl)))
      (pss_cons (ps_set (i := 10) sc__law_names.nd rfl (.inl rfl) (pe_ix ix_str (pv 2) (pe_op op_mod (pe_op op_add (pv 5) (pe_op op_fdiv (pv 11) pe_int)) pe_int) (fun _ _ => rfl)))
      (pss_one (ps_expr (pe_bm PySem.F.plainAttrs_list PySem.F.slot_list_append PySem.F.type_list_append mt_append (pv 8)
        (pa_cons (pe_ix ix_list (pe_lst (pa_cons (pe_op op_add_str (pe_op op_add_str (pe_slice sl_str (pv 7) po_none (po_some (pv 6))) (pv 9)) (pe_slice sl_str (pv 7) (po_some (pv 6)) po_none))
          (pa_cons (pe_op op_add_str (pv 9) (pe_slice sl_str (pv 7) po_none (po_some (pe_op op_mod (pv 11) pe_int))))
          (pa_cons (pe_op op_add_str (pv 10) (pe_slice sl_str (pv 7) po_none (po_some (pe_op op_mod (pv 11) pe_int)))) pa_nil)))) (pv 4) (fun _ _ => rfl)) pa_nil)))))))
    (pss_one (ps_ret (pv 8)))))))), ?_⟩
  refine ⟨by show 2 ≤ sizeLine; decide, fun T nT => ?_⟩
  refine ⟨T, _, rfl, .inl (.inl upd_same), rfl, _, _, rfl, _, _, rfl, rfl, ?_⟩
  have hb := hb.same (same_upd (o := .tup [.str (Str.ofString "abcdefghijklmnopqrstuvwxyz"), .str (Str.ofString "abcdefghijkmnopqrstuvwxyz")]) nT)
  have s0 := same_upd (H := H) (o := .tup [.str (Str.ofString "abcdefghijklmnopqrstuvwxyz"), .str (Str.ofString "abcdefghijkmnopqrstuvwxyz")]) nT
  generalize upd H T (.tup [.str (Str.ofString "abcdefghijklmnopqrstuvwxyz"), .str (Str.ofString "abcdefghijkmnopqrstuvwxyz")]) = H0 at hb s0
  refine ⟨_, rfl, b, 3, n, rfl, by decide, by decide, n0, by omega, hb, fun way H1 w0 w1 k1 hb1 => ?_⟩
  refine ⟨_, rfl, b, 26, n + 1, rfl, by decide, by decide, by omega, by omega, hb1, fun first H2 f0 f1 k2 hb2 => ?_⟩
  refine ⟨_, rfl, b, 7, n + 1 + 1, rfl, by decide, by decide, by omega, by omega, hb2, fun at_ H3 a0 a1 k3 hb3 => ?_⟩
  refine ⟨_, _, _, rfl, ?_⟩
  refine ⟨⟨_, rfl⟩, 6, rfl, by decide, by decide, fun D nD => ?_⟩
  have nDb : D ≠ b := fun e => by
    obtain ⟨g0, m0, c0, eb1, hb1r⟩ := id hb3
    rw [e, eb1] at nD
    cases nD
  refine lc_range (lo := 0) (n := 6) (fun i H' => ∃ ys : List Str, H' D = some (.lst (ys.map V.str)) ∧ ys.length = i ∧ (∀ y ∈ ys, y.length = 1) ∧ (∀ y ∈ ys, okP stemC y) ∧ Keep b H3 H' ∧ Bx H' b (n + 3 + (i : Int))) ?_ ?_ ?_
  · refine ⟨[], upd_same, rfl, (fun _ h => nomatch h), (fun _ h => nomatch h), Keep.new nD, ?_⟩
    exact (hb3.same (same_upd nD)).mono (by omega)
  · intro i H4 hi h2
    obtain ⟨ys, eD, el, e1, o1, k4, hb4⟩ := h2
    refine ⟨rfl, ?_⟩
    unfold tYes
    refine iteT ?_
    refine ⟨_, rfl, _, rfl, b, 25, n + 3 + (i : Int), rfl, by decide, by decide, by omega, by omega, hb4, fun d2 H5 d20 d21 k5 hb5 => ?_⟩
    have hlt : d2.toNat < stems.cps.toList.length := by rw [stems_len]; omega
    refine ⟨stems, d2, stems.cps.toList[d2.toNat], rfl, rfl, by decide +kernel, atI_int d20 (List.getElem?_eq_getElem hlt), ?_⟩
    refine ⟨ys.map V.str, k5 _ _ nDb eD, ?_, ys ++ [⟨#[stems.cps.toList[d2.toNat]]⟩], ?_, ?_, ?_, ?_, ?_, ?_⟩
    · rw [List.length_map]
      exact Nat.lt_of_lt_of_le (show ys.length < 1000 by omega) (by decide)
    · rw [upd_same, List.map_append]; rfl
    · rw [List.length_append, el]; rfl
    · intro y hy
      rcases List.mem_append.mp hy with h | h
      · exact e1 y h
      · rw [List.mem_singleton.mp h]; rfl
    · intro y hy
      rcases List.mem_append.mp hy with h | h
      · exact o1 y h
      · rw [List.mem_singleton.mp h]; exact okP_one (stems_ok _ (List.getElem_mem hlt))
    · intro a o na ea
      have haD : a ≠ D := fun z => by rw [z, nD] at ea; cases ea
      rw [upd_ne haD]
      exact k5 a o na (k4 a o na ea)
    · obtain ⟨g, m, k, e, r1, r2, r3, r4, r5⟩ := hb5
      exact ⟨g, m, k, by rw [upd_ne nDb.symm]; exact e, r1, r2, r3, r4, by omega⟩
  · intro H4 h2
    obtain ⟨ys, eD, el, e1, o1, k4, hb4⟩ := h2
    refine ⟨_, D, ys, rfl, rfl, .inl (SqL.of eD), ?_, ?_⟩
    · rw [sum1 e1, el]
      decide
    have hz6 : (Txt.join (Str.ofString "") ys).length = 6 := (join1_len e1).trans el
    have hz : (Txt.join (Str.ofString "") ys).length ≤ 6 := Nat.le_of_eq hz6
    have oz : okP stemC (Txt.join (Str.ofString "") ys) := okP_join o1
    generalize Txt.join (Str.ofString "") ys = stem at hz6 hz oz
    have kA : Keep b H0 H4 := ((k1.trans k2).trans k3).trans k4
    refine ⟨by show 0 ≤ sizeLine; decide, fun L nL => ?_⟩
    have nLb : L ≠ b := fun e => by
      obtain ⟨g0, m0, c0, eb1, hb1r⟩ := id hb4
      rw [e, eb1] at nL
      cases nL
    have hb5 := hb4.same (same_upd (o := .lst []) nL)
    have kB : Keep b H0 (upd H4 L (.lst [])) := kA.trans (Keep.new nL)
    have eL : (upd H4 L (.lst [])) L = some (.lst []) := upd_same
    have nHL : H L = none := by
      cases e : H L with
      | none => rfl
      | some o => rw [kA L o nLb (s0 _ _ e)] at nL; cases nL
    have nH0L : H0 L = none := by
      cases e : H0 L with
      | none => rfl
      | some o => rw [kA L o nLb e] at nL; cases nL
    generalize upd H4 L (.lst []) = H5 at hb5 kB eL
    refine ⟨_, rfl, 6, rfl, by decide, by decide, for_range (lo := 0) (n := 6) (fun i σ H' => ∃ y9 y10 y11, σ = [some (.ref b), some (.int 6), some (.str letters), some (.str stems), some (.int way), some (.int first), some (.int at_), some (.str stem), some (.ref L), y9, y10, y11] ∧
      ∃ zs : List Str, H' L = some (.lst (zs.map V.str)) ∧ zs.length = i ∧ (∀ z ∈ zs, nameT z = true ∧ txt z) ∧ Keep b H0 H' ∧ Bx H' b (n + 9)) ⟨_, _, _, rfl, [], eL, rfl, (fun _ h => nomatch h), kB, hb5.mono (by omega)⟩ ?_ ?_⟩
    · intro i σ H6 hi h
      obtain ⟨y9, y10, y11, rfl, zs, ez, el6, hz6, k6, hb6⟩ := h
      have letAt : ∀ e : Int, ∃ c, atI letters.cps.toList (e % 26) = some c ∧ lowC c = true := fun e => by
        have b0 := Int.emod_nonneg e (show (26 : Int) ≠ 0 by decide)
        have b1 := Int.emod_lt_of_pos e (show (0 : Int) < 26 by decide)
        have hlt : (e % 26).toNat < letters.cps.toList.length := by rw [letters_len]; omega
        exact ⟨_, atI_int b0 (List.getElem?_eq_getElem hlt), letters_ok _ (List.getElem_mem hlt)⟩
      obtain ⟨c1, ec1, oc1⟩ := letAt (first + 7 * (0 + (i : Int)))
      obtain ⟨c2, ec2, oc2⟩ := letAt (first + (0 + (i : Int)) / 7)
      refine ⟨_, rfl, _, rfl, _, rfl, 7, _, rfl, rfl, .inl ⟨by decide, by decide⟩, _, _, rfl, rfl, _, 26, rfl, rfl, by show (0 : Int) < 26; decide, letters, _, c1, rfl, rfl, by decide +kernel, ec1, ?_⟩
      refine ⟨_, rfl, _, rfl, _, rfl, _, 7, rfl, rfl, ⟨by decide, by decide⟩, _, _, rfl, rfl, _, 26, rfl, rfl, by show (0 : Int) < 26; decide, letters, _, c2, rfl, rfl, by decide +kernel, ec2, ?_⟩
      have z6 : stem.length ≤ sizeLine := sz (by omega)
      have l1 := cut_len stem none (some at_)
      have l3 := cut_len stem (some at_) none
      have l4 := cut_len stem none (some ((0 + (i : Int)) % 7))
      have g1 : ∀ c : Nat, (⟨#[c]⟩ : Str).length = 1 := fun _ => rfl
      have p1 := cut_okP oz none (some at_)
      have p3 := cut_okP oz (some at_) none
      have p4 := cut_okP oz none (some ((0 + (i : Int)) % 7))
      have two := cut_two stem a0
      refine ⟨_, rfl, .inl ⟨rfl, _, .inl (.inl ez)⟩, ?_⟩
      refine ⟨_, rfl, _, rfl, at_, rfl, stem, rfl, z6, _, rfl, _, _, rfl, rfl, sz (by rw [g1]; omega), ?_⟩
      refine ⟨_, rfl, _, rfl, at_, rfl, stem, rfl, z6, _, _, rfl, rfl, sz (by rw [app_len, g1]; omega), ?_⟩
      refine ⟨_, rfl, _, rfl, _, rfl, _, 7, rfl, rfl, by show (0 : Int) < 7; decide, _, rfl, stem, rfl, z6, _, _, rfl, rfl, sz (by rw [g1]; omega), ?_⟩
      refine ⟨_, rfl, _, rfl, _, rfl, _, 7, rfl, rfl, by show (0 : Int) < 7; decide, _, rfl, stem, rfl, z6, _, _, rfl, rfl, sz (by rw [g1]; omega), ?_⟩
      refine ⟨by show 3 ≤ sizeLine; decide, fun p np => ?_⟩
      have hx : ∃ x : Str, atI [V.str (cutS stem none (some at_) ++ ⟨#[c1]⟩ ++ cutS stem (some at_) none), .str (⟨#[c1]⟩ ++ cutS stem none (some ((0 + (i : Int)) % 7))), .str (⟨#[c2]⟩ ++ cutS stem none (some ((0 + (i : Int)) % 7)))] way = some (.str x) ∧ nameT x = true ∧ txt x := by
        have hw : way = 0 ∨ way = 1 ∨ way = 2 := by omega
        rcases hw with e | e | e
        · rw [e]
          have lx : (cutS stem none (some at_) ++ ⟨#[c1]⟩ ++ cutS stem (some at_) none).length = 7 := by rw [app_len, app_len, g1]; omega
          have ox : okP lowC (cutS stem none (some at_) ++ ⟨#[c1]⟩ ++ cutS stem (some at_) none) := app_okP (app_okP (stem_low p1) (okP_one oc1)) (stem_low p3)
          exact ⟨_, atI_nat (j := 0) rfl, name_of (by omega) (by omega) ox (fun z => by rw [z] at lx; revert lx; decide +kernel) (fun z => by rw [z] at lx; revert lx; decide +kernel), txt_low (by omega) ox⟩
        · rw [e]
          have lx : (⟨#[c1]⟩ ++ cutS stem none (some ((0 + (i : Int)) % 7)) : Str).length ≤ 7 ∧ 1 ≤ (⟨#[c1]⟩ ++ cutS stem none (some ((0 + (i : Int)) % 7)) : Str).length := by rw [app_len, g1]; omega
          have ox : okP lowC (⟨#[c1]⟩ ++ cutS stem none (some ((0 + (i : Int)) % 7))) := app_okP (okP_one oc1) (stem_low p4)
          exact ⟨_, atI_nat (j := 1) rfl, name_of lx.2 (by omega) ox (tail_ne p4).1 (tail_ne p4).2, txt_low (by omega) ox⟩
        · rw [e]
          have lx : (⟨#[c2]⟩ ++ cutS stem none (some ((0 + (i : Int)) % 7)) : Str).length ≤ 7 ∧ 1 ≤ (⟨#[c2]⟩ ++ cutS stem none (some ((0 + (i : Int)) % 7)) : Str).length := by rw [app_len, g1]; omega
          have ox : okP lowC (⟨#[c2]⟩ ++ cutS stem none (some ((0 + (i : Int)) % 7))) := app_okP (okP_one oc2) (stem_low p4)
          exact ⟨_, atI_nat (j := 2) rfl, name_of lx.2 (by omega) ox (tail_ne p4).1 (tail_ne p4).2, txt_low (by omega) ox⟩
      obtain ⟨x, ex, lx, ox⟩ := hx
      refine ⟨_, rfl, p, _, way, .str x, rfl, rfl, SqL.of upd_same, ex, ?_⟩
      have nLp : L ≠ p := ne_of_none ez np
      refine ⟨L, zs.map V.str, .str x, rfl, rfl, by rw [upd_ne nLp]; exact ez, ?_, ?_⟩
      · rw [List.length_map]
        exact Nat.lt_of_lt_of_le (show zs.length < 1000 by omega) (by decide)
      · refine ⟨_, _, _, rfl, zs ++ [x], ?_, ?_, ?_, ?_, ?_⟩
        · rw [upd_same, List.map_append]; rfl
        · rw [List.length_append, el6]; rfl
        · intro z hz
          rcases List.mem_append.mp hz with h | h
          · exact hz6 z h
          · rw [List.mem_singleton.mp h]; exact ⟨lx, ox⟩
        · intro a o na ea
          have h6 := k6 a o na ea
          have haL : a ≠ L := fun z => by
            subst z
            rw [nH0L] at ea
            cases ea
          rw [upd_ne haL, upd_ne (ne_of_none h6 np)]
          exact h6
        · obtain ⟨g, m, k, e, r1, r2, r3, r4, r5⟩ := hb6
          exact ⟨g, m, k, by rw [upd_ne nLb.symm, upd_ne (ne_of_none e np)]; exact e, r1, r2, r3, r4, r5⟩
    · intro σ H6 h
      obtain ⟨y9, y10, y11, rfl, zs, ez, el6, hz6, k6, hb6⟩ := h
      exact ⟨_, rfl, q L zs H6 el6 hz6 nHL ez (fun a o na ea => k6 a o na (s0 _ _ ea)) hb6⟩
end
end K10
set_option maxHeartbeats 4000000
namespace K10
open PySem PySem.Spec PyProof.Rows L2 RL RE RN RM TL
def valsD : Dm → List V
  | .call n => [.str (Str.ofString "call"), .str n]
  | .give w t k o => [.str (Str.ofString "give"), .str w, .str t, .str k, .bl o]
theorem ne_box {H : Hp} {b p : Addr} {n : Int} (hb : Bx H b n) (np : H p = none) : p ≠ b := fun z => by
  subst z
  obtain ⟨g, m, k, eb, _⟩ := hb
  rw [eb] at np
  cases np
theorem none_keep {H H' : Hp} {b p : Addr} (k : Keep b H H') (ne : p ≠ b) (n : H' p = none) : H p = none := by
  cases e : H p with
  | none => rfl
  | some o => rw [k p o ne e] at n; cases n
/-- six names -/
def Nm (H : Hp) (p : Addr) (ys : List Str) : Prop := H p = some (.lst (ys.map V.str)) ∧ ys.length = 6 ∧ ∀ y ∈ ys, nameT y = true ∧ txt y
theorem Nm.ne {H : Hp} {p b : Addr} {ys : List Str} {n : Int} (h : Nm H p ys) (hb : Bx H b n) : p ≠ b := fun z => by
  subst z
  obtain ⟨g, m, k, eb, _⟩ := hb
  obtain ⟨e, l, _⟩ := h
  rw [e] at eb
  have e2 := HO.lst.inj (Option.some.inj eb)
  have := congrArg List.length e2
  rw [List.length_map, l] at this
  cases this
theorem Nm.keep {H H' : Hp} {p b : Addr} {ys : List Str} {n : Int} (h : Nm H p ys) (k : Keep b H H') (hb : Bx H b n) : Nm H' p ys := ⟨k _ _ (h.ne hb) h.1, h.2⟩
theorem Nm.same {H H' : Hp} {p : Addr} {ys : List Str} (h : Nm H p ys) (s : Same H H') : Nm H' p ys := ⟨s _ _ h.1, h.2⟩
theorem Nm.get {H : Hp} {p : Addr} {ys : List Str} (h : Nm H p ys) {d : Int} (d0 : 0 ≤ d) (d1 : d < 6) : ∃ y, atI (ys.map V.str) d = some (.str y) ∧ nameT y = true ∧ txt y := by
  have hlt : d.toNat < ys.length := by rw [h.2.1]; omega
  refine ⟨ys[d.toNat], atI_int d0 ?_, h.2.2 _ (List.getElem_mem hlt)⟩
  rw [List.getElem?_map, List.getElem?_eq_getElem hlt]
  rfl
section
variable {P : Program} {w : World} {K : PySem.W.Frag} {mg : Str → Option Value} {base : Heap} {f : Addr} {fd : FuncData}
def spRow : Sp := fun vs H Q _ => ∃ (b pN : Addr) (n : Int) (ys : List Str), vs = [.ref b, .ref pN] ∧ 0 ≤ n ∧ n ≤ 90000 ∧ Bx H b n ∧ Nm H pN ys ∧ ∀ (p : Addr) (d : Dm) H', okD d → H' p = some (.tup (valsD d)) → H p = none → Keep b H H' → Bx H' b (n + 6) → Q (.ref p) H'
theorem ok_row (F : Fun K "_law_row" "_law_row" s__law_row f fd) (GT : Df P w K mg base CX0 1 "_law_take" ["_law_box_here", "_law_many"] spTake) : FnOk P w K mg base CX0 2 f fd ["_law_box_here", "_law_names_here"] spRow := by
  refine F.ok sc__law_row (fun vs H Q E h => by obtain ⟨b, pN, n, ys, rfl, _⟩ := h; rfl) (fun cdv A outer s H vs Q E hr h => ?_)
  obtain ⟨b, pN, n, ys, rfl, n0, n1, hb, hN, q⟩ := h
  refine ⟨_, PSs.nox (pss_cons (ps_if (pt_cmpR op_eq (pe_df0 GT hr (by rfl) (pa_cons (pv 0) (pa_cons pe_int pa_nil))) pe_int (nomark _)) (pss_one (ps_ret (pe_tup (pa_cons pe_str (pa_cons (pe_ix ix_list (pv 1) (pe_df0 GT hr (by rfl) (pa_cons (pv 0) (pa_cons pe_int pa_nil))) (fun _ _ => rfl)) pa_nil))))) pss_nil)
    (pss_cons (ps_set (i := 2) sc__law_row.nd rfl (.inl rfl) (pe_ix ix_list (pe_lst (pa_cons pe_str (pa_cons pe_str (pa_cons pe_str (pa_cons pe_str (pa_cons pe_str pa_nil)))))) (pe_df0 GT hr (by rfl) (pa_cons (pv 0) (pa_cons pe_int pa_nil))) (fun _ _ => rfl)))
    (pss_cons (ps_set (i := 3) sc__law_row.nd rfl (.inl rfl) (pe_ix ix_list (pe_op op_cat (pv 1) (pe_lst (pa_cons pe_str (pa_cons pe_str pa_nil)))) (pe_df0 GT hr (by rfl) (pa_cons (pv 0) (pa_cons pe_int pa_nil))) (fun _ _ => rfl)))
    (pss_one (ps_ret (pe_tup (pa_cons pe_str (pa_cons (pv 2) (pa_cons (pe_ix ix_list (pv 1) (pe_df0 GT hr (by rfl) (pa_cons (pv 0) (pa_cons pe_int pa_nil))) (fun _ _ => rfl)) (pa_cons (pv 3)
      (pa_cons (pe_and (pe_cmpR op_eq (pe_df0 GT hr (by rfl) (pa_cons (pv 0) (pa_cons pe_int pa_nil))) pe_int (nomark _)) (pe_one (pe_cmpR op_ne (pv 3) pe_str (nomark _)))) pa_nil))))))))))), ?_⟩
  refine ⟨_, rfl, b, 3, n, rfl, by decide, by decide, n0, by omega, hb, fun d1 H1 _ _ k1 hb1 => ⟨rfl, _, rfl, ?_⟩⟩
  have hN1 := hN.keep k1 hb
  refine ite2 (fun _ => ?_) (fun _ => ?_)
  · refine ⟨_, rfl, _, rfl, b, 6, n + 1, rfl, by decide, by decide, by omega, by omega, hb1, fun d2 H2 d20 d21 k2 hb2 => ?_⟩
    have hN2 := hN1.keep k2 hb1
    obtain ⟨y, ey, ny, ty⟩ := hN2.get d20 d21
    refine ⟨pN, _, d2, .str y, rfl, rfl, SqL.of hN2.1, ey, by show 2 ≤ sizeLine; decide, fun p np => ?_⟩
    have kk := k1.trans k2
    exact q p (.call y) _ ⟨ty, ny⟩ upd_same (none_keep kk (ne_box hb2 np) np) (kk.trans (Keep.new np)) ((hb2.same (same_upd np)).mono (by omega))
  · refine ⟨by show 5 ≤ sizeLine; decide, fun pW npW => ?_⟩
    have eW : (upd H1 pW (.lst [.str (Str.ofString "inherit"), .str (Str.ofString "act"), .str (Str.ofString "read"), .str (Str.ofString "write"), .str (Str.ofString "call")])) pW = some (.lst [.str (Str.ofString "inherit"), .str (Str.ofString "act"), .str (Str.ofString "read"), .str (Str.ofString "write"), .str (Str.ofString "call")]) := upd_same
    have s2 := same_upd (o := .lst [.str (Str.ofString "inherit"), .str (Str.ofString "act"), .str (Str.ofString "read"), .str (Str.ofString "write"), .str (Str.ofString "call")]) npW
    have nWb := ne_box hb1 npW
    generalize upd H1 pW (.lst [.str (Str.ofString "inherit"), .str (Str.ofString "act"), .str (Str.ofString "read"), .str (Str.ofString "write"), .str (Str.ofString "call")]) = H2 at eW s2 ⊢
    have hb2 := hb1.same s2
    refine ⟨_, rfl, b, 5, n + 1, rfl, by decide, by decide, by omega, by omega, hb2, fun d3 H3 d30 d31 k3 hb3 => ?_⟩
    have hw : ∃ wd : Str, atI [V.str (Str.ofString "inherit"), .str (Str.ofString "act"), .str (Str.ofString "read"), .str (Str.ofString "write"), .str (Str.ofString "call")] d3 = some (.str wd) ∧ (kindT wd).isSome = true ∧ txt wd := by
      have hw : d3 = 0 ∨ d3 = 1 ∨ d3 = 2 ∨ d3 = 3 ∨ d3 = 4 := by omega
      rcases hw with e | e | e | e | e
      · rw [e]; exact ⟨_, atI_nat (j := 0) rfl, by decide +kernel, txt_low (by decide +kernel) (by unfold okP; decide +kernel)⟩
      · rw [e]; exact ⟨_, atI_nat (j := 1) rfl, by decide +kernel, txt_low (by decide +kernel) (by unfold okP; decide +kernel)⟩
      · rw [e]; exact ⟨_, atI_nat (j := 2) rfl, by decide +kernel, txt_low (by decide +kernel) (by unfold okP; decide +kernel)⟩
      · rw [e]; exact ⟨_, atI_nat (j := 3) rfl, by decide +kernel, txt_low (by decide +kernel) (by unfold okP; decide +kernel)⟩
      · rw [e]; exact ⟨_, atI_nat (j := 4) rfl, by decide +kernel, txt_low (by decide +kernel) (by unfold okP; decide +kernel)⟩
    obtain ⟨wd, ewd, kw, tw⟩ := hw
    refine ⟨pW, _, d3, .str wd, rfl, rfl, SqL.of (k3 _ _ nWb eW), ewd, ?_⟩
    have hN3 := (hN1.same s2).keep k3 hb2
    have k3 := (k1.trans (Keep.of s2)).trans k3
    refine ⟨_, rfl, by show 2 ≤ sizeLine; decide, fun pA npA => ?_⟩
    have eA : (upd H3 pA (.lst [.str tCal, .str tPub])) pA = some (.lst [.str tCal, .str tPub]) := upd_same
    have s4 := same_upd (o := .lst [.str tCal, .str tPub]) npA
    generalize upd H3 pA (.lst [.str tCal, .str tPub]) = H4 at eA s4 ⊢
    have hN4 := hN3.same s4
    have hb4 := hb3.same s4
    refine ⟨pN, pA, _, _, rfl, rfl, hN4.1, eA, by rw [List.length_map, hN4.2.1]; decide, fun pB npB => ?_⟩
    have eB : (upd H4 pB (.lst (ys.map V.str ++ [.str tCal, .str tPub]))) pB = some (.lst (ys.map V.str ++ [.str tCal, .str tPub])) := upd_same
    have s5 := same_upd (o := .lst (ys.map V.str ++ [.str tCal, .str tPub])) npB
    have nBb := ne_box hb4 npB
    generalize upd H4 pB (.lst (ys.map V.str ++ [.str tCal, .str tPub])) = H5 at eB s5 ⊢
    have hN5 := hN4.same s5
    have hb5 := hb4.same s5
    refine ⟨_, rfl, b, 8, n + 1 + 1, rfl, by decide, by decide, by omega, by omega, hb5, fun d6 H6 d60 d61 k6 hb6 => ?_⟩
    have hk : ∃ k : Str, atI (ys.map V.str ++ [.str tCal, .str tPub]) d6 = some (.str k) ∧ txt k ∧ (isT tCal (.str k) = true ∨ isTaker (.str k) = true) := by
      by_cases h : d6 < 6
      · obtain ⟨y, ey, ny, ty⟩ := hN5.get d60 h
        refine ⟨y, atI_int d60 ?_, ty, .inr (by show (nameT y || _) = true; rw [ny]; rfl)⟩
        have hlt : d6.toNat < ys.length := by rw [hN5.2.1]; omega
        have ey2 : (ys.map V.str)[d6.toNat]? = some (.str ys[d6.toNat]) := by rw [List.getElem?_map, List.getElem?_eq_getElem hlt]; rfl
        have e3 : atI (ys.map V.str) d6 = some (.str ys[d6.toNat]) := atI_int d60 ey2
        rw [List.getElem?_append_left (by rw [List.length_map]; exact hlt), ey2, ← e3, ey]
      · have hw : d6 = 6 ∨ d6 = 7 := by omega
        have hl : (ys.map V.str).length = 6 := by rw [List.length_map]; exact hN5.2.1
        rcases hw with e | e
        · refine ⟨tCal, atI_int d60 ?_, txt_low (by decide +kernel) (by unfold okP; decide +kernel), .inl (by decide +kernel)⟩
          rw [e, List.getElem?_append_right (by rw [hl]; decide), hl]; rfl
        · refine ⟨tPub, atI_int d60 ?_, txt_low (by decide +kernel) (by unfold okP; decide +kernel), .inr (by decide +kernel)⟩
          rw [e, List.getElem?_append_right (by rw [hl]; decide), hl]; rfl
    obtain ⟨k, ek, tk, hk⟩ := hk
    refine ⟨pB, _, d6, .str k, rfl, rfl, SqL.of (k6 _ _ nBb eB), ek, ?_⟩
    have hN6 := hN5.keep k6 hb5
    have k6 := (k3.trans (Keep.of (s4.trans s5))).trans k6
    refine ⟨_, rfl, _, rfl, _, rfl, b, 6, n + 1 + 1 + 1, rfl, by decide, by decide, by omega, by omega, hb6, fun d7 H7 d70 d71 k7 hb7 => ?_⟩
    have hN7 := hN6.keep k7 hb6
    obtain ⟨y, ey, ny, ty⟩ := hN7.get d70 d71
    refine ⟨pN, _, d7, .str y, rfl, rfl, SqL.of hN7.1, ey, _, rfl, ?_⟩
    refine ⟨_, rfl, b, 2, n + 1 + 1 + 1 + 1, rfl, by decide, by decide, by omega, by omega, hb7, fun d8 H8 _ _ k8 hb8 => ⟨rfl, _, rfl, ?_⟩⟩
    have kk := (k6.trans k7).trans k8
    have fin : ∀ o : Bool, (o = true → isT tPub (.str k) = false) → ∀ p, H8 p = none → Q (.ref p) (upd H8 p (.tup [.str (Str.ofString "give"), .str wd, .str y, .str k, .bl o])) := fun o ho p np =>
      q p (.give wd y k o) _ ⟨tw, ty, tk, kw, ny, hk, ho⟩ upd_same (none_keep kk (ne_box hb8 np) np) (kk.trans (Keep.new np)) ((hb8.same (same_upd np)).mono (by omega))
    refine ite2 (fun _ => ?_) (fun _ => ?_)
    · refine ⟨_, rfl, rfl, by show 5 ≤ sizeLine; decide, fun p np => fin _ (fun h => ?_) p np⟩
      rw [← isT_dec]
      cases hd : decide (V.str k = V.str tPub) with
      | false => rfl
      | true => rw [show decide (V.str k = V.str (Str.ofString "public")) = true from hd] at h; cases h
    · exact ⟨by show 5 ≤ sizeLine; decide, fun p np => fin false (fun h => by cases h) p np⟩
end
end K10
set_option maxHeartbeats 4000000
namespace K10
open PySem PySem.Spec PyProof.Rows L2 RL RE RN RM TL RQ RC
theorem same_refl {H : Hp} : Same H H := fun _ _ e => e
/-- rows: tuples of the parts of deeds -/
def Rw (H : Hp) (rs : List V) (ds : List Dm) : Prop := rs.length = ds.length ∧ ∀ (i : Nat) x d, rs[i]? = some x → ds[i]? = some d → okD d ∧ ∃ p, x = .ref p ∧ H p = some (.tup (valsD d))
theorem Rw.same {H H' : Hp} {rs : List V} {ds : List Dm} (h : Rw H rs ds) (s : Same H H') : Rw H' rs ds := ⟨h.1, fun i x d g1 g2 => by
  obtain ⟨o, p, rfl, e⟩ := h.2 i x d g1 g2
  exact ⟨o, p, rfl, s _ _ e⟩⟩
/-- the two classes made -/
structure MkD (P : Program) (w : World) (K : PySem.W.Frag) (mg : Str → Option Value) (base : Heap) (c : Cs) : Prop where
  C : ∃ (f : Addr) (fd : FuncData), Mk K c.call f ∧ FnOk P w K mg base CX0 3 f fd ["self", "function"] (spInit K c.call argC) ∧ mg "Call" = some (.ref c.call) ∧ Binds K fd ["self", "function"] []
  G : ∃ (f : Addr) (fd : FuncData), Mk K c.give f ∧ FnOk P w K mg base CX0 4 f fd ["self", "right", "thing", "taker", "option"] (spInit K c.give argG) ∧ mg "Give" = some (.ref c.give) ∧ KBn K fd ["self", "right", "thing", "taker", "option"] 4 ["option"] (fun us ws => us ++ ws) (fun vs zs => vs ++ zs)
theorem made_same {H : Hp} {x dx : Addr} {u v o : HO} (nx : H x = none) (nd : H dx = none) : Same H (upd (upd (upd H dx o) x u) x v) := fun a y e => by
  rw [upd_ne (ne_of_none e nx), upd_ne (ne_of_none e nx), upd_ne (ne_of_none e nd)]
  exact e
section
variable {P : Program} {w : World} {K : PySem.W.Frag} {mg : Str → Option Value} {base : Heap} {f : Addr} {fd : FuncData}
def spDeeds (K : PySem.W.Frag) (c : Cs) : Sp := fun vs H Q _ => ∃ (r : Addr) (rs : List V) (ds : List Dm), vs = [.ref r] ∧ SqL K H r rs ∧ Rw H rs ds ∧ ds.length ≤ 100 ∧ ∀ p xs H', Same H H' → H p = none → H' p = some (.lst xs) → Deeds c H' xs ds → Q (.ref p) H'
theorem ok_deeds {c : Cs} (F : Fun K "_law_deeds" "_law_deeds" s__law_deeds f fd) (M : MkD P w K mg base c) : FnOk P w K mg base CX0 6 f fd ["_law_rows"] (spDeeds K c) := by
  refine F.ok sc__law_deeds (fun vs H Q E h => by obtain ⟨r, rs, ds, rfl, _⟩ := h; rfl) (fun cdv A outer s H vs Q E hr h => ?_)
  obtain ⟨r, rs, ds, rfl, hS, hR, hl, q⟩ := h
  obtain ⟨fC, fdC, MC, FC, gC, bC⟩ := M.C
  obtain ⟨fG, fdG, MG, FG, gG, bG⟩ := M.G
  refine ⟨_, PSs.nox (pss_cons (ps_set (i := 1) sc__law_deeds.nd rfl (.inl rfl) (pe_lst pa_nil))
    (pss_cons (ps_for PassesOwn.never rfl (pi_list (pv 0)) (pg_name (i := 2) sc__law_deeds.nd rfl (Or.inl rfl))
      (pss_one (ps_if (pt_cmpR op_eq (pe_ix ix_tup (pv 2) pe_int (fun _ _ => rfl)) pe_str (nomark _))
        (pss_one (ps_expr (pe_bm PySem.F.plainAttrs_list PySem.F.slot_list_append PySem.F.type_list_append mt_append (pv 1) (pa_cons (pe_make MC FC (hr.mono (by decide)) (by rfl) gC bC .nil pass0 (pa_cons (pe_ix ix_tup (pv 2) pe_int (fun _ _ => rfl)) pa_nil)) pa_nil))))
        (pss_one (ps_expr (pe_bm PySem.F.plainAttrs_list PySem.F.slot_list_append PySem.F.type_list_append mt_append (pv 1) (pa_cons (pe_makeK (n := 3) MG FG hr (by rfl) gG bG pass0 (pa_cons (pe_ix ix_tup (pv 2) pe_int (fun _ _ => rfl)) (pa_cons (pe_ix ix_tup (pv 2) pe_int (fun _ _ => rfl)) (pa_cons (pe_ix ix_tup (pv 2) pe_int (fun _ _ => rfl)) pa_nil))) (pk_cons (pe_ix ix_tup (pv 2) pe_int (fun _ _ => rfl)) pk_nil)) pa_nil)))))))
    (pss_one (ps_ret (pv 1))))), ?_⟩
  refine ⟨by show 0 ≤ sizeLine; decide, fun L nL => ?_⟩
  have s1 := same_upd (o := .lst []) nL
  have eL : (upd H L (.lst [])) L = some (.lst []) := upd_same
  generalize upd H L (.lst []) = H1 at s1 eL ⊢
  refine ⟨_, rfl, r, rfl, ⟨rs, SqL.ext hS s1⟩, for_list (K := K) (xs := rs) (fun i σ H' => ∃ y xs, σ = [some (.ref r), some (.ref L), y] ∧ Same H H' ∧ H' L = some (.lst xs) ∧ Deeds c H' xs (ds.take i)) ⟨_, [], rfl, s1, eL, by rw [List.take_zero]; exact ⟨rfl, fun i x d h => by simp at h⟩⟩ (fun i σ H' _ h => by obtain ⟨_, _, _, sm, _⟩ := h; exact SqL.ext hS sm) ?_ ?_⟩
  · intro i x σ H2 hx h
    obtain ⟨y, xs, rfl, s2, e2, d2⟩ := h
    have hi : i < ds.length := by rw [← hR.1]; exact (List.getElem?_eq_some_iff.mp hx).1
    obtain ⟨ok, p, rfl, ep⟩ := (hR.same s2).2 i x _ hx (List.getElem?_eq_getElem hi)
    have lxs : xs.length = i := by rw [d2.1, List.length_take]; omega
    have step : ∀ {x : Addr} {H3 : Hp} {d : Dm}, ds[i] = d → Same H2 H3 → H2 x = none → DeedAt c H3 x d → ∃ y xs', [some (V.ref r), some (V.ref L), some (V.ref p)] = [some (V.ref r), some (V.ref L), y] ∧ Same H (upd H3 L (.lst (xs ++ [V.ref x]))) ∧ (upd H3 L (.lst (xs ++ [V.ref x]))) L = some (.lst xs') ∧ Deeds c (upd H3 L (.lst (xs ++ [V.ref x]))) xs' (ds.take (i + 1)) := by
      intro x H3 d hd s3 nx hx3
      refine ⟨_, _, rfl, ?_, upd_same, ?_⟩
      · intro u o e
        rw [upd_ne (fun z => by rw [z, nL] at e; cases e)]
        exact s3 _ _ (s2 _ _ e)
      · have nDL : ∀ {u : Addr} {m : Dm}, DeedAt c H3 u m → u ≠ L := fun {u m} h z => by
          obtain ⟨dy, e⟩ := h
          rw [z, s3 _ _ e2] at e
          cases e
        refine ⟨by rw [List.length_append, List.length_take, lxs]; simp; omega, fun j y m g1 g2 => ?_⟩
        rw [List.take_add_one, List.getElem?_eq_getElem hi] at g2
        by_cases hj : j < i
        · rw [List.getElem?_append_left (by rw [lxs]; exact hj)] at g1
          rw [List.getElem?_append_left (by rw [List.length_take]; omega)] at g2
          obtain ⟨u, rfl, dy, e⟩ := d2.2 j y m g1 g2
          have e3 := s3 _ _ e
          exact ⟨u, rfl, dy, by rw [upd_ne (nDL ⟨dy, e3⟩)]; exact e3⟩
        · have hj2 : j = i := by
            have := (List.getElem?_eq_some_iff.mp g1).1
            rw [List.length_append, lxs] at this
            simp at this
            omega
          subst hj2
          rw [List.getElem?_append_right (by omega), lxs, Nat.sub_self] at g1
          rw [List.getElem?_append_right (by rw [List.length_take]; omega), List.length_take, Nat.min_eq_left (by omega), Nat.sub_self] at g2
          cases (Option.some.inj g1)
          have em : m = ds[j] := (Option.some.inj g2).symm
          obtain ⟨dy, e⟩ := hx3
          refine ⟨x, rfl, dy, ?_⟩
          rw [em, hd, upd_ne (nDL ⟨dy, e⟩)]
          exact e
    have hxs : xs.length < sizeLine := Nat.lt_of_lt_of_le (show xs.length < 1000 by omega) (by decide)
    cases hd : ds[i] with
    | call n =>
      rw [hd] at ep ok
      refine ⟨_, rfl, p, _, 0, .str (Str.ofString "call"), rfl, rfl, SqT.of ep, atI_nat (j := 0) rfl, rfl, _, rfl, ?_⟩
      rw [show decide (V.str (Str.ofString "call") = V.str (Str.ofString "call")) = true from decide_eq_true rfl]
      refine iteT ⟨_, rfl, .inl ⟨rfl, _, .inl (.inl e2)⟩, _, rfl, p, _, 1, .str n, rfl, rfl, SqT.of ep, atI_nat (j := 1) rfl, fun x dx nx nd ne => ⟨x, dx, .call n, _, rfl, rfl, ok, upd_same, rfl, ?_⟩⟩
      have s3 := made_same (u := .ins c.call dx []) (v := .ins c.call dx (fieldsD (.call n))) (o := .own x) nx nd
      exact ⟨L, xs, .ref x, rfl, rfl, s3 _ _ e2, hxs, step hd s3 nx ⟨dx, upd_same⟩⟩
    | give wd t k o =>
      rw [hd] at ep ok
      refine ⟨_, rfl, p, _, 0, .str (Str.ofString "give"), rfl, rfl, SqT.of ep, atI_nat (j := 0) rfl, rfl, _, rfl, ?_⟩
      rw [show decide (V.str (Str.ofString "give") = V.str (Str.ofString "call")) = false by decide +kernel]
      refine iteF ⟨_, rfl, .inl ⟨rfl, _, .inl (.inl e2)⟩, _, rfl, p, _, 1, .str wd, rfl, rfl, SqT.of ep, atI_nat (j := 1) rfl, _, rfl, p, _, 2, .str t, rfl, rfl, SqT.of ep, atI_nat (j := 2) rfl, _, rfl, p, _, 3, .str k, rfl, rfl, SqT.of ep, atI_nat (j := 3) rfl, _, rfl, p, _, 4, .bl o, rfl, rfl, SqT.of ep, atI_nat (j := 4) rfl, rfl, rfl, fun x dx nx nd ne => ⟨x, dx, .give wd t k o, _, rfl, rfl, ok, upd_same, rfl, ?_⟩⟩
      have s3 := made_same (u := .ins c.give dx []) (v := .ins c.give dx (fieldsD (.give wd t k o))) (o := .own x) nx nd
      exact ⟨L, xs, .ref x, rfl, rfl, s3 _ _ e2, hxs, step hd s3 nx ⟨dx, upd_same⟩⟩
  · intro σ H2 h
    obtain ⟨y, xs, rfl, s2, e2, d2⟩ := h
    rw [List.take_of_length_le (by rw [hR.1]; exact Nat.le_refl _)] at d2
    exact ⟨_, rfl, q L xs H2 s2 nL e2 d2⟩
end
end K10
set_option maxHeartbeats 4000000
namespace K10
open PySem PySem.Spec PyProof.Rows L2 RL RE RN RM TL RQ RC
section
variable {P : Program} {w : World} {K : PySem.W.Frag} {mg : Str → Option Value} {base : Heap} {f : Addr} {fd : FuncData}
def strsV (ds : List Dm) : List V := ds.map fun d => V.str (strD d)
def spTexts (K : PySem.W.Frag) : Sp := fun vs H Q _ => ∃ (r : Addr) (rs : List V) (ds : List Dm), vs = [.ref r] ∧ SqL K H r rs ∧ Rw H rs ds ∧ ds.length ≤ 100 ∧ ∀ p H', Same H H' → H p = none → H' p = some (.lst (strsV ds)) → Q (.ref p) H'
theorem ok_texts (F : Fun K "_law_texts" "_law_texts" s__law_texts f fd) : FnOk P w K mg base CX0 1 f fd ["_law_rows"] (spTexts K) := by
  refine F.ok sc__law_texts (fun vs H Q E h => by obtain ⟨r, rs, ds, rfl, _⟩ := h; rfl) (fun cdv A outer s H vs Q E hr h => ?_)
  obtain ⟨r, rs, ds, rfl, hS, hR, hl, q⟩ := h
  refine ⟨_, PSs.nox (pss_cons (ps_set (i := 1) sc__law_texts.nd rfl (.inl rfl) (pe_lst pa_nil))
    (pss_cons (ps_for PassesOwn.never rfl (pi_list (pv 0)) (pg_name (i := 2) sc__law_texts.nd rfl (Or.inl rfl))
      (pss_cons (ps_set (i := 3) sc__law_texts.nd rfl (.inl rfl) (pe_ifExp (pt_cmpR op_eq (pe_ix ix_tup (pv 2) pe_int (fun _ _ => rfl)) pe_str (nomark _))
          (pe_lst (pa_cons pe_str (pa_cons (pe_ix ix_tup (pv 2) pe_int (fun _ _ => rfl)) (pa_cons (pe_ix ix_tup (pv 2) pe_int (fun _ _ => rfl)) (pa_cons (pe_ix ix_tup (pv 2) pe_int (fun _ _ => rfl)) pa_nil)))))
          (pe_lst (pa_cons pe_str (pa_cons (pe_ix ix_tup (pv 2) pe_int (fun _ _ => rfl)) pa_nil)))))
      (pss_one (ps_expr (pe_bm PySem.F.plainAttrs_list PySem.F.slot_list_append PySem.F.type_list_append mt_append (pv 1) (pa_cons (pe_join pe_str (pe_ifExp (PW.pt (pw_and (pt_cmpR op_eq (pe_ix ix_tup (pv 2) pe_int (fun _ _ => rfl)) pe_str (nomark _)) (pw_and1 (pt_val (pe_ix ix_tup (pv 2) pe_int (fun _ _ => rfl))))))
          (pe_op op_cat (pv 3) (pe_lst (pa_cons pe_str pa_nil))) (pv 3))) pa_nil))))))
    (pss_one (ps_ret (pv 1))))), ?_⟩
  refine ⟨by show 0 ≤ sizeLine; decide, fun L nL => ?_⟩
  have s1 := same_upd (o := .lst []) nL
  have eL : (upd H L (.lst [])) L = some (.lst []) := upd_same
  generalize upd H L (.lst []) = H1 at s1 eL ⊢
  refine ⟨_, rfl, r, rfl, ⟨rs, SqL.ext hS s1⟩, for_list (K := K) (xs := rs) (fun i σ H' => ∃ y z, σ = [some (.ref r), some (.ref L), y, z] ∧ Same H H' ∧ H' L = some (.lst (strsV (ds.take i)))) ⟨_, _, rfl, s1, eL⟩ (fun i σ H' _ h => by obtain ⟨_, _, _, sm, _⟩ := h; exact SqL.ext hS sm) ?_ ?_⟩
  · intro i x σ H2 hx h
    obtain ⟨y, z, rfl, s2, e2⟩ := h
    have hi : i < ds.length := by rw [← hR.1]; exact (List.getElem?_eq_some_iff.mp hx).1
    obtain ⟨ok, p, rfl, ep⟩ := (hR.same s2).2 i x _ hx (List.getElem?_eq_getElem hi)
    have fin : ∀ {H3 : Hp} {d : Dm} {y z : Option V}, ds[i] = d → Same H2 H3 → ∃ y' z', [some (V.ref r), some (V.ref L), y, z] = [some (V.ref r), some (V.ref L), y', z'] ∧ Same H (upd H3 L (.lst (strsV (ds.take i) ++ [V.str (strD d)]))) ∧ (upd H3 L (.lst (strsV (ds.take i) ++ [V.str (strD d)]))) L = some (.lst (strsV (ds.take (i + 1)))) := by
      intro H3 d y z hd s3
      refine ⟨_, _, rfl, ?_, ?_⟩
      · intro u o e
        rw [upd_ne (fun z => by rw [z, nL] at e; cases e)]
        exact s3 _ _ (s2 _ _ e)
      · rw [upd_same, List.take_add_one, List.getElem?_eq_getElem hi, hd]
        unfold strsV
        rw [List.map_append]
        rfl
    have hxs : (strsV (ds.take i)).length < sizeLine := by
      unfold strsV
      rw [List.length_map, List.length_take]
      exact Nat.lt_of_lt_of_le (show _ < 1000 by omega) (by decide)
    cases hd : ds[i] with
    | call n =>
      rw [hd] at ep ok
      have hl := ok.1.1
      refine ⟨_, rfl, p, _, 0, .str (Str.ofString "call"), rfl, rfl, SqT.of ep, atI_nat (j := 0) rfl, rfl, _, rfl, ?_⟩
      rw [show decide (V.str (Str.ofString "call") = V.str (Str.ofString "give")) = false by decide +kernel]
      refine iteF ⟨_, rfl, p, _, 1, .str n, rfl, rfl, SqT.of ep, atI_nat (j := 1) rfl, by show 2 ≤ sizeLine; decide, fun q1 nq1 => ?_⟩
      have s3 := same_upd (o := .lst [.str (Str.ofString "call"), .str n]) nq1
      have e3 : (upd H2 q1 (.lst [.str (Str.ofString "call"), .str n])) q1 = some (.lst [.str (Str.ofString "call"), .str n]) := upd_same
      generalize upd H2 q1 (.lst [.str (Str.ofString "call"), .str n]) = H3 at s3 e3 ⊢
      refine ⟨_, rfl, .inl ⟨rfl, _, .inl (.inl (s3 _ _ e2))⟩, ⟨_, rfl⟩, _, rfl, p, _, 0, .str (Str.ofString "call"), rfl, rfl, SqT.of (s3 _ _ ep), atI_nat (j := 0) rfl, rfl, _, rfl, ?_⟩
      rw [show decide (V.str (Str.ofString "call") = V.str (Str.ofString "give")) = false by decide +kernel]
      refine iteF (iteF ⟨_, rfl, _, q1, wordsD (.call n), rfl, rfl, .inl (SqL.of e3), ?_, ?_⟩)
      · show (4 + (n.length + 0)) + 2 * 1 ≤ 16777216
        omega
      · exact ⟨L, _, _, rfl, rfl, s3 _ _ e2, hxs, fin hd s3⟩
    | give wd t k o =>
      rw [hd] at ep ok
      obtain ⟨⟨l1, _⟩, ⟨l2, _⟩, ⟨l3, _⟩, _⟩ := ok
      refine ⟨_, rfl, p, _, 0, .str (Str.ofString "give"), rfl, rfl, SqT.of ep, atI_nat (j := 0) rfl, rfl, _, rfl, ?_⟩
      rw [show decide (V.str (Str.ofString "give") = V.str (Str.ofString "give")) = true from decide_eq_true rfl]
      refine iteT ⟨_, rfl, p, _, 1, .str wd, rfl, rfl, SqT.of ep, atI_nat (j := 1) rfl, _, rfl, p, _, 2, .str t, rfl, rfl, SqT.of ep, atI_nat (j := 2) rfl, _, rfl, p, _, 3, .str k, rfl, rfl, SqT.of ep, atI_nat (j := 3) rfl, by show 4 ≤ sizeLine; decide, fun q1 nq1 => ?_⟩
      have s3 := same_upd (o := .lst [.str (Str.ofString "give"), .str wd, .str t, .str k]) nq1
      have e3 : (upd H2 q1 (.lst [.str (Str.ofString "give"), .str wd, .str t, .str k])) q1 = some (.lst [.str (Str.ofString "give"), .str wd, .str t, .str k]) := upd_same
      generalize upd H2 q1 (.lst [.str (Str.ofString "give"), .str wd, .str t, .str k]) = H3 at s3 e3 ⊢
      refine ⟨_, rfl, .inl ⟨rfl, _, .inl (.inl (s3 _ _ e2))⟩, ⟨_, rfl⟩, _, rfl, p, _, 0, .str (Str.ofString "give"), rfl, rfl, SqT.of (s3 _ _ ep), atI_nat (j := 0) rfl, rfl, _, rfl, ?_⟩
      rw [show decide (V.str (Str.ofString "give") = V.str (Str.ofString "give")) = true from decide_eq_true rfl]
      refine iteT ⟨_, rfl, p, _, 4, .bl o, rfl, rfl, SqT.of (s3 _ _ ep), atI_nat (j := 4) rfl, _, rfl, ?_⟩
      cases o with
      | false =>
        refine iteF ⟨_, rfl, _, q1, wordsD (.give wd t k false), rfl, rfl, .inl (SqL.of e3), ?_, ?_⟩
        · show (4 + (wd.length + (t.length + (k.length + 0)))) + 4 * 1 ≤ 16777216
          omega
        · exact ⟨L, _, _, rfl, rfl, s3 _ _ e2, hxs, fin hd s3⟩
      | true =>
        refine iteT ⟨_, rfl, by show 1 ≤ sizeLine; decide, fun q2 nq2 => ?_⟩
        have s4 := same_upd (o := .lst [.str (Str.ofString "option")]) nq2
        have e4 : (upd H3 q2 (.lst [.str (Str.ofString "option")])) q2 = some (.lst [.str (Str.ofString "option")]) := upd_same
        generalize upd H3 q2 (.lst [.str (Str.ofString "option")]) = H4 at s4 e4 ⊢
        refine ⟨q1, q2, _, _, rfl, rfl, s4 _ _ e3, e4, by show 5 ≤ sizeLine; decide, fun q3 nq3 => ?_⟩
        have s5 := same_upd (o := .lst ([.str (Str.ofString "give"), .str wd, .str t, .str k] ++ [.str (Str.ofString "option")])) nq3
        refine ⟨_, q3, wordsD (.give wd t k true), rfl, rfl, .inl (SqL.of upd_same), ?_, ?_⟩
        · show (4 + (wd.length + (t.length + (k.length + (6 + 0))))) + 5 * 1 ≤ 16777216
          omega
        · exact ⟨L, _, _, rfl, rfl, s5 _ _ (s4 _ _ (s3 _ _ e2)), hxs, fin hd ((s3.trans s4).trans s5)⟩
  · intro σ H2 h
    obtain ⟨y, z, rfl, s2, e2⟩ := h
    rw [List.take_of_length_le (by rw [hR.1]; exact Nat.le_refl _)] at e2
    exact ⟨_, rfl, q L H2 s2 nL e2⟩
end
end K10
set_option maxHeartbeats 4000000
namespace K10
open PySem PySem.Spec PyProof.Rows L2 RL RE RN RM TL RQ RC
abbrev tOwn : Str := Str.ofString "owner"
abbrev psF : List Str := ["self", "name", "owner", "audience", "mode", "body"]
/-- the class of functions made -/
structure MkF (P : Program) (w : World) (K : PySem.W.Frag) (mg : Str → Option Value) (base : Heap) (c : Cs) (C f : Addr) (fd : FuncData) (g1 g2 : List Value → List Value → List Value) : Prop where
  M : Mk K C f
  F : FnOk P w K mg base CX0 4 f fd psF (spFunI K c C)
  g : mg "Function" = some (.ref C)
  b1 : KBn K fd psF 3 ["body"] g1 (fun vs zs => vs ++ ([.non, .str tOwn] ++ zs))
  b2 : KBn K fd psF 3 ["mode", "body"] g2 (fun vs zs => vs ++ ([.non] ++ zs))
  b0 : ∃ (aT : Addr) (ds : List Value), KTup K aT [] ∧ Binds K fd psF ds ∧ Vals [V.non, .str tOwn, .ref aT] ds
section
variable {P : Program} {w : World} {K : PySem.W.Frag} {mg : Str → Option Value} {base : Heap} {f : Addr} {fd : FuncData}
theorem Nm.at_ {H : Hp} {p : Addr} {ys : List Str} (h : Nm H p ys) (i : Nat) (hi : i < 6) : ∃ y, ys[i]? = some y ∧ atI (ys.map V.str) (i : Int) = some (.str y) ∧ nameT y = true ∧ txt y := by
  have hlt : i < ys.length := by rw [h.2.1]; exact hi
  refine ⟨ys[i], List.getElem?_eq_getElem hlt, atI_nat ?_, h.2.2 _ (List.getElem_mem hlt)⟩
  rw [List.getElem?_map, List.getElem?_eq_getElem hlt]
  rfl
/-- what a call of Function comes to -/
theorem fun_init {c : Cs} {C : Addr} {H : Hp} {n o md : Str} {b : Addr} {xs : List V} {ds : List Dm} {x dx : Addr} {R : Hp → Prop} (t1 : txt n) (n1 : nameT n = true) (t2 : txt o) (n2 : nameT o = true) (hm : md = tOwn ∨ md = Str.ofString "caller") (hS : Sq K H b xs) (hb : H b ≠ none) (hD : Deeds c H xs ds) (hl : ds.length ≤ 4)
    (q : ∀ p H', Same H H' → H p = none → FunP c C H' x p ⟨n, o, md, ds⟩ → R H') (nx : H x = none) (nd : H dx = none) (ne : dx ≠ x) :
    spFunI K c C [.ref x, .str n, .str o, .non, .str md, .ref b] (upd (upd H dx (.own x)) x (.ins C dx [])) (fun v H3 => v = .non ∧ R H3) (fun _ _ _ => False) := by
  have s : Same H (upd (upd H dx (.own x)) x (.ins C dx [])) := fun a y e => by
    rw [upd_ne (ne_of_none e nx), upd_ne (ne_of_none e nd)]
    exact e
  have hbx : b ≠ x := fun z => hb (by rw [z]; exact nx)
  refine ⟨x, dx, b, ⟨n, o, md, ds⟩, xs, rfl, upd_same, t1, n1, t2, n2, hm, (fun H' k => hS.imp (fun h => h.imp (fun h => h.imp (fun e => k _ _ hbx (s _ _ e)) fun ⟨o, e⟩ => ⟨o, k _ _ hbx (s _ _ e)⟩) id) (fun h => h.imp (fun h => h.imp (fun e => k _ _ hbx (s _ _ e)) fun ⟨o, e⟩ => ⟨o, k _ _ hbx (s _ _ e)⟩) id)), Deeds.ext hD s, hl, fun H' p np k h => ⟨rfl, q p H' (fun u y e => k u y (ne_of_none e nx) (s _ _ e)) (by
    cases e : H p with
    | none => rfl
    | some y => rw [s _ _ e] at np; cases np) h⟩⟩
theorem fun_init0 {c : Cs} {C aT : Addr} {H : Hp} {n o : Str} {x dx : Addr} {R : Hp → Prop} (t1 : txt n) (n1 : nameT n = true) (t2 : txt o) (n2 : nameT o = true) (hT : KTup K aT [])
    (q : ∀ H', Same H H' → FunAt c C H' x ⟨n, o, tOwn, []⟩ → R H') (nx : H x = none) (nd : H dx = none) (ne : dx ≠ x) :
    spFunI K c C [.ref x, .str n, .str o, .non, .str tOwn, .ref aT] (upd (upd H dx (.own x)) x (.ins C dx [])) (fun v H3 => v = .non ∧ R H3) (fun _ _ _ => False) := by
  have s : Same H (upd (upd H dx (.own x)) x (.ins C dx [])) := fun a y e => by
    rw [upd_ne (ne_of_none e nx), upd_ne (ne_of_none e nd)]
    exact e
  exact ⟨x, dx, aT, ⟨n, o, tOwn, []⟩, [], rfl, upd_same, t1, n1, t2, n2, .inl rfl, fun H' k => .inr hT.sq, ⟨rfl, fun i x d h => by simp at h⟩, Nat.zero_le _, fun H' p np k h => ⟨rfl, q H' (fun u y e => k u y (ne_of_none e nx) (s _ _ e)) h.at_⟩⟩
def spMadeF (K : PySem.W.Frag) (c : Cs) (C : Addr) : Sp := fun vs H Q _ => ∃ (pN r : Addr) (ys : List Str) (y0 y1 md : Str) (rs : List V) (ds : List Dm), vs = [.ref pN, .str md, .ref r] ∧ Nm H pN ys ∧ ys[0]? = some y0 ∧ ys[1]? = some y1 ∧ (md = tOwn ∨ md = Str.ofString "caller") ∧ SqL K H r rs ∧ Rw H rs ds ∧ ds.length ≤ 4 ∧
  ∀ a H', Same H H' → FunAt c C H' a ⟨y0, y1, md, ds⟩ → Q (.ref a) H'
theorem ok_made {c : Cs} {C fF : Addr} {fdF : FuncData} {g1 g2 : List Value → List Value → List Value} (F : Fun K "_law_made" "_law_made" s__law_made f fd) (M : MkF P w K mg base c C fF fdF g1 g2) (D : Df P w K mg base CX0 6 "_law_deeds" ["_law_rows"] (spDeeds K c)) (mt : mg "tuple" = none) :
    FnOk P w K mg base CX0 7 f fd ["_law_names_here", "_law_way", "_law_rows"] (spMadeF K c C) := by
  refine F.ok sc__law_made (fun vs H Q E h => by obtain ⟨pN, r, ys, y0, y1, md, rs, ds, rfl, _⟩ := h; rfl) (fun cdv A outer s H vs Q E hr h => ?_)
  obtain ⟨pN, r, ys, y0, y1, md, rs, ds, rfl, hN, h0, h1, hm, hS, hR, hl, q⟩ := h
  have a0 : atI (ys.map V.str) ((0 : Nat) : Int) = some (.str y0) := atI_nat (by rw [List.getElem?_map, h0]; rfl)
  have a1 : atI (ys.map V.str) ((1 : Nat) : Int) = some (.str y1) := atI_nat (by rw [List.getElem?_map, h1]; rfl)
  have p0 := hN.2.2 y0 (List.mem_of_getElem? h0)
  have p1 := hN.2.2 y1 (List.mem_of_getElem? h1)
  refine ⟨_, PSs.nox (pss_cons (ps_if (pt_cmpR op_eq (pv 1) pe_str (nomark _)) (pss_one (ps_ret (pe_makeK (n := 2) M.M M.F (hr.mono (by decide)) (by rfl) M.g M.b1 pass0 (pa_cons (pe_ix ix_list (pv 0) pe_int (fun _ _ => rfl)) (pa_cons (pe_ix ix_list (pv 0) pe_int (fun _ _ => rfl)) pa_nil)) (pk_cons (pe_df0 D hr (by rfl) (pa_cons (pv 2) pa_nil)) pk_nil)))) pss_nil)
    (pss_one (ps_ret (pe_makeK (n := 2) M.M M.F (hr.mono (by decide)) (by rfl) M.g M.b2 pass0 (pa_cons (pe_ix ix_list (pv 0) pe_int (fun _ _ => rfl)) (pa_cons (pe_ix ix_list (pv 0) pe_int (fun _ _ => rfl)) pa_nil)) (pk_cons (pv 1) (pk_cons (pe_callTy call_tuple_of (by rfl) mt (by decide +kernel) (pa_cons (pe_df0 D hr (by rfl) (pa_cons (pv 2) pa_nil)) pa_nil)) pk_nil)))))), ?_⟩
  refine ⟨_, rfl, rfl, _, rfl, ite2 (fun e => ?_) (fun e => ?_)⟩
  · have em : md = tOwn := V.str.inj (of_decide_eq_true e)
    subst em
    refine ⟨_, rfl, pN, _, 0, .str y0, rfl, rfl, SqL.of hN.1, a0, _, rfl, pN, _, 1, .str y1, rfl, rfl, SqL.of hN.1, a1, _, rfl, r, rs, ds, rfl, hS, hR, by omega, fun b xs H1 s1 nb eb hD => ?_⟩
    refine ⟨rfl, rfl, fun x dx nx nd ne => ?_⟩
    exact fun_init p0.2 p0.1 p1.2 p1.1 hm (.inl (SqL.of eb)) (by rw [eb]; exact fun z => nomatch z) hD hl (fun p H' s _ h => q x H' (s1.trans s) h.at_) nx nd ne
  · refine ⟨_, rfl, pN, _, 0, .str y0, rfl, rfl, SqL.of hN.1, a0, _, rfl, pN, _, 1, .str y1, rfl, rfl, SqL.of hN.1, a1, _, rfl, _, rfl, r, rs, ds, rfl, hS, hR, by omega, fun b xs H1 s1 nb eb hD => ?_⟩
    refine ⟨b, xs, rfl, .inl ⟨SqL.of eb, fun l nl => ?_⟩⟩
    have s2 := same_upd (o := .tup xs) nl
    refine ⟨rfl, rfl, fun x dx nx nd ne => ?_⟩
    exact fun_init p0.2 p0.1 p1.2 p1.1 hm (.inr (SqT.of upd_same)) (by rw [upd_same]; exact fun z => nomatch z) (Deeds.ext hD s2) hl (fun p H' s _ h => q x H' ((s1.trans s2).trans s) h.at_) nx nd ne
end
end K10
set_option maxHeartbeats 4000000
namespace K10
open PySem PySem.Spec PyProof.Rows L2 RL RE RN RM TL RQ RC
/-- a Make of the thing at t -/
def MakeAt (CM : Addr) (H : Hp) (a t : Addr) : Prop := ∃ dx, H a = some (.ins CM dx [("thing", .ref t)])
section
variable {P : Program} {w : World} {K : PySem.W.Frag} {mg : Str → Option Value} {base : Heap} {f : Addr} {fd : FuncData}
def spMk (K : PySem.W.Frag) (CM CT C : Addr) : Sp := fun vs H Q _ => ∃ (a t dx C' dy : Addr) (gs : List (Str × V)), vs = [.ref a, .ref t] ∧ H a = some (.ins CM dx []) ∧ H t = some (.ins C' dy gs) ∧ TyC K C' ∧ PySem.W.kitAny K (.ref C') [.ref CT, .ref C] = some true ∧ t ≠ a ∧ ∀ H', (∀ u o, u ≠ a → H u = some o → H' u = some o) → MakeAt CM H' a t → Q .non H'
theorem ok_MakeI {CM CT C : Addr} (F : Fun K "__init__" "Make.__init__" s_Make_init f fd) (gT : mg "Table" = some (.ref CT)) (gF : mg "Function" = some (.ref C)) (cl : Cls K CM) (n1 : NoAttr K CM "thing") (mi : mg "isinstance" = none) : FnOk P w K mg base CX0 1 f fd ["self", "thing"] (spMk K CM CT C) := by
  refine F.ok sc_Make_init (fun vs H Q E h => by obtain ⟨a, t, dx, C', dy, gs, rfl, _⟩ := h; rfl) (fun cdv A outer s H vs Q E hr h => ?_)
  obtain ⟨a, t, dx, C', dy, gs, rfl, ea, et, ty, kt, hta, q⟩ := h
  refine ⟨_, PSs.nox (pss_cons (ps_if (pt_not (pt_val (pe_callB call_isiT (by rfl) mi boot_isinstance (pa_cons (pv 1) (pa_cons (pe_tup (pa_cons (pe_glob (v := .ref CT) (by rfl) gT rfl) (pa_cons (pe_glob (v := .ref C) (by rfl) gF rfl) pa_nil))) pa_nil))))) (pss_one ps_never) pss_nil)
    (pss_one (ps_fld (pv 0) (pv 1) rfl))), ?_⟩
  refine ⟨_, rfl, by show 2 ≤ sizeLine; decide, fun p np => ?_⟩
  have s1 := same_upd (o := .tup [.ref CT, .ref C]) np
  refine ⟨.ref t, p, _, .ref C', _, true, rfl, upd_same, .cons (.own _) (.cons (.own _) .nil), ty.ty (s1 _ _ et), kt, _, rfl, ?_⟩
  refine iteF ⟨_, rfl, _, rfl, a, CM, dx, _, rfl, s1 _ _ ea, cl, n1, by decide, ?_⟩
  exact q _ (fun u o n e => by rw [upd_ne n]; exact s1 _ _ e) ⟨dx, upd_same⟩
/-- how two Makes of functions, or of a function and another thing, compare -/
def RM' (K : PySem.W.Frag) (c : Cs) (C CM : Addr) : Addr → V → Hp → Bool → Prop := fun a y H k => ∃ (b t t' : Addr), MakeAt CM H a t ∧ y = .ref b ∧ MakeAt CM H b t' ∧ DInsB K C (RF K c C) (.ref t) (.ref t') H k
theorem ok_MakeE {c : Cs} {C CM fE : Addr} {fdE : FuncData} (F : Fun K "__eq__" "Make.__eq__" s_Make_eq f fd) (gM : mg "Make" = some (.ref CM)) (ty : TyC K CM) (n1 : NoAttr K CM "thing") (mm : PySem.W.kitOne K (.ref CM) (.ref CM) = some true) (mi : mg "isinstance" = none)
    (FE : FnOk P w K mg base CX0 3 fE fdE ["self", "other"] (spEqB (RF K c C))) (hs : PySem.W.findIn K (.ref C) "__eq__" = some (some (.ref fE))) (hf : PySem.W.isFn K (.ref fE) = true) (bE : Binds K fdE ["self", "other"] []) :
    FnOk P w K mg base CX0 4 f fd ["self", "other"] (spEqB (RM' K c C CM)) := by
  refine F.ok sc_Make_eq spEqB_len (fun cdv A outer s H vs Q E hr h => ?_)
  obtain ⟨a, y, k, rfl, ⟨b, t, t', ⟨dx, ea⟩, rfl, ⟨dy, eb⟩, hD⟩, q⟩ := h
  refine ⟨_, PSs.nox (pss_one (ps_ret (pe_and (pe_callB call_isi (by rfl) mi boot_isinstance (pa_cons (pv 1) (pa_cons (pe_glob (v := .ref CM) (by rfl) gM rfl) pa_nil)))
    (pe_one (pe_cmpR (op_eqB (rcB_ins FE hs hf bE pass0) hr) (pe_fld (pv 0) rfl) (pe_fld (pv 1) rfl) (by rfl)))))), ?_⟩
  refine ⟨_, rfl, .ref b, .ref CM, .ref CM, .ref CM, _, rfl, .own _, ty.ty eb, mm, _, rfl, ?_⟩
  exact iteT ⟨_, rfl, a, CM, dx, _, _, rfl, ea, ty.cl, n1, rfl, _, rfl, b, CM, dy, _, _, rfl, eb, ty.cl, n1, rfl, k, hD, fun H' x => q H' x⟩
end
end K10
set_option maxHeartbeats 4000000
namespace K10
open PySem PySem.Spec PyProof.Rows L2 RL RE RN RM TL RQ RC
/-- the deeds' own __str__ -/
structure DS (P : Program) (w : World) (K : PySem.W.Frag) (mg : Str → Option Value) (base : Heap) (c : Cs) : Prop where
  C : ∃ (f : Addr) (fd : FuncData), FnOk P w K mg base CX0 1 f fd ["self"] (spStr c isC) ∧ PySem.W.findIn K (.ref c.call) "__str__" = some (some (.ref f)) ∧ PySem.W.isFn K (.ref f) = true ∧ Binds K fd ["self"] []
  G : ∃ (f : Addr) (fd : FuncData), FnOk P w K mg base CX0 1 f fd ["self"] (spStr c isG) ∧ PySem.W.findIn K (.ref c.give) "__str__" = some (some (.ref f)) ∧ PySem.W.isFn K (.ref f) = true ∧ Binds K fd ["self"] []
def rStrD (c : Cs) : List V → Hp → VK → Prop := fun xs H Q => ∃ (a : Addr) (d : Dm), xs = [.ref a] ∧ DeedAt c H a d ∧ okD d ∧ ∀ H', Ext H H' → Q (.str (strD d)) H'
theorem call_strD {X : Cx} {c : Cs} (D : DS X.prog X.w X.K X.mg X.base c) (hr : Room 3 X.A) : CallR X (.type "str") (rStrD c) := by
  intro pins s σ H xs us Q I r h
  obtain ⟨a, d, rfl, ⟨dx, ea⟩, ok, q⟩ := h
  obtain ⟨f1, fd1, F1, s1, i1, b1⟩ := D.C
  obtain ⟨f2, fd2, F2, s2, i2, b2⟩ := D.G
  cases d with
  | call n => exact call_strO F1 hr s1 i1 b1 pass0 pins s σ H _ us Q I r ⟨a, dx, _, rfl, ea, a, .call n, rfl, ⟨dx, ea⟩, ok, rfl, fun H' x => ⟨_, rfl, q H' x⟩⟩
  | give wd t k o => exact call_strO F2 hr s2 i2 b2 pass0 pins s σ H _ us Q I r ⟨a, dx, _, rfl, ea, a, .give wd t k o, rfl, ⟨dx, ea⟩, ok, rfl, fun H' x => ⟨_, rfl, q H' x⟩⟩
end K10
set_option maxHeartbeats 4000000
namespace K10
open PySem PySem.Spec PyProof.Rows L2 RL RE RN RM TL RQ RC
/-! ### texts of deeds as data -/
theorem strD_ok {d : Dm} (h : okD d) : ∀ x ∈ tl (strD d), x < 256 := by
  have key : ∀ ws : List Str, (∀ y ∈ ws, ∀ x ∈ tl y, x < 256) → ∀ x ∈ tl (Txt.join (Str.ofString " ") ws), x < 256 := by
    intro ws hw x hx
    have hx : (fun x => decide (x < 256)) x = true := by
      rw [join_eq, tl_join] at hx
      refine okP_joinL (p := fun x => decide (x < 256)) (S := tl (Str.ofString " ")) (fun y hy => ?_) _ (fun q hq y hy => ?_) x hx
      · revert y
        decide +kernel
      · obtain ⟨z, hz, rfl⟩ := List.mem_map.mp hq
        exact decide_eq_true (hw z hz y hy)
    exact of_decide_eq_true hx
  cases d with
  | call n =>
    refine key _ fun y hy => ?_
    rcases List.mem_cons.mp hy with e | hy
    · rw [e]; decide +kernel
    · rw [List.mem_singleton.mp hy]; exact h.1.2
  | give w t k o =>
    obtain ⟨⟨_, a⟩, ⟨_, b⟩, ⟨_, c⟩, _⟩ := h
    refine key _ fun y hy => ?_
    rcases List.mem_append.mp hy with hy | hy
    · simp only [List.mem_cons, List.not_mem_nil, or_false] at hy
      rcases hy with e | e | e | e
      · rw [e]; decide +kernel
      · rw [e]; exact a
      · rw [e]; exact b
      · rw [e]; exact c
    · cases o with
      | false => cases hy
      | true => rw [List.mem_singleton.mp hy]; decide +kernel
def strsP (ds : List Dm) : List PyData := ds.map fun d => PyData.str (strD d)
theorem strs_all {K : PySem.W.Frag} {H : Hp} : ∀ ds : List Dm, DpAll K H (strsV ds) (strsP ds)
  | [] => .nil
  | _ :: r => .cons (.str _) (strs_all r)
theorem strs_lay : ∀ ds : List Dm, (∀ d ∈ ds, okD d) → PyData.canLayAll0 (strsP ds) = true
  | [], _ => rfl
  | d :: r, h => by
    show (PyData.canLay0 (.str (strD d)) && PyData.canLayAll0 (strsP r)) = true
    rw [strs_lay r fun x hx => h x (List.mem_cons_of_mem _ hx)]
    have o := strD_ok (h d (List.mem_cons_self ..))
    have : PyData.strOk (strD d) = true := by
      unfold PyData.strOk
      rw [← Array.all_toList, List.all_eq_true]
      exact fun x hx => decide_eq_true (Nat.lt_trans (o x hx) (by decide))
    simp [PyData.canLay0, this]
theorem strs_depth : ∀ ds : List Dm, PyData.depthAll (strsP ds) = 0
  | [] => rfl
  | _ :: r => by
    show max (PyData.depth _) (PyData.depthAll (strsP r)) = 0
    rw [strs_depth r]; simp [PyData.depth]
theorem strs_shaped {ds : List Dm} (h : ∀ d ∈ ds, okD d) : SeqAt.shaped (.list (strsP ds)) = true := by
  simp [SeqAt.shaped, PyData.canLay0, PyData.depth, strs_lay ds h, strs_depth]
theorem strs_eqv {ds : List Dm} (h : ∀ d ∈ ds, okD d) : PyData.eqv (.list (strsP ds)) (.list (strsP ds)) = true := SeqAt.eqv_refl _ (SeqAt.canLay_of_shaped (strs_shaped h))
end K10
set_option maxHeartbeats 4000000
namespace K10
open PySem PySem.Spec PyProof.Rows L2 RL RE RN RM TL RQ RC
theorem hu64 {A : Around} {k : Nat} (hr : Room k A) : A.units + 64 < cLine := by
  have := hr.un
  omega
section
variable {P : Program} {w : World} {K : PySem.W.Frag} {mg : Str → Option Value} {base : Heap} {f : Addr} {fd : FuncData}
def spTold (K : PySem.W.Frag) (c : Cs) (C : Addr) : Sp := fun vs H Q _ => ∃ (a r : Addr) (m : Fm) (rs : List V), vs = [.ref a, .str m.mode, .ref r] ∧ FunAt c C H a m ∧ SqL K H r rs ∧ Rw H rs m.body ∧ m.body.length ≤ 4 ∧ ∀ H', Same H H' → Q (.bl true) H'
theorem ok_told {c : Cs} {C fB fL : Addr} {fdB fdL : FuncData} (F : Fun K "_law_told_right" "_law_told_right" s__law_told_right f fd) (D : DS P w K mg base c) (T : FF K C) (MB : Meth K C "body" fB) (FB : FnOk P w K mg base CX0 1 fB fdB ["self"] (spBodyM c C)) (bB : Binds K fdB ["self"] [])
    (FL : FnOk P w K mg base CX0 1 fL fdL ["self"] (spLenM c C)) (hsL : PySem.W.findIn K (.ref C) "__len__" = some (some (.ref fL))) (hfL : PySem.W.isFn K (.ref fL) = true) (bL : Binds K fdL ["self"] []) (GX : Df P w K mg base CX0 1 "_law_texts" ["_law_rows"] (spTexts K))
    (mr : mg "range" = none) (mi : mg "isinstance" = none) (mli : mg "list" = none) (ms : mg "str" = none) (ml : mg "len" = none) :
    FnOk P w K mg base CX0 4 f fd ["_law_thing", "_law_way", "_law_rows"] (spTold K c C) := by
  refine F.ok sc__law_told_right (fun vs H Q E h => by obtain ⟨a, r, m, rs, rfl, _⟩ := h; rfl) (fun cdv A outer s H vs Q E hr h => ?_)
  obtain ⟨a, r, m, rs, rfl, hF, hS, hR, hl, q⟩ := h
  have hr1 := hr.mono (show 1 ≤ 3 by decide)
  refine ⟨_, PSs.nox (pss_cons (ps_for PassesOwn.never rfl (pi_range1 (by rfl) mr (pa_cons pe_int pa_nil)) (pg_name (i := 3) sc__law_told_right.nd rfl (Or.inl rfl))
      (pss_cons (ps_set (i := 4) sc__law_told_right.nd rfl (.inl rfl) (pe_meth0 (pv 0) T.t.cl MB FB (hr.mono (by decide)) bB .nil pass0))
      (pss_cons (ps_if (PW.pt (pw_or (pt_not (pt_val (pe_callB call_isi (by rfl) mi boot_isinstance (pa_cons (pv 4) (pa_cons (pe_bltn (v := .ty "list") (by rfl) mli (by decide +kernel) rfl) pa_nil))))) (pw_or1 (pt_cmpR (op_neD (hu64 hr)) (pe_lc (own := [("_law_deed", 5)]) (g := gName 5) (by rfl) sc__law_told_right.nd (pi_list (pv 4)) (blkOk_by (own := [("_law_deed", 5)]) (N := N__law_told_right) (sc := defScope s__law_told_right) (by decide +kernel)) (fun _ _ _ _ _ => pg_name (i := 5) sc__law_told_right.nd rfl (Or.inl rfl)) (fun _ _ _ _ _ => pts_nil) (fun _ _ _ _ _ => pe_callTy (r := rStrD c) (call_strD D hr) (by rfl) ms PyProof.Rows.boot_str (pa_cons (pv 5) pa_nil))) (pe_df0 GX hr1 (by rfl) (pa_cons (pv 2) pa_nil)) (by rfl))))) (pss_one (ps_ret pe_bl)) pss_nil)
      (pss_cons (ps_expr (pe_bm PySem.F.plainAttrs_list PySem.F.slot_list_append PySem.F.type_list_append mt_append (pv 4) (pa_cons pe_str pa_nil)))
      (pss_one (ps_if (PW.pt (pw_or (pt_cmpR op_ne (pe_fld (pv 0) rfl) (pv 1) (by rfl)) (pw_or (pt_cmpR op_ne (pe_callB (call_lenO FL (hr.mono (by decide)) hsL hfL bL pass0) (by rfl) ml PySem.boot_len (pa_cons (pv 0) pa_nil)) (pe_callB call_len_seq (by rfl) ml PySem.boot_len (pa_cons (pv 2) pa_nil)) (by rfl)) (pw_or1 (pt_cmpR op_ne (pe_fld (pv 0) rfl) pe_str (nomark _)))))) (pss_one (ps_ret pe_bl)) pss_nil))))))
    (pss_one (ps_ret (pe_cmpR (op_eqD (hu64 hr)) (pe_lc (own := [("_law_deed", 5)]) (g := gName 5) (by rfl) sc__law_told_right.nd (pi_list (pe_meth0 (pv 0) T.t.cl MB FB (hr.mono (by decide)) bB .nil pass0)) (blkOk_by (own := [("_law_deed", 5)]) (N := N__law_told_right) (sc := defScope s__law_told_right) (by decide +kernel)) (fun _ _ _ _ _ => pg_name (i := 5) sc__law_told_right.nd rfl (Or.inl rfl)) (fun _ _ _ _ _ => pts_nil) (fun _ _ _ _ _ => pe_callTy (r := rStrD c) (call_strD D hr) (by rfl) ms PyProof.Rows.boot_str (pa_cons (pv 5) pa_nil))) (pe_df0 GX hr1 (by rfl) (pa_cons (pv 2) pa_nil)) (by rfl))))), ?_⟩
  have okd : ∀ d ∈ m.body, okD d := fun d hd => by
    obtain ⟨i, hi, rfl⟩ := List.getElem_of_mem hd
    have h2 : i < rs.length := by rw [hR.1]; exact hi
    exact (hR.2 i _ _ (List.getElem?_eq_getElem h2) (List.getElem?_eq_getElem hi)).1
  have hFs : ∀ {H' : Hp}, Same H H' → FunAt c C H' a m := fun s => by
    obtain ⟨dx, p, xs, e1, e2, e3⟩ := hF
    exact ⟨dx, p, xs, s _ _ e1, s _ _ e2, Deeds.ext e3 s⟩
  obtain ⟨dx, p0, xs0, ea, ep0, hD0⟩ := id hF
  refine ⟨2, rfl, by decide, by decide, for_range (lo := 0) (n := 2) (fun i σ H' => ∃ y3 y4 y5, σ = [some (.ref a), some (.str m.mode), some (.ref r), y3, y4, y5] ∧ Same H H') ⟨_, _, _, rfl, same_refl⟩ ?_ ?_⟩
  · intro i σ H2 hi h
    obtain ⟨y3, y4, y5, rfl, s2⟩ := h
    refine ⟨_, rfl, a, dx, _, rfl, s2 _ _ ea, rfl, a, m, rfl, hFs s2, fun l xs nl hD' => ?_⟩
    have el : (upd H2 l (.lst xs)) l = some (.lst xs) := upd_same
    have s3 := s2.trans (same_upd (o := .lst xs) nl)
    have hD3 := Deeds.ext hD' (same_upd (o := .lst xs) nl)
    generalize upd H2 l (.lst xs) = H3 at el s3 hD3 ⊢
    refine ⟨_, rfl, .ref l, .ty "list", .type "list", .type "list", true, rfl, .ty _, .base (.lst el), kit_ty k_list_list, _, rfl, ?_⟩
    refine iteF ?_
    refine ⟨_, rfl, l, rfl, ⟨xs, SqL.of el⟩, fun D nD => lc_list (K := K) (xs := xs) (fun i H' => H' D = some (.lst (strsV (m.body.take i))) ∧ Same H3 H') ⟨by rw [upd_same, List.take_zero]; rfl, same_upd nD⟩ (fun i H' _ h => SqL.of (h.2 _ _ el)) ?_ ?_⟩
    · intro i x H4 hx h
      obtain ⟨eD, s4⟩ := h
      have hi : i < m.body.length := by rw [← (hD3).1]; exact (List.getElem?_eq_some_iff.mp hx).1
      obtain ⟨u, rfl, dy, eu⟩ := (hD3).2 i x _ hx (List.getElem?_eq_getElem hi)
      refine ⟨rfl, ?_⟩
      unfold tYes
      refine iteT ?_
      refine ⟨_, rfl, u, m.body[i], rfl, ⟨dy, s4 _ _ eu⟩, okd _ (List.getElem_mem hi), fun H5 x5 => ?_⟩
      refine ⟨_, x5 _ _ eD, ?_, ?_, ?_⟩
      · unfold strsV
        rw [List.length_map, List.length_take]
        exact Nat.lt_of_lt_of_le (show _ < 1000 by omega) (by decide)
      · rw [upd_same, List.take_add_one, List.getElem?_eq_getElem hi]
        unfold strsV
        rw [List.map_append]
        rfl
      · intro v o e
        rw [upd_ne (fun z => by rw [z, nD] at e; cases e)]
        exact x5 _ _ (s4 _ _ e)
    · intro H4 h
      obtain ⟨eD, s4⟩ := h
      rw [List.take_of_length_le (by rw [(hD3).1]; exact Nat.le_refl _)] at eD
      have s14 := s3.trans s4
      refine ⟨_, rfl, r, rs, m.body, rfl, SqL.ext hS s14, hR.same s14, by omega, fun q1 H5 s5 nq e5 => ?_⟩
      refine ⟨.list (strsP m.body), .list (strsP m.body), .lst (SqL.of (s5 _ _ eD)) (strs_all _), .lst (SqL.of e5) (strs_all _), strs_shaped okd, strs_shaped okd, _, rfl, ?_⟩
      rw [strs_eqv okd]
      refine iteF ?_
      have s15 := s14.trans s5
      have el5 := s5 _ _ (s4 _ _ el)
      refine ⟨_, rfl, .inl ⟨rfl, _, .inl (.inl el5)⟩, l, xs, _, rfl, rfl, el5, Nat.lt_of_lt_of_le (show xs.length < 1000 by rw [hD'.1]; omega) (by decide), ?_⟩
      have nHl : H l = none := by
        cases e : H l with
        | none => rfl
        | some o => rw [s2 _ _ e] at nl; cases nl
      have s6 : Same H (upd H5 l (.lst (xs ++ [.str (Str.ofString "late")]))) := fun v o e => by
        rw [upd_ne (fun z => by rw [z, nHl] at e; cases e)]
        exact s15 _ _ e
      generalize upd H5 l (.lst (xs ++ [.str (Str.ofString "late")])) = H6 at s6 ⊢
      refine ⟨_, rfl, a, C, dx, _, _, rfl, s6 _ _ ea, T.t.cl, T.n5, rfl, _, rfl, rfl, _, rfl, ?_⟩
      rw [decide_eq_true rfl]
      refine iteF ⟨_, rfl, a, dx, _, rfl, s6 _ _ ea, a, m, rfl, hFs s6, (m.body.length : Nat), rfl, by omega, by omega, _, rfl, r, rs, rfl, .inl (SqL.ext hS s6), rfl, _, rfl, ?_⟩
      rw [hR.1, decide_eq_true rfl]
      refine iteF ⟨_, rfl, a, C, dx, _, _, rfl, s6 _ _ ea, T.t.cl, T.t.n1, rfl, rfl, _, rfl, ?_⟩
      rw [decide_eq_true rfl]
      refine iteF ?_
      exact ⟨_, _, _, rfl, s6⟩
  · intro σ H2 h
    obtain ⟨y3, y4, y5, rfl, s2⟩ := h
    refine ⟨_, rfl, a, dx, _, rfl, s2 _ _ ea, rfl, a, m, rfl, hFs s2, fun l xs nl hD' => ?_⟩
    have el : (upd H2 l (.lst xs)) l = some (.lst xs) := upd_same
    have s3 := s2.trans (same_upd (o := .lst xs) nl)
    have hD3 := Deeds.ext hD' (same_upd (o := .lst xs) nl)
    generalize upd H2 l (.lst xs) = H3 at el s3 hD3 ⊢
    refine ⟨l, rfl, ⟨xs, SqL.of el⟩, fun D nD => lc_list (K := K) (xs := xs) (fun i H' => H' D = some (.lst (strsV (m.body.take i))) ∧ Same H3 H') ⟨by rw [upd_same, List.take_zero]; rfl, same_upd nD⟩ (fun i H' _ h => SqL.of (h.2 _ _ el)) ?_ ?_⟩
    · intro i x H4 hx h
      obtain ⟨eD, s4⟩ := h
      have hi : i < m.body.length := by rw [← (hD3).1]; exact (List.getElem?_eq_some_iff.mp hx).1
      obtain ⟨u, rfl, dy, eu⟩ := (hD3).2 i x _ hx (List.getElem?_eq_getElem hi)
      refine ⟨rfl, ?_⟩
      unfold tYes
      refine iteT ?_
      refine ⟨_, rfl, u, m.body[i], rfl, ⟨dy, s4 _ _ eu⟩, okd _ (List.getElem_mem hi), fun H5 x5 => ?_⟩
      refine ⟨_, x5 _ _ eD, ?_, ?_, ?_⟩
      · unfold strsV
        rw [List.length_map, List.length_take]
        exact Nat.lt_of_lt_of_le (show _ < 1000 by omega) (by decide)
      · rw [upd_same, List.take_add_one, List.getElem?_eq_getElem hi]
        unfold strsV
        rw [List.map_append]
        rfl
      · intro v o e
        rw [upd_ne (fun z => by rw [z, nD] at e; cases e)]
        exact x5 _ _ (s4 _ _ e)
    · intro H4 h
      obtain ⟨eD, s4⟩ := h
      rw [List.take_of_length_le (by rw [(hD3).1]; exact Nat.le_refl _)] at eD
      have s14 := s3.trans s4
      refine ⟨_, rfl, r, rs, m.body, rfl, SqL.ext hS s14, hR.same s14, by omega, fun q1 H5 s5 nq e5 => ?_⟩
      refine ⟨.list (strsP m.body), .list (strsP m.body), .lst (SqL.of (s5 _ _ eD)) (strs_all _), .lst (SqL.of e5) (strs_all _), strs_shaped okd, strs_shaped okd, ?_⟩
      rw [strs_eqv okd]
      exact q H5 (s14.trans s5)
end
end K10
set_option maxHeartbeats 4000000
namespace K10
open PySem PySem.Spec PyProof.Rows L2 RL RE RN RM TL RQ RC
/-! ### cuts of rows -/
theorem Rw.get {H : Hp} {rs : List V} {ds : List Dm} (h : Rw H rs ds) {i : Nat} {x : V} {d : Dm} (h1 : rs[i]? = some x) (h2 : ds[i]? = some d) : okD d ∧ ∃ p, x = .ref p ∧ H p = some (.tup (valsD d)) := h.2 i x d h1 h2
theorem Rw.take {H : Hp} {rs : List V} {ds : List Dm} (h : Rw H rs ds) (k : Nat) : Rw H (rs.take k) (ds.take k) := by
  refine ⟨by rw [List.length_take, List.length_take, h.1], fun i x d h1 h2 => ?_⟩
  rw [List.getElem?_take] at h1 h2
  split at h1
  · next hi => rw [if_pos hi] at h2; exact h.2 i x d h1 h2
  · cases h1
theorem Rw.drop {H : Hp} {rs : List V} {ds : List Dm} (h : Rw H rs ds) (k : Nat) : Rw H (rs.drop k) (ds.drop k) := by
  refine ⟨by rw [List.length_drop, List.length_drop, h.1], fun i x d h1 h2 => ?_⟩
  rw [List.getElem?_drop] at h1 h2
  exact h.2 _ x d h1 h2
theorem Rw.app {H : Hp} {rs rs' : List V} {ds ds' : List Dm} (h : Rw H rs ds) (h' : Rw H rs' ds') : Rw H (rs ++ rs') (ds ++ ds') := by
  refine ⟨by rw [List.length_append, List.length_append, h.1, h'.1], fun i x d h1 h2 => ?_⟩
  by_cases hi : i < rs.length
  · rw [List.getElem?_append_left hi] at h1
    rw [List.getElem?_append_left (by rw [← h.1]; exact hi)] at h2
    exact h.2 i x d h1 h2
  · rw [List.getElem?_append_right (by omega)] at h1
    rw [List.getElem?_append_right (by rw [← h.1]; omega), ← h.1] at h2
    exact h'.2 _ x d h1 h2
theorem Rw.rev {H : Hp} {rs : List V} {ds : List Dm} (h : Rw H rs ds) : Rw H rs.reverse ds.reverse := by
  refine ⟨by rw [List.length_reverse, List.length_reverse, h.1], fun i x d h1 h2 => ?_⟩
  have hi : i < rs.length := by
    have := (List.getElem?_eq_some_iff.mp h1).1
    rwa [List.length_reverse] at this
  rw [List.getElem?_reverse hi] at h1
  rw [List.getElem?_reverse (by rw [← h.1]; exact hi), ← h.1] at h2
  exact h.2 _ x d h1 h2
theorem Rw.one {H : Hp} {p : Addr} {d : Dm} (o : okD d) (e : H p = some (.tup (valsD d))) : Rw H [.ref p] [d] := ⟨rfl, fun i x d' h1 h2 => by
  cases i with
  | zero => cases h1; cases h2; exact ⟨o, p, rfl, e⟩
  | succ i => cases h1⟩
theorem Rw.keep {H H' : Hp} {b : Addr} {n : Int} {rs : List V} {ds : List Dm} (h : Rw H rs ds) (k : Keep b H H') (hb : Bx H b n) : Rw H' rs ds := ⟨h.1, fun i x d h1 h2 => by
  obtain ⟨o, p, rfl, e⟩ := h.2 i x d h1 h2
  refine ⟨o, p, rfl, k p _ (fun z => ?_) e⟩
  subst z
  obtain ⟨g, m, c, eb, _⟩ := hb
  rw [e] at eb
  cases eb⟩
def cutD (ds : List Dm) (lo hi : Option Int) : List Dm := (ds.drop (HT.sIx ds.length 0 lo)).take (HT.sIx ds.length ds.length hi - HT.sIx ds.length 0 lo)
theorem Rw.cut {H : Hp} {rs : List V} {ds : List Dm} (h : Rw H rs ds) (lo hi : Option Int) : Rw H (cutV rs lo hi) (cutD ds lo hi) := by
  unfold cutV cutD
  rw [h.1]
  exact (h.drop _).take _
theorem sIx_pos (n d : Nat) {a : Int} (h : 0 ≤ a) : HT.sIx n d (some a) = min a.toNat n := by
  show (if a < 0 then _ else _) = _
  rw [if_neg (by omega)]
theorem cutD_to (ds : List Dm) {a : Int} (h : 0 ≤ a) : (cutD ds none (some a)).length = min a.toNat ds.length := by
  unfold cutD
  rw [sIx_pos _ _ h, show HT.sIx ds.length 0 none = 0 from rfl, List.length_take, List.length_drop]
  omega
theorem cutD_from (ds : List Dm) {a : Int} (h : 0 ≤ a) : (cutD ds (some a) none).length = ds.length - a.toNat := by
  unfold cutD
  rw [sIx_pos _ _ h, show HT.sIx ds.length ds.length none = ds.length from rfl, List.length_take, List.length_drop]
  omega
/-- a list of rows, at its address -/
def RwAt (H : Hp) (p : Addr) (ds : List Dm) : Prop := ∃ rs, H p = some (.lst rs) ∧ Rw H rs ds
theorem RwAt.same {H H' : Hp} {p : Addr} {ds : List Dm} (h : RwAt H p ds) (s : Same H H') : RwAt H' p ds := by
  obtain ⟨rs, e, r⟩ := h
  exact ⟨rs, s _ _ e, r.same s⟩
theorem RwAt.ne {H : Hp} {p b : Addr} {ds : List Dm} {n : Int} (h : RwAt H p ds) (hb : Bx H b n) : p ≠ b := fun z => by
  subst z
  obtain ⟨rs, e, r⟩ := h
  obtain ⟨g, m, c, eb, _⟩ := hb
  rw [e] at eb
  have e2 := HO.lst.inj (Option.some.inj eb)
  subst e2
  have hl : 0 < ds.length := by rw [← r.1]; exact Nat.succ_pos _
  obtain ⟨_, p, e3, _⟩ := r.2 0 (.int g) ds[0] rfl (List.getElem?_eq_getElem hl)
  cases e3
theorem RwAt.keep {H H' : Hp} {p b : Addr} {ds : List Dm} {n : Int} (h : RwAt H p ds) (k : Keep b H H') (hb : Bx H b n) : RwAt H' p ds := by
  have ne := h.ne hb
  obtain ⟨rs, e, r⟩ := h
  exact ⟨rs, k _ _ ne e, r.keep k hb⟩
section
variable {P : Program} {w : World} {K : PySem.W.Frag} {mg : Str → Option Value} {base : Heap} {f : Addr} {fd : FuncData}
def spOther : Sp := fun vs H Q _ => ∃ (b pN r : Addr) (n : Int) (ys : List Str) (ds : List Dm), vs = [.ref b, .ref pN, .ref r] ∧ 0 ≤ n ∧ n ≤ 80000 ∧ Bx H b n ∧ Nm H pN ys ∧ RwAt H r ds ∧ ds.length ≤ 4 ∧
  ∀ (p : Addr) (ds' : List Dm) H', RwAt H' p ds' → ds'.length ≤ 4 → Keep b H H' → Bx H' b (n + 8) → Q (.ref p) H'
theorem ok_other (F : Fun K "_law_otherwise" "_law_otherwise" s__law_otherwise f fd) (GT : Df P w K mg base CX0 1 "_law_take" ["_law_box_here", "_law_many"] spTake) (GR : Df P w K mg base CX0 2 "_law_row" ["_law_box_here", "_law_names_here"] spRow) (ml : mg "len" = none) (mli : mg "list" = none) :
    FnOk P w K mg base CX0 3 f fd ["_law_box_here", "_law_names_here", "_law_rows"] spOther := by
  refine F.ok sc__law_otherwise (fun vs H Q E h => by obtain ⟨b, pN, r, n, ys, ds, rfl, _⟩ := h; rfl) (fun cdv A outer s H vs Q E hr h => ?_)
  obtain ⟨b, pN, r, n, ys, ds, rfl, n0, n1, hb, hN, hR, hl, q⟩ := h
  have hr1 := hr.mono (show 1 ≤ 2 by decide)
  refine ⟨_, PSs.nox (pss_cons (ps_set (i := 3) sc__law_otherwise.nd rfl (.inl rfl) (pe_df0 GT hr1 (by rfl) (pa_cons (pv 0) (pa_cons (pe_op op_add (pe_callB call_len_seq (by rfl) ml PySem.boot_len (pa_cons (pv 2) pa_nil)) pe_int) pa_nil))))
    (pss_cons (ps_set (i := 4) sc__law_otherwise.nd rfl (.inl rfl) (pe_df0 GT hr1 (by rfl) (pa_cons (pv 0) (pa_cons pe_int pa_nil))))
    (pss_cons (ps_if (pt_cmpR op_eq (pv 4) pe_int (nomark _)) (pss_one (ps_ret (pe_ifExp (pt_cmpR op_lt (pe_callB call_len_seq (by rfl) ml PySem.boot_len (pa_cons (pv 2) pa_nil)) pe_int (nomark _))
      (pe_op op_cat (pe_op op_cat (pe_slice sl_list (pv 2) po_none (po_some (pv 3))) (pe_lst (pa_cons (pe_df0 GR hr (by rfl) (pa_cons (pv 0) (pa_cons (pv 1) pa_nil))) pa_nil))) (pe_slice sl_list (pe_slice sl_list (pv 2) (po_some (pv 3)) po_none) po_none (po_some (pe_op op_sub pe_int (pv 3)))))
      (pe_slice sl_list (pv 2) po_none (po_some pe_int))))) pss_nil)
    (pss_cons (ps_if (pt_cmpR op_eq (pv 4) pe_int (nomark _)) (pss_one (ps_ret (pe_op op_cat (pe_slice sl_list (pv 2) po_none (po_some (pv 3))) (pe_slice sl_list (pv 2) (po_some (pe_op op_add (pv 3) pe_int)) po_none)))) pss_nil)
    (pss_cons (ps_if (pt_cmpR op_eq (pv 4) pe_int (nomark _)) (pss_one (ps_ret (pe_revL (pv 2)))) pss_nil)
    (pss_one (ps_ret (pe_ifExp (pt_cmpR op_lt (pv 3) (pe_callB call_len_seq (by rfl) ml PySem.boot_len (pa_cons (pv 2) pa_nil)) (nomark _))
      (pe_op op_cat (pe_op op_cat (pe_slice sl_list (pv 2) po_none (po_some (pv 3))) (pe_lst (pa_cons (pe_df0 GR hr (by rfl) (pa_cons (pv 0) (pa_cons (pv 1) pa_nil))) pa_nil))) (pe_slice sl_list (pv 2) (po_some (pe_op op_add (pv 3) pe_int)) po_none))
      (pe_callTy call_list_of (by rfl) mli (by decide +kernel) (pa_cons (pv 2) pa_nil)))))))))), ?_⟩
  obtain ⟨rs, er, hrw⟩ := id hR
  have lr := hrw.1
  refine ⟨_, rfl, _, rfl, r, rs, rfl, .inl (SqL.of er), rs.length, 1, rfl, rfl, b, (rs.length : Int) + 1, n, rfl, by omega, by omega, n0, by omega, hb, fun at_ H1 a0 a1 k1 hb1 => ?_⟩
  refine ⟨_, rfl, b, 4, n + 1, rfl, by decide, by decide, by omega, by omega, hb1, fun way H2 w0 w1 k2 hb2 => ?_⟩
  have k12 := k1.trans k2
  have hR2 := hR.keep k12 hb
  have hN2 := hN.keep k12 hb
  have er2 : H2 r = some (.lst rs) := k12 _ _ (hR.ne hb) er
  have hrw2 := hrw.keep k12 hb
  clear hR hN er hrw
  have rne : r ≠ b := hR2.ne hb2
  have ln := hrw2.1
  have cl1 := cutV_length rs none (some at_)
  have ll : rs.length ≤ 4 := by omega
  refine ⟨_, rfl, rfl, _, rfl, ite2 (fun e => ?_) (fun e => ?_)⟩
  · refine ⟨_, rfl, r, rs, rfl, .inl (SqL.of er2), _, 4, rfl, rfl, _, rfl, ite2 (fun e2 => ?_) (fun e2 => ?_)⟩
    · have l4 : ds.length < 4 := by
        have := of_decide_eq_true e2
        omega
      refine ⟨_, rfl, _, rfl, at_, rfl, r, rs, rfl, SqL.of er2, fun p1 np1 => ?_⟩
      have s3 := same_upd (o := .lst (cutV rs none (some at_))) np1
      have e1 : (upd H2 p1 (.lst (cutV rs none (some at_)))) p1 = some (.lst (cutV rs none (some at_))) := upd_same
      have n1b := ne_box hb2 np1
      generalize upd H2 p1 (.lst (cutV rs none (some at_))) = H3 at s3 e1 ⊢
      have hb3 := hb2.same s3
      refine ⟨_, rfl, _, rfl, b, pN, n + 1 + 1, ys, rfl, by omega, by omega, hb3, hN2.same s3, fun pr d H4 od epr npr k4 hb4 => ?_⟩
      have e1 := k4 _ _ n1b e1
      have w4 := (hrw2.same s3).keep k4 hb3
      have er4 := k4 _ _ rne (s3 _ _ er2)
      refine ⟨by show 1 ≤ sizeLine; decide, fun p2 np2 => ?_⟩
      have s5 := same_upd (o := .lst [.ref pr]) np2
      have e2 : (upd H4 p2 (.lst [.ref pr])) p2 = some (.lst [.ref pr]) := upd_same
      generalize upd H4 p2 (.lst [.ref pr]) = H5 at s5 e2 ⊢
      refine ⟨p1, p2, _, _, rfl, rfl, s5 _ _ e1, e2, Nat.le_trans (show _ ≤ 100 by rw [List.length_singleton]; omega) (by decide), fun p3 np3 => ?_⟩
      have s6 := same_upd (o := .lst (cutV rs none (some at_) ++ [V.ref pr])) np3
      have e3 : (upd H5 p3 (.lst (cutV rs none (some at_) ++ [V.ref pr]))) p3 = some (.lst (cutV rs none (some at_) ++ [V.ref pr])) := upd_same
      generalize upd H5 p3 (.lst (cutV rs none (some at_) ++ [V.ref pr])) = H6 at s6 e3 ⊢
      refine ⟨_, rfl, _, rfl, at_, rfl, r, rs, rfl, SqL.of (s6 _ _ (s5 _ _ er4)), fun p4 np4 => ?_⟩
      have s7 := same_upd (o := .lst (cutV rs (some at_) none)) np4
      have e4 : (upd H6 p4 (.lst (cutV rs (some at_) none))) p4 = some (.lst (cutV rs (some at_) none)) := upd_same
      generalize upd H6 p4 (.lst (cutV rs (some at_) none)) = H7 at s7 e4 ⊢
      refine ⟨_, rfl, 3, at_, rfl, rfl, _, rfl, p4, _, rfl, SqL.of e4, fun p5 np5 => ?_⟩
      have s8 := same_upd (o := .lst (cutV (cutV rs (some at_) none) none (some (3 - at_)))) np5
      have e5 : (upd H7 p5 (.lst (cutV (cutV rs (some at_) none) none (some (3 - at_))))) p5 = some (.lst (cutV (cutV rs (some at_) none) none (some (3 - at_)))) := upd_same
      generalize upd H7 p5 (.lst (cutV (cutV rs (some at_) none) none (some (3 - at_)))) = H8 at s8 e5 ⊢
      have c2 := cutV_length (cutV rs (some at_) none) none (some (3 - at_))
      have c3 := cutV_length rs (some at_) none
      refine ⟨p3, p5, _, _, rfl, rfl, s8 _ _ (s7 _ _ e3), e5, Nat.le_trans (show _ ≤ 100 by rw [List.length_append, List.length_singleton]; omega) (by decide), fun p6 np6 => ?_⟩
      have s58 := ((s5.trans s6).trans s7).trans s8
      have s59 := s58.trans (same_upd (o := .lst (cutV rs none (some at_) ++ [V.ref pr] ++ cutV (cutV rs (some at_) none) none (some (3 - at_)))) np6)
      refine q p6 (cutD ds none (some at_) ++ [d] ++ cutD (cutD ds (some at_) none) none (some (3 - at_))) _ ⟨_, upd_same, ((((w4.cut _ _).same s59).app (Rw.one od (s59 _ _ epr))).app (((w4.cut _ _).cut _ _).same s59))⟩ ?_ (((k12.trans (Keep.of s3)).trans k4).trans (Keep.of s59)) ((hb4.same s59).mono (by omega))
      rw [List.length_append, List.length_append, cutD_to _ a0, cutD_to _ (show 0 ≤ 3 - at_ by omega), cutD_from _ a0, List.length_singleton]
      omega
    · refine ⟨_, rfl, 3, rfl, r, rs, rfl, SqL.of er2, fun p1 np1 => ?_⟩
      have s3 := same_upd (o := .lst (cutV rs none (some 3))) np1
      refine q p1 (cutD ds none (some 3)) _ ⟨_, upd_same, (hrw2.cut _ _).same s3⟩ ?_ (k12.trans (Keep.of s3)) ((hb2.same s3).mono (by omega))
      rw [cutD_to _ (show (0 : Int) ≤ 3 by decide)]
      omega
  · refine ⟨_, rfl, rfl, _, rfl, ite2 (fun e => ?_) (fun e => ?_)⟩
    · refine ⟨_, rfl, _, rfl, at_, rfl, r, rs, rfl, SqL.of er2, fun p1 np1 => ?_⟩
      have s3 := same_upd (o := .lst (cutV rs none (some at_))) np1
      have e1 : (upd H2 p1 (.lst (cutV rs none (some at_)))) p1 = some (.lst (cutV rs none (some at_))) := upd_same
      generalize upd H2 p1 (.lst (cutV rs none (some at_))) = H3 at s3 e1 ⊢
      refine ⟨_, rfl, _, rfl, at_, 1, rfl, rfl, at_ + 1, rfl, r, rs, rfl, SqL.of (s3 _ _ er2), fun p2 np2 => ?_⟩
      have s4 := same_upd (o := .lst (cutV rs (some (at_ + 1)) none)) np2
      have e2 : (upd H3 p2 (.lst (cutV rs (some (at_ + 1)) none))) p2 = some (.lst (cutV rs (some (at_ + 1)) none)) := upd_same
      generalize upd H3 p2 (.lst (cutV rs (some (at_ + 1)) none)) = H4 at s4 e2 ⊢
      have c3 := cutV_length rs (some (at_ + 1)) none
      refine ⟨p1, p2, _, _, rfl, rfl, s4 _ _ e1, e2, Nat.le_trans (show _ ≤ 100 by omega) (by decide), fun p3 np3 => ?_⟩
      have s5 := (s3.trans s4).trans (same_upd (o := .lst (cutV rs none (some at_) ++ cutV rs (some (at_ + 1)) none)) np3)
      refine q p3 (cutD ds none (some at_) ++ cutD ds (some (at_ + 1)) none) _ ⟨_, upd_same, ((hrw2.cut _ _).same s5).app ((hrw2.cut _ _).same s5)⟩ ?_ (k12.trans (Keep.of s5)) ((hb2.same s5).mono (by omega))
      rw [List.length_append, cutD_to _ a0, cutD_from _ (show 0 ≤ at_ + 1 by omega)]
      omega
    · refine ⟨_, rfl, rfl, _, rfl, ite2 (fun e => ?_) (fun e => ?_)⟩
      · refine ⟨_, rfl, r, rs, rfl, SqL.of er2, fun p1 np1 => ?_⟩
        have s3 := same_upd (o := .lst rs.reverse) np1
        refine q p1 ds.reverse _ ⟨_, upd_same, hrw2.rev.same s3⟩ ?_ (k12.trans (Keep.of s3)) ((hb2.same s3).mono (by omega))
        rw [List.length_reverse]
        exact hl
      · refine ⟨_, rfl, _, rfl, r, rs, rfl, .inl (SqL.of er2), at_, _, rfl, rfl, _, rfl, ite2 (fun e2 => ?_) (fun e2 => ?_)⟩
        · have l4 : at_ < ds.length := by
            have := of_decide_eq_true e2
            omega
          refine ⟨_, rfl, _, rfl, at_, rfl, r, rs, rfl, SqL.of er2, fun p1 np1 => ?_⟩
          have s3 := same_upd (o := .lst (cutV rs none (some at_))) np1
          have e1 : (upd H2 p1 (.lst (cutV rs none (some at_)))) p1 = some (.lst (cutV rs none (some at_))) := upd_same
          have n1b := ne_box hb2 np1
          generalize upd H2 p1 (.lst (cutV rs none (some at_))) = H3 at s3 e1 ⊢
          have hb3 := hb2.same s3
          refine ⟨_, rfl, _, rfl, b, pN, n + 1 + 1, ys, rfl, by omega, by omega, hb3, hN2.same s3, fun pr d H4 od epr npr k4 hb4 => ?_⟩
          have e1 := k4 _ _ n1b e1
          have w4 := (hrw2.same s3).keep k4 hb3
          have er4 := k4 _ _ rne (s3 _ _ er2)
          refine ⟨by show 1 ≤ sizeLine; decide, fun p2 np2 => ?_⟩
          have s5 := same_upd (o := .lst [.ref pr]) np2
          have e2 : (upd H4 p2 (.lst [.ref pr])) p2 = some (.lst [.ref pr]) := upd_same
          generalize upd H4 p2 (.lst [.ref pr]) = H5 at s5 e2 ⊢
          refine ⟨p1, p2, _, _, rfl, rfl, s5 _ _ e1, e2, Nat.le_trans (show _ ≤ 100 by rw [List.length_singleton]; omega) (by decide), fun p3 np3 => ?_⟩
          have s6 := same_upd (o := .lst (cutV rs none (some at_) ++ [V.ref pr])) np3
          have e3 : (upd H5 p3 (.lst (cutV rs none (some at_) ++ [V.ref pr]))) p3 = some (.lst (cutV rs none (some at_) ++ [V.ref pr])) := upd_same
          generalize upd H5 p3 (.lst (cutV rs none (some at_) ++ [V.ref pr])) = H6 at s6 e3 ⊢
          refine ⟨_, rfl, _, rfl, at_, 1, rfl, rfl, at_ + 1, rfl, r, rs, rfl, SqL.of (s6 _ _ (s5 _ _ er4)), fun p4 np4 => ?_⟩
          have s7 := same_upd (o := .lst (cutV rs (some (at_ + 1)) none)) np4
          have e4 : (upd H6 p4 (.lst (cutV rs (some (at_ + 1)) none))) p4 = some (.lst (cutV rs (some (at_ + 1)) none)) := upd_same
          generalize upd H6 p4 (.lst (cutV rs (some (at_ + 1)) none)) = H7 at s7 e4 ⊢
          have c3 := cutV_length rs (some (at_ + 1)) none
          refine ⟨p3, p4, _, _, rfl, rfl, s7 _ _ e3, e4, Nat.le_trans (show _ ≤ 100 by rw [List.length_append, List.length_singleton]; omega) (by decide), fun p6 np6 => ?_⟩
          have s59 := ((s5.trans s6).trans s7).trans (same_upd (o := .lst (cutV rs none (some at_) ++ [V.ref pr] ++ cutV rs (some (at_ + 1)) none)) np6)
          refine q p6 (cutD ds none (some at_) ++ [d] ++ cutD ds (some (at_ + 1)) none) _ ⟨_, upd_same, ((((w4.cut _ _).same s59).app (Rw.one od (s59 _ _ epr))).app ((w4.cut _ _).same s59))⟩ ?_ (((k12.trans (Keep.of s3)).trans k4).trans (Keep.of s59)) ((hb4.same s59).mono (by omega))
          rw [List.length_append, List.length_append, cutD_to _ a0, cutD_from _ (show 0 ≤ at_ + 1 by omega), List.length_singleton]
          omega
        · refine ⟨_, rfl, r, rs, rfl, .inl (SqL.of er2), fun p1 np1 => ?_⟩
          have s3 := same_upd (o := .lst rs) np1
          exact q p1 ds _ ⟨_, upd_same, hrw2.same s3⟩ hl (k12.trans (Keep.of s3)) ((hb2.same s3).mono (by omega))
end
end K10
set_option maxHeartbeats 4000000
namespace K10
open PySem PySem.Spec PyProof.Rows L2 RL RE RN RM TL RQ RC
/-! ### rows as data -/
def rowD : Dm → PyData
  | .call n => .tuple [.str (Str.ofString "call"), .str n]
  | .give w t k o => .tuple [.str (Str.ofString "give"), .str w, .str t, .str k, .bool o]
def rowsP (ds : List Dm) : List PyData := ds.map rowD
theorem row_dp {K : PySem.W.Frag} {H : Hp} {p : Addr} : ∀ {d : Dm}, H p = some (.tup (valsD d)) → Dp K H (.ref p) (rowD d)
  | .call n, e => .tup (SqT.of e) (.cons (.str _) (.cons (.str _) .nil))
  | .give w t k o, e => .tup (SqT.of e) (.cons (.str _) (.cons (.str _) (.cons (.str _) (.cons (.str _) (.cons (.bl _) .nil)))))
theorem rows_dp {K : PySem.W.Frag} {H : Hp} : ∀ (ds : List Dm) (rs : List V), Rw H rs ds → DpAll K H rs (rowsP ds)
  | [], [], _ => .nil
  | [], _ :: _, h => absurd h.1 (by simp)
  | _ :: _, [], h => absurd h.1 (by simp)
  | d :: ds, x :: rs, h => by
    obtain ⟨o, p, rfl, e⟩ := h.2 0 x d rfl rfl
    exact .cons (row_dp e) (rows_dp ds rs (h.drop 1))
theorem strOk_of {z : Str} (h : txt z) : PyData.strOk z = true := by
  unfold PyData.strOk
  rw [← Array.all_toList, List.all_eq_true]
  exact fun x hx => decide_eq_true (Nat.lt_trans (h.2 x hx) (by decide))
theorem row_lay : ∀ {d : Dm}, okD d → PyData.canLay0 (rowD d) = true
  | .call n, h => by
    have a := strOk_of h.1
    have b : PyData.strOk (Str.ofString "call") = true := by decide +kernel
    simp [rowD, PyData.canLay0, PyData.canLayAll0, a, b]
  | .give w t k o, h => by
    have a1 := strOk_of h.1
    have a2 := strOk_of h.2.1
    have a3 := strOk_of h.2.2.1
    have b : PyData.strOk (Str.ofString "give") = true := by decide +kernel
    simp [rowD, PyData.canLay0, PyData.canLayAll0, a1, a2, a3, b]
theorem row_depth (d : Dm) : PyData.depth (rowD d) ≤ 1 := by
  cases d <;> simp [rowD, PyData.depth, PyData.depthAll]
theorem rows_lay : ∀ ds : List Dm, (∀ d ∈ ds, okD d) → PyData.canLayAll0 (rowsP ds) = true
  | [], _ => rfl
  | d :: r, h => by
    show (PyData.canLay0 (rowD d) && PyData.canLayAll0 (rowsP r)) = true
    rw [rows_lay r fun x hx => h x (List.mem_cons_of_mem _ hx), row_lay (h d (List.mem_cons_self ..))]
    rfl
theorem rows_depth : ∀ ds : List Dm, PyData.depthAll (rowsP ds) ≤ 1
  | [] => Nat.zero_le _
  | d :: r => by
    show max (PyData.depth (rowD d)) (PyData.depthAll (rowsP r)) ≤ 1
    have := row_depth d
    have := rows_depth r
    omega
theorem rows_shaped {ds : List Dm} (h : ∀ d ∈ ds, okD d) : SeqAt.shaped (.list (rowsP ds)) = true := by
  have a := rows_lay ds h
  have b := rows_depth ds
  simp [SeqAt.shaped, PyData.canLay0, PyData.depth, a]
  omega
theorem row_eqv : ∀ d d' : Dm, PyData.eqv (rowD d) (rowD d') = decide (d = d')
  | .call n, .call n' => by
    simp [rowD, PyData.eqv, PyData.eqvAll]
    by_cases h : n = n' <;> simp [h]
  | .call n, .give w t k o => by
    rw [decide_eq_false (fun e => nomatch e)]
    simp [rowD, PyData.eqv, PyData.eqvAll]
  | .give w t k o, .call n => by
    rw [decide_eq_false (fun e => nomatch e)]
    simp [rowD, PyData.eqv, PyData.eqvAll]
  | .give w t k o, .give w' t' k' o' => by
    rw [Bool.eq_iff_iff]
    simp [rowD, PyData.eqv, PyData.eqvAll]
theorem rows_eqv : ∀ ds ds' : List Dm, PyData.eqv (.list (rowsP ds)) (.list (rowsP ds')) = decide (ds = ds')
  | [], [] => rfl
  | [], _ :: _ => rfl
  | _ :: _, [] => rfl
  | d :: ds, d' :: ds' => by
    have ih := rows_eqv ds ds'
    have ih : PyData.eqvAll (rowsP ds) (rowsP ds') = decide (ds = ds') := ih
    show (PyData.eqv (rowD d) (rowD d') && PyData.eqvAll (rowsP ds) (rowsP ds')) = _
    rw [ih, row_eqv, Bool.eq_iff_iff]
    simp
theorem Rw.ok {H : Hp} {rs : List V} {ds : List Dm} (h : Rw H rs ds) : ∀ d ∈ ds, okD d := fun d hd => by
  obtain ⟨i, hi, rfl⟩ := List.getElem_of_mem hd
  have h2 : i < rs.length := by rw [h.1]; exact hi
  exact (h.2 i _ _ (List.getElem?_eq_getElem h2) (List.getElem?_eq_getElem hi)).1
/-! ### how things compare -/
theorem dins_ff {K : PySem.W.Frag} {c : Cs} {C a b : Addr} {H : Hp} {m m' : Fm} (n : PySem.W.notFirst K C (.ref C) = true) (ha : FunAt c C H a m) (hb : FunAt c C H b m') : DInsB K C (RF K c C) (.ref a) (.ref b) H (decide (m = m')) := by
  obtain ⟨dx, p, xs, e1, _⟩ := id ha
  obtain ⟨dy, p', xs', e2, _⟩ := id hb
  exact ⟨a, b, dx, dy, _, _, C, rfl, rfl, e1, e2, n, m, b, ha, rfl, .inl ⟨m', hb, rfl⟩⟩
theorem dins_ft {K : PySem.W.Frag} {c : Cs} {C CT a b dy : Addr} {gs : List (Str × V)} {H : Hp} {m : Fm} (n : PySem.W.notFirst K C (.ref CT) = true) (ha : FunAt c C H a m) (hb : H b = some (.ins CT dy gs)) (ty : TyC K CT) (kf : PySem.W.kitOne K (.ref CT) (.ref C) = some false) : DInsB K C (RF K c C) (.ref a) (.ref b) H false := by
  obtain ⟨dx, p, xs, e1, _⟩ := id ha
  exact ⟨a, b, dx, dy, _, _, CT, rfl, rfl, e1, hb, n, m, b, ha, rfl, .inr ⟨CT, dy, gs, hb, ty, kf, rfl⟩⟩
theorem dins_mm {K : PySem.W.Frag} {c : Cs} {C CM a b t t' : Addr} {H : Hp} {k : Bool} (n : PySem.W.notFirst K CM (.ref CM) = true) (ha : MakeAt CM H a t) (hb : MakeAt CM H b t') (hD : DInsB K C (RF K c C) (.ref t) (.ref t') H k) : DInsB K CM (RM' K c C CM) (.ref a) (.ref b) H k := by
  obtain ⟨dx, e1⟩ := id ha
  obtain ⟨dy, e2⟩ := id hb
  exact ⟨a, b, dx, dy, _, _, CM, rfl, rfl, e1, e2, n, b, t, t', ha, rfl, hb, hD⟩
theorem FunAt.same {c : Cs} {C a : Addr} {H H' : Hp} {m : Fm} (h : FunAt c C H a m) (s : Same H H') : FunAt c C H' a m := by
  obtain ⟨dx, p, xs, e1, e2, e3⟩ := h
  exact ⟨dx, p, xs, s _ _ e1, s _ _ e2, Deeds.ext e3 s⟩
theorem MakeAt.same {CM a t : Addr} {H H' : Hp} (h : MakeAt CM H a t) (s : Same H H') : MakeAt CM H' a t := by
  obtain ⟨dx, e⟩ := h
  exact ⟨dx, s _ _ e⟩
theorem FunAt.keep {c : Cs} {C a b : Addr} {H H' : Hp} {n : Int} {m : Fm} (h : FunAt c C H a m) (k : Keep b H H') (hb : Bx H b n) (hl : ∀ xs, Deeds c H xs m.body → H b ≠ some (.lst xs)) : FunAt c C H' a m := by
  obtain ⟨dx, p, xs, e1, e2, e3⟩ := h
  obtain ⟨g, x, y, eb, _⟩ := id hb
  refine ⟨dx, p, xs, k _ _ (fun z => ?_) e1, k _ _ (fun z => ?_) e2, e3.1, fun i v d h1 h2 => ?_⟩
  · subst z; rw [eb] at e1; cases e1
  · subst z; exact hl xs e3 e2
  · obtain ⟨u, rfl, dy, e⟩ := e3.2 i v d h1 h2
    exact ⟨u, rfl, dy, k _ _ (fun z => by subst z; rw [eb] at e; cases e) e⟩
theorem FunAt.keepB {c : Cs} {C a b : Addr} {H H' : Hp} {n : Int} {m : Fm} (h : FunAt c C H a m) (k : Keep b H H') (hb : Bx H b n) : FunAt c C H' a m := h.keep k hb fun xs hD e => by
  obtain ⟨g, x, y, eb, _⟩ := hb
  rw [e] at eb
  have e2 := HO.lst.inj (Option.some.inj eb)
  subst e2
  have hl : 0 < m.body.length := by rw [← hD.1]; exact Nat.succ_pos _
  obtain ⟨u, e3, _⟩ := hD.2 0 (.int g) m.body[0] rfl (List.getElem?_eq_getElem hl)
  cases e3
theorem FunP.same {c : Cs} {C a p : Addr} {H H' : Hp} {m : Fm} (h : FunP c C H a p m) (s : Same H H') : FunP c C H' a p m := by
  obtain ⟨dx, xs, e1, e2, e3⟩ := h
  exact ⟨dx, xs, s _ _ e1, s _ _ e2, Deeds.ext e3 s⟩
theorem FunP.upd {c : Cs} {C a p l : Addr} {H : Hp} {m : Fm} {zs ws : List V} (h : FunP c C H a p m) (n : p ≠ l) (el : H l = some (.lst zs)) : FunP c C (L2.upd H l (.lst ws)) a p m := by
  obtain ⟨dx, xs, e1, e2, e3⟩ := h
  refine ⟨dx, xs, ?_, by rw [upd_ne n]; exact e2, e3.1, fun i v d h1 h2 => ?_⟩
  · rw [upd_ne (fun z => by rw [z, el] at e1; cases e1)]
    exact e1
  · obtain ⟨u, rfl, dy, e⟩ := e3.2 i v d h1 h2
    exact ⟨u, rfl, dy, by rw [upd_ne (fun z => by rw [z, el] at e; cases e)]; exact e⟩
theorem Rw.upd {H : Hp} {l : Addr} {zs ws rs : List V} {ds : List Dm} (h : Rw H rs ds) (el : H l = some (.lst zs)) : Rw (L2.upd H l (.lst ws)) rs ds := ⟨h.1, fun i x d h1 h2 => by
  obtain ⟨o, p, rfl, e⟩ := h.2 i x d h1 h2
  exact ⟨o, p, rfl, by rw [upd_ne (fun z => by rw [z, el] at e; cases e)]; exact e⟩⟩
theorem mk_same {H H' : Hp} {x dx : Addr} {u o : HO} (nx : H x = none) (nd : H dx = none) (k : ∀ y v, y ≠ x → (L2.upd (L2.upd H dx o) x u) y = some v → H' y = some v) : Same H H' := fun a y e => by
  refine k a y (ne_of_none e nx) ?_
  rw [upd_ne (ne_of_none e nx), upd_ne (ne_of_none e nd)]
  exact e
theorem mk2_same {H : Hp} {x dx : Addr} {u o : HO} (nx : H x = none) (nd : H dx = none) : Same H (L2.upd (L2.upd H dx o) x u) := fun a y e => by
  rw [upd_ne (ne_of_none e nx), upd_ne (ne_of_none e nd)]
  exact e
theorem mk3_same {H : Hp} {x dx : Addr} {u o v : HO} (nx : H x = none) (nd : H dx = none) : Same H (L2.upd (L2.upd (L2.upd H dx o) x u) x v) := fun a y e => by
  rw [upd_ne (ne_of_none e nx), upd_ne (ne_of_none e nx), upd_ne (ne_of_none e nd)]
  exact e
end K10
set_option maxHeartbeats 4000000
namespace K10
open PySem PySem.Spec PyProof.Rows L2 RL RE RN RM TL RQ RC
/-- what the law needs of the three classes -/
structure LC (P : Program) (w : World) (K : PySem.W.Frag) (mg : Str → Option Value) (base : Heap) (c : Cs) (C CM CT : Addr) : Prop where
  FE : ∃ (f : Addr) (fd : FuncData), FnOk P w K mg base CX0 3 f fd ["self", "other"] (spEqB (RF K c C)) ∧ PySem.W.findIn K (.ref C) "__eq__" = some (some (.ref f)) ∧ PySem.W.isFn K (.ref f) = true ∧ Binds K fd ["self", "other"] []
  ME : ∃ (f : Addr) (fd : FuncData), FnOk P w K mg base CX0 4 f fd ["self", "other"] (spEqB (RM' K c C CM)) ∧ PySem.W.findIn K (.ref CM) "__eq__" = some (some (.ref f)) ∧ PySem.W.isFn K (.ref f) = true ∧ Binds K fd ["self", "other"] []
  MT : ∃ (f : Addr) (fd : FuncData) (ds : List Value), Mk K CT f ∧ FnOk P w K mg base CX0 4 f fd ["self", "name", "owner", "audience"] (spTable K CT) ∧ mg "Table" = some (.ref CT) ∧ Binds K fd ["self", "name", "owner", "audience"] ds ∧ Vals [V.non] ds
  MM : ∃ (f : Addr) (fd : FuncData), Mk K CM f ∧ FnOk P w K mg base CX0 1 f fd ["self", "thing"] (spMk K CM CT C) ∧ mg "Make" = some (.ref CM) ∧ Binds K fd ["self", "thing"] []
  mC : PySem.W.mroIn K C (.type "object") = some true
  nC : PySem.W.findIn K (.ref C) "__ne__" = some (some (.builtin "object.__ne__"))
  mM : PySem.W.mroIn K CM (.type "object") = some true
  nM : PySem.W.findIn K (.ref CM) "__ne__" = some (some (.builtin "object.__ne__"))
  fCC : PySem.W.notFirst K C (.ref C) = true
  fCT : PySem.W.notFirst K C (.ref CT) = true
  fMM : PySem.W.notFirst K CM (.ref CM) = true
  tC : TyC K C
  tT : TyC K CT
  kC : PySem.W.kitAny K (.ref C) [.ref CT, .ref C] = some true
  kT : PySem.W.kitAny K (.ref CT) [.ref CT, .ref C] = some true
  kTC : PySem.W.kitOne K (.ref CT) (.ref C) = some false
  cM : Cls K CM
  aM : NoAttr K CM "thing"
section
variable {P : Program} {w : World} {K : PySem.W.Frag} {mg : Str → Option Value} {base : Heap} {f : Addr} {fd : FuncData}
def spRight : Sp := fun vs H Q _ => ∃ (b : Addr) (n : Int), vs = [.ref b] ∧ 0 ≤ n ∧ n ≤ 50000 ∧ Bx H b n ∧ ∀ H', Keep b H H' → Bx H' b (n + 100) → Q (.bl true) H'
theorem ok_right {c : Cs} {C CM CT fF : Addr} {fdF : FuncData} {g1 g2 : List Value → List Value → List Value} (F : Fun K "_law_right" "_law_right" s__law_right f fd) (M : MkF P w K mg base c C fF fdF g1 g2) (L : LC P w K mg base c C CM CT)
    (GN : Df P w K mg base CX0 2 "_law_names" ["_law_box_here", "_law_many"] spNames) (GT : Df P w K mg base CX0 1 "_law_take" ["_law_box_here", "_law_many"] spTake) (GR : Df P w K mg base CX0 2 "_law_row" ["_law_box_here", "_law_names_here"] spRow)
    (GD : Df P w K mg base CX0 6 "_law_deeds" ["_law_rows"] (spDeeds K c)) (GO : Df P w K mg base CX0 3 "_law_otherwise" ["_law_box_here", "_law_names_here", "_law_rows"] spOther) (GM : Df P w K mg base CX0 7 "_law_made" ["_law_names_here", "_law_way", "_law_rows"] (spMadeF K c C))
    (GX : Df P w K mg base CX0 4 "_law_told_right" ["_law_thing", "_law_way", "_law_rows"] (spTold K c C)) (mr : mg "range" = none) (mi : mg "int" = none) :
    FnOk P w K mg base CX0 8 f fd ["_law_box_here"] spRight := by
  refine F.ok sc__law_right (fun vs H Q E h => by obtain ⟨b, n, rfl, _⟩ := h; rfl) (fun cdv A outer s H vs Q E hr h => ?_)
  obtain ⟨b, n, rfl, n0, n1, hb, q⟩ := h
  obtain ⟨fE, fdE, FE, hsE, hfE, bE⟩ := L.FE
  obtain ⟨fQ, fdQ, FQ, hsQ, hfQ, bQ⟩ := L.ME
  obtain ⟨fT, fdT, dT, MT, FT, gT, bT, vT⟩ := L.MT
  obtain ⟨fK, fdK, MK, FK, gK, bK⟩ := L.MM
  have hr1 := hr.mono (show 1 ≤ 7 by decide)
  have hr2 := hr.mono (show 2 ≤ 7 by decide)
  have hr3 := hr.mono (show 3 ≤ 7 by decide)
  have hr4 := hr.mono (show 4 ≤ 7 by decide)
  have hr5 := hr.mono (show 5 ≤ 7 by decide)
  have hr6 := hr.mono (show 6 ≤ 7 by decide)
  refine ⟨_, PSs.nox (pss_cons (ps_set (i := 1) sc__law_right.nd rfl (.inr rfl) (pe_df0 GN hr2 (by rfl) (pa_cons (pv 0) (pa_cons pe_int pa_nil))))
    (pss_cons (ps_setLc (i := 2) (own := [("_law_turn", 8)]) (g := gName 8) (by rfl) sc__law_right.nd rfl rfl (sw_true rfl rfl rfl (by decide +kernel)) (pi_range1 (by rfl) mr (pa_cons (pe_df0 GT hr1 (by rfl) (pa_cons (pv 0) (pa_cons pe_int pa_nil))) pa_nil)) (blkOk_by (own := [("_law_turn", 8)]) (N := N__law_right) (sc := defScope s__law_right) (by decide +kernel)) (fun _ _ _ _ _ => pg_name (i := 8) sc__law_right.nd rfl (Or.inl rfl)) (fun _ _ _ _ _ => pts_nil) (fun _ _ _ _ _ => pe_df0 GR hr2 (by rfl) (pa_cons (pv 0) (pa_cons (pv 1) pa_nil))))
    (pss_cons (ps_set (i := 3) sc__law_right.nd rfl (.inl rfl) (pe_ix ix_list (pe_lst (pa_cons pe_str (pa_cons pe_str pa_nil))) (pe_df0 GT hr1 (by rfl) (pa_cons (pv 0) (pa_cons pe_int pa_nil))) (fun _ _ => rfl)))
    (pss_cons (ps_set (i := 4) sc__law_right.nd rfl (.inl rfl) (pe_df0 GD hr6 (by rfl) (pa_cons (pv 2) pa_nil)))
    (pss_cons (ps_set (i := 5) sc__law_right.nd rfl (.inl rfl) (pe_makeK (n := 2) M.M M.F hr5 (by rfl) M.g M.b2 pass0 (pa_cons (pe_ix ix_list (pv 1) pe_int (fun _ _ => rfl)) (pa_cons (pe_ix ix_list (pv 1) pe_int (fun _ _ => rfl)) pa_nil)) (pk_cons (pv 3) (pk_cons (pv 4) pk_nil))))
    (pss_cons (ps_expr (pe_bm PySem.F.plainAttrs_list PySem.F.slot_list_append PySem.F.type_list_append mt_append (pv 4) (pa_cons pe_str pa_nil)))
    (pss_cons (ps_if (PW.pt (pw_or (pt_not (pt_val (pe_df0 GX hr4 (by rfl) (pa_cons (pv 5) (pa_cons (pv 3) (pa_cons (pv 2) pa_nil)))))) (pw_or1 (pt_cmpR (op_neB FE hr4 L.mC L.nC hsE hfE bE pass0) (pv 5) (pe_df0 GM hr (by rfl) (pa_cons (pv 1) (pa_cons (pv 3) (pa_cons (pv 2) pa_nil)))) (by rfl))))) (pss_one (ps_ret pe_bl)) pss_nil)
    (pss_cons (ps_if (pt_cmpR (op_eqB (rcB_ins FE hsE hfE bE pass0) hr3) (pv 5) (pe_df0 GM hr (by rfl) (pa_cons (pv 1) (pa_cons (pe_ix ix_list (pe_lst (pa_cons pe_str (pa_cons pe_str pa_nil))) (pe_callTy call_int1 (by rfl) mi (by decide +kernel) (pa_cons (pe_cmpR op_eq (pv 3) pe_str (nomark _)) pa_nil)) (fun _ _ => rfl)) (pa_cons (pv 2) pa_nil)))) (by rfl)) (pss_one (ps_ret pe_bl)) pss_nil)
    (pss_cons (ps_for PassesOwn.never rfl (pi_range1 (by rfl) mr (pa_cons pe_int pa_nil)) (pg_name (i := 8) sc__law_right.nd rfl (Or.inl rfl))
      (pss_cons (ps_set (i := 6) sc__law_right.nd rfl (.inl rfl) (pe_df0 GO hr3 (by rfl) (pa_cons (pv 0) (pa_cons (pv 1) (pa_cons (pv 2) pa_nil)))))
      (pss_one (ps_if (pt_cmpR op_ne (pe_cmpR (op_eqB (rcB_ins FE hsE hfE bE pass0) hr3) (pv 5) (pe_df0 GM hr (by rfl) (pa_cons (pv 1) (pa_cons (pv 3) (pa_cons (pv 6) pa_nil)))) (by rfl)) (pe_cmpR (op_eqD (hu64 hr)) (pv 2) (pv 6) (by rfl)) (by rfl)) (pss_one (ps_ret pe_bl)) pss_nil))))
    (pss_cons (ps_set (i := 7) sc__law_right.nd rfl (.inl rfl) (pe_make MK FK hr2 (by rfl) gK bK .nil pass0 (pa_cons (pv 5) pa_nil)))
    (pss_cons (ps_if (PW.pt (pw_or (pt_cmpR (op_neB FE hr4 L.mC L.nC hsE hfE bE pass0) (pe_fld (pv 7) rfl) (pv 5) (by rfl)) (pw_or1 (pt_cmpR (op_neB FQ hr5 L.mM L.nM hsQ hfQ bQ pass0) (pv 7) (pe_make MK FK hr2 (by rfl) gK bK .nil pass0 (pa_cons (pe_df0 GM hr (by rfl) (pa_cons (pv 1) (pa_cons (pv 3) (pa_cons (pv 2) pa_nil)))) pa_nil)) (by rfl))))) (pss_one (ps_ret pe_bl)) pss_nil)
    (pss_one (ps_ret (pe_and (pe_cmpR (op_neB FQ hr5 L.mM L.nM hsQ hfQ bQ pass0) (pv 7) (pe_make MK FK hr2 (by rfl) gK bK .nil pass0 (pa_cons (pe_make MT FT hr5 (by rfl) gT bT vT pass0 (pa_cons (pe_ix ix_list (pv 1) pe_int (fun _ _ => rfl)) (pa_cons (pe_ix ix_list (pv 1) pe_int (fun _ _ => rfl)) pa_nil))) pa_nil)) (by rfl))
      (pe_one (pe_cmpR (op_neB FE hr4 L.mC L.nC hsE hfE bE pass0) (pv 5) (pe_make MT FT hr5 (by rfl) gT bT vT pass0 (pa_cons (pe_ix ix_list (pv 1) pe_int (fun _ _ => rfl)) (pa_cons (pe_ix ix_list (pv 1) pe_int (fun _ _ => rfl)) pa_nil))) (by rfl))))))))))))))))), ?_⟩
  refine ⟨_, rfl, b, n, rfl, n0, by omega, hb, fun pN ys H1 l6 hy npN epN k1 hb1 => ?_⟩
  have hN1 : Nm H1 pN ys := ⟨epN, l6, hy⟩
  refine ⟨_, rfl, b, 5, n + 9, rfl, by decide, by decide, by omega, by omega, hb1, fun d H2 d0 d1 k2 hb2 => ?_⟩
  have hN2 := hN1.keep k2 hb1
  refine ⟨d, rfl, by omega, by omega, fun D nD => ?_⟩
  have nDb : D ≠ b := ne_box hb2 nD
  refine lc_range (lo := 0) (n := d.toNat) (fun i H' => ∃ (rs : List V) (ds : List Dm), H' D = some (.lst rs) ∧ ds.length = i ∧ Rw H' rs ds ∧ Keep b H2 H' ∧ Bx H' b (n + 10 + 6 * (i : Int))) ?_ ?_ ?_
  · exact ⟨[], [], upd_same, rfl, ⟨rfl, fun i x d h => by simp at h⟩, Keep.new nD, (hb2.same (same_upd nD)).mono (by omega)⟩
  · intro i H4 hi h
    obtain ⟨rs, ds, eD, el, hR, k4, hb4⟩ := h
    refine ⟨rfl, ?_⟩
    unfold tYes
    refine iteT ?_
    refine ⟨_, rfl, _, rfl, b, pN, n + 10 + 6 * (i : Int), ys, rfl, by omega, by omega, hb4, hN2.keep k4 hb2, fun p d' H5 od ep np k5 hb5 => ?_⟩
    have eD5 := k5 _ _ nDb eD
    have hR5 := (hR.keep k5 hb4).app (Rw.one od ep)
    refine ⟨rs, eD5, ?_, rs ++ [.ref p], ds ++ [d'], upd_same, ?_, hR5.upd eD5, ?_, ?_⟩
    · exact Nat.lt_of_lt_of_le (show _ < 1000 by rw [hR.1]; omega) (by decide)
    · rw [List.length_append, el]; rfl
    · intro a o na ea
      rw [upd_ne (fun z => by rw [z, nD] at ea; cases ea)]
      exact k5 _ _ na (k4 _ _ na ea)
    · obtain ⟨g, m, c0, e, r1, r2, r3, r4, r5⟩ := hb5
      exact ⟨g, m, c0, by rw [upd_ne nDb.symm]; exact e, r1, r2, r3, r4, by omega⟩
  intro H4 h
  obtain ⟨rs, ds, eD, el, hR, k4, hb4⟩ := h
  have hl : ds.length ≤ 4 := by omega
  have hb4 : Bx H4 b (n + 34) := hb4.mono (by omega)
  have hN4 := hN2.keep k4 hb2
  have kA : Keep b H H4 := (k1.trans k2).trans k4
  clear hb1 hN1 k1 hb2 hN2 k2 k4 nD npN epN
  /- the mode -/
  refine ⟨by show 2 ≤ sizeLine; decide, fun p3 np3 => ?_⟩
  have s5 := same_upd (o := .lst [.str tOwn, .str (Str.ofString "caller")]) np3
  have e3 : (upd H4 p3 (.lst [.str tOwn, .str (Str.ofString "caller")])) p3 = some (.lst [.str tOwn, .str (Str.ofString "caller")]) := upd_same
  have n3b := ne_box hb4 np3
  generalize upd H4 p3 (.lst [.str tOwn, .str (Str.ofString "caller")]) = H5 at s5 e3 ⊢
  have hb5 := hb4.same s5
  refine ⟨_, rfl, b, 2, n + 34, rfl, by decide, by decide, by omega, by omega, hb5, fun dw H6 dw0 dw1 k6 hb6 => ?_⟩
  have hN6 := (hN4.same s5).keep k6 hb5
  have hR6 := (hR.same s5).keep k6 hb5
  have eD6 := k6 _ _ nDb (s5 _ _ eD)
  have kB : Keep b H H6 := (kA.trans (Keep.of s5)).trans k6
  have e36 := k6 _ _ n3b e3
  have hmd : ∃ md : Str, atI [V.str tOwn, .str (Str.ofString "caller")] dw = some (.str md) ∧ (md = tOwn ∨ md = Str.ofString "caller") := by
    have hw : dw = 0 ∨ dw = 1 := by omega
    rcases hw with e | e
    · rw [e]; exact ⟨_, atI_nat (j := 0) rfl, .inl rfl⟩
    · rw [e]; exact ⟨_, atI_nat (j := 1) rfl, .inr rfl⟩
  obtain ⟨md, emd, hm⟩ := hmd
  refine ⟨p3, _, dw, .str md, rfl, rfl, SqL.of e36, emd, ?_⟩
  clear hb4 hN4 kA hR eD hb5 s5 k6 e3 e36 np3 n3b
  /- the deeds, the function -/
  refine ⟨_, rfl, D, rs, ds, rfl, SqL.of eD6, hR6, by omega, fun pD xs H7 s7 npD epD hD7 => ?_⟩
  have hN7 := hN6.same s7
  have hb7 := hb6.same s7
  have nDb2 := ne_box hb6 npD
  have npND : pN ≠ pD := ne_of_none hN6.1 npD
  have nDpD : D ≠ pD := ne_of_none eD6 npD
  obtain ⟨y0, hy0, a0, p00, p01⟩ := hN7.at_ 0 (by decide)
  obtain ⟨y1, hy1, a1, p10, p11⟩ := hN7.at_ 1 (by decide)
  refine ⟨_, rfl, pN, _, 0, .str y0, rfl, rfl, SqL.of hN7.1, a0, _, rfl, pN, _, 1, .str y1, rfl, rfl, SqL.of hN7.1, a1, _, rfl, _, rfl, rfl, rfl, fun aF dx nx nd ne => ?_⟩
  refine fun_init p01 p00 p11 p10 hm (.inl (SqL.of epD)) (by rw [epD]; exact fun z => nomatch z) hD7 hl (fun pF H8 s8 npF hF => ?_) nx nd ne
  have epD8 := s8 _ _ epD
  have nFD : pF ≠ pD := fun z => by rw [z, epD] at npF; cases npF
  refine ⟨_, rfl, .inl ⟨rfl, _, .inl (.inl epD8)⟩, pD, xs, _, rfl, rfl, epD8, Nat.lt_of_lt_of_le (show xs.length < 1000 by rw [hD7.1]; omega) (by decide), ?_⟩
  have hF9 := hF.upd (ws := xs ++ [V.str (Str.ofString "late")]) nFD epD8
  have s9 : Same H6 (upd H8 pD (.lst (xs ++ [V.str (Str.ofString "late")]))) := fun a o e => by
    rw [upd_ne (ne_of_none e npD)]
    exact s8 _ _ (s7 _ _ e)
  generalize upd H8 pD (.lst (xs ++ [V.str (Str.ofString "late")])) = H9 at hF9 s9 ⊢
  have hF9 := hF9.at_
  have hN9 := hN6.same s9
  have hR9 := hR6.same s9
  have eD9 := s9 _ _ eD6
  have hb9 := hb6.same s9
  have k9 := kB.trans (Keep.of s9)
  have okd := hR9.ok
  clear hN6 hR6 eD6 hb6 kB hF s9 s8 s7 hN7 hb7 hD7 epD epD8 npF nFD
  /- told right; made anew -/
  refine ⟨_, rfl, _, rfl, _, rfl, aF, D, ⟨y0, y1, md, ds⟩, rs, rfl, hF9, SqL.of eD9, hR9, hl, fun H10 s10 => ⟨_, rfl, iteF ?_⟩⟩
  refine ⟨_, rfl, _, rfl, _, rfl, _, rfl, pN, D, ys, y0, y1, md, rs, ds, rfl, hN9.same s10, hy0, hy1, hm, SqL.of (s10 _ _ eD9), hR9.same s10, hl, fun a2 H11 s11 hF2 => ?_⟩
  refine ⟨_, dins_ff L.fCC (hF9.same (s10.trans s11)) hF2, fun H12 s12 => ⟨_, rfl, ?_⟩⟩
  rw [decide_eq_true rfl]
  refine iteF ?_
  have sA := (s10.trans s11).trans s12
  /- the other mode -/
  refine ⟨_, rfl, _, rfl, by show 2 ≤ sizeLine; decide, fun p4 np4 => ?_⟩
  have s13 := sA.trans (same_upd (o := .lst [.str tOwn, .str (Str.ofString "caller")]) np4)
  have e4 : (upd H12 p4 (.lst [.str tOwn, .str (Str.ofString "caller")])) p4 = some (.lst [.str tOwn, .str (Str.ofString "caller")]) := upd_same
  generalize upd H12 p4 (.lst [.str tOwn, .str (Str.ofString "caller")]) = H13 at s13 e4 ⊢
  have hmd : ∃ md' : Str, atI [V.str tOwn, .str (Str.ofString "caller")] (if decide (V.str md = V.str (Str.ofString "owner")) = true then 1 else 0) = some (.str md') ∧ (md' = tOwn ∨ md' = Str.ofString "caller") ∧ md ≠ md' := by
    rcases hm with e | e
    · rw [e, decide_eq_true rfl, if_pos rfl]
      exact ⟨_, atI_nat (j := 1) rfl, .inr rfl, by decide +kernel⟩
    · rw [e, show decide (V.str (Str.ofString "caller") = V.str (Str.ofString "owner")) = false by decide +kernel, if_neg (by decide)]
      exact ⟨_, atI_nat (j := 0) rfl, .inl rfl, by decide +kernel⟩
  obtain ⟨md', emd', hm', nmd⟩ := hmd
  refine ⟨_, rfl, rfl, .inr ⟨_, rfl, p4, _, _, .str md', rfl, rfl, SqL.of e4, emd', ?_⟩⟩
  refine ⟨_, rfl, pN, D, ys, y0, y1, md', rs, ds, rfl, hN9.same s13, hy0, hy1, hm', SqL.of (s13 _ _ eD9), hR9.same s13, hl, fun a3 H14 s14 hF3 => ?_⟩
  refine ⟨_, dins_ff L.fCC (hF9.same (s13.trans s14)) hF3, fun H15 s15 => ⟨_, rfl, ?_⟩⟩
  rw [decide_eq_false (fun e => nmd (Fm.mk.inj e).2.2.1)]
  refine iteF ?_
  have sB := (s13.trans s14).trans s15
  clear s13 s14 s15 sA s10 s11 s12 hF2 hF3 e4 np4 emd' hm' nmd emd
  have hF15 := hF9.same sB
  have hN15 := hN9.same sB
  have hR15 := hR9.same sB
  have eD15 := sB _ _ eD9
  have hb15 := hb9.same sB
  have k15 := k9.trans (Keep.of sB)
  clear hF9 hN9 hR9 eD9 hb9 k9 sB
  /- thrice otherwise -/
  refine ⟨3, rfl, by decide, by decide, for_range (lo := 0) (n := 3) (fun i σ H' => ∃ y6 y8, σ = [some (.ref b), some (.ref pN), some (.ref D), some (.str md), some (.ref pD), some (.ref aF), y6, none, y8] ∧ Keep b H15 H' ∧ Bx H' b (n + 35 + 8 * (i : Int))) ⟨_, _, rfl, Keep.refl, hb15.mono (by omega)⟩ ?_ ?_⟩
  · intro i σ H16 hi h
    obtain ⟨y6, y8, rfl, k16, hb16⟩ := h
    have hR16 := hR15.keep k16 hb15
    have eD16 := k16 _ _ nDb eD15
    refine ⟨_, rfl, _, rfl, _, rfl, b, pN, D, n + 35 + 8 * (i : Int), ys, ds, rfl, by omega, by omega, hb16, hN15.keep k16 hb15, ⟨rs, eD16, hR16⟩, hl, fun p6 ds6 H17 hR6 hl6 k17 hb17 => ?_⟩
    obtain ⟨rs6, e6, hw6⟩ := hR6
    have kC := k16.trans k17
    have hN17 := hN15.keep kC hb15
    refine ⟨_, rfl, _, rfl, _, rfl, _, rfl, pN, p6, ys, y0, y1, md, rs6, ds6, rfl, hN17, hy0, hy1, hm, SqL.of e6, hw6, hl6, fun a3 H18 s18 hF3 => ?_⟩
    have hF17 := hF15.keepB kC hb15
    have hR17 := hR15.keep kC hb15
    have eD17 := kC _ _ nDb eD15
    refine ⟨_, dins_ff L.fCC (hF17.same s18) hF3, fun H19 s19 => ?_⟩
    have sC := s18.trans s19
    refine ⟨_, rfl, _, rfl, .list (rowsP ds), .list (rowsP ds6), .lst (SqL.of (sC _ _ eD17)) (rows_dp _ _ (hR17.same sC)), .lst (SqL.of (sC _ _ e6)) (rows_dp _ _ (hw6.same sC)), rows_shaped okd, rows_shaped hw6.ok, rfl, _, rfl, ?_⟩
    rw [rows_eqv, show decide ((⟨y0, y1, md, ds⟩ : Fm) = ⟨y0, y1, md, ds6⟩) = decide (ds = ds6) by rw [Bool.eq_iff_iff]; simp, decide_eq_true rfl]
    refine iteF ⟨_, _, rfl, kC.trans (Keep.of sC), (hb17.same sC).mono (by omega)⟩
  intro σ H16 h
  obtain ⟨y6, y8, rfl, k16, hb16⟩ := h
  have hF16 := hF15.keepB k16 hb15
  have hN16 := hN15.keep k16 hb15
  have hR16 := hR15.keep k16 hb15
  have eD16 := k16 _ _ nDb eD15
  have kD := k15.trans k16
  clear hF15 hN15 hR15 eD15 k15 k16 hb15
  /- Make -/
  refine ⟨_, rfl, fun x1 dx1 nx1 nd1 ne1 => ?_⟩
  have s17 := mk2_same (u := .ins CM dx1 []) (o := .own x1) nx1 nd1
  obtain ⟨dF, pF', xF, eF, _⟩ := id hF16
  refine ⟨x1, aF, dx1, C, dF, _, rfl, upd_same, s17 _ _ eF, L.tC, L.kC, ne_of_none eF nx1, fun H17 kk hM1 => ⟨rfl, ?_⟩⟩
  have s17 := mk_same nx1 nd1 kk
  have hF17 := hF16.same s17
  obtain ⟨dM, eM⟩ := id hM1
  refine ⟨_, rfl, x1, CM, dM, _, _, rfl, eM, L.cM, L.aM, rfl, _, rfl, _, dins_ff L.fCC hF17 hF17, fun H18 t18 => ⟨_, rfl, ?_⟩⟩
  rw [decide_eq_true rfl]
  refine iteF ?_
  have s18 := s17.trans t18
  refine ⟨_, rfl, _, rfl, _, rfl, _, rfl, pN, D, ys, y0, y1, md, rs, ds, rfl, hN16.same s18, hy0, hy1, hm, SqL.of (s18 _ _ eD16), hR16.same s18, hl, fun a4 H19 s19 hF4 => ?_⟩
  refine fun x2 dx2 nx2 nd2 ne2 => ?_
  have s20 := mk2_same (u := .ins CM dx2 []) (o := .own x2) nx2 nd2
  obtain ⟨d4, p4, x4, e4, _⟩ := id hF4
  refine ⟨x2, a4, dx2, C, d4, _, rfl, upd_same, s20 _ _ e4, L.tC, L.kC, ne_of_none e4 nx2, fun H20 kk hM2 => ⟨rfl, ?_⟩⟩
  have s20 := mk_same nx2 nd2 kk
  have t20 := (t18.trans s19).trans s20
  refine ⟨_, dins_mm L.fMM (hM1.same t20) hM2 (dins_ff L.fCC (hF17.same t20) (hF4.same s20)), fun H21 s21 => ⟨_, rfl, ?_⟩⟩
  rw [decide_eq_true rfl]
  refine iteF ?_
  have t21 := t20.trans s21
  have hM21 := hM1.same t21
  have hF21 := hF17.same t21
  have u21 := s17.trans t21
  have hN21 := hN16.same u21
  /- no table -/
  refine ⟨_, rfl, _, rfl, pN, _, 0, .str y0, rfl, rfl, SqL.of hN21.1, a0, _, rfl, pN, _, 1, .str y1, rfl, rfl, SqL.of hN21.1, a1, fun xT dT nT ndT neT => ⟨xT, dT, y0, y1, rfl, upd_same, p01, p00, p11, p10, rfl, ?_⟩⟩
  have s22 := mk3_same (u := .ins CT dT []) (o := .own xT) (v := .ins CT dT (headT (Str.ofString "table") y0 y1)) nT ndT
  have eT : (upd (upd (upd H21 dT (.own xT)) xT (.ins CT dT [])) xT (.ins CT dT (headT (Str.ofString "table") y0 y1))) xT = some (.ins CT dT (headT (Str.ofString "table") y0 y1)) := upd_same
  generalize upd (upd (upd H21 dT (.own xT)) xT (.ins CT dT [])) xT (.ins CT dT (headT (Str.ofString "table") y0 y1)) = H22 at s22 eT ⊢
  refine fun x3 dx3 nx3 nd3 ne3 => ?_
  have s23 := mk2_same (u := .ins CM dx3 []) (o := .own x3) nx3 nd3
  refine ⟨x3, xT, dx3, CT, dT, _, rfl, upd_same, s23 _ _ eT, L.tT, L.kT, ne_of_none eT nx3, fun H23 kk hM3 => ⟨rfl, ?_⟩⟩
  have s23 := mk_same nx3 nd3 kk
  have t23 := s22.trans s23
  refine ⟨_, dins_mm L.fMM (hM21.same t23) hM3 (dins_ft L.fCT (hF21.same t23) (s23 _ _ eT) L.tT L.kTC), fun H24 s24 => ⟨_, rfl, ?_⟩⟩
  rw [Bool.not_false]
  refine iteT ?_
  have t24 := t23.trans s24
  have hN24 := hN21.same t24
  refine ⟨_, rfl, _, rfl, pN, _, 0, .str y0, rfl, rfl, SqL.of hN24.1, a0, _, rfl, pN, _, 1, .str y1, rfl, rfl, SqL.of hN24.1, a1, fun xU dU nU ndU neU => ⟨xU, dU, y0, y1, rfl, upd_same, p01, p00, p11, p10, rfl, ?_⟩⟩
  have s25 := mk3_same (u := .ins CT dU []) (o := .own xU) (v := .ins CT dU (headT (Str.ofString "table") y0 y1)) nU ndU
  refine ⟨_, dins_ft L.fCT (hF21.same (t24.trans s25)) upd_same L.tT L.kTC, fun H26 s26 => ?_⟩
  have fin := ((u21.trans t24).trans s25).trans s26
  exact q _ (kD.trans (Keep.of fin)) ((hb16.same fin).mono (by omega))
end
end K10
set_option maxHeartbeats 4000000
namespace K10
open PySem PySem.Spec PyProof.Rows L2 RL RE RN RM TL RQ RC
section
variable {P : Program} {w : World} {K : PySem.W.Frag} {mg : Str → Option Value} {base : Heap} {f : Addr} {fd : FuncData}
def spLaw (K : PySem.W.Frag) : Sp := fun vs H Q _ => ∃ (a : Addr) (ns : List Int), vs = [.ref a] ∧ SqL K H a (ns.map V.int) ∧ ns.length ≤ 63 ∧ ∀ H', Q (.bl true) H'
theorem SqL.keepI {K : PySem.W.Frag} {H H' : Hp} {a b : Addr} {n : Int} {ns : List Int} (h : SqL K H a (ns.map V.int)) (hn : H b = none → False) : True := trivial
theorem ok_law {c : Cs} {C fF fL : Addr} {fdF fdL : FuncData} {g1 g2 : List Value → List Value → List Value} (F : Fun K "law" "law" s_law f fd) (M : MkF P w K mg base c C fF fdF g1 g2) (T : FF K C)
    (FL : FnOk P w K mg base CX0 1 fL fdL ["self"] (spLenM c C)) (hsL : PySem.W.findIn K (.ref C) "__len__" = some (some (.ref fL))) (hfL : PySem.W.isFn K (.ref fL) = true) (bL : Binds K fdL ["self"] [])
    (GC : Df P w K mg base CX0 1 "_law_cell" ["_law_script", "_law_k"] (spCell K)) (GB : Df P w K mg base CX0 1 "_law_box" ["_law_cell_here"] spBox) (GR : Df P w K mg base CX0 8 "_law_right" ["_law_box_here"] spRight)
    (mr : mg "range" = none) (mx : mg "max" = none) (mn : mg "min" = none) (ml : mg "len" = none) :
    FnOk P w K mg base CX0 9 f fd ["_law_script"] (spLaw K) := by
  obtain ⟨aT, dT, hT, bT, vT⟩ := M.b0
  refine F.ok sc_law (fun vs H Q E h => by obtain ⟨a, ns, rfl, _⟩ := h; rfl) (fun cdv A outer s H vs Q E hr h => ?_)
  obtain ⟨a, ns, rfl, hS, hl, q⟩ := h
  have hr1 := hr.mono (show 1 ≤ 8 by decide)
  refine ⟨_, PSs.nox (pss_cons (ps_for PassesOwn.never rfl (pi_range1 (by rfl) mr (pa_cons (pe_callB (call_max2 rfl) (by rfl) mx PyProof.Rows.boot_max (pa_cons pe_int (pa_cons (pe_callB (call_min2 rfl) (by rfl) mn PyProof.Rows.boot_min (pa_cons pe_int (pa_cons (pe_callB call_len_seq (by rfl) ml PySem.boot_len (pa_cons (pv 0) pa_nil)) pa_nil))) pa_nil))) pa_nil)) (pg_name (i := 1) sc_law.nd rfl (.inl rfl))
      (pss_cons (ps_set (i := 2) sc_law.nd rfl (.inl rfl) (pe_df0 GB hr1 (by rfl) (pa_cons (pe_df0 GC hr1 (by rfl) (pa_cons (pv 0) (pa_cons (pv 1) pa_nil))) pa_nil)))
      (pss_one (ps_for PassesOwn.never rfl (pi_range1 (by rfl) mr (pa_cons pe_int pa_nil)) (pg_name (i := 3) sc_law.nd rfl (.inl rfl))
        (pss_one (ps_if (pt_not (pt_val (pe_df0 GR hr (by rfl) (pa_cons (pv 2) pa_nil)))) (pss_one (ps_ret pe_bl)) pss_nil))))))
    (pss_one (ps_ret (pe_and (pe_cmpR op_eq (pe_callB (call_lenO FL (hr.mono (by decide)) hsL hfL bL pass0) (by rfl) ml PySem.boot_len (pa_cons (pe_make M.M M.F (hr.mono (by decide)) (by rfl) M.g bT vT pass0 (pa_cons pe_str (pa_cons pe_str pa_nil))) pa_nil)) pe_int (nomark _))
      (pe_one (pe_cmpR op_eq (pe_fld (pe_make M.M M.F (hr.mono (by decide)) (by rfl) M.g bT vT pass0 (pa_cons pe_str (pa_cons pe_str pa_nil))) rfl) pe_str (nomark _))))))), ?_⟩
  refine ⟨_, rfl, a, _, rfl, .inl hS, 8, _, rfl, 2, _, rfl, _, rfl, ?_, ?_, for_range (lo := 0) (fun k σ H' => ∃ y1 y2 y3, σ = [some (.ref a), y1, y2, y3] ∧ SqL K H' a (ns.map V.int)) ⟨_, _, _, rfl, hS⟩ ?_ ?_⟩
  · split <;> (try split) <;> omega
  · split <;> (try split) <;> omega
  · intro k σ H0 hk h0
    obtain ⟨y1, y2, y3, rfl, hS0⟩ := h0
    have hk2 : k < 1000 := by
      revert hk
      split <;> (try split) <;> omega
    refine ⟨_, rfl, _, rfl, a, ns, k, by show [V.ref a, V.int (0 + (k : Int))] = _; rw [Int.zero_add], hS0, hk2, by omega, fun v => ⟨v, rfl, fun b H1 nb s1 hb1 => ?_⟩⟩
    have hS1 := SqL.ext hS0 s1
    have nab : ∀ xs, H0 a = some (.lst xs) → a ≠ b := fun xs e z => by rw [z, nb] at e; cases e
    refine ⟨4, rfl, by decide, by decide, for_range (lo := 0) (n := 4) (fun i σ H' => ∃ y3, σ = [some (.ref a), some (.int (0 + (k : Int))), some (.ref b), y3] ∧ Keep b H1 H' ∧ Bx H' b (100 * (i : Int))) ⟨_, rfl, Keep.refl, hb1.mono (by omega)⟩ ?_ ?_⟩
    · intro i σ H2 hi h
      obtain ⟨y3, rfl, k2, hb2⟩ := h
      refine ⟨_, rfl, b, 100 * (i : Int), rfl, by omega, by omega, hb2, fun H3 k3 hb3 => ⟨_, rfl, iteF ⟨_, rfl, k2.trans k3, hb3.mono (by omega)⟩⟩⟩
    · intro σ H2 h
      obtain ⟨y3, rfl, k2, hb2⟩ := h
      refine ⟨_, _, _, rfl, ?_⟩
      refine hS0.imp (fun h => h.imp (fun e => k2 _ _ (fun z => by rw [z, nb] at e; cases e) (s1 _ _ e)) fun ⟨o, e⟩ => ⟨o, k2 _ _ (fun z => by rw [z, nb] at e; cases e) (s1 _ _ e)⟩) id
  · intro σ H0 h0
    obtain ⟨y1, y2, y3, rfl, hS0⟩ := h0
    have tf : txt (Str.ofString "f") := txt_low (by decide +kernel) (by unfold okP; decide +kernel)
    have nf : nameT (Str.ofString "f") = true := by decide +kernel
    have ta : txt (Str.ofString "ann") := txt_low (by decide +kernel) (by unfold okP; decide +kernel)
    have na : nameT (Str.ofString "ann") = true := by decide +kernel
    refine fun a1 dx nx nd ne => fun_init0 tf nf ta na hT (fun H1 s1 hF => ?_) nx nd ne
    obtain ⟨dF, pF, xF, eF, _⟩ := id hF
    refine ⟨a1, dF, _, rfl, eF, a1, _, rfl, hF, 0, rfl, by decide, by decide, rfl, _, rfl, ?_⟩
    refine iteT ?_
    refine fun a2 dx nx nd ne => fun_init0 tf nf ta na hT (fun H2 s2 hF2 => ?_) nx nd ne
    obtain ⟨d2, p2, x2, e2, _⟩ := id hF2
    exact ⟨a2, C, d2, _, _, rfl, e2, T.t.cl, T.n5, rfl, rfl, q _⟩
end
end K10
set_option maxHeartbeats 16000000
namespace K10
open PySem PySem.Spec PyProof.Rows L2 RL RE RN RM TL RQ RC
abbrev tTab : Str := Str.ofString "table"
abbrev tFun : Str := Str.ofString "function"
abbrev tRole : Str := Str.ofString "role"
theorem kr_mk {K : PySem.W.Frag} {w : World} {d : Addr} {n : Nat} {h1 h2 h3 h4 h5 : Int} {t1 t2 t3 t4 t5 u1 u2 u3 u4 u5 : Tok}
    (l : K.lookup d = some ⟨.type "dict", none, .dict #[⟨h1, .str (Str.ofString "inherit") t1, .str tRole u1⟩, ⟨h2, .str (Str.ofString "act") t2, .str tRole u2⟩, ⟨h3, .str (Str.ofString "read") t3, .str tTab u3⟩, ⟨h4, .str (Str.ofString "write") t4, .str tTab u4⟩, ⟨h5, .str (Str.ofString "call") t5, .str tFun u5⟩] n, #[]⟩)
    (k : PySem.W.KeysLit w.params [⟨h1, .str (Str.ofString "inherit") t1, .str tRole u1⟩, ⟨h2, .str (Str.ofString "act") t2, .str tRole u2⟩, ⟨h3, .str (Str.ofString "read") t3, .str tTab u3⟩, ⟨h4, .str (Str.ofString "write") t4, .str tTab u4⟩, ⟨h5, .str (Str.ofString "call") t5, .str tFun u5⟩])
    (lo : (d == sysModules) = false) : KRight K w d := by
  refine ⟨⟨_, n, l, k, lo⟩, fun z => ?_⟩
  unfold PySem.W.nsIn
  rw [l]
  show ∃ r, (match List.find? (fun e : DictEntry => e.key.isStr z) [_, _, _, _, _] with | some e => some (some e.val) | none => _) = some r ∧ _
  have e : ∀ (x : Str) (t : Tok), (Value.str x t).isStr z = (x == z) := fun x t => rfl
  unfold kindT
  simp only [List.find?_cons, List.find?_nil, e]
  by_cases g1 : z = Str.ofString "inherit"
  · subst g1; exact ⟨_, rfl, rfl, fun k e => by cases e; exact ⟨_, rfl⟩⟩
  rw [if_neg g1, beq_eq_false_iff_ne.mpr (Ne.symm g1)]
  by_cases g2 : z = Str.ofString "act"
  · subst g2; exact ⟨_, rfl, rfl, fun k e => by cases e; exact ⟨_, rfl⟩⟩
  rw [if_neg g2, beq_eq_false_iff_ne.mpr (Ne.symm g2)]
  by_cases g3 : z = Str.ofString "read"
  · subst g3; exact ⟨_, rfl, rfl, fun k e => by cases e; exact ⟨_, rfl⟩⟩
  rw [if_neg g3, beq_eq_false_iff_ne.mpr (Ne.symm g3)]
  by_cases g4 : z = Str.ofString "write"
  · subst g4; exact ⟨_, rfl, rfl, fun k e => by cases e; exact ⟨_, rfl⟩⟩
  rw [if_neg g4, beq_eq_false_iff_ne.mpr (Ne.symm g4)]
  by_cases g5 : z = Str.ofString "call"
  · subst g5; exact ⟨_, rfl, rfl, fun k e => by cases e; exact ⟨_, rfl⟩⟩
  rw [if_neg g5, beq_eq_false_iff_ne.mpr (Ne.symm g5)]
  exact ⟨none, rfl, rfl, fun k e => by cases e⟩
theorem kt_mk {K : PySem.W.Frag} {a : Addr} {od : Option Addr} {sl : Array (Option Value)} {n : Nat} {z1 z2 : Str} {t1 t2 : Tok} (l : K.lookup a = some ⟨.type "tuple", od, .seq #[.str z1 t1, .str z2 t2] n, sl⟩) : KTup K a [z1, z2] :=
  ⟨_, _, _, l, rfl, rfl, by show 2 ≤ sizeLine; decide, .cons ⟨_, rfl⟩ (.cons ⟨_, rfl⟩ .nil)⟩
theorem df_mk {P : Program} {w : World} {K : PySem.W.Frag} {mg : Str → Option Value} {base : Heap} {CX : CXT} {k : Nat} {x : Str} {ps : List Str} {sp : Sp} {f : Addr} {fd : FuncData} (F : FnOk P w K mg base CX k f fd ps sp) (b : Binds K fd ps []) (kp : PySem.W.keepIn K (.ref f) = true) (g : mg x = some (.ref f)) : Df P w K mg base CX k x ps sp := ⟨f, fd, F, b, kp, g⟩
theorem kbn_mk {K : PySem.W.Frag} {qual : Str} {params : Arguments} {body : List Stmt} {scope : Scope} {f : Addr} {fd : FuncData} {ps ks : List Str} {n : Nat} (F : FunD K "__init__" qual params body scope [] [] f fd)
    (h : ∀ (kV doc pm : Value) (an : Option Addr) (cdv ct : Value) (s : Shared) (us ws : List Value), us.length = n → ws.length = ks.length → BindsTo s (PySem.W.fnOf "__init__" qual params body scope .none kV doc pm an cdv ct) ⟨us, ks.zip ws⟩ (ps.zip (us ++ ws))) :
    KBn K fd ps n ks (fun us ws => us ++ ws) (fun vs zs => vs ++ zs) := by
  obtain ⟨oc, od, dV, kV, doc, pm, an, cdv, ct, osl, rfl, lk, hcd, hD, hK⟩ := F.ex
  rcases hD with ⟨_, rfl⟩ | ⟨e, _⟩
  · exact ⟨fun s us ws X h1 h2 => h _ _ _ _ _ _ s us ws h1 h2, fun r1 r2 => r1.append r2⟩
  · exact absurd rfl e
theorem all_mk {l : PySem.W.OpenLaw} {w : World} {K : PySem.W.Frag} {h : Heap} {mg : Str → Option Value} {fa : Addr} (X : K.In h) (G : h.Ns mainGlobals mg) (hfa : mg "law" = some (.ref fa))
    {oc0 dc0 pm0 cd0 ct0 : Value} {od0 an0 : Option Addr} {sl0 : Array (Option Value)} {f0 : Addr} {kV0 : Value}
    {oc1 dc1 pm1 cd1 ct1 : Value} {od1 an1 : Option Addr} {sl1 : Array (Option Value)} {f1 : Addr} {kV1 : Value}
    {oc2 dc2 pm2 cd2 ct2 : Value} {od2 an2 : Option Addr} {sl2 : Array (Option Value)} {f2 : Addr} {kV2 : Value}
    {oc3 dc3 pm3 cd3 ct3 : Value} {od3 an3 : Option Addr} {sl3 : Array (Option Value)} {f3 : Addr} {kV3 : Value}
    {oc4 dc4 pm4 cd4 ct4 : Value} {od4 an4 : Option Addr} {sl4 : Array (Option Value)} {f4 : Addr} {kV4 : Value}
    {oc5 dc5 pm5 cd5 ct5 : Value} {od5 an5 : Option Addr} {sl5 : Array (Option Value)} {f5 : Addr} {kV5 : Value}
    {oc6 dc6 pm6 cd6 ct6 : Value} {od6 an6 : Option Addr} {sl6 : Array (Option Value)} {f6 : Addr} {kV6 : Value}
    {oc7 dc7 pm7 cd7 ct7 : Value} {od7 an7 : Option Addr} {sl7 : Array (Option Value)} {f7 : Addr} {kV7 : Value}
    {oc8 dc8 pm8 cd8 ct8 : Value} {od8 an8 : Option Addr} {sl8 : Array (Option Value)} {f8 : Addr} {kV8 : Value}
    {oc9 dc9 pm9 cd9 ct9 : Value} {od9 an9 : Option Addr} {sl9 : Array (Option Value)} {f9 : Addr} {kV9 : Value}
    {oc10 dc10 pm10 cd10 ct10 : Value} {od10 an10 : Option Addr} {sl10 : Array (Option Value)} {f10 : Addr} {kV10 : Value}
    {oc11 dc11 pm11 cd11 ct11 : Value} {od11 an11 : Option Addr} {sl11 : Array (Option Value)} {f11 : Addr} {kV11 : Value}
    {oc12 dc12 pm12 cd12 ct12 : Value} {od12 an12 : Option Addr} {sl12 : Array (Option Value)} {f12 : Addr} {kV12 : Value}
    {oc13 dc13 pm13 cd13 ct13 : Value} {od13 an13 : Option Addr} {sl13 : Array (Option Value)} {f13 : Addr} {kV13 : Value}
    {oc14 dc14 pm14 cd14 ct14 : Value} {od14 an14 : Option Addr} {sl14 : Array (Option Value)} {f14 : Addr} {kV14 : Value}
    {oc15 dc15 pm15 cd15 ct15 : Value} {od15 an15 : Option Addr} {sl15 : Array (Option Value)} {f15 : Addr} {kV15 : Value}
    {oc16 dc16 pm16 cd16 ct16 : Value} {od16 an16 : Option Addr} {sl16 : Array (Option Value)} {f16 : Addr} {kV16 : Value}
    {oc17 dc17 pm17 cd17 ct17 : Value} {od17 an17 : Option Addr} {sl17 : Array (Option Value)} {f17 : Addr} {kV17 : Value}
    {oc18 dc18 pm18 cd18 ct18 : Value} {od18 an18 : Option Addr} {sl18 : Array (Option Value)} {f18 : Addr} {kV18 : Value}
    {oc19 dc19 pm19 cd19 ct19 : Value} {od19 an19 : Option Addr} {sl19 : Array (Option Value)} {f19 : Addr} {kV19 : Value}
    {oc20 dc20 pm20 cd20 ct20 : Value} {od20 an20 : Option Addr} {sl20 : Array (Option Value)} {f20 : Addr} {kV20 : Value}
    {oc21 dc21 pm21 cd21 ct21 : Value} {od21 an21 : Option Addr} {sl21 : Array (Option Value)} {f21 : Addr} {kV21 : Value}
    {CGive CCall CThing CTable CFunction CMake : Addr} {kD1 kD3 aTup : Addr} {tO : Tok}
    {ocGI dcGI pmGI cdGI ctGI : Value} {odGI anGI : Option Addr} {slGI : Array (Option Value)} {fGI : Addr} {kVGI : Value}
    {ocGE dcGE pmGE cdGE ctGE : Value} {odGE anGE : Option Addr} {slGE : Array (Option Value)} {fGE : Addr} {kVGE : Value}
    {ocGS dcGS pmGS cdGS ctGS : Value} {odGS anGS : Option Addr} {slGS : Array (Option Value)} {fGS : Addr} {kVGS : Value}
    {ocCI dcCI pmCI cdCI ctCI : Value} {odCI anCI : Option Addr} {slCI : Array (Option Value)} {fCI : Addr} {kVCI : Value}
    {ocCE dcCE pmCE cdCE ctCE : Value} {odCE anCE : Option Addr} {slCE : Array (Option Value)} {fCE : Addr} {kVCE : Value}
    {ocCS dcCS pmCS cdCS ctCS : Value} {odCS anCS : Option Addr} {slCS : Array (Option Value)} {fCS : Addr} {kVCS : Value}
    {ocTI dcTI pmTI cdTI ctTI : Value} {odTI anTI : Option Addr} {slTI : Array (Option Value)} {fTI : Addr} {kVTI : Value}
    {ocTH dcTH pmTH cdTH ctTH : Value} {odTH anTH : Option Addr} {slTH : Array (Option Value)} {fTH : Addr} {kVTH : Value}
    {ocBI dcBI pmBI cdBI ctBI : Value} {odBI anBI : Option Addr} {slBI : Array (Option Value)} {fBI : Addr}
    {ocFI dcFI pmFI cdFI ctFI : Value} {odFI anFI : Option Addr} {slFI : Array (Option Value)} {fFI : Addr}
    {ocFB dcFB pmFB cdFB ctFB : Value} {odFB anFB : Option Addr} {slFB : Array (Option Value)} {fFB : Addr} {kVFB : Value}
    {ocFL dcFL pmFL cdFL ctFL : Value} {odFL anFL : Option Addr} {slFL : Array (Option Value)} {fFL : Addr} {kVFL : Value}
    {ocFE dcFE pmFE cdFE ctFE : Value} {odFE anFE : Option Addr} {slFE : Array (Option Value)} {fFE : Addr} {kVFE : Value}
    {ocMI dcMI pmMI cdMI ctMI : Value} {odMI anMI : Option Addr} {slMI : Array (Option Value)} {fMI : Addr} {kVMI : Value}
    {ocME dcME pmME cdME ctME : Value} {odME anME : Option Addr} {slME : Array (Option Value)} {fME : Addr} {kVME : Value}
    {oyT : Option Addr} {syT : Array (Option Value)} {nnT : Nat}
    {tL tB t1 t2 t3 t4 : Tok} {aRs aMs dK : Addr} {oy1 oy2 : Option Addr} {sy1 sy2 : Array (Option Value)} {nn1 nn2 nnK : Nat} {h1 h2 h3 h4 h5 : Int} {ta tb tc td te ua ub uc ud ue : Tok}
    (a0 : PySem.W.nsIn K mainGlobals "is_name" = some (some (.ref f0)))
    (l0 : K.lookup f0 = some ⟨oc0, od0, .func (PySem.W.fnOf "is_name" "is_name" (defArgs s_is_name) (defBody s_is_name) (defScope s_is_name) .none kV0 dc0 pm0 an0 cd0 ct0), sl0⟩)
    (c0 : PySem.W.codeIn K cd0 "is_name" = true)
    (k0 : PySem.W.keepIn K (.ref f0) = true)
    (a1 : PySem.W.nsIn K mainGlobals "is_taker" = some (some (.ref f1)))
    (l1 : K.lookup f1 = some ⟨oc1, od1, .func (PySem.W.fnOf "is_taker" "is_taker" (defArgs s_is_taker) (defBody s_is_taker) (defScope s_is_taker) .none kV1 dc1 pm1 an1 cd1 ct1), sl1⟩)
    (c1 : PySem.W.codeIn K cd1 "is_taker" = true)
    (k1 : PySem.W.keepIn K (.ref f1) = true)
    (a2 : PySem.W.nsIn K mainGlobals "is_right" = some (some (.ref f2)))
    (l2 : K.lookup f2 = some ⟨oc2, od2, .func (PySem.W.fnOf "is_right" "is_right" (defArgs s_is_right) (defBody s_is_right) (defScope s_is_right) .none kV2 dc2 pm2 an2 cd2 ct2), sl2⟩)
    (c2 : PySem.W.codeIn K cd2 "is_right" = true)
    (k2 : PySem.W.keepIn K (.ref f2) = true)
    (a3 : PySem.W.nsIn K mainGlobals "is_flag" = some (some (.ref f3)))
    (l3 : K.lookup f3 = some ⟨oc3, od3, .func (PySem.W.fnOf "is_flag" "is_flag" (defArgs s_is_flag) (defBody s_is_flag) (defScope s_is_flag) .none kV3 dc3 pm3 an3 cd3 ct3), sl3⟩)
    (c3 : PySem.W.codeIn K cd3 "is_flag" = true)
    (k3 : PySem.W.keepIn K (.ref f3) = true)
    (a4 : PySem.W.nsIn K mainGlobals "is_list" = some (some (.ref f4)))
    (l4 : K.lookup f4 = some ⟨oc4, od4, .func (PySem.W.fnOf "is_list" "is_list" (defArgs s_is_list) (defBody s_is_list) (defScope s_is_list) .none kV4 dc4 pm4 an4 cd4 ct4), sl4⟩)
    (c4 : PySem.W.codeIn K cd4 "is_list" = true)
    (k4 : PySem.W.keepIn K (.ref f4) = true)
    (a5 : PySem.W.nsIn K mainGlobals "check_name" = some (some (.ref f5)))
    (l5 : K.lookup f5 = some ⟨oc5, od5, .func (PySem.W.fnOf "check_name" "check_name" (defArgs s_check_name) (defBody s_check_name) (defScope s_check_name) .none kV5 dc5 pm5 an5 cd5 ct5), sl5⟩)
    (c5 : PySem.W.codeIn K cd5 "check_name" = true)
    (k5 : PySem.W.keepIn K (.ref f5) = true)
    (a6 : PySem.W.nsIn K mainGlobals "check_taker" = some (some (.ref f6)))
    (l6 : K.lookup f6 = some ⟨oc6, od6, .func (PySem.W.fnOf "check_taker" "check_taker" (defArgs s_check_taker) (defBody s_check_taker) (defScope s_check_taker) .none kV6 dc6 pm6 an6 cd6 ct6), sl6⟩)
    (c6 : PySem.W.codeIn K cd6 "check_taker" = true)
    (k6 : PySem.W.keepIn K (.ref f6) = true)
    (a7 : PySem.W.nsIn K mainGlobals "check_right" = some (some (.ref f7)))
    (l7 : K.lookup f7 = some ⟨oc7, od7, .func (PySem.W.fnOf "check_right" "check_right" (defArgs s_check_right) (defBody s_check_right) (defScope s_check_right) .none kV7 dc7 pm7 an7 cd7 ct7), sl7⟩)
    (c7 : PySem.W.codeIn K cd7 "check_right" = true)
    (k7 : PySem.W.keepIn K (.ref f7) = true)
    (a8 : PySem.W.nsIn K mainGlobals "check_option" = some (some (.ref f8)))
    (l8 : K.lookup f8 = some ⟨oc8, od8, .func (PySem.W.fnOf "check_option" "check_option" (defArgs s_check_option) (defBody s_check_option) (defScope s_check_option) .none kV8 dc8 pm8 an8 cd8 ct8), sl8⟩)
    (c8 : PySem.W.codeIn K cd8 "check_option" = true)
    (k8 : PySem.W.keepIn K (.ref f8) = true)
    (a9 : PySem.W.nsIn K mainGlobals "is_body" = some (some (.ref f9)))
    (l9 : K.lookup f9 = some ⟨oc9, od9, .func (PySem.W.fnOf "is_body" "is_body" (defArgs s_is_body) (defBody s_is_body) (defScope s_is_body) .none kV9 dc9 pm9 an9 cd9 ct9), sl9⟩)
    (c9 : PySem.W.codeIn K cd9 "is_body" = true)
    (k9 : PySem.W.keepIn K (.ref f9) = true)
    (a10 : PySem.W.nsIn K mainGlobals "_law_cell" = some (some (.ref f10)))
    (l10 : K.lookup f10 = some ⟨oc10, od10, .func (PySem.W.fnOf "_law_cell" "_law_cell" (defArgs s__law_cell) (defBody s__law_cell) (defScope s__law_cell) .none kV10 dc10 pm10 an10 cd10 ct10), sl10⟩)
    (c10 : PySem.W.codeIn K cd10 "_law_cell" = true)
    (k10 : PySem.W.keepIn K (.ref f10) = true)
    (a11 : PySem.W.nsIn K mainGlobals "_law_box" = some (some (.ref f11)))
    (l11 : K.lookup f11 = some ⟨oc11, od11, .func (PySem.W.fnOf "_law_box" "_law_box" (defArgs s__law_box) (defBody s__law_box) (defScope s__law_box) .none kV11 dc11 pm11 an11 cd11 ct11), sl11⟩)
    (c11 : PySem.W.codeIn K cd11 "_law_box" = true)
    (k11 : PySem.W.keepIn K (.ref f11) = true)
    (a12 : PySem.W.nsIn K mainGlobals "_law_take" = some (some (.ref f12)))
    (l12 : K.lookup f12 = some ⟨oc12, od12, .func (PySem.W.fnOf "_law_take" "_law_take" (defArgs s__law_take) (defBody s__law_take) (defScope s__law_take) .none kV12 dc12 pm12 an12 cd12 ct12), sl12⟩)
    (c12 : PySem.W.codeIn K cd12 "_law_take" = true)
    (k12 : PySem.W.keepIn K (.ref f12) = true)
    (a13 : PySem.W.nsIn K mainGlobals "_law_names" = some (some (.ref f13)))
    (l13 : K.lookup f13 = some ⟨oc13, od13, .func (PySem.W.fnOf "_law_names" "_law_names" (defArgs s__law_names) (defBody s__law_names) (defScope s__law_names) .none kV13 dc13 pm13 an13 cd13 ct13), sl13⟩)
    (c13 : PySem.W.codeIn K cd13 "_law_names" = true)
    (k13 : PySem.W.keepIn K (.ref f13) = true)
    (a14 : PySem.W.nsIn K mainGlobals "_law_deeds" = some (some (.ref f14)))
    (l14 : K.lookup f14 = some ⟨oc14, od14, .func (PySem.W.fnOf "_law_deeds" "_law_deeds" (defArgs s__law_deeds) (defBody s__law_deeds) (defScope s__law_deeds) .none kV14 dc14 pm14 an14 cd14 ct14), sl14⟩)
    (c14 : PySem.W.codeIn K cd14 "_law_deeds" = true)
    (k14 : PySem.W.keepIn K (.ref f14) = true)
    (a15 : PySem.W.nsIn K mainGlobals "_law_row" = some (some (.ref f15)))
    (l15 : K.lookup f15 = some ⟨oc15, od15, .func (PySem.W.fnOf "_law_row" "_law_row" (defArgs s__law_row) (defBody s__law_row) (defScope s__law_row) .none kV15 dc15 pm15 an15 cd15 ct15), sl15⟩)
    (c15 : PySem.W.codeIn K cd15 "_law_row" = true)
    (k15 : PySem.W.keepIn K (.ref f15) = true)
    (a16 : PySem.W.nsIn K mainGlobals "_law_texts" = some (some (.ref f16)))
    (l16 : K.lookup f16 = some ⟨oc16, od16, .func (PySem.W.fnOf "_law_texts" "_law_texts" (defArgs s__law_texts) (defBody s__law_texts) (defScope s__law_texts) .none kV16 dc16 pm16 an16 cd16 ct16), sl16⟩)
    (c16 : PySem.W.codeIn K cd16 "_law_texts" = true)
    (k16 : PySem.W.keepIn K (.ref f16) = true)
    (a17 : PySem.W.nsIn K mainGlobals "_law_made" = some (some (.ref f17)))
    (l17 : K.lookup f17 = some ⟨oc17, od17, .func (PySem.W.fnOf "_law_made" "_law_made" (defArgs s__law_made) (defBody s__law_made) (defScope s__law_made) .none kV17 dc17 pm17 an17 cd17 ct17), sl17⟩)
    (c17 : PySem.W.codeIn K cd17 "_law_made" = true)
    (k17 : PySem.W.keepIn K (.ref f17) = true)
    (a18 : PySem.W.nsIn K mainGlobals "_law_told_right" = some (some (.ref f18)))
    (l18 : K.lookup f18 = some ⟨oc18, od18, .func (PySem.W.fnOf "_law_told_right" "_law_told_right" (defArgs s__law_told_right) (defBody s__law_told_right) (defScope s__law_told_right) .none kV18 dc18 pm18 an18 cd18 ct18), sl18⟩)
    (c18 : PySem.W.codeIn K cd18 "_law_told_right" = true)
    (k18 : PySem.W.keepIn K (.ref f18) = true)
    (a19 : PySem.W.nsIn K mainGlobals "_law_otherwise" = some (some (.ref f19)))
    (l19 : K.lookup f19 = some ⟨oc19, od19, .func (PySem.W.fnOf "_law_otherwise" "_law_otherwise" (defArgs s__law_otherwise) (defBody s__law_otherwise) (defScope s__law_otherwise) .none kV19 dc19 pm19 an19 cd19 ct19), sl19⟩)
    (c19 : PySem.W.codeIn K cd19 "_law_otherwise" = true)
    (k19 : PySem.W.keepIn K (.ref f19) = true)
    (a20 : PySem.W.nsIn K mainGlobals "_law_right" = some (some (.ref f20)))
    (l20 : K.lookup f20 = some ⟨oc20, od20, .func (PySem.W.fnOf "_law_right" "_law_right" (defArgs s__law_right) (defBody s__law_right) (defScope s__law_right) .none kV20 dc20 pm20 an20 cd20 ct20), sl20⟩)
    (c20 : PySem.W.codeIn K cd20 "_law_right" = true)
    (k20 : PySem.W.keepIn K (.ref f20) = true)
    (a21 : PySem.W.nsIn K mainGlobals "law" = some (some (.ref f21)))
    (l21 : K.lookup f21 = some ⟨oc21, od21, .func (PySem.W.fnOf "law" "law" (defArgs s_law) (defBody s_law) (defScope s_law) .none kV21 dc21 pm21 an21 cd21 ct21), sl21⟩)
    (c21 : PySem.W.codeIn K cd21 "law" = true)
    (k21 : PySem.W.keepIn K (.ref f21) = true)
    (aGive : PySem.W.nsIn K mainGlobals "Give" = some (some (.ref CGive)))
    (aCall : PySem.W.nsIn K mainGlobals "Call" = some (some (.ref CCall)))
    (aThing : PySem.W.nsIn K mainGlobals "Thing" = some (some (.ref CThing)))
    (aTable : PySem.W.nsIn K mainGlobals "Table" = some (some (.ref CTable)))
    (aFunction : PySem.W.nsIn K mainGlobals "Function" = some (some (.ref CFunction)))
    (aMake : PySem.W.nsIn K mainGlobals "Make" = some (some (.ref CMake)))
    (rdT : PySem.W.readsIn K CThing (.type "type") = true)
    (gaT : PySem.W.specialIn K (.ref CThing) "__getattribute__" = some (some (.builtin "type.__getattribute__")))
    (iGI : PySem.W.findIn K (.ref CGive) "__init__" = some (some (.ref fGI)))
    (fnGI : PySem.W.isFn K (.ref fGI) = true)
    (lGI : K.lookup fGI = some ⟨ocGI, odGI, .func (PySem.W.fnOf "__init__" "Give.__init__" (defArgs s_Give_init) (defBody s_Give_init) (defScope s_Give_init) .none kVGI dcGI pmGI anGI cdGI ctGI), slGI⟩)
    (cGI : PySem.W.codeIn K cdGI "Give.__init__" = true)
    (kGI : PySem.W.keepIn K (.ref fGI) = true)
    (iGE : PySem.W.findIn K (.ref CGive) "__eq__" = some (some (.ref fGE)))
    (fnGE : PySem.W.isFn K (.ref fGE) = true)
    (lGE : K.lookup fGE = some ⟨ocGE, odGE, .func (PySem.W.fnOf "__eq__" "Give.__eq__" (defArgs s_Give_eq) (defBody s_Give_eq) (defScope s_Give_eq) .none kVGE dcGE pmGE anGE cdGE ctGE), slGE⟩)
    (cGE : PySem.W.codeIn K cdGE "Give.__eq__" = true)
    (kGE : PySem.W.keepIn K (.ref fGE) = true)
    (iGS : PySem.W.findIn K (.ref CGive) "__str__" = some (some (.ref fGS)))
    (fnGS : PySem.W.isFn K (.ref fGS) = true)
    (lGS : K.lookup fGS = some ⟨ocGS, odGS, .func (PySem.W.fnOf "__str__" "Give.__str__" (defArgs s_Give_str) (defBody s_Give_str) (defScope s_Give_str) .none kVGS dcGS pmGS anGS cdGS ctGS), slGS⟩)
    (cGS : PySem.W.codeIn K cdGS "Give.__str__" = true)
    (kGS : PySem.W.keepIn K (.ref fGS) = true)
    (iCI : PySem.W.findIn K (.ref CCall) "__init__" = some (some (.ref fCI)))
    (fnCI : PySem.W.isFn K (.ref fCI) = true)
    (lCI : K.lookup fCI = some ⟨ocCI, odCI, .func (PySem.W.fnOf "__init__" "Call.__init__" (defArgs s_Call_init) (defBody s_Call_init) (defScope s_Call_init) .none kVCI dcCI pmCI anCI cdCI ctCI), slCI⟩)
    (cCI : PySem.W.codeIn K cdCI "Call.__init__" = true)
    (kCI : PySem.W.keepIn K (.ref fCI) = true)
    (iCE : PySem.W.findIn K (.ref CCall) "__eq__" = some (some (.ref fCE)))
    (fnCE : PySem.W.isFn K (.ref fCE) = true)
    (lCE : K.lookup fCE = some ⟨ocCE, odCE, .func (PySem.W.fnOf "__eq__" "Call.__eq__" (defArgs s_Call_eq) (defBody s_Call_eq) (defScope s_Call_eq) .none kVCE dcCE pmCE anCE cdCE ctCE), slCE⟩)
    (cCE : PySem.W.codeIn K cdCE "Call.__eq__" = true)
    (kCE : PySem.W.keepIn K (.ref fCE) = true)
    (iCS : PySem.W.findIn K (.ref CCall) "__str__" = some (some (.ref fCS)))
    (fnCS : PySem.W.isFn K (.ref fCS) = true)
    (lCS : K.lookup fCS = some ⟨ocCS, odCS, .func (PySem.W.fnOf "__str__" "Call.__str__" (defArgs s_Call_str) (defBody s_Call_str) (defScope s_Call_str) .none kVCS dcCS pmCS anCS cdCS ctCS), slCS⟩)
    (cCS : PySem.W.codeIn K cdCS "Call.__str__" = true)
    (kCS : PySem.W.keepIn K (.ref fCS) = true)
    (inT : PySem.W.findCls K (.ref CThing) (.type "type") "__init__" = some (.val (.ref fTI)))
    (lTI : K.lookup fTI = some ⟨ocTI, odTI, .func (PySem.W.fnOf "__init__" "Thing.__init__" (defArgs s_Thing_init) (defBody s_Thing_init) (defScope s_Thing_init) .none kVTI dcTI pmTI anTI cdTI ctTI), slTI⟩)
    (cTI : PySem.W.codeIn K cdTI "Thing.__init__" = true)
    (kTI : PySem.W.keepIn K (.ref fTI) = true)
    (iTH : PySem.W.findIn K (.ref CFunction) "same_head" = some (some (.ref fTH)))
    (fnTH : PySem.W.isFn K (.ref fTH) = true)
    (lTH : K.lookup fTH = some ⟨ocTH, odTH, .func (PySem.W.fnOf "same_head" "Thing.same_head" (defArgs s_Thing_same_head) (defBody s_Thing_same_head) (defScope s_Thing_same_head) .none kVTH dcTH pmTH anTH cdTH ctTH), slTH⟩)
    (cTH : PySem.W.codeIn K cdTH "Thing.same_head" = true)
    (kTH : PySem.W.keepIn K (.ref fTH) = true)
    (iBI : PySem.W.findIn K (.ref CTable) "__init__" = some (some (.ref fBI)))
    (fnBI : PySem.W.isFn K (.ref fBI) = true)
    (lBI : K.lookup fBI = some ⟨ocBI, odBI, .func (PySem.W.fnOf "__init__" "Table.__init__" (defArgs s_Table_init) (defBody s_Table_init) (defScope s_Table_init) .none (.ref kD1) dcBI pmBI anBI cdBI ctBI), slBI⟩)
    (cBI : PySem.W.codeIn K cdBI "Table.__init__" = true)
    (kBI : PySem.W.keepIn K (.ref fBI) = true)
    (iFI : PySem.W.findIn K (.ref CFunction) "__init__" = some (some (.ref fFI)))
    (fnFI : PySem.W.isFn K (.ref fFI) = true)
    (lFI : K.lookup fFI = some ⟨ocFI, odFI, .func (PySem.W.fnOf "__init__" "Function.__init__" (defArgs s_Function_init) (defBody s_Function_init) (defScope s_Function_init) .none (.ref kD3) dcFI pmFI anFI cdFI ctFI), slFI⟩)
    (cFI : PySem.W.codeIn K cdFI "Function.__init__" = true)
    (kFI : PySem.W.keepIn K (.ref fFI) = true)
    (iFB : PySem.W.findIn K (.ref CFunction) "body" = some (some (.ref fFB)))
    (fnFB : PySem.W.isFn K (.ref fFB) = true)
    (lFB : K.lookup fFB = some ⟨ocFB, odFB, .func (PySem.W.fnOf "body" "Function.body" (defArgs s_Function_body) (defBody s_Function_body) (defScope s_Function_body) .none kVFB dcFB pmFB anFB cdFB ctFB), slFB⟩)
    (cFB : PySem.W.codeIn K cdFB "Function.body" = true)
    (kFB : PySem.W.keepIn K (.ref fFB) = true)
    (iFL : PySem.W.findIn K (.ref CFunction) "__len__" = some (some (.ref fFL)))
    (fnFL : PySem.W.isFn K (.ref fFL) = true)
    (lFL : K.lookup fFL = some ⟨ocFL, odFL, .func (PySem.W.fnOf "__len__" "Function.__len__" (defArgs s_Function_len) (defBody s_Function_len) (defScope s_Function_len) .none kVFL dcFL pmFL anFL cdFL ctFL), slFL⟩)
    (cFL : PySem.W.codeIn K cdFL "Function.__len__" = true)
    (kFL : PySem.W.keepIn K (.ref fFL) = true)
    (iFE : PySem.W.findIn K (.ref CFunction) "__eq__" = some (some (.ref fFE)))
    (fnFE : PySem.W.isFn K (.ref fFE) = true)
    (lFE : K.lookup fFE = some ⟨ocFE, odFE, .func (PySem.W.fnOf "__eq__" "Function.__eq__" (defArgs s_Function_eq) (defBody s_Function_eq) (defScope s_Function_eq) .none kVFE dcFE pmFE anFE cdFE ctFE), slFE⟩)
    (cFE : PySem.W.codeIn K cdFE "Function.__eq__" = true)
    (kFE : PySem.W.keepIn K (.ref fFE) = true)
    (iMI : PySem.W.findIn K (.ref CMake) "__init__" = some (some (.ref fMI)))
    (fnMI : PySem.W.isFn K (.ref fMI) = true)
    (lMI : K.lookup fMI = some ⟨ocMI, odMI, .func (PySem.W.fnOf "__init__" "Make.__init__" (defArgs s_Make_init) (defBody s_Make_init) (defScope s_Make_init) .none kVMI dcMI pmMI anMI cdMI ctMI), slMI⟩)
    (cMI : PySem.W.codeIn K cdMI "Make.__init__" = true)
    (kMI : PySem.W.keepIn K (.ref fMI) = true)
    (iME : PySem.W.findIn K (.ref CMake) "__eq__" = some (some (.ref fME)))
    (fnME : PySem.W.isFn K (.ref fME) = true)
    (lME : K.lookup fME = some ⟨ocME, odME, .func (PySem.W.fnOf "__eq__" "Make.__eq__" (defArgs s_Make_eq) (defBody s_Make_eq) (defScope s_Make_eq) .none kVME dcME pmME anME cdME ctME), slME⟩)
    (cME : PySem.W.codeIn K cdME "Make.__eq__" = true)
    (kME : PySem.W.keepIn K (.ref fME) = true)
    (dT : PySem.W.nsIn K kD1 "audience" = some (some .none))
    (dF1 : PySem.W.nsIn K kD3 "audience" = some (some .none))
    (dF2 : PySem.W.nsIn K kD3 "mode" = some (some (.str tOwn tO)))
    (dF3 : PySem.W.nsIn K kD3 "body" = some (some (.ref aTup)))
    (lTup : K.lookup aTup = some ⟨.type "tuple", oyT, .seq #[] nnT, syT⟩)
    (mkGive : PySem.W.makesIn K CGive = true)
    (kCGive : PySem.W.keepIn K (.ref CGive) = true)
    (pgGive : PySem.W.plainGet K CGive Str.empty = true)
    (hdGive : PySem.W.hasDictIn K CGive = true)
    (poGive : PySem.W.plainOver K CGive = true)
    (saGive : PySem.W.findIn K (.ref CGive) "__setattr__" = some (some (.builtin "object.__setattr__")))
    (haGive : PySem.W.findIn K (.ref CGive) "__class__" = some (some (.builtin "object.__class__")))
    (hmGive : PySem.W.mroIn K CGive (.type "object") = some true)
    (nGiveright : PySem.W.findIn K (.ref CGive) "right" = some none)
    (nGivething : PySem.W.findIn K (.ref CGive) "thing" = some none)
    (nGivetaker : PySem.W.findIn K (.ref CGive) "taker" = some none)
    (nGiveoption : PySem.W.findIn K (.ref CGive) "option" = some none)
    (mkCall : PySem.W.makesIn K CCall = true)
    (kCCall : PySem.W.keepIn K (.ref CCall) = true)
    (pgCall : PySem.W.plainGet K CCall Str.empty = true)
    (hdCall : PySem.W.hasDictIn K CCall = true)
    (poCall : PySem.W.plainOver K CCall = true)
    (saCall : PySem.W.findIn K (.ref CCall) "__setattr__" = some (some (.builtin "object.__setattr__")))
    (haCall : PySem.W.findIn K (.ref CCall) "__class__" = some (some (.builtin "object.__class__")))
    (hmCall : PySem.W.mroIn K CCall (.type "object") = some true)
    (nCallfunction : PySem.W.findIn K (.ref CCall) "function" = some none)
    (mkTable : PySem.W.makesIn K CTable = true)
    (kCTable : PySem.W.keepIn K (.ref CTable) = true)
    (pgTable : PySem.W.plainGet K CTable Str.empty = true)
    (hdTable : PySem.W.hasDictIn K CTable = true)
    (poTable : PySem.W.plainOver K CTable = true)
    (saTable : PySem.W.findIn K (.ref CTable) "__setattr__" = some (some (.builtin "object.__setattr__")))
    (haTable : PySem.W.findIn K (.ref CTable) "__class__" = some (some (.builtin "object.__class__")))
    (hmTable : PySem.W.mroIn K CTable (.type "object") = some true)
    (nTablekind : PySem.W.findIn K (.ref CTable) "kind" = some none)
    (nTablename : PySem.W.findIn K (.ref CTable) "name" = some none)
    (nTableowner : PySem.W.findIn K (.ref CTable) "owner" = some none)
    (nTable_audience : PySem.W.findIn K (.ref CTable) "_audience" = some none)
    (mkFunction : PySem.W.makesIn K CFunction = true)
    (kCFunction : PySem.W.keepIn K (.ref CFunction) = true)
    (pgFunction : PySem.W.plainGet K CFunction Str.empty = true)
    (hdFunction : PySem.W.hasDictIn K CFunction = true)
    (poFunction : PySem.W.plainOver K CFunction = true)
    (saFunction : PySem.W.findIn K (.ref CFunction) "__setattr__" = some (some (.builtin "object.__setattr__")))
    (haFunction : PySem.W.findIn K (.ref CFunction) "__class__" = some (some (.builtin "object.__class__")))
    (hmFunction : PySem.W.mroIn K CFunction (.type "object") = some true)
    (nFunctionkind : PySem.W.findIn K (.ref CFunction) "kind" = some none)
    (nFunctionname : PySem.W.findIn K (.ref CFunction) "name" = some none)
    (nFunctionowner : PySem.W.findIn K (.ref CFunction) "owner" = some none)
    (nFunction_audience : PySem.W.findIn K (.ref CFunction) "_audience" = some none)
    (nFunctionmode : PySem.W.findIn K (.ref CFunction) "mode" = some none)
    (nFunction_body : PySem.W.findIn K (.ref CFunction) "_body" = some none)
    (mkMake : PySem.W.makesIn K CMake = true)
    (kCMake : PySem.W.keepIn K (.ref CMake) = true)
    (pgMake : PySem.W.plainGet K CMake Str.empty = true)
    (hdMake : PySem.W.hasDictIn K CMake = true)
    (poMake : PySem.W.plainOver K CMake = true)
    (saMake : PySem.W.findIn K (.ref CMake) "__setattr__" = some (some (.builtin "object.__setattr__")))
    (haMake : PySem.W.findIn K (.ref CMake) "__class__" = some (some (.builtin "object.__class__")))
    (hmMake : PySem.W.mroIn K CMake (.type "object") = some true)
    (nMakething : PySem.W.findIn K (.ref CMake) "thing" = some none)
    (hn : PySem.W.specialIn K (.builtin "object.__class__") "__get__" = some (some (.builtin "getset_descriptor.__get__")))
    (ht : PySem.W.takesIn K (.builtin "object.__class__") = some true)
    (oCallCall : PySem.W.kitOne K (.ref CCall) (.ref CCall) = some true)
    (oCallGive : PySem.W.kitOne K (.ref CCall) (.ref CGive) = some false)
    (oGiveCall : PySem.W.kitOne K (.ref CGive) (.ref CCall) = some false)
    (oGiveGive : PySem.W.kitOne K (.ref CGive) (.ref CGive) = some true)
    (oFunctionFunction : PySem.W.kitOne K (.ref CFunction) (.ref CFunction) = some true)
    (oTableFunction : PySem.W.kitOne K (.ref CTable) (.ref CFunction) = some false)
    (oMakeMake : PySem.W.kitOne K (.ref CMake) (.ref CMake) = some true)
    (oTableTable : PySem.W.kitOne K (.ref CTable) (.ref CTable) = some true)
    (oFunctionTable : PySem.W.kitOne K (.ref CFunction) (.ref CTable) = some false)
    (nfCallCall : PySem.W.notFirst K CCall (.ref CCall) = true)
    (nfCallGive : PySem.W.notFirst K CCall (.ref CGive) = true)
    (nfGiveCall : PySem.W.notFirst K CGive (.ref CCall) = true)
    (nfGiveGive : PySem.W.notFirst K CGive (.ref CGive) = true)
    (nfFunctionFunction : PySem.W.notFirst K CFunction (.ref CFunction) = true)
    (nfFunctionTable : PySem.W.notFirst K CFunction (.ref CTable) = true)
    (nfMakeMake : PySem.W.notFirst K CMake (.ref CMake) = true)
    (neFunction : PySem.W.findIn K (.ref CFunction) "__ne__" = some (some (.builtin "object.__ne__")))
    (neMake : PySem.W.findIn K (.ref CMake) "__ne__" = some (some (.builtin "object.__ne__")))
    (aL : PySem.W.nsIn K mainGlobals "LONGEST_NAME" = some (some (.int 8 tL)))
    (aMB : PySem.W.nsIn K mainGlobals "MOST_IN_BODY" = some (some (.int 4 tB)))
    (gRs : PySem.W.nsIn K mainGlobals "RESERVED" = some (some (.ref aRs)))
    (lRs : K.lookup aRs = some ⟨.type "tuple", oy1, .seq #[.str tPub t1, .str tCal t2] nn1, sy1⟩)
    (gMs : PySem.W.nsIn K mainGlobals "MODES" = some (some (.ref aMs)))
    (lMs : K.lookup aMs = some ⟨.type "tuple", oy2, .seq #[.str (Str.ofString "owner") t3, .str (Str.ofString "caller") t4] nn2, sy2⟩)
    (gK : PySem.W.nsIn K mainGlobals "KIND_BY_RIGHT" = some (some (.ref dK)))
    (lK : K.lookup dK = some ⟨.type "dict", none, .dict #[⟨h1, .str (Str.ofString "inherit") ta, .str tRole ua⟩, ⟨h2, .str (Str.ofString "act") tb, .str tRole ub⟩, ⟨h3, .str (Str.ofString "read") tc, .str tTab uc⟩, ⟨h4, .str (Str.ofString "write") td, .str tTab ud⟩, ⟨h5, .str (Str.ofString "call") te, .str tFun ue⟩] nnK, #[]⟩)
    (hK : PySem.W.KeysLit w.params [⟨h1, .str (Str.ofString "inherit") ta, .str tRole ua⟩, ⟨h2, .str (Str.ofString "act") tb, .str tRole ub⟩, ⟨h3, .str (Str.ofString "read") tc, .str tTab uc⟩, ⟨h4, .str (Str.ofString "write") td, .str tTab ud⟩, ⟨h5, .str (Str.ofString "call") te, .str tFun ue⟩])
    (loK : (dK == sysModules) = false)
    (zisinstance : PySem.W.nsIn K mainGlobals "isinstance" = some none)
    (zstr : PySem.W.nsIn K mainGlobals "str" = some none)
    (zlen : PySem.W.nsIn K mainGlobals "len" = some none)
    (zrange : PySem.W.nsIn K mainGlobals "range" = some none)
    (zmax : PySem.W.nsIn K mainGlobals "max" = some none)
    (zmin : PySem.W.nsIn K mainGlobals "min" = some none)
    (zlist : PySem.W.nsIn K mainGlobals "list" = some none)
    (ztuple : PySem.W.nsIn K mainGlobals "tuple" = some none)
    (zall : PySem.W.nsIn K mainGlobals "all" = some none)
    (zint : PySem.W.nsIn K mainGlobals "int" = some none) :
    ∃ fd : FuncData, (∀ (s : Shared) (v : Value), BindsTo s fd ⟨[v], []⟩ [("_law_script", v)]) ∧ ∀ base : Heap, K.In base → base.Ns mainGlobals mg → FnOk l.prog w K mg base CX0 9 fa fd ["_law_script"] (spLaw K) := by
  have e := hfa.symm.trans (PySem.W.mg_of X G a21)
  cases e
  have F0 := fun_mk (st := s_is_name) l0 c0 k0
  have b0 := F0.binds (ps := ["value"]) fun _ _ _ _ _ _ us hl => match us, hl with | [_], _ => rfl
  have g0 := PySem.W.mg_of X G a0
  have F1 := fun_mk (st := s_is_taker) l1 c1 k1
  have b1 := F1.binds (ps := ["value"]) fun _ _ _ _ _ _ us hl => match us, hl with | [_], _ => rfl
  have g1 := PySem.W.mg_of X G a1
  have F2 := fun_mk (st := s_is_right) l2 c2 k2
  have b2 := F2.binds (ps := ["value"]) fun _ _ _ _ _ _ us hl => match us, hl with | [_], _ => rfl
  have g2 := PySem.W.mg_of X G a2
  have F3 := fun_mk (st := s_is_flag) l3 c3 k3
  have b3 := F3.binds (ps := ["value"]) fun _ _ _ _ _ _ us hl => match us, hl with | [_], _ => rfl
  have g3 := PySem.W.mg_of X G a3
  have F4 := fun_mk (st := s_is_list) l4 c4 k4
  have b4 := F4.binds (ps := ["value"]) fun _ _ _ _ _ _ us hl => match us, hl with | [_], _ => rfl
  have g4 := PySem.W.mg_of X G a4
  have F5 := fun_mk (st := s_check_name) l5 c5 k5
  have b5 := F5.binds (ps := ["value"]) fun _ _ _ _ _ _ us hl => match us, hl with | [_], _ => rfl
  have g5 := PySem.W.mg_of X G a5
  have F6 := fun_mk (st := s_check_taker) l6 c6 k6
  have b6 := F6.binds (ps := ["value"]) fun _ _ _ _ _ _ us hl => match us, hl with | [_], _ => rfl
  have g6 := PySem.W.mg_of X G a6
  have F7 := fun_mk (st := s_check_right) l7 c7 k7
  have b7 := F7.binds (ps := ["value"]) fun _ _ _ _ _ _ us hl => match us, hl with | [_], _ => rfl
  have g7 := PySem.W.mg_of X G a7
  have F8 := fun_mk (st := s_check_option) l8 c8 k8
  have b8 := F8.binds (ps := ["value", "taker"]) fun _ _ _ _ _ _ us hl => match us, hl with | [_, _], _ => rfl
  have g8 := PySem.W.mg_of X G a8
  have F9 := fun_mk (st := s_is_body) l9 c9 k9
  have b9 := F9.binds (ps := ["value"]) fun _ _ _ _ _ _ us hl => match us, hl with | [_], _ => rfl
  have g9 := PySem.W.mg_of X G a9
  have F10 := fun_mk (st := s__law_cell) l10 c10 k10
  have b10 := F10.binds (ps := ["_law_script", "_law_k"]) fun _ _ _ _ _ _ us hl => match us, hl with | [_, _], _ => rfl
  have g10 := PySem.W.mg_of X G a10
  have F11 := fun_mk (st := s__law_box) l11 c11 k11
  have b11 := F11.binds (ps := ["_law_cell_here"]) fun _ _ _ _ _ _ us hl => match us, hl with | [_], _ => rfl
  have g11 := PySem.W.mg_of X G a11
  have F12 := fun_mk (st := s__law_take) l12 c12 k12
  have b12 := F12.binds (ps := ["_law_box_here", "_law_many"]) fun _ _ _ _ _ _ us hl => match us, hl with | [_, _], _ => rfl
  have g12 := PySem.W.mg_of X G a12
  have F13 := fun_mk (st := s__law_names) l13 c13 k13
  have b13 := F13.binds (ps := ["_law_box_here", "_law_many"]) fun _ _ _ _ _ _ us hl => match us, hl with | [_, _], _ => rfl
  have g13 := PySem.W.mg_of X G a13
  have F14 := fun_mk (st := s__law_deeds) l14 c14 k14
  have b14 := F14.binds (ps := ["_law_rows"]) fun _ _ _ _ _ _ us hl => match us, hl with | [_], _ => rfl
  have g14 := PySem.W.mg_of X G a14
  have F15 := fun_mk (st := s__law_row) l15 c15 k15
  have b15 := F15.binds (ps := ["_law_box_here", "_law_names_here"]) fun _ _ _ _ _ _ us hl => match us, hl with | [_, _], _ => rfl
  have g15 := PySem.W.mg_of X G a15
  have F16 := fun_mk (st := s__law_texts) l16 c16 k16
  have b16 := F16.binds (ps := ["_law_rows"]) fun _ _ _ _ _ _ us hl => match us, hl with | [_], _ => rfl
  have g16 := PySem.W.mg_of X G a16
  have F17 := fun_mk (st := s__law_made) l17 c17 k17
  have b17 := F17.binds (ps := ["_law_names_here", "_law_way", "_law_rows"]) fun _ _ _ _ _ _ us hl => match us, hl with | [_, _, _], _ => rfl
  have g17 := PySem.W.mg_of X G a17
  have F18 := fun_mk (st := s__law_told_right) l18 c18 k18
  have b18 := F18.binds (ps := ["_law_thing", "_law_way", "_law_rows"]) fun _ _ _ _ _ _ us hl => match us, hl with | [_, _, _], _ => rfl
  have g18 := PySem.W.mg_of X G a18
  have F19 := fun_mk (st := s__law_otherwise) l19 c19 k19
  have b19 := F19.binds (ps := ["_law_box_here", "_law_names_here", "_law_rows"]) fun _ _ _ _ _ _ us hl => match us, hl with | [_, _, _], _ => rfl
  have g19 := PySem.W.mg_of X G a19
  have F20 := fun_mk (st := s__law_right) l20 c20 k20
  have b20 := F20.binds (ps := ["_law_box_here"]) fun _ _ _ _ _ _ us hl => match us, hl with | [_], _ => rfl
  have g20 := PySem.W.mg_of X G a20
  have F21 := fun_mk (st := s_law) l21 c21 k21
  have b21 := F21.binds (ps := ["_law_script"]) fun _ _ _ _ _ _ us hl => match us, hl with | [_], _ => rfl
  have g21 := PySem.W.mg_of X G a21
  have FGE := fun_mk (st := s_Give_eq) lGE cGE kGE
  have bGE := FGE.binds (ps := ["self", "other"]) fun _ _ _ _ _ _ us hl => match us, hl with | [_, _], _ => rfl
  have FGS := fun_mk (st := s_Give_str) lGS cGS kGS
  have bGS := FGS.binds (ps := ["self"]) fun _ _ _ _ _ _ us hl => match us, hl with | [_], _ => rfl
  have FCI := fun_mk (st := s_Call_init) lCI cCI kCI
  have bCI := FCI.binds (ps := ["self", "function"]) fun _ _ _ _ _ _ us hl => match us, hl with | [_, _], _ => rfl
  have FCE := fun_mk (st := s_Call_eq) lCE cCE kCE
  have bCE := FCE.binds (ps := ["self", "other"]) fun _ _ _ _ _ _ us hl => match us, hl with | [_, _], _ => rfl
  have FCS := fun_mk (st := s_Call_str) lCS cCS kCS
  have bCS := FCS.binds (ps := ["self"]) fun _ _ _ _ _ _ us hl => match us, hl with | [_], _ => rfl
  have FTI := fun_mk (st := s_Thing_init) lTI cTI kTI
  have bTI := FTI.binds (ps := ["self", "kind", "name", "owner", "audience"]) fun _ _ _ _ _ _ us hl => match us, hl with | [_, _, _, _, _], _ => rfl
  have FTH := fun_mk (st := s_Thing_same_head) lTH cTH kTH
  have bTH := FTH.binds (ps := ["self", "other"]) fun _ _ _ _ _ _ us hl => match us, hl with | [_, _], _ => rfl
  have FFB := fun_mk (st := s_Function_body) lFB cFB kFB
  have bFB := FFB.binds (ps := ["self"]) fun _ _ _ _ _ _ us hl => match us, hl with | [_], _ => rfl
  have FFL := fun_mk (st := s_Function_len) lFL cFL kFL
  have bFL := FFL.binds (ps := ["self"]) fun _ _ _ _ _ _ us hl => match us, hl with | [_], _ => rfl
  have FFE := fun_mk (st := s_Function_eq) lFE cFE kFE
  have bFE := FFE.binds (ps := ["self", "other"]) fun _ _ _ _ _ _ us hl => match us, hl with | [_, _], _ => rfl
  have FMI := fun_mk (st := s_Make_init) lMI cMI kMI
  have bMI := FMI.binds (ps := ["self", "thing"]) fun _ _ _ _ _ _ us hl => match us, hl with | [_, _], _ => rfl
  have FME := fun_mk (st := s_Make_eq) lME cME kME
  have bME := FME.binds (ps := ["self", "other"]) fun _ _ _ _ _ _ us hl => match us, hl with | [_, _], _ => rfl
  have MGive : Mk K CGive fGI := ⟨mkGive, iGI, fnGI, kCGive⟩
  have c0Give : Cls K CGive := ⟨pgGive, hdGive, poGive, saGive⟩
  have TGive : TyC K CGive := ⟨c0Give, haGive, hn, ht, hmGive⟩
  have MCall : Mk K CCall fCI := ⟨mkCall, iCI, fnCI, kCCall⟩
  have c0Call : Cls K CCall := ⟨pgCall, hdCall, poCall, saCall⟩
  have TCall : TyC K CCall := ⟨c0Call, haCall, hn, ht, hmCall⟩
  have MTable : Mk K CTable fBI := ⟨mkTable, iBI, fnBI, kCTable⟩
  have c0Table : Cls K CTable := ⟨pgTable, hdTable, poTable, saTable⟩
  have TTable : TyC K CTable := ⟨c0Table, haTable, hn, ht, hmTable⟩
  have MFunction : Mk K CFunction fFI := ⟨mkFunction, iFI, fnFI, kCFunction⟩
  have c0Function : Cls K CFunction := ⟨pgFunction, hdFunction, poFunction, saFunction⟩
  have TFunction : TyC K CFunction := ⟨c0Function, haFunction, hn, ht, hmFunction⟩
  have MMake : Mk K CMake fMI := ⟨mkMake, iMI, fnMI, kCMake⟩
  have c0Make : Cls K CMake := ⟨pgMake, hdMake, poMake, saMake⟩
  have TMake : TyC K CMake := ⟨c0Make, haMake, hn, ht, hmMake⟩
  have misinstance := PySem.W.mg_none_of X G zisinstance
  have mstr := PySem.W.mg_none_of X G zstr
  have mlen := PySem.W.mg_none_of X G zlen
  have mrange := PySem.W.mg_none_of X G zrange
  have mmax := PySem.W.mg_none_of X G zmax
  have mmin := PySem.W.mg_none_of X G zmin
  have mlist := PySem.W.mg_none_of X G zlist
  have mtuple := PySem.W.mg_none_of X G ztuple
  have mall := PySem.W.mg_none_of X G zall
  have mint := PySem.W.mg_none_of X G zint
  have mL := PySem.W.mg_of X G aL
  have mMB := PySem.W.mg_of X G aMB
  have mR := PySem.W.mg_of X G gRs
  have hR := kt_mk lRs
  have mM := PySem.W.mg_of X G gMs
  have hM := kt_mk lMs
  have mK := PySem.W.mg_of X G gK
  have hKr := kr_mk lK hK loK
  have gGive := PySem.W.mg_of X G aGive
  have gCall := PySem.W.mg_of X G aCall
  have gThing := PySem.W.mg_of X G aThing
  have gTable := PySem.W.mg_of X G aTable
  have gFunction := PySem.W.mg_of X G aFunction
  have gMake := PySem.W.mg_of X G aMake
  have hTup : KTup K aTup [] := ⟨_, _, _, lTup, rfl, rfl, by show 0 ≤ sizeLine; decide, .nil⟩
  have FGI : FunD K "__init__" "Give.__init__" (defArgs s_Give_init) (defBody s_Give_init) (defScope s_Give_init) [] [] fGI _ := ⟨⟨ocGI, odGI, .none, kVGI, dcGI, pmGI, anGI, cdGI, ctGI, slGI, rfl, lGI, cGI, .inl ⟨rfl, rfl⟩, .inl rfl⟩, kGI⟩
  have bGI := kbn_mk (ps := ["self", "right", "thing", "taker", "option"]) (ks := ["option"]) (n := 4) FGI fun _ _ _ _ _ _ s us ws h1 h2 => match us, ws, h1, h2 with | [_, _, _, _], [_], _, _ => .of_eq rfl
  have FBI : FunD K "__init__" "Table.__init__" (defArgs s_Table_init) (defBody s_Table_init) (defScope s_Table_init) [] [("audience", .non)] fBI _ := ⟨⟨ocBI, odBI, .none, .ref kD1, dcBI, pmBI, anBI, cdBI, ctBI, slBI, rfl, lBI, cBI, .inl ⟨rfl, rfl⟩, .inr ⟨kD1, rfl, fun q hq => by
    have e := List.mem_singleton.mp hq
    subst e
    exact ⟨_, dT, rfl⟩⟩⟩, kBI⟩
  obtain ⟨dsB, vB, bB⟩ := FBI.binds0 (ps := ["self", "name", "owner", "audience"]) 3 (by simp) rfl fun D doc pm an cdv ct us ks h1 h2 => match us, ks, h1, h2 with
    | [_, _, _], [k], _, _ => ⟨_, _, _, _, _, _, rfl, rfl, rfl⟩
  have FFI : FunD K "__init__" "Function.__init__" (defArgs s_Function_init) (defBody s_Function_init) (defScope s_Function_init) [] [("audience", .non), ("mode", .str tOwn), ("body", .ref aTup)] fFI _ := ⟨⟨ocFI, odFI, .none, .ref kD3, dcFI, pmFI, anFI, cdFI, ctFI, slFI, rfl, lFI, cFI, .inl ⟨rfl, rfl⟩, .inr ⟨kD3, rfl, fun q hq => by
    rcases List.mem_cons.mp hq with e | hq
    · subst e; exact ⟨_, dF1, rfl⟩
    rcases List.mem_cons.mp hq with e | hq
    · subst e; exact ⟨_, dF2, ⟨tO, rfl⟩⟩
    · have e := List.mem_singleton.mp hq
      subst e; exact ⟨_, dF3, rfl⟩⟩⟩, kFI⟩
  obtain ⟨dsF, vF, b0F⟩ := FFI.binds0 (ps := psF) 3 (by simp) rfl fun D doc pm an cdv ct us ks h1 h2 => match us, ks, h1, h2 with
    | [_, _, _], [k1, k2, k3], _, _ => ⟨_, _, _, _, _, _, rfl, rfl, _, _, _, _, _, _, rfl, rfl, _, _, _, _, _, _, rfl, rfl, rfl⟩
  obtain ⟨mv1, b1F⟩ := FFI.kbinds0 (ps := psF) 3 ["body"] [("audience", .non), ("mode", .str tOwn)] (fun us mv ws => us ++ (mv ++ ws)) (by simp) (fun q hq => by
    rcases List.mem_cons.mp hq with e | hq
    · rw [e]; exact List.mem_cons_self ..
    · rw [List.mem_singleton.mp hq]; exact List.mem_cons_of_mem _ (List.mem_cons_self ..)) (fun r1 r2 r3 => r1.append (r2.append r3)) fun D doc pm an cdv ct us mv ws h1 h2 h3 => match us, mv, ws, h1, h2, h3 with
    | [_, _, _], [k1, k2], [_], _, _, _ => ⟨_, _, _, _, _, _, rfl, rfl, _, _, _, _, _, _, rfl, rfl, rfl⟩
  obtain ⟨mv2, b2F⟩ := FFI.kbinds0 (ps := psF) 3 ["mode", "body"] [("audience", .non)] (fun us mv ws => us ++ (mv ++ ws)) (by simp) (fun q hq => by
    rw [List.mem_singleton.mp hq]; exact List.mem_cons_self ..) (fun r1 r2 r3 => r1.append (r2.append r3)) fun D doc pm an cdv ct us mv ws h1 h2 h3 => match us, mv, ws, h1, h2, h3 with
    | [_, _, _], [k1], [_, _], _, _, _ => ⟨_, _, _, _, _, _, rfl, rfl, rfl⟩
  have tfT : TF K CTable := ⟨c0Table, nTablekind, nTablename, nTableowner, nTable_audience⟩
  have tfF : TF K CFunction := ⟨c0Function, nFunctionkind, nFunctionname, nFunctionowner, nFunction_audience⟩
  have ffF : FF K CFunction := ⟨tfF, nFunctionmode, nFunction_body⟩
  have dc : DC K mg ⟨CCall, CGive⟩ := ⟨gCall, gGive, TCall, TGive, oCallCall, oCallGive, oGiveCall, oGiveGive, nCallfunction, nGiveright, nGivething, nGivetaker, nGiveoption⟩
  have cdef : CDef K mg "Thing" CThing (.type "type") "__init__" fTI := ⟨gThing, rdT, gaT, inT, kTI⟩
  have mHd : Meth K CFunction "same_head" fTH := ⟨iTH, fnTH, kTH⟩
  have mBd : Meth K CFunction "body" fFB := ⟨iFB, fnFB, kFB⟩
  refine ⟨PySem.W.fnOf "law" "law" (defArgs s_law) (defBody s_law) (defScope s_law) .none kV21 dc21 pm21 an21 cd21 ct21, fun s v => .of_eq rfl, fun base _ _ => ?_⟩
  have oN : FnOk l.prog w K mg base CX0 1 f0 _ ["value"] (spP K isName) := ok_is_name F0 misinstance mstr mlen mL mR hR
  have oT : FnOk l.prog w K mg base CX0 2 f1 _ ["value"] (spP K isTaker) := ok_is_taker F1 oN b0 k0 g0
  have oR : FnOk l.prog w K mg base CX0 1 f2 _ ["value"] (spP K isRight) := ok_is_right F2 misinstance mstr mK hKr
  have oF : FnOk l.prog w K mg base CX0 1 f3 _ ["value"] (spP K isFlag) := ok_is_flag F3
  have dN := df_mk (oN) b0 k0 g0
  have dT_ := df_mk (oT) b1 k1 g1
  have dR := df_mk (oR) b2 k2 g2
  have dFl := df_mk (oF) b3 k3 g3
  have dcN := df_mk (ok_check_name F5 dN) b5 k5 g5
  have dcT := df_mk (ok_check_taker F6 dT_) b6 k6 g6
  have dcR := df_mk (ok_check_right F7 dR) b7 k7 g7
  have dcO := df_mk (ok_check_option F8 dFl) b8 k8 g8
  have dLi := df_mk (ok_is_list (P := l.prog) (w := w) (base := base) F4 misinstance mlist mtuple) b4 k4 g4
  have dBo := df_mk (ok_is_body F9 dc dLi misinstance mlen mall mMB) b9 k9 g9
  have oGI := ok_GiveI FGI dcR dcN dcT dcO c0Give nGiveright nGivething nGivetaker nGiveoption
  have oCI := ok_CallI FCI dcN c0Call nCallfunction
  have mkd : MkD l.prog w K mg base ⟨CCall, CGive⟩ := ⟨⟨fCI, _, MCall, oCI, gCall, bCI⟩, ⟨fGI, _, MGive, oGI, gGive, bGI⟩⟩
  have de : DE l.prog w K mg base ⟨CCall, CGive⟩ := ⟨⟨fCE, _, ok_CallE FCE dc misinstance, iCE, fnCE, bCE⟩, ⟨fGE, _, ok_GiveE FGE dc misinstance, iGE, fnGE, bGE⟩, fun d d' => match d, d' with | .call _, .call _ => nfCallCall | .call _, .give _ _ _ _ => nfCallGive | .give _ _ _ _, .call _ => nfGiveCall | .give _ _ _ _, .give _ _ _ _ => nfGiveGive⟩
  have ds : DS l.prog w K mg base ⟨CCall, CGive⟩ := ⟨⟨fCS, _, ok_CallS FCS dc, iCS, fnCS, bCS⟩, ⟨fGS, _, ok_GiveS FGS dc, iGS, fnGS, bGS⟩⟩
  have oTI := ok_Thing FTI dcN
  have oBI := ok_Table FBI cdef oTI bTI tfT
  have oFI := ok_Function FFI cdef oTI bTI dBo ffF mM hM mlist
  have mkf : MkF l.prog w K mg base ⟨CCall, CGive⟩ CFunction fFI _ _ _ := ⟨MFunction, oFI, gFunction, b1F, b2F, aTup, dsF, hTup, b0F, vF⟩
  have oTH := ok_head (P := l.prog) (w := w) (mg := mg) (base := base) FTH
  have oFB := ok_body (P := l.prog) (w := w) (base := base) (c := ⟨CCall, CGive⟩) FFB ffF mlist
  have oFL := ok_len (P := l.prog) (w := w) (base := base) (c := ⟨CCall, CGive⟩) FFL ffF mlen
  have oFE := ok_FunE FFE de ffF TFunction gFunction oFunctionFunction misinstance mHd oTH bTH
  have oMI := ok_MakeI (P := l.prog) (w := w) (base := base) FMI gTable gFunction c0Make nMakething misinstance
  have oME := ok_MakeE FME gMake TMake nMakething oMakeMake misinstance oFE iFE fnFE bFE
  have lc : LC l.prog w K mg base ⟨CCall, CGive⟩ CFunction CMake CTable := ⟨⟨fFE, _, oFE, iFE, fnFE, bFE⟩, ⟨fME, _, oME, iME, fnME, bME⟩, ⟨fBI, _, dsB, MTable, oBI, gTable, bB, vB⟩, ⟨fMI, _, MMake, oMI, gMake, bMI⟩, hmFunction, neFunction, hmMake, neMake, nfFunctionFunction, nfFunctionTable, nfMakeMake, TFunction, TTable,
    kitAny_cons oFunctionTable (fun _ => kitAny_cons oFunctionFunction (fun h => nomatch h) (fun _ => rfl)) (fun h => nomatch h), kitAny_cons oTableTable (fun h => nomatch h) (fun _ => rfl), oTableFunction, c0Make, nMakething⟩
  have dC := df_mk (ok_cell (P := l.prog) (w := w) (base := base) F10 mlen) b10 k10 g10
  have dB := df_mk (ok_box (P := l.prog) (w := w) (base := base) F11 mmax) b11 k11 g11
  have dTk := df_mk (ok_take (P := l.prog) (w := w) (mg := mg) (base := base) F12) b12 k12 g12
  have dNm := df_mk (ok_names F13 dTk mrange) b13 k13 g13
  have dDe := df_mk (ok_deeds F14 mkd) b14 k14 g14
  have dRo := df_mk (ok_row F15 dTk) b15 k15 g15
  have dTx := df_mk (ok_texts (P := l.prog) (w := w) (mg := mg) (base := base) F16) b16 k16 g16
  have dMa := df_mk (ok_made F17 mkf dDe mtuple) b17 k17 g17
  have dTo := df_mk (ok_told F18 ds ffF mBd oFB bFB oFL iFL fnFL bFL dTx mrange misinstance mlist mstr mlen) b18 k18 g18
  have dOt := df_mk (ok_other F19 dTk dRo mlen mlist) b19 k19 g19
  have dRi := df_mk (ok_right F20 mkf lc dNm dTk dRo dDe dOt dMa dTo mrange mint) b20 k20 g20
  exact ok_law F21 mkf ffF oFL iFL fnFL bFL dC dB dRi mrange mmax mmin mlen
end K10
open PySem PySem.W PyProof.Rows
set_option maxHeartbeats 0 in
theorem PySem.Challenge.cw_rolereach_k10_functions_made_holds : PySem.Challenge.rw_rolereach_k10_functions_made.Holds := by
  w_on; o_law; k_head; (case hw => w_witness2)
  k_fill
  refine L2.walk_of (l := PySem.Challenge.rw_rolereach_k10_functions_made) (n := 63) (k := 9) (x := "_law_script") (CX := fun _ => L2.CX0) (sp := fun w => K10.spLaw _) rfl (by decide) rfl ⟨rfl, by decide, by decide⟩ (fun w h Y => PySem.W.kIn_of Y) ?F (fun _ _ a ns hl _ hS => ⟨a, ns, rfl, hS, hl, fun _ => rfl⟩) (fun _ _ _ _ _ h => h)
  case F =>
    intro w mg fa h KX G hmg
    refine' K10.all_mk KX G hmg ?a0 ?l0 ?c0 ?k0 ?a1 ?l1 ?c1 ?k1 ?a2 ?l2 ?c2 ?k2 ?a3 ?l3 ?c3 ?k3 ?a4 ?l4 ?c4 ?k4 ?a5 ?l5 ?c5 ?k5 ?a6 ?l6 ?c6 ?k6 ?a7 ?l7 ?c7 ?k7 ?a8 ?l8 ?c8 ?k8 ?a9 ?l9 ?c9 ?k9 ?a10 ?l10 ?c10 ?k10 ?a11 ?l11 ?c11 ?k11 ?a12 ?l12 ?c12 ?k12 ?a13 ?l13 ?c13 ?k13 ?a14 ?l14 ?c14 ?k14 ?a15 ?l15 ?c15 ?k15 ?a16 ?l16 ?c16 ?k16 ?a17 ?l17 ?c17 ?k17 ?a18 ?l18 ?c18 ?k18 ?a19 ?l19 ?c19 ?k19 ?a20 ?l20 ?c20 ?k20 ?a21 ?l21 ?c21 ?k21 ?aGive ?aCall ?aThing ?aTable ?aFunction ?aMake ?rdT ?gaT ?iGI ?fnGI ?lGI ?cGI ?kGI ?iGE ?fnGE ?lGE ?cGE ?kGE ?iGS ?fnGS ?lGS ?cGS ?kGS ?iCI ?fnCI ?lCI ?cCI ?kCI ?iCE ?fnCE ?lCE ?cCE ?kCE ?iCS ?fnCS ?lCS ?cCS ?kCS ?inT ?lTI ?cTI ?kTI ?iTH ?fnTH ?lTH ?cTH ?kTH ?iBI ?fnBI ?lBI ?cBI ?kBI ?iFI ?fnFI ?lFI ?cFI ?kFI ?iFB ?fnFB ?lFB ?cFB ?kFB ?iFL ?fnFL ?lFL ?cFL ?kFL ?iFE ?fnFE ?lFE ?cFE ?kFE ?iMI ?fnMI ?lMI ?cMI ?kMI ?iME ?fnME ?lME ?cME ?kME ?dT ?dF1 ?dF2 ?dF3 ?lTup ?mkGive ?kCGive ?pgGive ?hdGive ?poGive ?saGive ?haGive ?hmGive ?nGiveright ?nGivething ?nGivetaker ?nGiveoption ?mkCall ?kCCall ?pgCall ?hdCall ?poCall ?saCall ?haCall ?hmCall ?nCallfunction ?mkTable ?kCTable ?pgTable ?hdTable ?poTable ?saTable ?haTable ?hmTable ?nTablekind ?nTablename ?nTableowner ?nTable_audience ?mkFunction ?kCFunction ?pgFunction ?hdFunction ?poFunction ?saFunction ?haFunction ?hmFunction ?nFunctionkind ?nFunctionname ?nFunctionowner ?nFunction_audience ?nFunctionmode ?nFunction_body ?mkMake ?kCMake ?pgMake ?hdMake ?poMake ?saMake ?haMake ?hmMake ?nMakething ?hn ?ht ?oCallCall ?oCallGive ?oGiveCall ?oGiveGive ?oFunctionFunction ?oTableFunction ?oMakeMake ?oTableTable ?oFunctionTable ?nfCallCall ?nfCallGive ?nfGiveCall ?nfGiveGive ?nfFunctionFunction ?nfFunctionTable ?nfMakeMake ?neFunction ?neMake ?aL ?aMB ?gRs ?lRs ?gMs ?lMs ?gK ?lK ?hK ?loK ?zisinstance ?zstr ?zlen ?zrange ?zmax ?zmin ?zlist ?ztuple ?zall ?zint
    (case a0 => k_is)
    (case l0 => k_is)
    (case c0 => k_is)
    (case k0 => k_is)
    (case a1 => k_is)
    (case l1 => k_is)
    (case c1 => k_is)
    (case k1 => k_is)
    (case a2 => k_is)
    (case l2 => k_is)
    (case c2 => k_is)
    (case k2 => k_is)
    (case a3 => k_is)
    (case l3 => k_is)
    (case c3 => k_is)
    (case k3 => k_is)
    (case a4 => k_is)
    (case l4 => k_is)
    (case c4 => k_is)
    (case k4 => k_is)
    (case a5 => k_is)
    (case l5 => k_is)
    (case c5 => k_is)
    (case k5 => k_is)
    (case a6 => k_is)
    (case l6 => k_is)
    (case c6 => k_is)
    (case k6 => k_is)
    (case a7 => k_is)
    (case l7 => k_is)
    (case c7 => k_is)
    (case k7 => k_is)
    (case a8 => k_is)
    (case l8 => k_is)
    (case c8 => k_is)
    (case k8 => k_is)
    (case a9 => k_is)
    (case l9 => k_is)
    (case c9 => k_is)
    (case k9 => k_is)
    (case a10 => k_is)
    (case l10 => k_is)
    (case c10 => k_is)
    (case k10 => k_is)
    (case a11 => k_is)
    (case l11 => k_is)
    (case c11 => k_is)
    (case k11 => k_is)
    (case a12 => k_is)
    (case l12 => k_is)
    (case c12 => k_is)
    (case k12 => k_is)
    (case a13 => k_is)
    (case l13 => k_is)
    (case c13 => k_is)
    (case k13 => k_is)
    (case a14 => k_is)
    (case l14 => k_is)
    (case c14 => k_is)
    (case k14 => k_is)
    (case a15 => k_is)
    (case l15 => k_is)
    (case c15 => k_is)
    (case k15 => k_is)
    (case a16 => k_is)
    (case l16 => k_is)
    (case c16 => k_is)
    (case k16 => k_is)
    (case a17 => k_is)
    (case l17 => k_is)
    (case c17 => k_is)
    (case k17 => k_is)
    (case a18 => k_is)
    (case l18 => k_is)
    (case c18 => k_is)
    (case k18 => k_is)
    (case a19 => k_is)
    (case l19 => k_is)
    (case c19 => k_is)
    (case k19 => k_is)
    (case a20 => k_is)
    (case l20 => k_is)
    (case c20 => k_is)
    (case k20 => k_is)
    (case a21 => k_is)
    (case l21 => k_is)
    (case c21 => k_is)
    (case k21 => k_is)
    (case aGive => k_is)
    (case aCall => k_is)
    (case aThing => k_is)
    (case aTable => k_is)
    (case aFunction => k_is)
    (case aMake => k_is)
    (case rdT => k_is)
    (case gaT => k_is)
    (case iGI => k_is)
    (case fnGI => k_is)
    (case lGI => k_is)
    (case cGI => k_is)
    (case kGI => k_is)
    (case iGE => k_is)
    (case fnGE => k_is)
    (case lGE => k_is)
    (case cGE => k_is)
    (case kGE => k_is)
    (case iGS => k_is)
    (case fnGS => k_is)
    (case lGS => k_is)
    (case cGS => k_is)
    (case kGS => k_is)
    (case iCI => k_is)
    (case fnCI => k_is)
    (case lCI => k_is)
    (case cCI => k_is)
    (case kCI => k_is)
    (case iCE => k_is)
    (case fnCE => k_is)
    (case lCE => k_is)
    (case cCE => k_is)
    (case kCE => k_is)
    (case iCS => k_is)
    (case fnCS => k_is)
    (case lCS => k_is)
    (case cCS => k_is)
    (case kCS => k_is)
    (case inT => k_is)
    (case lTI => k_is)
    (case cTI => k_is)
    (case kTI => k_is)
    (case iTH => k_is)
    (case fnTH => k_is)
    (case lTH => k_is)
    (case cTH => k_is)
    (case kTH => k_is)
    (case iBI => k_is)
    (case fnBI => k_is)
    (case lBI => k_is)
    (case cBI => k_is)
    (case kBI => k_is)
    (case iFI => k_is)
    (case fnFI => k_is)
    (case lFI => k_is)
    (case cFI => k_is)
    (case kFI => k_is)
    (case iFB => k_is)
    (case fnFB => k_is)
    (case lFB => k_is)
    (case cFB => k_is)
    (case kFB => k_is)
    (case iFL => k_is)
    (case fnFL => k_is)
    (case lFL => k_is)
    (case cFL => k_is)
    (case kFL => k_is)
    (case iFE => k_is)
    (case fnFE => k_is)
    (case lFE => k_is)
    (case cFE => k_is)
    (case kFE => k_is)
    (case iMI => k_is)
    (case fnMI => k_is)
    (case lMI => k_is)
    (case cMI => k_is)
    (case kMI => k_is)
    (case iME => k_is)
    (case fnME => k_is)
    (case lME => k_is)
    (case cME => k_is)
    (case kME => k_is)
    (case dT => k_is)
    (case dF1 => k_is)
    (case dF2 => k_is)
    (case dF3 => k_is)
    (case lTup => k_is)
    (case mkGive => k_is)
    (case kCGive => k_is)
    (case pgGive => k_is)
    (case hdGive => k_is)
    (case poGive => k_is)
    (case saGive => k_is)
    (case haGive => k_is)
    (case hmGive => k_is)
    (case nGiveright => k_is)
    (case nGivething => k_is)
    (case nGivetaker => k_is)
    (case nGiveoption => k_is)
    (case mkCall => k_is)
    (case kCCall => k_is)
    (case pgCall => k_is)
    (case hdCall => k_is)
    (case poCall => k_is)
    (case saCall => k_is)
    (case haCall => k_is)
    (case hmCall => k_is)
    (case nCallfunction => k_is)
    (case mkTable => k_is)
    (case kCTable => k_is)
    (case pgTable => k_is)
    (case hdTable => k_is)
    (case poTable => k_is)
    (case saTable => k_is)
    (case haTable => k_is)
    (case hmTable => k_is)
    (case nTablekind => k_is)
    (case nTablename => k_is)
    (case nTableowner => k_is)
    (case nTable_audience => k_is)
    (case mkFunction => k_is)
    (case kCFunction => k_is)
    (case pgFunction => k_is)
    (case hdFunction => k_is)
    (case poFunction => k_is)
    (case saFunction => k_is)
    (case haFunction => k_is)
    (case hmFunction => k_is)
    (case nFunctionkind => k_is)
    (case nFunctionname => k_is)
    (case nFunctionowner => k_is)
    (case nFunction_audience => k_is)
    (case nFunctionmode => k_is)
    (case nFunction_body => k_is)
    (case mkMake => k_is)
    (case kCMake => k_is)
    (case pgMake => k_is)
    (case hdMake => k_is)
    (case poMake => k_is)
    (case saMake => k_is)
    (case haMake => k_is)
    (case hmMake => k_is)
    (case nMakething => k_is)
    (case hn => k_is)
    (case ht => k_is)
    (case oCallCall => first | k_is | rfl | decide)
    (case oCallGive => first | k_is | rfl | decide)
    (case oGiveCall => first | k_is | rfl | decide)
    (case oGiveGive => first | k_is | rfl | decide)
    (case oFunctionFunction => first | k_is | rfl | decide)
    (case oTableFunction => first | k_is | rfl | decide)
    (case oMakeMake => first | k_is | rfl | decide)
    (case oTableTable => first | k_is | rfl | decide)
    (case oFunctionTable => first | k_is | rfl | decide)
    (case nfCallCall => first | k_is | rfl | decide)
    (case nfCallGive => first | k_is | rfl | decide)
    (case nfGiveCall => first | k_is | rfl | decide)
    (case nfGiveGive => first | k_is | rfl | decide)
    (case nfFunctionFunction => first | k_is | rfl | decide)
    (case nfFunctionTable => first | k_is | rfl | decide)
    (case nfMakeMake => first | k_is | rfl | decide)
    (case neFunction => k_is)
    (case neMake => k_is)
    (case aL => k_is)
    (case aMB => k_is)
    (case gRs => k_is)
    (case lRs => k_is)
    (case gMs => k_is)
    (case lMs => k_is)
    (case gK => k_is)
    (case lK => k_is)
    (case hK => exact ⟨⟨_, _, rfl, rfl⟩, ⟨_, _, rfl, rfl⟩, ⟨_, _, rfl, rfl⟩, ⟨_, _, rfl, rfl⟩, ⟨_, _, rfl, rfl⟩, trivial⟩)
    (case loK => first | rfl | decide | k_is)
    (case zisinstance => k_is)
    (case zstr => k_is)
    (case zlen => k_is)
    (case zrange => k_is)
    (case zmax => k_is)
    (case zmin => k_is)
    (case zlist => k_is)
    (case ztuple => k_is)
    (case zall => k_is)
    (case zint => k_is)
