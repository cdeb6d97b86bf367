import PyProof.Rows.All
import Wide.All
import OpenK.AllK
import Wide.FinOn
import HandS.ForMost
import HandS.Walk
import HandS.Wide
import HandS.Defaults
import HandS.IsInst
import HandS.Zip
import HandS.Ends
import KE.KExcPX
import HandS.ForExc
import HandS.ExcInit
import HandS.ExcField
import HandS.TryMany
import HandS.ClsMeth
import HandS.OwnEq
import PyProof.InstNe
import HandS.Call
import KE.KCallOwn
import HandS.Strs
import HandS.Nested
import HandS.Codes
import KE.KSuper
import HandS.MakeKwOnly
import HandS.Style
import HandS.WrittenGet
import HandS.More
import PyProof.EqAt
import PyProof.EqKinds
import PyProof.NeData
import HandS.StrMore
import HandS.RaiseMore
import HandS.Proxy
import HandS.Property
import HandS.TupLe
import KE.RegKSuper
import PySem.Challenge.RW_rolereach_k08_things_made
set_option Elab.async false
set_option linter.all false
set_option maxRecDepth 100000
set_option maxHeartbeats 4000000
namespace RL
open PySem PySem.Spec PyProof.Rows L2
/-! ### rules of my own: enumerate of a text, a text times a number, a call by keywords alone -/
def YEnumS (x : Str) : It :=
  ⟨fun i _ => i < x.cps.size, fun i H v H' => ∃ T c, v = .ref T ∧ H T = none ∧ H' = upd H T (.tup [.int (i : Nat), .str ⟨#[c]⟩]) ∧ x.cps[i]? = some c, fun i _ => i = x.cps.size⟩
theorem turn_enumS {P : Program} {w : World} {K : PySem.W.Frag} {elts : List Expr} {kk : Nat} {tpos : Pos} (e it : Addr) (x : Str) (t : Tok) (ty : String) (hty : ty = "str_ascii_iterator" ∨ ty = "str_iterator") :
    Turn P w K (.Tuple elts kk tpos) (YEnumS x) [e, it] e (fun i h => (∃ old, IsEnum h e it ((i : Nat) : Int) old) ∧ h.IsStrIter it ty x t i ∧ e ≠ it) where
  mem := by simp
  obj := fun i h st b hb => by
    obtain ⟨⟨old, he⟩, ⟨o, ho, hc, hd⟩, _⟩ := st
    have e' : b = e ∨ b = it := by simpa using hb
    rcases e' with z | z
    · rw [z]; exact ⟨_, he, fun v q => nomatch q⟩
    · rw [z]; exact ⟨o, ho, fun v q => by rw [hd] at q; cases q⟩
  keep := fun i h h' st k => by
    obtain ⟨⟨old, he⟩, ⟨o, ho, r⟩, hne⟩ := st
    exact ⟨⟨old, k e (by simp) _ he⟩, ⟨o, k it (by simp) o ho, r⟩, hne⟩
  item := by
    intro X hP hw hK hc i pins s σ H E I hf st hg
    subst hP hw hK
    obtain ⟨⟨old, he⟩, hit, hne⟩ := st
    have hel : e < s.heap.objs.size := Heap.lt_size he
    have hil : it < s.heap.objs.size := by obtain ⟨_, q, _⟩ := hit; exact Heap.lt_size q
    have D : Draws X.prog X.w X.A.in1 it [it] x.cps.size (fun i v => ∃ c u, x.cps[i]? = some c ∧ v = .str ⟨#[c]⟩ u) (fun i h => h.IsStrIter it ty x t i) := by
      rcases hty with z | z
      · rw [z]; exact Draws.strAscii (A := X.A.in1) (I.ok.hd hc) it x t
      · rw [z]; exact Draws.strWide (A := X.A.in1) (I.ok.hd hc) it x t
    refine wpAny_pyNext_enum_itemD D he hit hg hne (fun z => hne (by simpa using z)) fun u h' tk hu ho hit' hT hsz hk => ?_
    obtain ⟨c, u', hcx, rfl⟩ := hu
    refine ⟨_, rfl, wpAny_letOwnedTupleGo_enum (s := { s with heap := h', toks := tk + 1 }) ho fun h'' he' sb => ?_⟩
    have hT2 : h''.get? s.heap.objs.size = some { cls := .type "tuple", data := .seq #[.int i tk, .str ⟨#[c]⟩ u'] } := (sb.2 _ (Nat.ne_of_gt hel)).trans hT
    have new : ObjOk X.prog X.w (upd H s.heap.objs.size (.tup [.int (i : Nat), .str ⟨#[c]⟩])) h'' s.heap.objs.size (.tup [.int (i : Nat), .str ⟨#[c]⟩]) :=
      ⟨by show 2 ≤ sizeLine; decide, [.int i tk, .str ⟨#[c]⟩ u'], .cons ⟨_, rfl⟩ (.cons ⟨_, rfl⟩ .nil), ⟨_, hT2, rfl, _, rfl⟩⟩
    have I1 : Inv X pins σ (upd H s.heap.objs.size (.tup [.int (i : Nat), .str ⟨#[c]⟩])) { s with heap := h'', toks := tk + 1 } :=
      I.turnedNew (ch := [e, it]) (fun b ob hb q => (sb.2 b (fun z => hb (by simp [z]))).trans (hk b ob (fun z => hb (by simp [z])) (fun z => hb (by simp [z])) q)) hf (Nat.le_refl _) new
    have hit2 : h''.IsStrIter it ty x t (i + 1) := by
      obtain ⟨o, ho, r⟩ := hit'
      exact ⟨o, (sb.2 it (Ne.symm hne)).trans ho, r⟩
    refine ⟨.ref s.heap.objs.size, _, I1, rfl, ⟨_, c, rfl, I.hok.fresh (Nat.le_refl _), rfl, hcx⟩, ⟨⟨.str ⟨#[c]⟩ u', ?_⟩, hit2, hne⟩, fun b hb => ?_⟩
    · have e1 : ((i + 1 : Nat) : Int) = (i : Int) + 1 := by omega
      rw [e1]; exact he'
    · have hb' : b < s.heap.objs.size := by
        have e' : b = e ∨ b = it := by simpa using hb
        rcases e' with z | z
        · rw [z]; exact hel
        · rw [z]; exact hil
      rw [upd_ne (Nat.ne_of_lt hb')]
      exact (hf b hb).1
  done := by
    intro X hP hw hK hc i pins s σ H E I hf st hg
    subst hP hw hK
    obtain ⟨⟨old, he⟩, hit, hne⟩ := st
    obtain ⟨f0, f1, f2, f3, f4, f5⟩ := hf it (by simp)
    have hg : i = x.cps.size := hg
    subst hg
    have D : Draws X.prog X.w X.A.in1 it [it] x.cps.size (fun i v => ∃ c u, x.cps[i]? = some c ∧ v = .str ⟨#[c]⟩ u) (fun i h => h.IsStrIter it ty x t i) := by
      rcases hty with z | z
      · rw [z]; exact Draws.strAscii (A := X.A.in1) (I.ok.hd hc) it x t
      · rw [z]; exact Draws.strWide (A := X.A.in1) (I.ok.hd hc) it x t
    exact wpAny_pyNext_enum_endD D he hit fun h' eb => ⟨rfl, I.turned (t' := s.toks) (fun b o hb q => eb b o hb q) f0 f1 f3 f4 f5⟩
  self := fun A i s Q E st h => let ⟨⟨_, he⟩, _⟩ := st; wpAny_pyIter_enum he h
def iEnumS (ta : TA) : TI := fun σ H R => ta σ H fun vs H1 => ∃ x, vs = [.str x] ∧ R (YEnumS x) H1
theorem pi_enumS {X : Cx} {e : Expr} {ta : TA} {p pos tpos : Pos} {elts : List Expr} {kk : Nat} (hg : Gl X "enumerate") (hm : X.mg "enumerate" = none) (ha : PA X [e] ta) (hs : starEach [e] X.env = [(false, eval e X.env)] := by rfl) :
    PI X (.Tuple elts kk tpos) (.Call (.Name "enumerate" p) [e] [] pos) (iEnumS ta) := by
  refine ⟨fun pins s σ H R I h => ?_⟩
  refine Call_ (ld_blt I hg hm boot_enumerate (PyProof.Rows.callWith_type1 (thn (ha.run pos pins s σ H _ I h) fun us s1 ⟨vs, H1, I1, r1, q1⟩ => ?_) hs rfl))
  obtain ⟨x, ex, q⟩ := q1
  subst ex
  cases r1 with
  | cons r rr =>
    cases rr
    obtain ⟨t, rfl⟩ := r
    refine call_enumerate_str fun h' he hit hsz hk => wpAny_pyIter_enum he ?_
    have I2 : Inv X pins σ H1 { s1 with heap := h' } := I1.kept (t' := s1.toks) hk
    have hty : strIterType x = "str_ascii_iterator" ∨ strIterType x = "str_iterator" := by
      unfold strIterType
      split
      · exact .inl rfl
      · exact .inr rfl
    refine ⟨s1.heap.objs.size + 1, [s1.heap.objs.size + 1, s1.heap.objs.size], _, _, H1, rfl, I2, turn_enumS (s1.heap.objs.size + 1) s1.heap.objs.size x t (strIterType x) hty, ⟨⟨.none, he⟩, hit, Nat.succ_ne_self _⟩, fun b hb => ?_, q⟩
    have e' : b = s1.heap.objs.size + 1 ∨ b = s1.heap.objs.size := by simpa using hb
    have hle : s1.heap.objs.size ≤ b := by
      rcases e' with z | z
      · rw [z]; exact Nat.le_add_right _ _
      · rw [z]; exact Nat.le_refl _
    exact I1.fpOk hle (I1.hok.fresh hle)
theorem walk_enumS {x : Str} : Walk (YEnumS x) x.cps.size (fun _ => True) (YPair (fun i => some (.int (i : Nat))) (fun i => x.cps[i]?.map fun c => .str ⟨#[c]⟩)) := by
  refine ⟨fun _ _ hi _ => hi, fun _ _ => rfl, fun i H v H' _ _ y => ?_⟩
  obtain ⟨T, c, h1, h2, h3, h4⟩ := y
  exact ⟨T, .int (i : Nat), .str ⟨#[c]⟩, h1, h2, h3, rfl, by show (x.cps[i]?).map _ = _; rw [h4]; rfl⟩
/-- a text n times, its length said -/
def repS (x : Str) (n : Nat) : Str := ⟨((List.replicate n x.cps.toList).flatten).toArray⟩
theorem foldl_app (x : Array Nat) : ∀ (n : Nat) (acc : Array Nat), ((List.replicate n x).foldl (· ++ ·) acc).toList = acc.toList ++ (List.replicate n x.toList).flatten
  | 0, acc => by simp
  | n + 1, acc => by
    rw [List.replicate_succ, List.foldl_cons, foldl_app x n, List.replicate_succ, List.flatten_cons, Array.toList_append, List.append_assoc]
theorem repS_len (x : Str) (n : Nat) : (repS x n).length = n * x.length := by
  show ((List.replicate n x.cps.toList).flatten).toArray.size = _
  rw [List.size_toArray]
  induction n with
  | zero => simp
  | succ n ih =>
    rw [List.replicate_succ, List.flatten_cons, List.length_append, ih, Nat.succ_mul]
    show x.cps.size + _ = _
    rw [Nat.add_comm]
    rfl
theorem op_mul_str {X : Cx} : OpR X (binaryOp .Mult) (fun x y H Q => ∃ (a : Str) (k : Int), x = .str a ∧ y = .int k ∧ 1 ≤ k ∧ k < 1000000000 ∧ a.length * k.toNat ≤ 16000000 ∧ Q (.str (repS a k.toNat)) H) := by
  intro pins s σ H x y v u Q I rx ry h
  obtain ⟨a, k, rfl, rfl, h1, h2, h3, q⟩ := h
  obtain ⟨t, rfl⟩ := rx
  obtain ⟨t', rfl⟩ := ry
  have hn : ¬ k < 1 := by omega
  refine PySem.P.mul_str ?_ ?_ ?_ ?_
  · have e1 : ¬ k < -(2 ^ 63 : Int) := by omega
    have e2 : ¬ k ≥ 2 ^ 63 := by omega
    rw [decide_eq_false e1, decide_eq_false e2]; rfl
  · intro _ _ z
    have z2 : ((a.length : Int) * k) ≤ 16000000 := by
      have : ((a.length * k.toNat : Nat) : Int) ≤ 16000000 := by omega
      rw [Int.natCast_mul, Int.toNat_of_nonneg (by omega)] at this
      exact this
    have z3 : (a.length : Int) ≤ (2 ^ 63 - 1) / k := Int.le_ediv_of_mul_le (by omega) (by omega)
    omega
  · intro _ _
    unfold PySem.Builtin.Str.tooLong
    exact decide_eq_false (by show ¬ _ > 2 ^ 24; omega)
  · rw [if_neg hn]
    by_cases hc : (k == 1 || a.length == 0) = true
    · rw [if_pos hc]
      have e : repS a k.toNat = a := by
        unfold repS
        rw [Bool.or_eq_true, beq_iff_eq, beq_iff_eq] at hc
        rcases hc with hc | hc
        · rw [hc]
          show (⟨((List.replicate 1 a.cps.toList).flatten).toArray⟩ : Str) = a
          simp
        · have z : a.cps.toList = [] := List.eq_nil_of_length_eq_zero (by rw [Array.length_toList]; exact hc)
          have z2 : a = ⟨#[]⟩ := by
            cases a with
            | mk c =>
              congr 1
              apply Array.ext'
              exact z
          rw [z]
          rw [z2]
          congr 1
          apply Array.ext'
          simp
      rw [e] at q
      exact ⟨.str a, H, I, ⟨_, rfl⟩, q⟩
    · rw [if_neg hc]
      have e : (⟨(List.replicate k.toNat a.cps).foldl (· ++ ·) #[]⟩ : Str) = repS a k.toNat := by
        unfold repS
        congr 1
        apply Array.ext'
        rw [foldl_app]
        simp
      rw [e]
      refine ⟨?_, .str (repS a k.toNat), H, I.tok _, ⟨_, rfl⟩, q⟩
      rw [repS_len]
      show _ ≤ 2 ^ 24
      rw [Nat.mul_comm]
      omega
section
variable {X : Cx} {CX : CXT} {k n : Nat} {f : Addr} {fd : FuncData} {ps ks : List Str} {sp : Sp} {E : XK} {x : Str} {p pos : Pos} {kws : List Keyword} {tk : TA} {g : List Value → List Value → List Value} {gV : List V → List V → List V}
def tCallN0 (m : Nat) (sp : Sp) (gV : List V → List V → List V) (E : XK) (tk : TA) : TE := fun σ H Q => tk σ H fun zs H2 => zs.length = m ∧ sp (gV [] zs) H2 Q E
/-- f(k = v, ..) -/
theorem pe_callN0 (F : FnOk X.prog X.w X.K X.mg X.base CX k f fd ps sp) (hr : Room k X.A) (hg : Gl X x) (hm : X.mg x = some (.ref f)) (hk : PySem.W.keepIn X.K (.ref f) = true) (hb : KBn X.K fd ps 0 ks g gV) (hx : Passes CX X E)
    (hkw : PK X kws tk) (hall : (backToKw pos (keywordEach kws X.env)).all (·.1.isSome) = true := by rfl) (hks : (backToKw pos (keywordEach kws X.env)).filterMap (·.1) = ks := by rfl)
    (hdb : (x == ("__debug__" : Str)) = false := by decide)
    (hpl : ((backTo pos (starEach [] X.env)).any (·.1) || (backToKw pos (keywordEach kws X.env)).any (·.1.isNone)) = false := by rfl) :
    PE X (.Call (.Name x p) [] kws pos) (tCallN0 ks.length sp gV E tk) := by
  refine ⟨fun pins s σ H Q I h => ?_⟩
  refine wpAny_Call_Name_kw (ld_glob I hg hm ?_ hdb)
  refine PySem.W.callWith_KW0 (h₀ := X.base) I.ok.mod.kin hk hall ?_ hpl
  refine thn (hkw.run pos pins s σ H _ I h) fun ws s2 ⟨zs, H2, I2, rz, l2, q2⟩ => ⟨I2.kIn, ?_⟩
  rw [hks]
  exact run_fnN (n := 0) F hr hb hx I2 .nil rz rfl l2 q2
end
/-! ### heaps -/
theorem same_upd {H : Hp} {p : Addr} {o : HO} (h : H p = none) : Same H (upd H p o) := fun b x e => by
  rw [upd_ne (ne_of_none e h)]
  exact e
/-- all but b stands as it stood -/
def Keep (b : Addr) (H H' : Hp) : Prop := ∀ a o, a ≠ b → H a = some o → H' a = some o
theorem Keep.refl {b : Addr} {H : Hp} : Keep b H H := fun _ _ _ e => e
theorem Keep.trans {b : Addr} {H H1 H2 : Hp} (k1 : Keep b H H1) (k2 : Keep b H1 H2) : Keep b H H2 := fun a o n e => k2 a o n (k1 a o n e)
theorem Keep.upd {b : Addr} {H : Hp} {o : HO} : Keep b H (upd H b o) := fun a x n e => by
  rw [upd_ne n]
  exact e
theorem Keep.new {b p : Addr} {H : Hp} {o : HO} (h : H p = none) : Keep b H (L2.upd H p o) := fun a x n e => same_upd h a x e
theorem Keep.of {b : Addr} {H H1 : Hp} (s : Same H H1) : Keep b H H1 := fun a o _ e => s a o e
end RL
set_option maxHeartbeats 4000000
/-! ### defs that may ask for a repr: promises where nothing is being shown -/
namespace RG
open PySem PySem.Spec PyProof.Rows L2
section
variable {CX : CXT} {P : Program} {w : World} {K : PySem.W.Frag} {mg : Str → Option Value} {base : Heap} {k : Nat} {f : Addr} {fd : FuncData} {ps : List Str} {sp : Sp}
/-- nothing is being shown -/
abbrev Quiet (A : Around) : Prop := A.guards = some []
/-- as FnOk, where nothing is being shown -/
structure FnG (P : Program) (w : World) (K : PySem.W.Frag) (mg : Str → Option Value) (base : Heap) (CX : CXT) (k : Nat) (f : Addr) (fd : FuncData) (ps : List Str) (sp : Sp) : Prop where
  args : ∀ {vs H Q E}, sp vs H Q E → vs.length = ps.length
  go : ∀ {A : Around} {fr : List Env} {s : Shared} {H : Hp} {ar : Args} {us : List Value} {vs : List V} {Q : VK} {E : XK}, Quiet A → Room k A → Env0 P w K mg base A fr s H → BindsTo s fd ar (ps.zip us) → Vals vs us → sp vs H Q E →
    codeAny (model P w) A (.call (.ref f) ar) (CR CX fr P w H s Q E) s
theorem FnG.of (F : FnOk P w K mg base CX k f fd ps sp) : FnG P w K mg base CX k f fd ps sp where
  args h := F.len _ _ _ _ h
  go _ hr e0 hb r h := F.run _ _ _ _ _ _ _ _ _ hr e0 hb r h
theorem FnG.mono {j : Nat} (F : FnG P w K mg base CX j f fd ps sp) (h : j ≤ k) : FnG P w K mg base CX k f fd ps sp where
  args := F.args
  go q hr := F.go q (hr.mono h)
/-- what a body's end hands on -/
theorem body_end {N : List Str} {qual : Str} {scope : Scope} {cdv : Value} {A : Around} {fr : List Env} {s s2 : Shared} {H : Hp} {Q : VK} {E : XK} {fl : Flow}
    (h : SP (cxOf CX P w K mg base N qual scope f cdv A fr s H E) [] { nx := fun _ H' => Q .non H', rt := Q } fl s2) : CR CX fr P w H s Q E (.ok (match fl with | .next => .ret .none | z => z)) s2 := by
  cases fl with
  | ret u => exact let ⟨v, _, H', J, rv, q⟩ := h; ⟨v, H', J.os, J.bare, J.base, J.hok, rv, q⟩
  | next => exact let ⟨_, H', J, q⟩ := h; ⟨.non, H', J.os, J.bare, J.base, J.hok, rfl, q⟩
  | brk => exact let ⟨_, _, _, q⟩ := h; q.elim
  | cont => exact let ⟨_, _, _, q⟩ := h; q.elim
theorem FnG.mk' {name qual : Str} {params : Arguments} {body : List Stmt} {scope : Scope} {dV kV doc pm cdv ct oc : Value} {an od : Option Addr} {osl : Array (Option Value)} {N : List Str}
    (lk : K.lookup f = some ⟨oc, od, .func (PySem.W.fnOf name qual params body scope dV kV doc pm an cdv ct), osl⟩) (hcd : PySem.W.codeIn K cdv qual = true) (S : FnScope N ps scope) (len : ∀ {vs H Q E}, sp vs H Q E → vs.length = ps.length)
    (hbody : ∀ {A : Around} {fr : List Env} {s : Shared} {H : Hp} {vs : List V} {Q : VK} {E : XK}, Quiet A → Room k (A.deeper (envOfC qual scope s.heap.objs.size f cdv)) → sp vs H Q E →
      ∃ t, PSs (cxOf CX P w K mg base N qual scope f cdv A fr s H E) body t ∧ t { nx := fun _ H' => Q .non H', rt := Q } (start N vs) H) :
    FnG P w K mg base CX (k + 1) f (PySem.W.fnOf name qual params body scope dV kV doc pm an cdv ct) ps sp where
  args := len
  go {A fr s H ar us vs Q E} qt hr e0 hb r h := by
    have old : ∀ {b o}, base.get? b = some o → s.heap.get? b = some o := fun e => (e0.bs _ _ e).1
    refine codeAny_call_function hr.depth (e0.mod.kin.keeps (fun _ _ e => old e) _ _ lk) rfl S.co S.gen rfl (PySem.W.codeRec_of (e0.mod.kin.keeps fun _ _ e => old e) hcd) (hb _ _ _ _ ?_)
    refine wpAny_newFunctionEnv_cells S.kind (fun y hy => (S.par y.1 (List.of_mem_zip hy).1).imp id fun q => ⟨q, PySem.W.cellsFrom_some _ _ _ (.inl q)⟩) fun env he s1 x => ?_
    subst he
    obtain ⟨t, ht, hq⟩ := hbody (fr := fr) qt (hr.deeper _) h
    refine ⟨(e0.mod.nolimit.keeps fun _ _ e => old e).keeps x.toInCall.keep, codeAny_func (wpAny_mono (ht.run [] s1 (start N vs) H _ (inv_start S hr.hd e0 (len h) r x) hq) (fun fl s' hs => ?_) fun _ _ z => z)⟩
    have z := body_end hs
    cases fl with
    | ret u => exact z
    | next => exact z
    | brk => exact (show False from z).elim
    | cont => exact (show False from z).elim
end
section
variable {X : Cx} {CX : CXT} {k : Nat} {f : Addr} {fd : FuncData} {ps : List Str} {sp : Sp} {E : XK} {ds : List Value} {dvs : List V} {x : Str} {p pos : Pos} {e : Expr} {es : List Expr} {t : TA}
/-- f(e, ..) of such a def -/
theorem pe_callG (F : FnG X.prog X.w X.K X.mg X.base CX k f fd ps sp) (qt : Quiet X.A) (hr : Room k X.A) (hg : Gl X x) (hm : X.mg x = some (.ref f)) (hk : PySem.W.keepIn X.K (.ref f) = true) (hb : Binds X.K fd ps ds) (hd : Vals dvs ds) (hx : Passes CX X E)
    (ha : PA X (e :: es) t) (hdb : (x == ("__debug__" : Str)) = false := by decide) (he : starEach (e :: es) X.env = (false, eval e X.env) :: starEach es X.env := by rfl) (hpl : (backTo pos (starEach es X.env)).any (·.1) = false := by rfl) :
    PE X (.Call (.Name x p) (e :: es) [] pos) (tCall sp dvs E t) := ⟨fun pins s σ H Q I h => by
  refine wpAny_Call_Name_kw (ld_glob I hg hm (PySem.W.callWith_K (h₀ := X.base) I.ok.mod.kin hk (thn (ha.run pos pins s σ H _ I h) fun us s1 ⟨vs, H1, I1, r, q⟩ => ⟨I1.kIn, ?_⟩) he hpl) hdb)
  have r2 := r.append hd
  refine wpAny_call (codeAny_mono (F.go qt hr I1.env0 (hb s1 us I1.kIn (r2.length.symm.trans (F.args q))) r2 q) fun rs s2 z => ?_)
  match rs, z with
  | .error er, z => exact hx pins σ H1 s1 er s2 I1 z
  | .ok (.ret u), z => exact I1.after z⟩
end
/-! ### the repr of a list -/
/-- what an item may be: data without a dict; an empty dict; a dict of one text -/
inductive Sd (K : PySem.W.Frag) (H : Hp) : V → PyData → Prop
  | dp {v : V} {d : PyData} : Dp K H v d → Sd K H v d
  | dic0 {a : Addr} : H a = some (.dK []) → Sd K H (.ref a) (.dict [])
  | dic1 {a : Addr} {i : Int} {z : Str} : H a = some (.dK [(.inl i, .str z)]) → Sd K H (.ref a) (.dict [(.int i, .str z)])
/-- items of a list that is shown: plain ones ahead, anything as the last one; or none with a dict -/
inductive SdAll (K : PySem.W.Frag) (H : Hp) : List V → List PyData → Prop
  | last {v : V} {d : PyData} : Sd K H v d → SdAll K H [v] [d]
  | txt {z : Str} {vs : List V} {ds : List PyData} : SdAll K H vs ds → SdAll K H (.str z :: vs) (.str z :: ds)
  | all {vs : List V} {ds : List PyData} : DpAll K H vs ds → SdAll K H vs ds
section
variable {X : Cx} {pins : List (Addr × Obj)} {σ : L2.St} {H : Hp} {s : Shared}
mutual
theorem dp_nodict {K : PySem.W.Frag} {H : Hp} : ∀ {v : V} {d : PyData}, Dp K H v d → d.hasDict = false
  | _, _, .non => by simp [PyData.hasDict]
  | _, _, .bl _ => by simp [PyData.hasDict]
  | _, _, .int _ => by simp [PyData.hasDict]
  | _, _, .str _ => by simp [PyData.hasDict]
  | _, _, .lst _ h => by simp only [PyData.hasDict]; exact dpAll_nodict h
  | _, _, .tup _ h => by simp only [PyData.hasDict]; exact dpAll_nodict h
theorem dpAll_nodict {K : PySem.W.Frag} {H : Hp} : ∀ {vs : List V} {ds : List PyData}, DpAll K H vs ds → PyData.hasDictAll ds = false
  | _, _, .nil => by simp [PyData.hasDictAll]
  | _, _, .cons h t => by simp only [PyData.hasDictAll, dp_nodict h, dpAll_nodict t, Bool.or_self]
end
theorem sd_reads (I : Inv X pins σ H s) {v : V} {d : PyData} {u : Value} (h : Sd X.K H v d) (r : RelV v u) : ∃ as, Reads s.heap u d as ∧ (d.hasDict = true → sysModules ∉ as) := by
  cases h with
  | dp h =>
    obtain ⟨as, q⟩ := Dp.reads I d v u h r
    exact ⟨as, q, fun z => by rw [dp_nodict h] at z; cases z⟩
  | dic0 e =>
    cases r
    obtain ⟨_, hs, vs, kv, o, es, ep, h1, h2, h3, _, hp, _⟩ := (show ObjOk X.prog X.w H s.heap _ (.dK []) from I.hok _ _ e)
    cases kv
    have ee : es.toList = [] := by
      cases hh : es.toList with
      | nil => rfl
      | cons a b => rw [hh] at hp; cases hp
    refine ⟨_, Reads.dict (kvs := []) (as := []) (bs := []) h1 h2.1 h3 (by rw [ee]; exact .nil) (by rw [ee]; exact .nil), fun _ hm => ?_⟩
    have := beq_eq_false_iff_ne.mp hs
    rcases List.mem_cons.mp hm with z | z
    · exact this z.symm
    · simp at z
  | dic1 e =>
    cases r
    rename_i a i z
    obtain ⟨_, hs, vs, kv, o, es, ep, h1, h2, h3, _, hp, _⟩ := (show ObjOk X.prog X.w H s.heap _ (.dK [(.inl i, .str z)]) from I.hok _ _ e)
    cases kv with
    | cons q1 q2 =>
      cases q2
      obtain ⟨q0, q1⟩ := q1
      rename_i kv0 _
      obtain ⟨k0, v0⟩ := kv0
      have q0 : (Sum.inl i : L2.Key) = k0 := q0
      subst q0
      obtain ⟨t, q1⟩ := (show ∃ t, v0 = Value.str z t from q1)
      subst q1
      cases hh : es.toList with
      | nil => rw [hh] at hp; cases hp
      | cons e1 e2 =>
        rw [hh] at hp
        cases hp with
        | cons p1 p2 p3 =>
          cases p3
          have p1 : keyIs (.inl i) e1.key = true := p1
          rcases keyIs_shape p1 with ⟨j, u, hj, hk⟩ | ⟨x, u, hj, hk⟩
          · have ej : i = j := Sum.inl.inj hj
            subst ej
            refine ⟨_, Reads.dict (kvs := [(.int i, .str z)]) (as := [] ++ []) (bs := [] ++ []) h1 h2.1 h3 ?_ ?_, fun _ hm => ?_⟩
            · rw [hh]
              show ReadsAll s.heap [e1.key] [.int i] _
              rw [hk]
              exact .cons (.int _ _) .nil
            · rw [hh]
              show ReadsAll s.heap [e1.val] [.str z] _
              rw [p2]
              exact .cons (.str _ _) .nil
            · have := beq_eq_false_iff_ne.mp hs
              rcases List.mem_cons.mp hm with z | z
              · exact this z.symm
              · simp at z
          · cases hj
theorem sd_readsAll (I : Inv X pins σ H s) : ∀ {vs : List V} {ds : List PyData} {us : List Value}, SdAll X.K H vs ds → Vals vs us → ∃ as, ReadsAll s.heap us ds as ∧ (PyData.hasDictAll ds = true → sysModules ∉ as)
  | _, _, _, .last h, .cons r .nil => by
    obtain ⟨as, q, n⟩ := sd_reads I h r
    refine ⟨_, .cons q .nil, fun z hm => n ?_ (by simpa using hm)⟩
    simpa [PyData.hasDictAll] using z
  | _, _, _, .txt h, .cons r rr => by
    obtain ⟨t, rfl⟩ := r
    obtain ⟨bs, q2, n2⟩ := sd_readsAll I h rr
    exact ⟨_, .cons (.str _ t) q2, fun z hm => n2 (by simpa [PyData.hasDictAll, PyData.hasDict] using z) (by simpa using hm)⟩
  | _, _, _, .all h, r => by
    obtain ⟨as, q⟩ := Dp.readsAll I _ _ _ h r
    exact ⟨as, q, fun z => by rw [dpAll_nodict h] at z; cases z⟩
/-- repr(x), x a list -/
def rRepr (K : PySem.W.Frag) : List V → Hp → VK → Prop := fun vs H Q => ∃ (a : Addr) (xs : List V) (ds : List PyData), vs = [.ref a] ∧ SqL K H a xs ∧ SdAll K H xs ds ∧ PyData.showable (.list ds) = true ∧ (PyData.shown (.list ds)).length ≤ sizeLine ∧ PyData.depth (.list ds) ≤ 60 ∧ Q (.str (PyData.shown (.list ds))) H
theorem call_reprL {k : Nat} (qt : Quiet X.A) (hr : Room k X.A) : CallR X (.builtin "repr") (rRepr X.K) := by
  intro pins s σ H vs us Q I r h
  obtain ⟨a, xs, ds, rfl, hq, hd, hs, hz, hdp, q⟩ := h
  cases r with
  | cons r rr =>
    cases rr
    cases r
    obtain ⟨its, rv, ⟨o, n, ho, hc, _, hdt⟩, _⟩ := I.list hq
    obtain ⟨as, ra, hsm⟩ := sd_readsAll I hd rv
    have hu := hr.units
    have hs' : PyData.showableAll ds = true := by simpa [PyData.showable] using hs
    have hz' : (listText (PyData.shownAll ds)).length ≤ sizeLine := by simpa only [PyData.shown] using hz
    have fin : ∀ (h' : Heap) (u tk : Tok), (∀ b o, s.heap.get? b = some o → h'.get? b = some o) → EP X pins σ Q (.str (PyData.shown (.list ds)) u) { s with heap := h', toks := tk } :=
      fun h' u tk kp => ⟨.str _, H, I.kept kp, ⟨u, rfl⟩, q⟩
    obtain ⟨bs, hb, hk⟩ := ReprAllK.of_readsAll (prog := X.prog) (w := X.w) ra hs' hsm (fun t ht => Nat.le_trans (listText_mem_le ht) hz')
    have hna : a ∉ bs := not_mem_of_deeper (.list (vs := its.toArray) ho hc hdt (by simpa using ra)) (by simp only [PyData.depth]; omega) hb
    have hdp' : PyData.depthAll ds + 1 ≤ 60 := by simpa only [PyData.depth] using hdp
    refine call_repr_slot (by omega) ⟨o, ho, hc⟩ F.slot_list_repr.toG ?_
    cases its with
    | nil =>
      cases ra
      simp only [PyData.shown, PyData.shownAll, listText_nil] at fin
      exact call_list_repr_empty ⟨o, ho, hc⟩ ho hdt ⟨_, _, rfl, fin s.heap _ _ fun _ _ e => e⟩
    | cons x l =>
      refine call_list_reprK ho hc hdt hna (by simpa using hk.length_eq) (fun i y e => hk.item i y (by simpa using e)) (g := []) qt (fun b _ => Clear.nil b) (by show X.A.units + 1 + _ < _; omega) (fun _ _ e => e) (fun h' u tk kp => ⟨_, _, rfl, ?_⟩) hz'
      have := fin h' u tk kp
      simpa only [PyData.shown] using this
end
end RG
set_option maxHeartbeats 4000000
/-! ### the head, where nothing is being shown -/
namespace RG
open PySem PySem.Spec PyProof.Rows L2
section
variable {P : Program} {w : World} {K : PySem.W.Frag} {mg mb : Str → Option Value} {CX : CXT} {k : Nat} {fa a : Addr} {fd : FuncData} {x : Str} {sp : Sp} {s1 : Shared} {vs : List Value} {ns : List Int}
/-- what the law's call is to come to -/
abbrev Won (s1 : Shared) : Result → Shared → Prop := fun r s' => r = .ok (.ret (.bool true)) ∧ OldK s1.heap s'.heap ∧ s'.os = s1.os ∧ AllBare s'.gens
/-- from a tracked heap that holds the script at most -/
theorem won_from {H : Hp} (KX : K.In s1.heap) (hns : s1.heap.Ns mainGlobals mg) (hb : s1.heap.Ns builtinsNs mb) (hbb : ∀ x : Str, x ≠ "__name__" → mb x = bootBuiltins x) (hlim : s1.heap.NoLimit) (hg : s1.gens = #[])
    (hl : ∀ b, H b ≠ none → ∃ o xs, H b = some (.frz o (.lst xs)) ∧ K.lookup b = none) (hdt : ∀ b o es n, s1.heap.get? b = some o → o.data = .dict es n → H b = none) (hok : HOk P w H s1.heap)
    (hr : Room k callerA) (F : ∀ base : Heap, K.In base → base.Ns mainGlobals mg → FnG P w K mg base CX k fa fd [x] sp) (hbind : ∀ (s : Shared) (u : Value), BindsTo s fd ⟨[u], []⟩ [(x, u)])
    (hsp : sp [.ref a] H (fun v _ => v = .bl true) fun _ _ _ => False) (hCX : ∀ e s', CX [] H s1 (fun _ _ _ => False) e s' → False) :
    codeAny (model P w) callerA (.call (.ref fa) ⟨[.ref a], []⟩) (Won s1) s1 := by
  -- the part of the heap that nothing tracks
  have un : ∀ {b : Addr} {m : Str → Option Value}, s1.heap.Ns b m → (hidT s1.heap H).Ns b m := fun ⟨o, es, ep, e, d, r⟩ => ⟨o, es, ep, hidT_get e (hdt _ _ _ _ e d), d, r⟩
  have kin : K.In (hidT s1.heap H) := fun b o e => by
    refine hidT_get (KX b o e) ?_
    cases q : H b with
    | none => rfl
    | some u =>
      obtain ⟨_, _, _, z⟩ := hl b (by rw [q]; exact fun z => nomatch z)
      rw [z] at e
      cases e
  obtain ⟨mc, l1, l2⟩ := hlim
  have env : Env0 P w K mg (hidT s1.heap H) callerA [] s1 H :=
    { frames := rfl, mod := ⟨kin, un hns, ⟨mb, un hb, hbb⟩, mc, un l1, l2⟩, bs := fun _ _ e => of_hidT e, bsz := Nat.le_of_eq (hidT_size _ _), funs := trivial, frf := fun _ z => (nomatch z), hok := hok, bare := .of_eq hg }
  refine codeAny_mono ((F _ kin (un hns)).go (us := [.ref a]) (vs := [.ref a]) rfl hr env (hbind s1 (.ref a)) (.cons rfl .nil) hsp) fun r s2 h => ?_
  match r, h with
  | .error e, h => exact (hCX e s2 h).elim
  | .ok (.ret u), ⟨v, H2, os, bare, U, ok2, rv, ev⟩ =>
    have ev : v = .bl true := ev
    subst ev
    have rv : u = Value.bool true := rv
    subst rv
    refine ⟨rfl, OldK.of_keep fun b o e => ?_, os, bare⟩
    cases q : H b with
    | none => exact U.keep b o e q (fun z => nomatch z) (fun z => nomatch z)
    | some u =>
      obtain ⟨ob, xs, z, _⟩ := hl b (by rw [q]; exact fun z => nomatch z)
      have e1 := (hok b _ z).1
      have e2 := (ok2 b _ (U.frzs b ob _ z)).1
      rw [e1] at e
      cases e
      exact e2
theorem law_callG (KX : K.In s1.heap) (hns : s1.heap.Ns mainGlobals mg) (hb : s1.heap.Ns builtinsNs mb) (hbb : ∀ x : Str, x ≠ "__name__" → mb x = bootBuiltins x) (hlim : s1.heap.NoLimit) (hg : s1.gens = #[])
    (ha : s1.heap.get? a = some { cls := .type "list", data := .seq vs.toArray }) (hi : IntsAre vs ns) (hl : ns.length ≤ sizeLine) (hr : Room k callerA)
    (F : ∀ base : Heap, K.In base → base.Ns mainGlobals mg → FnG P w K mg base CX k fa fd [x] sp) (hbind : ∀ (s : Shared) (u : Value), BindsTo s fd ⟨[u], []⟩ [(x, u)])
    (hsp : ∀ H : Hp, Only H → SqL K H a (ns.map V.int) → sp [.ref a] H (fun v _ => v = .bl true) fun _ _ _ => False) (hCX : ∀ H e s', CX [] H s1 (fun _ _ _ => False) e s' → False) :
    codeAny (model P w) callerA (.call (.ref fa) ⟨[.ref a], []⟩) (Won s1) s1 := by
  have rv := vals_ints hi
  have lenV := hi.length
  cases hk : K.lookup a with
  | some o =>
    have e := (KX a o hk).symm.trans ha
    cases e
    have hS : SqL K (fun _ => none) a (ns.map V.int) := .inr ⟨_, vs.toArray, _, hk, rfl, rfl, rfl, by rw [List.size_toArray, lenV]; exact hl, rv⟩
    exact won_from KX hns hb hbb hlim hg (H := fun _ => none) (fun _ z => absurd rfl z) (fun _ _ _ _ _ _ => rfl) (fun _ _ z => nomatch z) hr F hbind (hsp _ (fun _ => .inl rfl) hS) (hCX _)
  | none =>
    -- the script is tracked, locked
    let H : Hp := upd (fun _ => none) a (.frz { cls := .type "list", data := .seq vs.toArray } (.lst (ns.map V.int)))
    have at_ : H a = some (.frz { cls := .type "list", data := .seq vs.toArray } (.lst (ns.map V.int))) := upd_same
    have off : ∀ {b}, b ≠ a → H b = none := fun n => upd_ne n
    refine won_from KX hns hb hbb hlim hg (H := H) (fun b z => ?_) (fun b o es n e d => ?_) (fun b u z => ?_) hr F hbind (hsp H (fun b => ?_) (.inl (.inr ⟨_, at_⟩))) (hCX _)
    · by_cases q : b = a
      · subst q
        exact ⟨_, _, at_, hk⟩
      · exact absurd (off q) z
    · by_cases q : b = a
      · subst q
        rw [ha] at e
        cases e
        cases d
      · exact off q
    · by_cases q : b = a
      · subst q
        have z2 := Option.some.inj (z.symm.trans at_)
        subst z2
        exact ⟨ha, by rw [List.length_map]; exact hl, vs, _, rv, ha⟩
      · rw [off q] at z
        cases z
    · by_cases q : b = a
      · subst q
        exact .inr ⟨_, _, at_⟩
      · exact .inl (off q)
end
theorem walk_ofG {l : PySem.W.OpenLaw} {n k : Nat} {q : Program} {loose : List Str} {XP : (Str → Option Value) → Heap → Prop} {YP : World → Heap → Prop} {d : DefRec} {K : Params → PySem.W.Frag} {CX : World → CXT} {sp : World → Sp} {x : Str}
    (hn : l.most = some n) (hn2 : n ≤ sizeLine) (hdf : d.params.defaults = []) (hr : Room k callerA) (hY : ∀ (w : World) (h : Heap), YP w h → (K w.params).In h)
    (F : ∀ (w : World) (mg : Str → Option Value) (fa : Addr) (h : Heap), (K w.params).In h → h.Ns mainGlobals mg → mg d.name = some (.ref fa) →
      ∃ fd : FuncData, (∀ (s : Shared) (u : Value), BindsTo s fd ⟨[u], []⟩ [(x, u)]) ∧ ∀ base : Heap, (K w.params).In base → base.Ns mainGlobals mg → FnG l.prog w (K w.params) mg base (CX w) k fa fd [x] (sp w))
    (hsp : ∀ (w : World) (H : Hp) (a : Addr) (ns : List Int), ns.length ≤ n → Only H → SqL (K w.params) H a (ns.map V.int) → sp w [.ref a] H (fun v _ => v = .bl true) fun _ _ _ => False)
    (hCX : ∀ (w : World) (H : Hp) (s : Shared) (e : Value) (s' : Shared), CX w [] H s (fun _ _ _ => False) e s' → False) : PySem.W.WalkO q loose XP YP l.row.toRowW d [] (fun f vs => PySem.call f vs) :=
  Att.attach_call hn hdf fun w s0 s1 mg mb fa o pm cd doc a vs ns G Y _ _ _ hmg hobj hints hlen hg =>
    let ⟨_, hb, hF⟩ := F w mg fa _ (hY w _ Y) G.T.g hmg
    law_callG (hY w _ Y) G.T.g G.T.b G.T.builtins G.T.nolimit hg hobj hints (Nat.le_trans hlen hn2) hr hF hb (fun H hO hS => hsp w H a ns hlen hO hS) fun H e s' => hCX w H s1 e s'
end RG
set_option maxHeartbeats 4000000
/-! ### a try with several clauses that bind the error -/
namespace RX
open PySem PySem.Spec PyProof.Rows L2
/-- a clause: its class, the slot of its name, its suite's reading -/
structure Cl where
  c : Value
  i : Nat
  ts : Addr → Value → Option Addr → TS
/-- behind a suite the slot is empty again -/
def Ends.wipe (D : Ends) (i : Nat) : Ends := { nx := fun σ H => D.nx (σ.set i none) H, rt := D.rt, bk := fun σ H => D.bk (σ.set i none) H, ct := fun σ H => D.ct (σ.set i none) H }
/-- what is wanted of an error: the first clause that takes it; one must -/
def wCl (K : PySem.W.Frag) (D : Ends) : List Cl → WX
  | [] => fun _ _ _ _ => False
  | q :: r => fun cls d σ H => ∃ b, PySem.W.exmOne K cls q.c = some b ∧ (b = true → ∀ a, H a = none → q.ts a cls d (Ends.wipe D q.i) (σ.set q.i (some (.ref a))) H) ∧ (b = false → wCl K D r cls d σ H)
/-- the clauses, from the first; those behind the last of l are never asked -/
inductive Cls' (X : Cx) : List ExceptHandler → List Cl → Prop
  | rest {hs : List ExceptHandler} : Cls' X hs []
  | cons {x n : Str} {q : Cl} {b0 : Stmt} {su : List Stmt} {np ps : Pos} {hs : List ExceptHandler} {l : List Cl} (hi : X.N[q.i]? = some n) (hl : X.env.kindOf n = some .local) (hc : Names X x q.c)
      (hsu : ∀ (a : Addr) (oe : Obj) (cls : Value) (d : Option Addr) (pn : List (Addr × Obj)), Zc cls d oe → (∃ vs, oe.data = .fields vs) → PSs (X.suite a ((a, oe) :: pn)) (b0 :: su) (q.ts a cls d)) (r : Cls' X hs l) :
      Cls' X (.ExceptHandler (some (.Name x np)) (some n) (b0 :: su) ps :: hs) (q :: l)
section
variable {X : Cx} {body : List Stmt} {h0 : ExceptHandler} {hs : List ExceptHandler} {l : List Cl} {pos : Pos} {tb : WX → TS}
theorem ps_tryC (hst : X.stack = X.env :: X.outer) (hf : X.env.frame = some X.env.locals) (hN : X.N.Nodup)
    (hb : ∀ (W : WX) (pn : List (Addr × Obj)) (xe : Value → Shared → Prop), Takes (X.tr pn xe) W → PassesOwn (model X.prog X.w) X.A X.env xe → PSs (X.tr pn xe) body (tb W))
    (hh : Cls' X (h0 :: hs) l) : PS X (.Try body (h0 :: hs) [] [] pos) (fun D σ H => tb (wCl X.K D l) D σ H) := ⟨fun pins s σ H D I h => by
  have ok := I.ok
  refine wpAny_Try_except ?_
  -- the error's way: noted, set in flight, then to the clauses
  let away : Value → Shared → Prop := fun e s1 => wpAny (model X.prog X.w) X.A (noteFrame e X.env) (fun _ s2 => wpAny (model X.prog X.w) X.A (setFlight e none) (fun _ s3 => wpAny (model X.prog X.w) X.A (handleBy e X.env (h0 :: hs)) (SP X pins D) X.xe s3) X.xe s2) X.xe s1
  have take : Takes (X.tr (X.pn ++ pins) away) (wCl X.K D l) := fun u s' xx => by
    obtain ⟨a, B, sI, pins', σ1, H1, cls, d, rfl, J0, nb, up, sky, na, os, ag, w⟩ := xx
    have J : Inv X pins σ1 H1 sI := J0.ofTry ok
    have hfr : X.A.frames = some (X.env :: X.outer) := ok.frames.trans (congrArg some hst)
    have sky1 : Sky B (X.env :: X.outer) a (Zc cls d) X.env.locals s'.heap := hst ▸ sky
    refine Sky.land Zc.steady hfr hf sky1 fun h3 fl up3 => ?_
    have J3 : Inv X pins σ1 H1 { s' with heap := h3 } := J.landed nb fl.1 (up.trans up3) os ag
    obtain ⟨oe, vs, he, hz, hd⟩ := fl.there
    have apart : ∀ {e : Env}, e ∈ X.env :: X.outer → ∀ {z : Addr}, e.frame = some z → z ≠ a := fun {e} he' {z} ez q => by
      subst q
      obtain ⟨_, o', e', hnf⟩ := fl.2.2.1.mem (List.mem_filterMap.mpr ⟨e, he', ez⟩)
      exact hnf _ (by rw [he] at e'; cases e'; exact hd)
    have nL : a ≠ X.env.locals := fun z => apart List.mem_cons_self hf z.symm
    have nF : a ∉ X.fs := fun hm => by
      obtain ⟨e, he', q⟩ := List.mem_filterMap.mp hm
      exact apart (List.mem_cons_of_mem _ he') q rfl
    have S3 := J3.suite he hd na nL nF
    have go : ∀ {hs' : List ExceptHandler} {l' : List Cl}, Cls' X hs' l' → wCl X.K D l' cls d σ1 H1 → wpAny (model X.prog X.w) X.A (handleBy (.ref a) X.env hs') (SP X pins D) X.xe { s' with heap := h3 } := by
      intro hs' l' hk
      induction hk with
      | rest => exact fun w => w.elim
      | @cons x n q b0 su np ps hs2 l2 hi hl hc hsu r ih =>
        rintro ⟨b, hb1, yes, no⟩
        have test : ∀ {Q' : Value → Shared → Prop} {E' : Value → Shared → Prop}, Q' q.c { s' with heap := h3 } → wpAny (model X.prog X.w) (X.A.mark (some (.ref a))) (eval (.Name x np) X.env) Q' E' { s' with heap := h3 } := fun {Q' E'} hq => by
          obtain ⟨g1, g2, m | ⟨m, v, nn⟩⟩ := hc
          · exact ld_glob (X := X.suite a ((a, oe) :: (X.pn ++ pins))) S3 g1 m hq g2
          · exact ld_blt (X := X.suite a ((a, oe) :: (X.pn ++ pins))) S3 g1 m v hq nn g2
        cases b with
        | false => exact PySem.PX.clause_passZ J3.kIn (fun o z => z.1) fl hb1 test (ih (no rfl))
        | true =>
          refine PySem.PX.clause_asZ J3.kIn (fun o z => z.1) fl hb1 test fun h4 fl4 up4 => ?_
          obtain ⟨oe4, vs4, he4, hz4, hd4⟩ := fl4.there
          have S4 := (J.landed nb fl4.1 ((up.trans up3).trans up4) os ag : Inv X pins σ1 H1 { s' with heap := h4 }).suite he4 hd4 na nL nF
          refine store_ok (X := X.suite a ((a, oe4) :: (X.pn ++ pins))) (v := .ref a) S4 hN hi (.inl hl) rfl (fun s5 S5 => ?_) (.inr hl)
          refine wpAny_mono ((hsu a oe4 cls d (X.pn ++ pins) hz4 ⟨_, hd4⟩).run [] s5 _ H1 _ S5 (yes rfl a na)) (fun f s6 hsp => ?_) fun _ _ z => z.elim
          match f, hsp with
          | .next, ⟨_, _, S6, q6⟩ => exact gone_ok (S6.unsuite ok) hN hi hl fun s7 J7 => ⟨_, _, J7, q6⟩
          | .brk, ⟨_, _, S6, q6⟩ => exact gone_ok (S6.unsuite ok) hN hi hl fun s7 J7 => ⟨_, _, J7, q6⟩
          | .cont, ⟨_, _, S6, q6⟩ => exact gone_ok (S6.unsuite ok) hN hi hl fun s7 J7 => ⟨_, _, J7, q6⟩
          | .ret u, ⟨_, _, _, S6, r6, q6⟩ => exact gone_ok (S6.unsuite ok) hN hi hl fun s7 J7 => ⟨_, _, _, J7, r6, q6⟩
    exact go hh w
  refine wpAny_mono ((hb (wCl X.K D l) (X.pn ++ pins) away take PassesOwn.looking).run [] s σ H D (I.toTry _) h) (fun f s1 hsp => ?_) fun e s1 he => he
  match f, hsp with
  | .next, ⟨_, _, J, q⟩ => exact wpAny_execs_nil ⟨_, _, J.ofTry ok, q⟩
  | .brk, ⟨_, _, J, q⟩ => exact ⟨_, _, J.ofTry ok, q⟩
  | .cont, ⟨_, _, J, q⟩ => exact ⟨_, _, J.ofTry ok, q⟩
  | .ret u, ⟨_, _, _, J, r, q⟩ => exact ⟨_, _, _, J.ofTry ok, r, q⟩⟩
end
end RX
set_option maxHeartbeats 4000000
/-! ### an own error whose __init__ calls that of its base by the base's name, then keeps its fields -/
namespace RX
open PySem PySem.Spec PyProof.Rows L2
section
variable {X : Cx} {x : Str} {CR : Addr} {mc : Value} {e : Expr} {es : List Expr} {ta : TA} {p1 p2 pos : Pos}
/-- what of the base's class is read -/
structure BaseI (K : PySem.W.Frag) (mg : Str → Option Value) (x : Str) (CR : Addr) (mc : Value) : Prop where
  gl : mg x = some (.ref CR)
  rd : PySem.W.readsIn K CR mc = true
  ga : PySem.W.specialIn K (.ref CR) "__getattribute__" = some (some (.builtin "type.__getattribute__"))
  ini : PySem.W.findCls K (.ref CR) mc "__init__" = some (.val (.builtin "ValueError.__init__"))
theorem pe_cinit {pl : Sem Bool} (B : BaseI X.K X.mg x CR mc) (hg : Gl X x) (ha : PA X (e :: es) ta) (hdb : (x == ("__debug__" : Str)) = false := by decide)
    (hc : eval (.Call (.Attribute (.Name x p1) "__init__" p2) (e :: es) [] pos) X.env = (do
      let ov ← eval (.Name x p1) X.env
      standAt p2.atName
      let (f, first) ← holding [ov] (getMethod ov "__init__" pl)
      callWith pos f first (backTo pos (starEach (e :: es) X.env)) (backToKw pos (keywordEach [] X.env))) := by rfl)
    (he : starEach (e :: es) X.env = (false, eval e X.env) :: starEach es X.env := by rfl) (hpl : (backTo pos (starEach es X.env)).any (·.1) = false := by rfl) :
    PE X (.Call (.Attribute (.Name x p1) "__init__" p2) (e :: es) [] pos) (tVeI X.K ta) := ⟨fun pins s σ H Q I h => by
  refine PySem.W.methodCall_KW (ld_glob I hg B.gl ?_ hdb) hc
  refine PySem.W.method_cls I.kIn B.ga (PySem.W.cls_value I.kIn B.rd B.ini (by rfl) ?_)
  show wpAny _ _ (callWith pos (Value.builtin "ValueError.__init__") [] (backTo pos (starEach (e :: es) X.env)) []) _ _ _
  refine PyProof.Rows.callWith_method1 (thn (ha.run pos pins _ σ H _ (I.tok _) h) fun us s1 ⟨vs, H1, I1, r1, a, C, ws, ev, hl, T, ea, q⟩ => ?_) he hpl
  subst ev
  match us, r1 with
  | u0 :: ur, .cons ra rw' =>
    cases (show u0 = Value.ref a from ra)
    exact oinit_ok T I1 ea (by rw [← Paired.length rw', sizeLine_eq]; omega) fun s' J => ⟨.non, H1, J, rfl, q⟩⟩
end
end RX
set_option maxHeartbeats 4000000
/-! ### == by own __eq__, either answer: lists item by item -/
namespace RQ
open PySem PySem.SeqAt GQ
open AutoSeq1 (wpAny_loadPart')
open MeetsSeq MeetsSeq2 MeetsSeq3 SeqRoads2
section
variable {prog : Program} {w : World} {A : Around} {R : Result → Shared → Prop}
/-- at each turn the two lists are read anew; the i-th two items compare as ds tells -/
def ListB (prog : Program) (w : World) (A : Around) (E : Value → Shared → Prop) (l b : Addr) (N : Nat) (ds : Nat → Bool) (I : Nat → Shared → Prop) : Prop :=
  ∀ i s, I i s → ∃ (items items2 : Array Value) (n n2 : Nat), s.heap.get? l = some { cls := .type "list", data := .seq items n } ∧ s.heap.get? b = some { cls := .type "list", data := .seq items2 n2 } ∧ items.size = N ∧ items2.size = N ∧
    ∀ (h1 : i < items.size) (h2 : i < items2.size), wpAny (model prog w) A.in1 (eqBool items[i] items2[i]) (fun r s' => r = ds i ∧ I (i + 1) s') E s
theorem eq_loopB (l b : Addr) (N : Nat) (ds : Nat → Bool) (I : Nat → Shared → Prop) (hl : ListB prog w A (fun e s' => R (.error e) s') l b N ds I)
    (fin : ∀ s, (∀ j, j < N → ds j = true) → I N s → R (.ok (.ret (.bool true))) s) (finF : ∀ i s, i < N → ds i = false → I (i + 1) s → R (.ok (.ret (.bool false))) s) (k : Nat) :
    ∀ i : Nat, N - i = k → i ≤ N → (∀ j, j < i → ds j = true) → ∀ s, I i s →
      wpAny (model prog w) A.in1 (Builtin.«list.__eq__.loop» ⟨[.ref l, .ref b, rawInt i, rawInt 2], []⟩) (FinOf prog w A R) (fun e s' => R (.error e) s') s := by
  induction k with
  | zero =>
    intro i hk hi hd s h
    obtain ⟨items, items2, n, n2, hl1, hb1, hs1, hs2, _⟩ := hl _ _ h
    have hi' : i = N := by omega
    have hR : R (.ok (.ret (.bool true))) s := fin s (hi' ▸ hd) (hi' ▸ h)
    obtain ⟨hp, g, d, tk, os⟩ := s
    wp_walk using wpAny_loadPart' hl1, wpAny_loadPart' hb1
    have hi1 : items[((i : Nat) : Int).toNat]? = none := by simp; omega
    have hi2 : items2[((i : Nat) : Int).toNat]? = none := by simp; omega
    rw [hi1, hi2]
    wp_walk using wpAny_loadPart' hl1, wpAny_loadPart' hb1
    show R (.ok (.ret (.bool (items.size == items2.size)))) _
    rw [hs1, hs2]
    simpa using hR
  | succ k ih =>
    intro i hk hi hd s h
    obtain ⟨items, items2, n, n2, hl1, hb1, hs1, hs2, turn⟩ := hl _ _ h
    have hlt : i < items.size := by omega
    have hlt2 : i < items2.size := by omega
    have ht := turn hlt hlt2
    obtain ⟨hp, g, d, tk, os⟩ := s
    wp_walk using wpAny_loadPart' hl1, wpAny_loadPart' hb1
    have hi1 : items[((i : Nat) : Int).toNat]? = some items[i] := by simp [hlt]
    have hi2 : items2[((i : Nat) : Int).toNat]? = some items2[i] := by simp [hlt2]
    have hc : ((i : Int) + 1) = ((i + 1 : Nat) : Int) := by omega
    rw [hi1, hi2]
    refine wpAny_bind (wpAny_mono ht (fun r s2 h2 => ?_) fun _ _ x => x)
    obtain ⟨hr, h2⟩ := h2
    subst hr
    cases hb : ds i with
    | false =>
      have hF := finF i s2 (by omega) hb h2
      obtain ⟨items', items2', n', n2', hl1', hb1', hs1', hs2', _⟩ := hl _ _ h2
      obtain ⟨hp2, g2, d2, tk2, os2⟩ := s2
      wp_walk using wpAny_loadPart' hl1', wpAny_loadPart' hb1'
      have hj1 : items'[((i : Nat) : Int).toNat]? = some (items'[i]'(by omega)) := by
        rw [show ((i : Nat) : Int).toNat = i by simp]
        exact Array.getElem?_eq_getElem (by omega)
      have hj2 : items2'[((i : Nat) : Int).toNat]? = some (items2'[i]'(by omega)) := by
        rw [show ((i : Nat) : Int).toNat = i by simp]
        exact Array.getElem?_eq_getElem (by omega)
      rw [hj1, hj2]
      wp_walk
      exact hF
    | true =>
      have hrec := ih (i + 1) (by omega) (by omega) (fun j hj => by
        rcases Nat.lt_or_ge j i with q | q
        · exact hd j q
        · have : j = i := by omega
          rw [this]; exact hb) s2 h2
      obtain ⟨hp2, g2, d2, tk2, os2⟩ := s2
      wp_walk
      rw [hc]
      exact ⟨plainId_quiet plain_eq_loop _, codeAny_builtin entry_eq_loop (by
        rw [Around.under_plainId plain_eq_loop _]
        exact hrec)⟩
theorem list_eqB (l b : Addr) (N : Nat) (ds : Nat → Bool) (I : Nat → Shared → Prop) (hl : ListB prog w A (fun e s' => R (.error e) s') l b N ds I)
    (fin : ∀ s, (∀ j, j < N → ds j = true) → I N s → R (.ok (.ret (.bool true))) s) (finF : ∀ i s, i < N → ds i = false → I (i + 1) s → R (.ok (.ret (.bool false))) s) {s : Shared} (h : I 0 s) :
    wpAny (model prog w) A.in1 (Builtin.«list.__eq__» ⟨[.ref l, .ref b], []⟩) (FinOf prog w A R) (fun e s' => R (.error e) s') s := by
  obtain ⟨items, items2, n, n2, hl1, hb1, hs1, hs2, _⟩ := hl _ _ h
  have hrec := eq_loopB (A := A) (R := R) l b N ds I hl fin finF _ 0 rfl (Nat.zero_le _) (fun j hj => absurd hj (Nat.not_lt_zero j)) s h
  obtain ⟨hp, g, d, tk, os⟩ := s
  have f3 := AutoSeq1.sub_list_list
  have hne : ¬ (items.size != items2.size) = true := by simp [hs1, hs2]
  wp_walk using wpAny_loadPart' hl1, wpAny_loadPart' hb1
  exact ⟨plainId_quiet plain_eq_loop _, codeAny_builtin entry_eq_loop (by
    rw [Around.under_plainId plain_eq_loop _]
    exact hrec)⟩
/-- lists of unlike lengths -/
theorem list_eqL (l b : Addr) {items items2 : Array Value} {n n2 : Nat} {s : Shared} (hl1 : s.heap.get? l = some { cls := .type "list", data := .seq items n }) (hb1 : s.heap.get? b = some { cls := .type "list", data := .seq items2 n2 }) (hne : items.size ≠ items2.size)
    (q : R (.ok (.ret (.bool false))) s) : wpAny (model prog w) A.in1 (Builtin.«list.__eq__» ⟨[.ref l, .ref b], []⟩) (FinOf prog w A R) (fun e s' => R (.error e) s') s := by
  obtain ⟨hp, g, d, tk, os⟩ := s
  have f3 := AutoSeq1.sub_list_list
  have hne : (items.size != items2.size) = true := by simpa using hne
  wp_walk using wpAny_loadPart' hl1, wpAny_loadPart' hb1
  exact q
end
section
variable {prog : Program} {w : World} {A : Around} {E : Value → Shared → Prop} {s : Shared}
theorem rc_listB {l b : Addr} {N : Nat} {Q : Value → Shared → Prop} (hu : A.units < cLine) (ds : Nat → Bool) (I : Nat → Shared → Prop) (hl : ListB prog w A E l b N ds I)
    (fin : ∀ s, (∀ j, j < N → ds j = true) → I N s → Q (.bool true) s) (finF : ∀ i s, i < N → ds i = false → I (i + 1) s → Q (.bool false) s) (h : I 0 s) : wpAny (model prog w) A (richCompare .Eq (.ref l) (.ref b)) Q E s := by
  obtain ⟨items, items2, n, n2, hl1, hb1, _, _, _⟩ := hl _ _ h
  refine wpAny_richCompare_same_room (op := .Eq) ⟨_, hl1, rfl⟩ ⟨_, hb1, rfl⟩ F.slot_list_eq (call_here F.slot_list_eq ⟨_, hl1, rfl⟩ F.entry_list_eq (F.args_list_eq_2 _ _) ?_) hu
  exact list_eqB (R := wants (fun v s' => v ≠ .notImplemented ∧ Q v s') E) l b N ds I hl (fun s' a q => ⟨(fun x => nomatch x), fin s' a q⟩) (fun i s' a c q => ⟨(fun x => nomatch x), finF i s' a c q⟩) h
theorem rc_listL {l b : Addr} {items items2 : Array Value} {n n2 : Nat} {Q : Value → Shared → Prop} (hu : A.units < cLine) (hl1 : s.heap.get? l = some { cls := .type "list", data := .seq items n }) (hb1 : s.heap.get? b = some { cls := .type "list", data := .seq items2 n2 }) (hne : items.size ≠ items2.size)
    (q : Q (.bool false) s) : wpAny (model prog w) A (richCompare .Eq (.ref l) (.ref b)) Q E s := by
  refine wpAny_richCompare_same_room (op := .Eq) ⟨_, hl1, rfl⟩ ⟨_, hb1, rfl⟩ F.slot_list_eq (call_here F.slot_list_eq ⟨_, hl1, rfl⟩ F.entry_list_eq (F.args_list_eq_2 _ _) ?_) hu
  exact list_eqL (R := wants (fun v s' => v ≠ .notImplemented ∧ Q v s') E) l b hl1 hb1 hne ⟨(fun x => nomatch x), q⟩
end
end RQ
namespace RQ
open PySem PySem.Spec PyProof.Rows L2
/-- how two values compare, by the abstract heap -/
abbrev EqvB := V → V → Hp → Bool → Prop
def MonB (D : EqvB) : Prop := ∀ x y H H' k, Ext H H' → D x y H k → D x y H' k
/-- == gives k for what D says, and only makes objects -/
def EqB (X : Cx) (n : Nat) (D : EqvB) : Prop :=
  ∀ (A : Around) (pins : List (Addr × Obj)) (s : Shared) (σ : L2.St) (H : Hp) (x y : V) (u v : Value) (k : Bool), L2.Sub X n A → Inv X pins σ H s → RelV x u → RelV y v → D x y H k →
    wpAny (model X.prog X.w) A (eqBool u v) (fun r s' => r = k ∧ ∃ H', Inv X pins σ H' s' ∧ Ext H H') X.xe s
def RcB (X : Cx) (n : Nat) (D : EqvB) : Prop :=
  ∀ (A : Around) (pins : List (Addr × Obj)) (s : Shared) (σ : L2.St) (H : Hp) (x y : V) (u v : Value) (k : Bool), L2.Sub X n A → Inv X pins σ H s → RelV x u → RelV y v → D x y H k →
    wpAny (model X.prog X.w) A (richCompare .Eq u v) (fun r s' => r = .bool k ∧ ∃ H', Inv X pins σ H' s' ∧ Ext H H') X.xe s
section
variable {X : Cx} {n : Nat} {D : EqvB}
/-- an own == with either answer -/
def spEqB (R : Addr → V → Hp → Bool → Prop) : Sp := fun vs H Q _ => ∃ a y k, vs = [.ref a, y] ∧ R a y H k ∧ ∀ H', Ext H H' → Q (.bl k) H'
/-- instances of the class at C with the text's own ==, the other one of a class C' that isn't asked first -/
def DInsB (K : PySem.W.Frag) (C : Addr) (R : Addr → V → Hp → Bool → Prop) : EqvB := fun x y H k => ∃ a b dx dy fs gs C', x = .ref a ∧ y = .ref b ∧ H a = some (.ins C dx fs) ∧ H b = some (.ins C' dy gs) ∧ PySem.W.notFirst K C (.ref C') = true ∧ R a (.ref b) H k
theorem rcB_ins {CX : CXT} {C f : Addr} {fd : FuncData} {ps : List Str} {R : Addr → V → Hp → Bool → Prop} {E : XK} (F : FnOk X.prog X.w X.K X.mg X.base CX n f fd ps (spEqB R))
    (hs : PySem.W.findIn X.K (.ref C) "__eq__" = some (some (.ref f))) (hf : PySem.W.isFn X.K (.ref f) = true) (hb : Binds X.K fd ps []) (hx : Passes CX X E) : RcB X n (DInsB X.K C R) := by
  intro A pins s σ H x y u v k sb I rx ry d
  obtain ⟨a, b, dx, dy, fs, gs, C', rfl, rfl, ha, hb', hn, hr⟩ := d
  cases rx
  cases ry
  obtain ⟨mA, J, _⟩ := ins_get I.hok ha
  obtain ⟨mB, J', _⟩ := ins_get I.hok hb'
  obtain ⟨od, J, _⟩ := J.look
  obtain ⟨od', J', _⟩ := J'.look
  obtain ⟨m, hF⟩ := I.fr
  refine PySem.W.cmp_K (op := .Eq) (tb := .ref C') sb.room.units0 hF I.ok.mod.kin J J'.type hn hs hf ?_
  have hsp : spEqB R [.ref a, .ref b] H (fun v H' => v = .bl k ∧ Ext H H') E := ⟨a, .ref b, k, rfl, hr, fun H' e => ⟨rfl, e⟩⟩
  have e0 : Env0 X.prog X.w X.K X.mg X.base A X.stack s H := by
    have e := I.env0
    exact ⟨by rw [sb.fr]; exact e.frames, e.mod, e.bs, e.bsz, e.funs, e.frf, e.hok, e.bare⟩
  have hl := F.len _ _ _ _ hsp
  have r2 : Vals [V.ref a, V.ref b] [Value.ref a, Value.ref b] := .cons rfl (.cons rfl .nil)
  refine wpAny_call (codeAny_mono (F.run A X.stack s H ⟨[.ref a, .ref b], []⟩ [.ref a, .ref b] [.ref a, .ref b] _ E sb.room e0 (by
    have := hb s [.ref a, .ref b] I.kIn (by simpa using hl)
    simpa using this) r2 hsp) fun r s' hq => ?_)
  cases r with
  | error e => exact hx pins σ H s e s' I hq
  | ok fl =>
    cases fl with
    | ret w =>
      obtain ⟨z, H', I', rz, ez, ex⟩ := I.after hq
      subst ez
      cases rz
      exact ⟨rfl, H', I', ex⟩
    | next => exact False.elim hq
    | brk => exact False.elim hq
    | cont => exact False.elim hq
/-- == of two objects within a list: the same object is equal to itself -/
theorem RcB.eqB (h : RcB X n D) (hr : ∀ x y H k, D x y H k → ∃ a b, x = .ref a ∧ y = .ref b) (self : ∀ x H k, D x x H k → k = true) : EqB X n D := by
  intro A pins s σ H x y u v k sb I rx ry d
  obtain ⟨a, b, rfl, rfl⟩ := hr _ _ _ _ d
  cases rx
  cases ry
  by_cases hab : a = b
  · subst hab
    have e := self _ _ _ d
    subst e
    exact SeqAt.EqAt.same (A := A) (s := s) (.ref a) X.prog X.w X.xe _ ⟨rfl, H, I, Ext.rfl'⟩
  · refine GQ.eqBool_refG hab (wpAny_mono (h A pins s σ H (.ref a) (.ref b) _ _ k sb I rfl rfl d) (fun r s' q => ?_) fun _ _ x => x)
    obtain ⟨hr', q⟩ := q
    exact ⟨k, hr', rfl, q⟩
/-- lists, item by item: ks the items' answers -/
def DListB (D : EqvB) : EqvB := fun x y H k => ∃ a b xs ys, x = .ref a ∧ y = .ref b ∧ H a = some (.lst xs) ∧ H b = some (.lst ys) ∧
  ((xs.length ≠ ys.length ∧ k = false) ∨ ∃ ks : List Bool, xs.length = ys.length ∧ ks.length = xs.length ∧ (∀ (i : Nat) x y d, xs[i]? = some x → ys[i]? = some y → ks[i]? = some d → D x y H d) ∧ k = ks.all id)
theorem rcB_list (hD : MonB D) (h : EqB X n D) : RcB X (n + 1) (DListB D) := by
  intro A pins s σ H x y u v k sb I rx ry d
  obtain ⟨a, b, xs, ys, rfl, rfl, ha, hb, d⟩ := d
  cases rx
  cases ry
  obtain ⟨z, its, k1, r, e⟩ := I.hok a _ ha
  obtain ⟨z2, its2, k2, r2, e2⟩ := I.hok b _ hb
  rcases d with ⟨hne, rfl⟩ | ⟨ks, hl, hk, hd, rfl⟩
  · exact rc_listL sb.room.units0 e e2 (by rw [List.size_toArray, List.size_toArray, ← r.length, ← r2.length]; exact hne) ⟨rfl, H, I, Ext.rfl'⟩
  · refine rc_listB (N := xs.length) sb.room.units0 (fun i => ks.getD i true) (fun _ s' => LoopI X pins σ H s') (fun i s' q => ?_) (fun s' a q => ⟨?_, q⟩) (fun i s' hi hf q => ⟨?_, q⟩) ⟨H, I, Ext.rfl'⟩
    · obtain ⟨H1, I1, e1⟩ := id q
      obtain ⟨z, its, k1, r, e⟩ := I1.hok a _ (e1 _ _ ha)
      obtain ⟨z2, its2, k2, r2, e2⟩ := I1.hok b _ (e1 _ _ hb)
      refine ⟨its.toArray, its2.toArray, k1, k2, e, e2, by rw [List.size_toArray, ← r.length], by rw [List.size_toArray, ← r2.length, ← hl], fun h1 h2 => ?_⟩
      have g1 : its[i]? = some its.toArray[i] := by
        have h1' : i < its.length := by simpa using h1
        rw [List.getElem?_eq_getElem h1'] <;> simp
      have g2 : its2[i]? = some its2.toArray[i] := by
        have h2' : i < its2.length := by simpa using h2
        rw [List.getElem?_eq_getElem h2'] <;> simp
      have q1 : i < xs.length := by rw [r.length]; simpa using h1
      have q2 : i < ys.length := by rw [r2.length]; simpa using h2
      have q3 : i < ks.length := by omega
      obtain ⟨u, hu, ru⟩ := r.get (List.getElem?_eq_getElem q1)
      obtain ⟨v, hv, rv⟩ := r2.get (List.getElem?_eq_getElem q2)
      rw [g1] at hu
      rw [g2] at hv
      rw [Option.some.inj hu, Option.some.inj hv]
      have ek : ks.getD i true = ks[i] := by simp [List.getD, List.getElem?_eq_getElem q3]
      refine wpAny_mono (h A.in1 pins s' σ H1 _ _ u v ks[i] sb.in1 I1 ru rv (hD _ _ _ _ _ e1 (hd i _ _ _ (List.getElem?_eq_getElem q1) (List.getElem?_eq_getElem q2) (List.getElem?_eq_getElem q3)))) (fun r s2 q => ?_) fun _ _ x => x
      obtain ⟨hr, H2, I2, e3⟩ := q
      exact ⟨hr.trans ek.symm, H2, I2, e1.trans e3⟩
    · have e : ks.all id = true := by
        rw [List.all_eq_true]
        intro d hd
        obtain ⟨i, hi, rfl⟩ := List.getElem_of_mem hd
        have := a i (by omega)
        simpa [List.getD, List.getElem?_eq_getElem hi] using this
      rw [e]
    · have q3 : i < ks.length := by omega
      have e : ks.all id = false := by
        rw [List.all_eq_false]
        refine ⟨ks[i], List.getElem_mem q3, ?_⟩
        have : ks[i] = false := by simpa [List.getD, List.getElem?_eq_getElem q3] using hf
        rw [this]
        simp
      rw [e]
/-- x == y as an expression -/
def rEqB (D : EqvB) : R2 := fun x y H Q => ∃ k, D x y H k ∧ ∀ H', Ext H H' → Q (.bl k) H'
theorem op_eqB (h : RcB X n D) (hr : Room n X.A) : OpR X (compareOp .Eq) (rEqB D) := by
  intro pins s σ H x y v u Q I rx ry hq
  obtain ⟨k, d, q⟩ := hq
  show wpAny (model X.prog X.w) X.A (richCompare .Eq v u) (EP X pins σ Q) X.xe s
  refine wpAny_mono (h X.A pins s σ H x y v u k ⟨hr, rfl⟩ I rx ry d) (fun r s' z => ?_) fun _ _ x => x
  obtain ⟨hr', H', I', e⟩ := z
  subst hr'
  exact ⟨.bl k, H', I', rfl, q H' e⟩
end
end RQ
set_option maxHeartbeats 4000000
/-! ### != of instances by their own __eq__ -/
namespace RQ
open PySem PySem.Spec PyProof.Rows PySem.SeqAt Builtin
section
variable {M : Model} {prog : Program} {w : World} {A : Around} {E : Value → Shared → Prop} {s : Shared} {K : PySem.W.Frag} {x y C f : Addr} {ox : Obj} {od : Option Obj}
theorem entry_ne (hu : A.units < cLine) (X : K.In s.heap) (I : PySem.W.InstAt s.heap x ox C od) (hs : PySem.W.findIn K (.ref C) "__eq__" = some (some (.ref f))) (hf : PySem.W.isFn K (.ref f) = true) {Q : Fin → Shared → Prop}
    (hcall : wpAny M A (call (.ref f) [.ref x, .ref y]) (fun v s' => ∃ b, v = .bool b ∧ Q (.done (.ret (.bool (!b)))) s') E s) : wpAny M A (Builtin.«object.__ne__» ⟨[.ref x, .ref y], []⟩) Q E s := by
  unfold Builtin.«object.__ne__»
  repeat (first
    | with_reducible refine wpAny_cRoomFor hu ?_
    | (refine wpAny_bind (m := callSpecialIfBound? (.ref x) (Str.ofString "__eq__") [.ref y])
        (PySem.W.ifBound_K X I hs hf (wpAny_mono hcall (fun r s' hr => by
          obtain ⟨b, rfl, hq⟩ := hr
          repeat (first | exact hq | exact wpAny_pure hq | exact wpAny_truthy_bool hq | (refine wpAny_bind (m := truthy (.bool _)) (wpAny_truthy_bool ?_)) | wp_step)) fun _ _ e => e)))
    | wp_step)
theorem ifBound_objNe {args : List Value} {Q : Option Value → Shared → Prop} (X : K.In s.heap) (I : PySem.W.InstAt s.heap x ox C od) (hs : PySem.W.findIn K (.ref C) "__ne__" = some (some (.builtin "object.__ne__")))
    (h : wpAny M A (call (.builtin "object.__ne__") (.ref x :: args)) (fun v => Q (some v)) E s) : wpAny M A (callSpecialIfBound? (.ref x) "__ne__" args) Q E s := by
  simp only [callSpecialIfBound?, bindSpecialIfBound?]
  refine wpAny_holding (wpAny_bind (wpAny_bind (wpAny_bind (I.type.here ((PySem.W.looks_findIn X hs).here ?_)))))
  refine wpAny_bind (wpAny_askSetting (wpAny_ite ?_))
  have fin : wpAny M A (call (.builtin "object.__ne__") ([.ref x] ++ args) >>= fun v => pure (some v)) Q E s := wpAny_bind (wpAny_mono h (fun v s' h' => wpAny_pure h') fun _ _ h' => h')
  split
  · exact wpAny_bind (wpAny_of_eq (F.cmp_object.ne.bind _) (wpAny_pure (by exact fin)))
  · exact wpAny_tryCatch (wpAny_bind (wpAny_of_eq (F.cmp_object.ne.bind _) (wpAny_pure (by exact fin))))
theorem call_objNe (hu : A.units + 1 < cLine) (X : K.In s.heap) (I : PySem.W.InstAt s.heap x ox C od) (hm : PySem.W.mroIn K C (.type "object") = some true) (hs : PySem.W.findIn K (.ref C) "__eq__" = some (some (.ref f))) (hf : PySem.W.isFn K (.ref f) = true) {Q : Value → Shared → Prop}
    (hcall : wpAny (model prog w) A.in1 (call (.ref f) [.ref x, .ref y]) (fun v s' => ∃ b, v = .bool b ∧ Q (.bool (!b)) s') E s) : wpAny (model prog w) A (call (.builtin "object.__ne__") [.ref x, .ref y]) Q E s :=
  wpAny_call (codeAny_call_builtin F.cmp_object.ne.plain F.cmpEntry_ne (PySem.W.check_slot F.cmpKind_ne F.cmpSplit_ne (I.type.andThen (PySem.W.looks_mroIn X hm)) (F.cmpArgs_ne _ _)
    (entry_ne (A := A.in1) hu X I hs hf (wpAny_mono hcall (fun v s' hv => by obtain ⟨b, rfl, q⟩ := hv; exact ⟨b, rfl, q⟩) fun _ _ e => e))))
theorem ne_K {tb : Value} {Q : Value → Shared → Prop} (hu : A.units + 1 < cLine) (X : K.In s.heap) (I : PySem.W.InstAt s.heap x ox C od) (hb : PySem.W.Looks (model prog w) s.heap (typeOf (.ref y)) tb)
    (hn : PySem.W.notFirst K C tb = true) (hm : PySem.W.mroIn K C (.type "object") = some true) (hne : PySem.W.findIn K (.ref C) "__ne__" = some (some (.builtin "object.__ne__"))) (hs : PySem.W.findIn K (.ref C) "__eq__" = some (some (.ref f))) (hf : PySem.W.isFn K (.ref f) = true)
    (hcall : wpAny (model prog w) A.in1 (call (.ref f) [.ref x, .ref y]) (fun v s' => ∃ b, v = .bool b ∧ Q (.bool (!b)) s') E s) : wpAny (model prog w) A (richCompare .NotEq (.ref x) (.ref y)) Q E s := by
  have one : wpAny (model prog w) A (tryCompare (.ref x) "__ne__" (.ref y)) (fun r s' => ∃ b, r = some (.bool b) ∧ Q (.bool b) s') E s := by
    unfold tryCompare
    refine wpAny_bind (ifBound_objNe X I hne (call_objNe hu X I hm hs hf (wpAny_mono hcall (fun v s' hv => ?_) fun _ _ e => e)))
    obtain ⟨b, rfl, q⟩ := hv
    exact ⟨b, rfl, wpAny_pure ⟨_, rfl, q⟩⟩
  simp only [richCompare, cmpInfo_NotEq, oneThing_ref]
  refine wpAny_holding (wpAny_bind (wpAny_cRoomFor (Nat.lt_of_succ_lt hu) ?_))
  refine wpAny_bind (I.type.here (wpAny_bind (hb.here ?_)))
  split
  · rename_i q
    have e : PySem.W.subIn K tb (.ref C) = some false := by
      rcases Bool.or_eq_true_iff.mp hn with e | e
      · rw [beq_iff_eq.mp e] at q; simp at q
      · exact beq_iff_eq.mp e
    refine wpAny_bind ((PySem.W.looks_subIn X e).here ?_)
    simp only [Bool.false_eq_true, if_false]
    refine wpAny_bind (wpAny_mono one (fun r s' z => ?_) fun _ _ e => e)
    obtain ⟨b, rfl, hq⟩ := z
    exact wpAny_pure hq
  · refine wpAny_bind (wpAny_pure ?_)
    simp only [Bool.false_eq_true, if_false]
    refine wpAny_bind (wpAny_mono one (fun r s' z => ?_) fun _ _ e => e)
    obtain ⟨b, rfl, hq⟩ := z
    exact wpAny_pure hq
end
end RQ
namespace RQ
open PySem PySem.Spec PyProof.Rows L2
section
variable {X : Cx} {n : Nat}
/-- x != y, x an instance with an own == and no own != -/
def rNeB (D : EqvB) : R2 := fun x y H Q => ∃ k, D x y H k ∧ ∀ H', Ext H H' → Q (.bl (!k)) H'
theorem op_neB {CX : CXT} {C f : Addr} {fd : FuncData} {ps : List Str} {R : Addr → V → Hp → Bool → Prop} {E : XK} (F : FnOk X.prog X.w X.K X.mg X.base CX n f fd ps (spEqB R)) (hr : Room (n + 1) X.A)
    (hm : PySem.W.mroIn X.K C (.type "object") = some true) (hne : PySem.W.findIn X.K (.ref C) "__ne__" = some (some (.builtin "object.__ne__"))) (hs : PySem.W.findIn X.K (.ref C) "__eq__" = some (some (.ref f))) (hf : PySem.W.isFn X.K (.ref f) = true) (hb : Binds X.K fd ps []) (hx : Passes CX X E) :
    OpR X (compareOp .NotEq) (rNeB (DInsB X.K C R)) := by
  intro pins s σ H x y v u Q I rx ry hq
  obtain ⟨k, d, q⟩ := hq
  obtain ⟨a, b, dx, dy, fs, gs, C', rfl, rfl, ha, hb', hn, hrr⟩ := d
  cases rx
  cases ry
  obtain ⟨mA, J, _⟩ := ins_get I.hok ha
  obtain ⟨mB, J', _⟩ := ins_get I.hok hb'
  obtain ⟨od, J, _⟩ := J.look
  obtain ⟨od', J', _⟩ := J'.look
  show wpAny (model X.prog X.w) X.A (richCompare .NotEq (.ref a) (.ref b)) (EP X pins σ Q) X.xe s
  refine ne_K (tb := .ref C') (by have := hr.un; omega) I.kIn J J'.type hn hm hne hs hf ?_
  have hsp : spEqB R [.ref a, .ref b] H (fun v H' => v = .bl k ∧ Ext H H') E := ⟨a, .ref b, k, rfl, hrr, fun H' e => ⟨rfl, e⟩⟩
  have e0 : Env0 X.prog X.w X.K X.mg X.base X.A.in1 X.stack s H := by
    have e := I.env0
    exact ⟨e.frames, e.mod, e.bs, e.bsz, e.funs, e.frf, e.hok, e.bare⟩
  have hl := F.len _ _ _ _ hsp
  have r2 : Vals [V.ref a, V.ref b] [Value.ref a, Value.ref b] := .cons rfl (.cons rfl .nil)
  refine wpAny_call (codeAny_mono (F.run X.A.in1 X.stack s H ⟨[.ref a, .ref b], []⟩ [.ref a, .ref b] [.ref a, .ref b] _ E hr.in1 e0 (by
    have := hb s [.ref a, .ref b] I.kIn (by simpa using hl)
    simpa using this) r2 hsp) fun r s' hq => ?_)
  cases r with
  | error e => exact hx pins σ H s e s' I hq
  | ok fl =>
    cases fl with
    | ret w =>
      obtain ⟨z, H', I', rz, ez, ex⟩ := I.after hq
      subst ez
      cases rz
      exact ⟨k, rfl, .bl (!k), H', I', rfl, q H' ex⟩
    | next => exact False.elim hq
    | brk => exact False.elim hq
    | cont => exact False.elim hq
end
end RQ
set_option maxHeartbeats 4000000
/-! ### B.m(e, ..), B an own class, m a plain def of it: as __init__ of a base within that of a subclass -/
namespace RC
open PySem PySem.Spec PyProof.Rows L2
/-- what of the class is read -/
structure CDef (K : PySem.W.Frag) (mg : Str → Option Value) (x : Str) (CR : Addr) (mc : Value) (m : Str) (g : Addr) : Prop where
  gl : mg x = some (.ref CR)
  rd : PySem.W.readsIn K CR mc = true
  ga : PySem.W.specialIn K (.ref CR) "__getattribute__" = some (some (.builtin "type.__getattribute__"))
  at_ : PySem.W.findCls K (.ref CR) mc m = some (.val (.ref g))
  kp : PySem.W.keepIn K (.ref g) = true
section
variable {X : Cx} {CX : CXT} {k : Nat} {g : Addr} {fd : FuncData} {ps : List Str} {sp : Sp} {dvs : List V} {ds : List Value} {E : XK} {x m : Str} {CR : Addr} {mc : Value} {e : Expr} {es : List Expr} {t : TA} {p1 p2 pos : Pos}
theorem pe_ccall {pl : Sem Bool} (B : CDef X.K X.mg x CR mc m g) (F : FnOk X.prog X.w X.K X.mg X.base CX k g fd ps sp) (hr : Room k X.A) (hb : Binds X.K fd ps ds) (hd : Vals dvs ds) (hx : Passes CX X E) (hg : Gl X x) (ha : PA X (e :: es) t) (hdb : (x == ("__debug__" : Str)) = false := by decide)
    (hc : eval (.Call (.Attribute (.Name x p1) m p2) (e :: es) [] pos) X.env = (do
      let ov ← eval (.Name x p1) X.env
      standAt p2.atName
      let (f, first) ← holding [ov] (getMethod ov m pl)
      callWith pos f first (backTo pos (starEach (e :: es) X.env)) (backToKw pos (keywordEach [] X.env))) := by rfl)
    (he : starEach (e :: es) X.env = (false, eval e X.env) :: starEach es X.env := by rfl) (hpl : (backTo pos (starEach es X.env)).any (·.1) = false := by rfl) :
    PE X (.Call (.Attribute (.Name x p1) m p2) (e :: es) [] pos) (tCall sp dvs E t) := ⟨fun pins s σ H Q I h => by
  refine PySem.W.methodCall_KW (ld_glob I hg B.gl ?_ hdb) hc
  refine PySem.W.method_cls I.kIn B.ga (PySem.W.cls_value I.kIn B.rd B.at_ (by rfl) ?_)
  show wpAny _ _ (callWith pos (Value.ref g) [] (backTo pos (starEach (e :: es) X.env)) []) _ _ _
  exact PySem.W.callWith_K (h₀ := X.base) I.ok.mod.kin B.kp (thn (ha.run pos pins _ σ H _ (I.tok _) h) fun us s1 ⟨vs, H1, I1, r, q⟩ => ⟨I1.kIn, run_fn F hr hb hd hx I1 r q⟩) he hpl⟩
end
end RC
set_option maxHeartbeats 4000000
/-! ### len(o), str(o) by an own __len__, __str__ -/
namespace RC
open PySem PySem.Spec PyProof.Rows L2
section
variable {X : Cx} {CX : CXT} {n : Nat} {C f : Addr} {fd : FuncData} {ps : List Str} {sp : Sp} {E : XK}
/-- an own special def of one argument, somewhere below -/
theorem run_special {A : Around} {pins : List (Addr × Obj)} {σ : L2.St} {H : Hp} {s : Shared} {a : Addr} {Q : VK} {R : Value → Shared → Prop} (F : FnOk X.prog X.w X.K X.mg X.base CX n f fd ps sp) (hr : Room n A) (hfr : A.frames = X.A.frames) (hb : Binds X.K fd ps []) (hx : Passes CX X E) (I : Inv X pins σ H s)
    (h : sp [.ref a] H Q E) (hR : ∀ v u H' s', Inv X pins σ H' s' → RelV v u → Q v H' → R u s') : wpAny (model X.prog X.w) A (call (.ref f) [.ref a]) R X.xe s := by
  have e0 : Env0 X.prog X.w X.K X.mg X.base A X.stack s H := by
    have e := I.env0
    exact ⟨by rw [hfr]; exact e.frames, e.mod, e.bs, e.bsz, e.funs, e.frf, e.hok, e.bare⟩
  have hl := F.len _ _ _ _ h
  refine wpAny_call (codeAny_mono (F.run A X.stack s H ⟨[.ref a], []⟩ [.ref a] [.ref a] _ E hr e0 (by
    have := hb s [.ref a] I.kIn (by simpa using hl)
    simpa using this) (.cons rfl .nil) h) fun r s' hq => ?_)
  cases r with
  | error e => exact hx pins σ H s e s' I hq
  | ok fl =>
    cases fl with
    | ret w =>
      obtain ⟨z, H', I', rz, q⟩ := I.after hq
      exact hR z w H' s' I' rz q
    | next => exact False.elim hq
    | brk => exact False.elim hq
    | cont => exact False.elim hq
theorem call_lenO (F : FnOk X.prog X.w X.K X.mg X.base CX n f fd ps sp) (hr : Room (n + 1) X.A) (hs : PySem.W.findIn X.K (.ref C) "__len__" = some (some (.ref f))) (hf : PySem.W.isFn X.K (.ref f) = true) (hb : Binds X.K fd ps []) (hx : Passes CX X E) :
    CallR X (.builtin "len") (fun xs H Q => ∃ a dx fs, xs = [.ref a] ∧ H a = some (.ins C dx fs) ∧ sp [.ref a] H (fun v H' => ∃ k : Int, v = .int k ∧ 0 ≤ k ∧ k < 2 ^ 63 ∧ Q (.int k) H') E) := by
  intro pins s σ H xs us Q I r h
  obtain ⟨a, dx, fs, rfl, ha, h⟩ := h
  cases r with
  | cons r rr =>
    cases rr
    cases r
    obtain ⟨mA, J, _⟩ := ins_get I.hok ha
    obtain ⟨od, J, _⟩ := J.look
    obtain ⟨m, hF⟩ := I.fr
    refine PySem.W.len_K hF I.ok.mod.kin J hs hf (run_special F hr.in1 rfl hb hx I h fun v u H' s' I' rz q => ?_)
    obtain ⟨k, rfl, h0, h1, q⟩ := q
    obtain ⟨t, rfl⟩ := rz
    exact ⟨⟨h0, h1⟩, .int k, H', I'.tok _, ⟨_, rfl⟩, q⟩
theorem call_strO (F : FnOk X.prog X.w X.K X.mg X.base CX n f fd ps sp) (hr : Room (n + 2) X.A) (hs : PySem.W.findIn X.K (.ref C) "__str__" = some (some (.ref f))) (hf : PySem.W.isFn X.K (.ref f) = true) (hb : Binds X.K fd ps []) (hx : Passes CX X E) :
    CallR X (.type "str") (fun xs H Q => ∃ a dx fs, xs = [.ref a] ∧ H a = some (.ins C dx fs) ∧ sp [.ref a] H (fun v H' => ∃ z : Str, v = .str z ∧ Q (.str z) H') E) := by
  intro pins s σ H xs us Q I r h
  obtain ⟨a, dx, fs, rfl, ha, h⟩ := h
  cases r with
  | cons r rr =>
    cases rr
    cases r
    obtain ⟨mA, J, _⟩ := ins_get I.hok ha
    obtain ⟨od, J, _⟩ := J.look
    refine PySem.W.kso_call (hr.in1.in1.units0) I.kIn J hs hf (run_special F hr.in1.in1 rfl hb hx I h fun v u H' s' I' rz q => ?_)
    obtain ⟨z, rfl, q⟩ := q
    obtain ⟨t, rfl⟩ := rz
    exact ⟨.str z, H', I', ⟨_, rfl⟩, q⟩
end
end RC
namespace TS
open PySem PySem.Spec PyProof.Rows

/-- the unlike texts of a list, each where it first stands -/
def fm (xs : List Str) : List Str :=
  xs.foldl (fun r x => if x ∈ r then r else r ++ [x]) []
theorem fm_snoc (xs : List Str) (x : Str) :
    fm (xs ++ [x]) = if x ∈ fm xs then fm xs else fm xs ++ [x] := by
  unfold fm
  rw [List.foldl_append]
  rfl
theorem snoc_ind {p : List Str → Prop} (h0 : p []) (h1 : ∀ xs x, p xs → p (xs ++ [x])) (xs : List Str) : p xs := by
  have h : ∀ ys : List Str, p ys.reverse := fun ys => by
    induction ys with
    | nil => exact h0
    | cons y ys ih => rw [List.reverse_cons]; exact h1 _ _ ih
  have e := h xs.reverse
  rwa [List.reverse_reverse] at e
theorem fm_mem (k : Str) (xs : List Str) : k ∈ fm xs ↔ k ∈ xs := by
  refine snoc_ind (p := fun xs => k ∈ fm xs ↔ k ∈ xs) (by simp [fm]) (fun xs x ih => ?_) xs
  rw [fm_snoc]
  by_cases e : x ∈ fm xs
  · rw [if_pos e, List.mem_append, List.mem_singleton, ih]
    refine ⟨Or.inl, fun h => h.elim id fun h => ?_⟩
    subst h; exact ih.mp e
  · rw [if_neg e, List.mem_append, List.mem_append, ih]
theorem fm_le (xs : List Str) : (fm xs).length ≤ xs.length := by
  refine snoc_ind (p := fun xs => (fm xs).length ≤ xs.length) (by simp [fm]) (fun xs x ih => ?_) xs
  rw [fm_snoc]
  by_cases e : x ∈ fm xs
  · rw [if_pos e, List.length_append]; omega
  · rw [if_neg e, List.length_append, List.length_append]; simp; omega
theorem fm_same (xs : List Str) (h : xs.Nodup) : fm xs = xs := by
  revert h
  refine snoc_ind (p := fun xs => xs.Nodup → fm xs = xs) (fun _ => rfl) (fun xs x ih h => ?_) xs
  rw [List.nodup_append] at h
  rw [fm_snoc, ih h.1, if_neg]
  intro e
  exact h.2.2 x e x (by simp) rfl
/-- whether a text is among the first ones -/
def inn (xs : List Str) (i : Nat) (k : Str) : Bool := decide (k ∈ xs.take i)
theorem take_snoc (xs : List Str) (i : Nat) (h : i < xs.length) : xs.take (i + 1) = xs.take i ++ [xs.getD i Str.empty] := by
  rw [List.take_succ, List.getElem?_eq_getElem h]
  simp [List.getD, List.getElem?_eq_getElem h]
theorem inn_snoc (xs : List Str) (i : Nat) (h : i < xs.length) (k : Str) :
    (inn xs i k || decide (k = xs.getD i Str.empty)) = inn xs (i + 1) k := by
  unfold inn
  rw [take_snoc xs i h]
  simp [List.mem_append]
theorem fm_step (xs : List Str) (i : Nat) (h : i < xs.length) :
    (if inn xs i (xs.getD i Str.empty) = true then (fm (xs.take i)).length else (fm (xs.take i)).length + 1) =
      (fm (xs.take (i + 1))).length := by
  rw [take_snoc xs i h, fm_snoc]
  unfold inn
  by_cases e : xs.getD i Str.empty ∈ xs.take i
  · rw [if_pos (by simpa using e), if_pos ((fm_mem _ _).mpr e)]
  · rw [if_neg (by simpa using e), if_neg (fun h' => e ((fm_mem _ _).mp h'))]; simp

section
variable {prog : Program} {w : World} {A : Around} {R : Result → Shared → Prop} {J : Addr}
variable {fp wr : List Addr} {G : Array GenState → Array GenState → Prop} {n : Nat}
variable {P : Nat → Value → Prop} {St : Nat → Shared → Prop}
/-- a set of texts after the first ones were put in -/
def Full (prog : Program) (w : World) (h : Heap) (S : Addr) (xs : List Str) (i : Nat) : Prop :=
  h.SetOf (strKind prog w) S (inn xs i) (fm (xs.take i)).length
theorem full_up {h h' : Heap} {S : Addr} {xs : List Str} {i : Nat}
    (e : ∀ o, h.get? S = some o → h'.get? S = some o) (F : Full prog w h S xs i) : Full prog w h' S xs i := by
  obtain ⟨o, q⟩ := F
  obtain ⟨es, ep, t, g, rest⟩ := q
  exact ⟨o, es, ep, t, e o g, rest⟩
theorem loop_txt (W : WalksS prog w A.in1 J fp wr G n P St) (S : Addr) (out : S ∉ fp) (xs : List Str)
    (len : xs.length = n) (room : n + 1 < scanBound)
    (val : ∀ i v, P i v → ∃ t, v = .str (xs.getD i Str.empty) t) :
    ∀ (k i : Nat) (s : Shared), n - i = k → i ≤ n → St i s → Full prog w s.heap S xs i →
      (∀ s', Moved (S :: wr) G s s' → Full prog w s'.heap S xs n → R (.ok (.ret .none)) s') →
      codeAny (model prog w) A (.builtin "set.update.loop"
        ⟨[.ref S, .ref J], []⟩) R s := by
  have ow : S ∉ wr := fun h => out (W.sub _ h)
  have up : ∀ b ∈ wr, b ∈ S :: wr := fun b => List.mem_cons_of_mem S
  intro k
  induction k with
  | zero =>
    intro i s ek le st F next
    obtain rfl : i = n := by omega
    refine codeAny_builtin PyProof.Rows.F.entry_set_update_loop ?_
    rw [Around.under_plainId PyProof.Rows.F.plain_set_update_loop _]
    refine wpAny_bind (m := pyNext (.ref J)) (W.done s _ _ st fun s1 mv => ?_)
    exact wpAny_pure (next s1 (mv.mono up) (full_up (fun o g => mv.heap S _ ow g) F))
  | succ k ih =>
    intro i s ek le st F next
    have lt : i < n := by omega
    refine codeAny_builtin PyProof.Rows.F.entry_set_update_loop ?_
    rw [Around.under_plainId PyProof.Rows.F.plain_set_update_loop _]
    refine wpAny_bind (m := pyNext (.ref J)) (W.item i s _ _ lt st fun v s1 pv st1 mv => ?_)
    obtain ⟨t, rfl⟩ := val i v pv
    have F1 : Full prog w s1.heap S xs i := full_up (fun o g => mv.heap S _ ow g) F
    refine wpAny_bind (m := holding [Value.str (xs.getD i Str.empty) t] (setAdd S _)) (wpAny_holding ?_)
    unfold setAdd
    refine wpAny_holding (wpAny_bind (KeyKind.pyHash (strKind prog w)
      (k := xs.getD i Str.empty) (strKind_is _ _ _ _) ?_))
    have few : (fm (xs.take i)).length + 1 < scanBound := by
      have h1 := fm_le (xs.take i)
      have h2 : (xs.take i).length ≤ n := by rw [List.length_take]; omega
      omega
    refine wpAny_setAddHashed_of (knd := strKind prog w) (s := { s1 with toks := s1.toks + 1 })
      (strKind_is _ _ _ _) rfl F1 few fun h2 sb F2 => ?_
    have F3 : Full prog w h2 S xs (i + 1) :=
      SetOf_congr F2 (inn_snoc xs i (by omega)) (fm_step xs i (by omega))
    refine wpAny_pure ⟨plainId_quiet PyProof.Rows.F.plain_set_update_loop _, ih (i + 1) _ (by omega) lt
      (W.frame _ s1 _ _ st1 (Nat.le_succ _) fun b hb o e => ?_) F3 fun s3 mv3 F4 => ?_⟩
    · have nb : b ≠ S := fun h => out (h ▸ hb)
      exact (sb.2 b nb).trans e
    · refine next s3 (Moved.trans W.gtrans ((mv.mono up).then_heap (Nat.le_succ _) fun b o hb e => ?_) mv3) F4
      have nb : b ≠ S := fun h => hb (h ▸ List.mem_cons_self)
      exact (sb.2 b nb).trans e
end

section
variable {prog : Program} {w : World} {A : Around} {E : Value → Shared → Prop} {s : Shared}
/-- the state once a new set is there -/
abbrev mid_list (s : Shared) (led : Bool) : Shared :=
  { s with heap := s.heap.push { cls := .type "set", dict := none, data := .set #[] 0 (.fresh 0 0 led) } }
set_option maxHeartbeats 3200000 in
theorem set_of_list {l : Addr} {items : Array Value} {xs : List Str} {Q : Value → Shared → Prop}
    (calm : A.handled = none) (hl : s.heap.IsList l items) (tx : StrsAre items.toList xs)
    (room : items.size + 1 < scanBound)
    (next : ∀ (h' : Heap) (tk : Nat), Full prog w h' s.heap.objs.size xs items.size →
      (∀ b o, b < s.heap.objs.size → s.heap.get? b = some o → h'.get? b = some o) →
      Q (.ref s.heap.objs.size) { s with heap := h', toks := tk }) :
    wpAny (model prog w) A (call (.type "set") [.ref l]) Q E s := by
  obtain ⟨c, tl, em⟩ := PySem.F.called_set.mro
  have fmade := PySem.F.called_set.made
  have fsub := PySem.F.called_set.sub
  refine wpAny_call (codeAny_of_tree (wpAny_pure ⟨Code.quiet_builtin _ (by decide +kernel),
    codeAny_builtin PySem.F.entry_type_call ?_⟩))
  rw [Around.under_plain (weight_type_call_type "set"
    [.ref l] []) rfl]
  have f1 := PySem.F.called_set.notType
  have f2 := PySem.F.called_set.canCreate
  have f3 := PySem.F.typeCall_set_1 (.ref l)
  repeat (any_goals (first
    | assumption
    | wp_step))
  refine codeAny_mono (code_set_new_1 (.ref l) (E := E) (Q₁ := fun obj s1 => ∃ led : Bool,
    obj = .ref s.heap.objs.size ∧ s1 = mid_list s led) fun led => ⟨led, rfl, rfl⟩) fun r s1 hr => ?_
  match r, hr with
  | .error e, hr => exact hr
  | .ok (.ret obj), hr =>
    obtain ⟨led, rfl, rfl⟩ := hr
    have fS : (mid_list s led).heap.get? s.heap.objs.size = some { cls := .type "set", dict := none, data := .set #[] 0 (.fresh 0 0 led) } :=
      Heap.get?_push_size _ rfl
    have fT : Shared.TypeIs (mid_list s led) (.ref s.heap.objs.size) "set" := ⟨_, fS, rfl⟩
    have f4 := PySem.F.called_set.init.lookup
    have f5 := PySem.F.called_set.init.bind (.ref s.heap.objs.size)
    repeat (any_goals (first
      | assumption
      | wp_step))
    refine codeAny_mono (codeAny_call_builtin (R := wants (fun r s2 => r = .none ∧ ∃ h' tk,
      s2 = { s with heap := h', toks := tk } ∧ Full prog w h' s.heap.objs.size xs items.size ∧
      (∀ b o, b < s.heap.objs.size → s.heap.get? b = some o → h'.get? b = some o)) E)
      PySem.F.called_set.init.plain PySem.F.entry_set_init (check_set_init_1 fT ?_)) fun r2 s2 hr2 => ?_
    · have lS : l < s.heap.objs.size := (by obtain ⟨o, e, _⟩ := hl; exact Heap.lt_size e)
      obtain ⟨ob, gb, cb, nb, db⟩ := hl
      obtain ⟨cls, dct, dat, slt⟩ := ob
      simp only at cb db
      subst cb
      subst db
      have gb2 : (mid_list s led).heap.get? l = some { cls := .type "list", dict := dct, data := .seq items nb, slots := slt } :=
        Heap.get?_push_of_some _ gb
      have k1 := PySem.F.sub_list_set
      have k2 := PySem.F.sub_list_frozenset
      have k3 : (Value.type "list" == .type "dict") = false := by decide
      have hl1 : (mid_list s led).heap.IsList l items := ⟨_, gb2, rfl, nb, rfl⟩
      unfold Builtin.«set.__init__»
      unfold noKeywords
      unfold Builtin.Frozenset.updateFrom
      generalize ePI : pyIter = PI
      wp_walk
      subst ePI
      refine wpAny_pyIter_list hl1 ?_
      refine wpAny_bind (wpAny_runValue ?_)
      have e3 : A.in1.in1.in1.handled = none := by simp [calm]
      have zz : (mid_list s led).heap.objs.size = s.heap.objs.size + 1 := Heap.size_push _ _
      have nI : l ≠ (mid_list s led).heap.objs.size := fun h =>
        absurd (show l < l from Nat.lt_of_lt_of_le lS (by rw [h, zz]; exact Nat.le_succ _)) (Nat.lt_irrefl l)
      have nS : s.heap.objs.size ∉ [(mid_list s led).heap.objs.size, l] := by
        simp only [List.mem_cons, List.not_mem_nil, or_false, not_or]
        exact ⟨fun h => Nat.succ_ne_self _ (zz.symm.trans h.symm), fun h => Nat.lt_irrefl _ (h ▸ lS)⟩
      have len : xs.length = items.size := (StrsAre.len_eq tx).symm.trans (Array.length_toList ..)
      have val : ∀ (i : Nat) (v : Value), items[i]? = some v → ∃ t, v = .str (xs.getD i Str.empty) t := by
        intro i v hv
        exact SS.strs_at tx i v ((Array.getElem?_toList ..).trans hv)
      refine loop_txt ((Walks.list e3 _ l nI items).toS) s.heap.objs.size nS xs len room val
        (items.size - 0) 0 _ (by omega) (Nat.zero_le _)
        ⟨⟨_, Heap.get?_push_size _ rfl, rfl, rfl⟩, (hl1.push _)⟩ ?caseF ?caseN
      case caseF =>
        refine SetOf_congr ((setObjOf_fresh (knd := strKind prog w) led).setOf
          (Heap.get?_push_of_some _ fS) (by unfold scanBound; omega)) (fun k => ?_) ?_
        · simp [inn]
        · simp [fm]
      case caseN =>
        intro s3 mv F
        obtain ⟨h3, g3, d3, t3, o3⟩ := s3
        have eg : g3 = s.gens := mv.gens
        have ed : d3 = s.drawn := mv.drawn
        have eo : o3 = s.os := mv.os
        subst eg; subst ed; subst eo
        refine wpAny_pure (wpAny_pure ⟨rfl, h3, t3, rfl, F, fun b o hb e => ?_⟩)
        have n1 : b ≠ s.heap.objs.size := by omega
        have n2 : b ≠ (mid_list s led).heap.objs.size := by omega
        refine mv.heap b o ?_ (Heap.get?_push_of_some _ (Heap.get?_push_of_some _ e))
        simp only [List.mem_cons, List.not_mem_nil, or_false, not_or]
        exact ⟨n1, n2⟩
    · match r2, hr2 with
      | .error e, hr2 => exact hr2
      | .ok (.ret r), hr2 =>
        obtain ⟨rfl, h', tk, rfl, F, kept⟩ := hr2
        repeat (any_goals (first
          | assumption
          | wp_step))
        exact next _ _ F kept
      | .ok .next, hr2 => exact hr2.elim
      | .ok .brk, hr2 => exact hr2.elim
      | .ok .cont, hr2 => exact hr2.elim
  | .ok .next, hr => exact hr.elim
  | .ok .brk, hr => exact hr.elim
  | .ok .cont, hr => exact hr.elim
end

section
variable {prog : Program} {w : World} {A : Around} {E : Value → Shared → Prop} {s : Shared}
/-- the state once a new set is there -/
abbrev mid_tuple (s : Shared) (led : Bool) : Shared :=
  { s with heap := s.heap.push { cls := .type "set", dict := none, data := .set #[] 0 (.fresh 0 0 led) } }
set_option maxHeartbeats 3200000 in
theorem set_of_tuple {l : Addr} {items : Array Value} {xs : List Str} {Q : Value → Shared → Prop}
    (calm : A.handled = none) (hl : s.heap.IsTuple l items) (tx : StrsAre items.toList xs)
    (room : items.size + 1 < scanBound)
    (next : ∀ (h' : Heap) (tk : Nat), Full prog w h' s.heap.objs.size xs items.size →
      (∀ b o, b < s.heap.objs.size → s.heap.get? b = some o → h'.get? b = some o) →
      Q (.ref s.heap.objs.size) { s with heap := h', toks := tk }) :
    wpAny (model prog w) A (call (.type "set") [.ref l]) Q E s := by
  obtain ⟨c, tl, em⟩ := PySem.F.called_set.mro
  have fmade := PySem.F.called_set.made
  have fsub := PySem.F.called_set.sub
  refine wpAny_call (codeAny_of_tree (wpAny_pure ⟨Code.quiet_builtin _ (by decide +kernel),
    codeAny_builtin PySem.F.entry_type_call ?_⟩))
  rw [Around.under_plain (weight_type_call_type "set"
    [.ref l] []) rfl]
  have f1 := PySem.F.called_set.notType
  have f2 := PySem.F.called_set.canCreate
  have f3 := PySem.F.typeCall_set_1 (.ref l)
  repeat (any_goals (first
    | assumption
    | wp_step))
  refine codeAny_mono (code_set_new_1 (.ref l) (E := E) (Q₁ := fun obj s1 => ∃ led : Bool,
    obj = .ref s.heap.objs.size ∧ s1 = mid_tuple s led) fun led => ⟨led, rfl, rfl⟩) fun r s1 hr => ?_
  match r, hr with
  | .error e, hr => exact hr
  | .ok (.ret obj), hr =>
    obtain ⟨led, rfl, rfl⟩ := hr
    have fS : (mid_tuple s led).heap.get? s.heap.objs.size = some { cls := .type "set", dict := none, data := .set #[] 0 (.fresh 0 0 led) } :=
      Heap.get?_push_size _ rfl
    have fT : Shared.TypeIs (mid_tuple s led) (.ref s.heap.objs.size) "set" := ⟨_, fS, rfl⟩
    have f4 := PySem.F.called_set.init.lookup
    have f5 := PySem.F.called_set.init.bind (.ref s.heap.objs.size)
    repeat (any_goals (first
      | assumption
      | wp_step))
    refine codeAny_mono (codeAny_call_builtin (R := wants (fun r s2 => r = .none ∧ ∃ h' tk,
      s2 = { s with heap := h', toks := tk } ∧ Full prog w h' s.heap.objs.size xs items.size ∧
      (∀ b o, b < s.heap.objs.size → s.heap.get? b = some o → h'.get? b = some o)) E)
      PySem.F.called_set.init.plain PySem.F.entry_set_init (check_set_init_1 fT ?_)) fun r2 s2 hr2 => ?_
    · have lS : l < s.heap.objs.size := (by obtain ⟨o, e, _⟩ := hl; exact Heap.lt_size e)
      obtain ⟨ob, gb, cb, nb, db⟩ := hl
      obtain ⟨cls, dct, dat, slt⟩ := ob
      simp only at cb db
      subst cb
      subst db
      have gb2 : (mid_tuple s led).heap.get? l = some { cls := .type "tuple", dict := dct, data := .seq items nb, slots := slt } :=
        Heap.get?_push_of_some _ gb
      have k1 := PySem.F.sub_tuple_set
      have k2 := PySem.F.sub_tuple_frozenset
      have k3 : (Value.type "tuple" == .type "dict") = false := by decide
      have hl1 : (mid_tuple s led).heap.IsTuple l items := ⟨_, gb2, rfl, nb, rfl⟩
      unfold Builtin.«set.__init__»
      unfold noKeywords
      unfold Builtin.Frozenset.updateFrom
      generalize ePI : pyIter = PI
      wp_walk
      subst ePI
      refine wpAny_pyIter_tuple hl1 ?_
      refine wpAny_bind (wpAny_runValue ?_)
      have e3 : A.in1.in1.in1.handled = none := by simp [calm]
      have zz : (mid_tuple s led).heap.objs.size = s.heap.objs.size + 1 := Heap.size_push _ _
      have nI : l ≠ (mid_tuple s led).heap.objs.size := fun h =>
        absurd (show l < l from Nat.lt_of_lt_of_le lS (by rw [h, zz]; exact Nat.le_succ _)) (Nat.lt_irrefl l)
      have nS : s.heap.objs.size ∉ [(mid_tuple s led).heap.objs.size, l] := by
        simp only [List.mem_cons, List.not_mem_nil, or_false, not_or]
        exact ⟨fun h => Nat.succ_ne_self _ (zz.symm.trans h.symm), fun h => Nat.lt_irrefl _ (h ▸ lS)⟩
      have len : xs.length = items.size := (StrsAre.len_eq tx).symm.trans (Array.length_toList ..)
      have val : ∀ (i : Nat) (v : Value), items[i]? = some v → ∃ t, v = .str (xs.getD i Str.empty) t := by
        intro i v hv
        exact SS.strs_at tx i v ((Array.getElem?_toList ..).trans hv)
      refine loop_txt ((Walks.tuple e3 _ l nI items).toS) s.heap.objs.size nS xs len room val
        (items.size - 0) 0 _ (by omega) (Nat.zero_le _)
        ⟨⟨_, Heap.get?_push_size _ rfl, rfl, rfl⟩, (hl1.push _)⟩ ?caseF ?caseN
      case caseF =>
        refine SetOf_congr ((setObjOf_fresh (knd := strKind prog w) led).setOf
          (Heap.get?_push_of_some _ fS) (by unfold scanBound; omega)) (fun k => ?_) ?_
        · simp [inn]
        · simp [fm]
      case caseN =>
        intro s3 mv F
        obtain ⟨h3, g3, d3, t3, o3⟩ := s3
        have eg : g3 = s.gens := mv.gens
        have ed : d3 = s.drawn := mv.drawn
        have eo : o3 = s.os := mv.os
        subst eg; subst ed; subst eo
        refine wpAny_pure (wpAny_pure ⟨rfl, h3, t3, rfl, F, fun b o hb e => ?_⟩)
        have n1 : b ≠ s.heap.objs.size := by omega
        have n2 : b ≠ (mid_tuple s led).heap.objs.size := by omega
        refine mv.heap b o ?_ (Heap.get?_push_of_some _ (Heap.get?_push_of_some _ e))
        simp only [List.mem_cons, List.not_mem_nil, or_false, not_or]
        exact ⟨n1, n2⟩
    · match r2, hr2 with
      | .error e, hr2 => exact hr2
      | .ok (.ret r), hr2 =>
        obtain ⟨rfl, h', tk, rfl, F, kept⟩ := hr2
        repeat (any_goals (first
          | assumption
          | wp_step))
        exact next _ _ F kept
      | .ok .next, hr2 => exact hr2.elim
      | .ok .brk, hr2 => exact hr2.elim
      | .ok .cont, hr2 => exact hr2.elim
  | .ok .next, hr => exact hr.elim
  | .ok .brk, hr => exact hr.elim
  | .ok .cont, hr => exact hr.elim
end
end TS
namespace L2
open PySem PySem.Spec PyProof.Rows
/-- len(set(xs)): how many unlike texts there are -/
def tLenSetN (K : PySem.W.Frag) (ta : TE) : TE := fun σ H Q =>
  ta σ H fun x H1 => ∃ l, ∃ xs : List Str, x = .ref l ∧
    (SqL K H1 l (xs.map V.str) ∨ SqT K H1 l (xs.map V.str)) ∧
    xs.length ≤ 1000 ∧ Q (.int (TS.fm xs).length) H1
section
variable {X : Cx}
set_option maxHeartbeats 1600000 in
theorem pe_lenSetN {a : Expr} {ta : TE} {p p2 q pos : Pos} (hc : X.calm = true)
    (g1 : Gl X "len") (m1 : X.mg "len" = none) (g2 : Gl X "set") (m2 : X.mg "set" = none) (ha : PE X a ta)
    (na : starEach [a] X.env = (false, eval a X.env) :: starEach [] X.env := by rfl) :
    PE X (.Call (.Name "len" p) [.Call (.Name "set" p2) [a] [] q] [] pos) (tLenSetN X.K ta) := by
  refine ⟨fun pins s σ H Q I h => Call_ (ld_blt I g1 m1 boot_len ?_)⟩
  refine callWith_builtin1 (args_cons ?_ rfl) rfl rfl
  refine Call_ (ld_blt I g2 m2 boot_set (callWith_type1 (args_cons (thn (ha.run pins s σ H _ I h)
    fun v s1 ⟨x, H1, I1, r1, q1⟩ => args_nil ?_) na) na rfl))
  obtain ⟨l, xs, rfl, sq, room, q2⟩ := q1
  cases r1
  have fin : ∀ (its : List Value), Vals (xs.map V.str) its → ∀ (h2 : Heap) (tk : Nat),
      TS.Full X.prog X.w h2 s1.heap.objs.size xs its.toArray.size →
      (∀ b o, b < s1.heap.objs.size → s1.heap.get? b = some o → h2.get? b = some o) →
      wpAny (model X.prog X.w) X.A (spliced (backTo pos (starEach [] X.env)))
        (fun vs s3 => wpAny (model X.prog X.w) X.A
          (call (.builtin "len") (Value.ref s1.heap.objs.size :: vs)) (EP X pins σ Q) X.xe s3)
        X.xe { s1 with heap := h2, toks := tk } := by
    intro its r h2 tk F kept
    have en : its.toArray.size = xs.length := by rw [List.size_toArray, ← r.length, List.length_map]
    unfold TS.Full at F
    rw [en, List.take_length] at F
    obtain ⟨o, es, ep, t, g, ex, d, _, _, few, fits, en2⟩ := F
    have I2 : Inv X pins σ H1 { s1 with heap := h2, toks := tk } :=
      I1.kept fun b o e => kept b o (Heap.lt_size e) e
    have le := TS.fm_le xs
    exact args_nil (call_len_set g ex d fits (by omega)
      ⟨.int (TS.fm xs).length, H1, I2.tok _, ⟨_, by rw [en2]⟩, q2⟩)
  have sz : ∀ (its : List Value), Vals (xs.map V.str) its → its.toArray.size + 1 < scanBound := by
    intro its r
    have en : its.toArray.size = xs.length := by rw [List.size_toArray, ← r.length, List.length_map]
    unfold scanBound
    omega
  rcases sq with sq | sq
  · obtain ⟨its, r, pl, z⟩ := I1.list sq
    exact TS.set_of_list (I1.ok.hd hc) pl.isList (by simpa using strsAre_of r) (sz its r)
      fun h2 tk F kept => fin its r h2 tk F kept
  · obtain ⟨its, r, pl, z⟩ := I1.tuple sq
    exact TS.set_of_tuple (I1.ok.hd hc) pl (by simpa using strsAre_of r) (sz its r)
      fun h2 tk F kept => fin its r h2 tk F kept
end
end L2
set_option maxHeartbeats 4000000
/-! def m(self, ..): return super().m(..) in an own class D, for an instance of the class C -/
namespace SU
open PySem PySem.Spec PyProof.Rows L2 ClX NdefX
/-- what of the text and of the classes is read -/
structure SupD (P : Program) (K : PySem.W.Frag) (mg : Str → Option Value) (f f2 cc cda C D : Addr) (F : NF) (N ps : List Str) (sf m : Str) : Prop where
  code : PySem.W.codeIn K (.ref cda) F.qual = true
  fc : F.c = cda
  fcl : F.cl = [(("__class__" : Str), cc)]
  sc : NScope N ps [("__class__" : Str)] F.scope
  hd : ∃ ps2, ps = sf :: ps2
  first : ∃ ar : Arg, (F.params.posonlyargs ++ F.params.args).head? = some ar ∧ ar.arg = sf
  file : ∃ (ccl : Value) (cdd : Option Addr) (vs : Array Value) (ccs : Array (Option Value)) (file : Str) (tf : Tok), K.lookup cda = some ⟨ccl, cdd, .fields vs, ccs⟩ ∧ vs[2]? = some (.str file tf) ∧ ((P.main.file : Str) == file) = true
  cell : ∃ (cl : Value) (cld : Option Addr) (csl : Array (Option Value)), K.lookup cc = some ⟨cl, cld, .cell (some (.ref D)), csl⟩
  isD : ∃ cdD, PySem.W.clsIn K D = some cdD
  sub : PySem.W.mroIn K C (.ref D) = some true
  no : mg "super" = none
  hs : F.scope.names.lookup ("super" : Str) = some .globalImplicit
  top : (P.main.scope.names.lookup ("super" : Str)).isSome = false
  ma : (m == ("__class__" : Str)) = false
  opq : PySem.W.nsIn K cStatics "thirdparty.any" = some none
  at_ : PySem.W.ks_superIn K C D m = some (some (.ref f2))
  fi : PySem.W.fnIn K f2 = true
  ty : PySem.W.typeIn K (.ref f2) = some (.type "function")
section
variable {P : Program} {w : World} {K : PySem.W.Frag} {mg : Str → Option Value} {base : Heap}
variable {f f2 cc cda C D : Addr} {F : NF} {N ps : List Str} {sf m : Str}
variable {CX : CXT} {A : Around} {outer : List Env} {s0 : Shared} {H0 : Hp} {E : XK}
theorem cells_at (S : SupD P K mg f f2 cc cda C D F N ps sf m) {h : Heap} {H : Hp} (X : K.In h) (free : H cc = none) :
    CellsAt F.cl ["__class__"] [some (.ref D)] h H := by
  obtain ⟨cl, cld, csl, k⟩ := S.cell
  have ic : h.IsCell cc (some (.ref D)) := ⟨_, X _ _ k, rfl⟩
  have one : ∀ (y : Str) (c : Addr), F.cl.lookup y = some c → c = cc ∧ y = "__class__" := by
    intro y c e
    rw [S.fcl] at e
    simp only [List.lookup] at e
    split at e
    · rename_i q
      exact ⟨(Option.some.inj e).symm, by simpa using q⟩
    · cases e
  refine ⟨rfl, fun y c e => ?_, fun x y c e1 e2 => ?_, fun i y e => ?_⟩
  · obtain ⟨rfl, _⟩ := one y c e
    exact ⟨free, _, ic⟩
  · exact (one x c e1).2.trans (one y c e2).2.symm
  · match i, e with
    | 0, e =>
      cases e
      refine ⟨cc, by rw [S.fcl]; rfl, fun v hv => ?_⟩
      cases hv
      exact ⟨.ref D, rfl, ic⟩
/-- super().m, then what is called -/
theorem base_of (S : SupD P K mg f f2 cc cda C D F N ps sf m) {x : Addr} {dx : Addr} {fs : List (Str × V)} {body : List Stmt} {p0 p1 : Pos}
    {σ : L2.St} {H : Hp} {s : Shared} {pl : Sem Bool} {fd : FuncData} {oc : Value} {od : Option Addr} {osl : Array (Option Value)} {whole : Sem Value} {Q : Value × List Value → Shared → Prop}
    (lk : K.lookup f = some ⟨oc, od, .func fd, osl⟩) (fp : fd.params = F.params)
    (I : Inv (ncx CX P w K mg base N F f A outer s0 H0 E) [] σ H s) (e0 : σ[0]? = some (some (.ref x))) (n0 : N[0]? = some sf) (hx : H x = some (.ins C dx fs))
    (next : ∀ q s2, Inv (ncx CX P w K mg base N F f A outer s0 H0 E) [(q, PySem.W.methodObj (.ref f2) (.ref x))] σ H s2 → base.get? q = none →
      Q (.ref q, []) s2) :
    _root_.PySem.wpAt (model P w) (A.deeper (envF F f s0.heap.objs.size)) (.func body (envF F f s0.heap.objs.size))
      (attributeBase (.Call (.Name "super" p0) [] [] p1) m (envF F f s0.heap.objs.size) whole)
      (fun ov s1 => wpAny (model P w) (A.deeper (envF F f s0.heap.objs.size)) (getMethod ov m pl) Q
        (ncx CX P w K mg base N F f A outer s0 H0 E).xe s1) (ncx CX P w K mg base N F f A outer s0 H0 E).xe s := by
  have X1 : K.In s.heap := I.kIn
  obtain ⟨cl, cld, csl, kc⟩ := S.cell
  obtain ⟨ar, ha, ea⟩ := S.first
  obtain ⟨ccl, cdd, vs, ccs, file, tf, k1, k2, k3⟩ := S.file
  obtain ⟨cdD, hD⟩ := S.isD
  obtain ⟨oD, hD1, hD2⟩ : ∃ oD, s.heap.get? D = some oD ∧ oD.data = .cls cdD := by
    unfold PySem.W.clsIn at hD
    split at hD
    · rename_i c d cd' sl ho
      cases hD
      exact ⟨_, X1 _ _ ho, rfl⟩
    · cases hD
  obtain ⟨mA, O, _⟩ := ins_get I.hok hx
  obtain ⟨od2, J, _⟩ := O.look
  obtain ⟨mm, hns, hv⟩ := I.loc
  have kl : F.scope.names.lookup sf = some .local := by
    obtain ⟨ps2, e⟩ := S.hd
    exact S.sc.par sf (by rw [e]; exact List.mem_cons_self)
  have kf : F.scope.names.lookup ("__class__" : Str) = some .free := S.sc.frk _ List.mem_cons_self
  have vx : mm sf = some (.ref x) := by
    obtain ⟨u, ru, lu⟩ := hv 0 sf (.ref x) n0 e0 (.inl kl)
    obtain rfl : u = Value.ref x := ru
    rcases lu with ⟨_, e⟩ | ⟨e, _⟩
    · exact e
    · have e : F.scope.names.lookup sf = some .cell ∨ F.scope.names.lookup sf = some .free := e
      rw [kl] at e
      rcases e with e | e <;> cases e
  have gl := I.ok.mod.glob.keeps I.bk
  obtain ⟨mb, b1, b2⟩ := I.ok.mod.blt
  refine ks_wpAt_super_base (env := envF F f s0.heap.objs.size) S.hs kf S.ma rfl (X1 _ _ lk) rfl (by rw [fp]; exact ha)
    (by show Value.ref F.c = _; rw [S.fc]) (X1 _ _ k1) rfl k2 k3 S.top ?_
  refine PySem.W.ks_loadName_global S.sc.kind S.hs (PySem.Calls.loadGlobal_builtin gl S.no (b1.keeps I.bk) ((b2 _ (by decide)).trans (by boot_by_name)) ⟨rfl, ?_⟩)
  refine wpAny_loadName_free S.sc.kind kf (by show F.cl.lookup _ = _; rw [S.fcl]; rfl) ⟨_, X1 _ _ kc, rfl⟩ ?_
  rw [ea]
  refine wpAny_loadName_local S.sc.kind kl hns vx ?_
  obtain ⟨hh, g, d, t, os⟩ := s
  refine ks_wpAny_isType_cls hD1 hD2 ⟨rfl, ?_⟩
  refine ks_wpAny_call_super hD1 hD2 J.at_ J.cls (fun c e => ?_) (PySem.W.looks_mroIn X1 S.sub) (fun h' e k => ?_)
  · have no := J.no
    unfold PySem.W.notCls at no
    rw [e] at no
    exact Bool.noConfusion no
  have I2 := I.kept (t' := t) k
  have X2 : K.In h' := I2.kIn
  obtain ⟨cdC, hC⟩ : ∃ cdC, PySem.W.clsIn K C = some cdC := by
    cases z : PySem.W.clsIn K C with
    | some cd => exact ⟨cd, rfl⟩
    | none =>
      have q := S.at_
      unfold PySem.W.ks_superIn at q
      rw [z] at q
      cases q
  have at2 := S.at_
  unfold PySem.W.ks_superIn at at2
  rw [hC, Option.bind_some] at at2
  obtain ⟨of, hof, hofc⟩ : ∃ of, h'.get? f2 = some of ∧ of.cls = .type "function" := by
    have q : (K.lookup f2).map (·.cls) = some (.type "function") := S.ty
    cases z : K.lookup f2 with
    | none => rw [z] at q; cases q
    | some of => rw [z] at q; exact ⟨of, X2 _ _ z, Option.some.inj q⟩
  refine ks_wpAny_getMethod_super e (PySem.W.looks_opaque X2 S.opq) (l₀ := cdC.mro) ?_ rfl X2 at2 hof hofc (PySem.W.ks_ne X1 J hC) S.ma ?_
  · exact fun A Q E s k q => wpAny_bind ((PySem.W.looks_clsIn X2 hC) A _ E s k (wpAny_pure q))
  · have up : ∀ b u, h'.get? b = some u → (h'.push (PySem.W.methodObj (.ref f2) (.ref x))).get? b = some u :=
      fun b u z => Heap.get?_push_of_some _ z
    exact next _ _ (pin_new I2 up (Nat.le_refl _) (Heap.get?_push_size h' rfl) (fun v z => nomatch z)) (base_none I2 (Nat.le_refl _))

/-- THE RULE: the def's promise, from that of the call of the base's def (cw) -/
theorem sup_fn {k : Nat} {good : L2.St → Hp → Addr → VK → XK → Prop} {p0 p1 apos pos pr : Pos} {pl : Env → Sem Bool} {es : List Expr}
    {oc : Value} {od : Option Addr} {osl : Array (Option Value)} {dV kV doc pm ct : Value} {an : Option Addr}
    (S : SupD P K mg f f2 cc cda C D F N ps sf m) (n0 : N[0]? = some sf)
    (lk : K.lookup f = some ⟨oc, od, .func (PySem.W.ksFn F.name F.qual F.params F.body F.scope dV kV doc pm an (.ref cda) ct cc), osl⟩)
    (bd : F.body = [.Return (some (.Call (.Attribute (.Call (.Name "super" p0) [] [] p1) m apos) es [] pos)) pr])
    (ev : ∀ env : Env, eval (.Call (.Attribute (.Call (.Name "super" p0) [] [] p1) m apos) es [] pos) env = (do
      let ov ← attributeBase (.Call (.Name "super" p0) [] [] p1) m env (eval (.Call (.Name "super" p0) [] [] p1) env)
      standAt apos.atName
      let (f, first) ← holding [ov] (getMethod ov m (pl env))
      callWith pos f first (backTo pos (starEach es env)) []))
    (cw : ∀ (A : Around) (outer : List Env) (s : Shared) (H : Hp) (E : XK) (q a : Addr) (σ : L2.St) (H1 : Hp) (s1 : Shared) (Q : VK),
      Room k (A.deeper (envF F f s.heap.objs.size)) →
      Inv (ncx CX P w K mg base N F f A outer s H E) [(q, PySem.W.methodObj (.ref f2) (.ref a))] σ H1 s1 → base.get? q = none → good σ H1 a Q E →
      wpAny (model P w) (A.deeper (envF F f s.heap.objs.size)) (callWith pos (.ref q) [] (backTo pos (starEach es (envF F f s.heap.objs.size))) [])
        (EP (ncx CX P w K mg base N F f A outer s H E) [(q, PySem.W.methodObj (.ref f2) (.ref a))] σ Q) (ncx CX P w K mg base N F f A outer s H E).xe s1) :
    FnOk P w K mg base CX (k + 1) f (PySem.W.ksFn F.name F.qual F.params F.body F.scope dV kV doc pm an (.ref cda) ct cc) ps
      (fun vs H Q E => ∃ a dx fs rest, vs = V.ref a :: rest ∧ H a = some (.ins C dx fs) ∧ vs.length = ps.length ∧ good (startF N vs [some (.ref D)]) H a Q E) := by
  refine ⟨fun vs H Q E ⟨_, _, _, _, _, _, h, _⟩ => h, fun A outer s H args us vs Q E hr e0 hb r hsp => ?_⟩
  obtain ⟨a, dx, fs, rest, ev0, ha, hl, hsp⟩ := hsp
  subst ev0
  have KX : K.In s.heap := e0.mod.kin.keeps fun b o e => (e0.bs b o e).1
  have lim : s.heap.NoLimit := e0.mod.nolimit.keeps fun b o e => (e0.bs b o e).1
  have hcc : H cc = none := by
    obtain ⟨cl, cld, csl, kc⟩ := S.cell
    exact (e0.bs cc _ (e0.mod.kin _ _ kc)).2
  refine ks_codeAny_call_defAt (binds := ps.zip us) hr.depth (KX _ _ lk) rfl lim (PySem.W.codeRec_of KX S.code) rfl hb S.sc.nocell
    (fun ⟨n, v⟩ hy => S.sc.par n (List.of_mem_zip hy).1) (fun h₁ hns kp => ?_) S.sc.co S.sc.gen S.sc.kind
  have I : Inv (ncx CX P w K mg base N F f A outer s H E) [] (startF N (V.ref a :: rest) [some (.ref D)]) H
      { s with heap := h₁, toks := s.toks + (ps.zip us).length } := inv_startN S.sc hr.hd e0 hl r (cells_at S KX hcc) hns kp
  have ee : callEnv (PySem.W.ksFn F.name F.qual F.params F.body F.scope dV kV doc pm an (.ref cda) ct cc) s.heap.objs.size f = envF F f s.heap.objs.size := by
    unfold envF
    rw [S.fc, S.fcl]
    rfl
  rw [ee, show execs F.body (envF F f s.heap.objs.size) = execs _ (envF F f s.heap.objs.size) from congrArg (fun b => execs b (envF F f s.heap.objs.size)) bd]
  refine ks_wpAt_execs_cons (ks_wpAt_Return_some (ks_wpAt_MethodCall (pl := pl (envF F f s.heap.objs.size)) ?_ (ev _)))
  refine base_of S lk rfl I rfl n0 ha fun q s2 I2 nb => ?_
  refine wpAny_mono (cw A outer s H E q a _ H s2 Q (hr.deeper _) I2 nb hsp) (fun u s3 h => ?_) fun e s3 h => h
  obtain ⟨v, H3, J, rv, q3⟩ := unpinE h
  exact ⟨v, H3, J.os, J.bare, J.base, J.hok, rv, q3⟩
end
section
variable {X : Cx} {CX : CXT} {k : Nat} {f2 q a : Addr} {fd2 : FuncData} {ps2 : List Str} {sp : Sp} {E : XK} {pins : List (Addr × Obj)} {σ : L2.St} {H : Hp} {s : Shared} {pos : Pos}
/-- the bound def of the base runs -/
theorem run_sup {Q : VK} {us : List Value} {vs : List V} (F2 : FnOk X.prog X.w X.K X.mg X.base CX k f2 fd2 ps2 sp) (hr : Room k X.A)
    (b2 : Binds X.K fd2 ps2 []) (hx : Passes CX X E) (I : Inv X ((q, PySem.W.methodObj (.ref f2) (.ref a)) :: pins) σ H s) (r : Vals vs us)
    (h : sp (.ref a :: vs) H Q E) :
    wpAny (model X.prog X.w) X.A (call (.ref q) us) (EP X ((q, PySem.W.methodObj (.ref f2) (.ref a)) :: pins) σ Q) X.xe s := by
  have r2 : Vals (V.ref a :: vs) (.ref a :: us) := .cons rfl r
  have hl : (Value.ref a :: us ++ []).length = ps2.length := by rw [List.append_nil, ← r2.length]; exact F2.len _ _ _ _ h
  have hb := b2 s (.ref a :: us) I.kIn hl
  rw [List.append_nil] at hb
  refine wpAny_call (PySem.W.method_call (pin_at I) (codeAny_mono (F2.run X.A X.stack s H ⟨.ref a :: us, []⟩ (.ref a :: us) (.ref a :: vs) Q E hr I.env0 hb r2 h) fun r s2 hq => ?_))
  match r, hq with
  | .error e, hq => exact hx _ σ H s e s2 I hq
  | .ok (.ret u), hq => exact I.after hq
  | .ok .next, hq => exact False.elim hq
  | .ok .brk, hq => exact False.elim hq
  | .ok .cont, hq => exact False.elim hq
/-- with nothing handed on -/
theorem cw0 {Q : VK} (fi : PySem.W.fnIn X.K f2 = true) (F2 : FnOk X.prog X.w X.K X.mg X.base CX k f2 fd2 ps2 sp) (hr : Room k X.A)
    (b2 : Binds X.K fd2 ps2 []) (hx : Passes CX X E) (I : Inv X ((q, PySem.W.methodObj (.ref f2) (.ref a)) :: pins) σ H s)
    (h : sp [.ref a] H Q E) :
    wpAny (model X.prog X.w) X.A (callWith pos (.ref q) [] (backTo pos (starEach [] X.env)) [])
      (EP X ((q, PySem.W.methodObj (.ref f2) (.ref a)) :: pins) σ Q) X.xe s :=
  PySem.W.callWith_M0 ⟨pin_at I, I.kIn⟩ fi (run_sup F2 hr b2 hx I .nil h)
/-- with arguments handed on -/
theorem cw1 {Q : VK} {e : Expr} {es : List Expr} {t : TA} (fi : PySem.W.fnIn X.K f2 = true) (F2 : FnOk X.prog X.w X.K X.mg X.base CX k f2 fd2 ps2 sp) (hr : Room k X.A)
    (b2 : Binds X.K fd2 ps2 []) (hx : Passes CX X E) (I : Inv X ((q, PySem.W.methodObj (.ref f2) (.ref a)) :: pins) σ H s)
    (nb : X.base.get? q = none) (ha : PA X (e :: es) t) (h : t σ H fun vs H2 => sp (.ref a :: vs) H2 Q E)
    (hst : starEach (e :: es) X.env = (false, eval e X.env) :: starEach es X.env := by rfl) (hpl : (backTo pos (starEach es X.env)).any (·.1) = false := by rfl) :
    wpAny (model X.prog X.w) X.A (callWith pos (.ref q) [] (backTo pos (starEach (e :: es) X.env)) [])
      (EP X ((q, PySem.W.methodObj (.ref f2) (.ref a)) :: pins) σ Q) X.xe s := by
  have hL : q ≠ X.env.locals := (I.pin (q, PySem.W.methodObj (.ref f2) (.ref a)) (List.mem_append_right _ List.mem_cons_self)).2.2.1
  refine PySem.W.callWith_M (K := X.K) (h₀ := X.base) (first := []) I.ok.mod.kin (news_at hL nb (pin_at I)) List.mem_cons_self fi
    (thn (ha.run pos _ s σ H _ I h) fun us s3 ⟨vs, H2, I3, rv, q2⟩ => ⟨⟨pin_at I3, I3.kIn⟩, run_sup F2 hr b2 hx I3 rv q2⟩) hst hpl
end
end SU
set_option maxHeartbeats 4000000
namespace K08
open PySem PySem.Spec PyProof.Rows L2
/-! ### the text -/
def topS (i : Nat) : Stmt := PySem.Challenge.pw_rolereach_k08_things_made.main.body.getD i (.Pass ⟨0, 0, 0, 0⟩)
abbrev s_InvalidName_init : Stmt := inClass (topS 2) 0
abbrev N_InvalidName_init : List Str := ["self", "value"]
theorem sc_InvalidName_init : FnScope N_InvalidName_init ["self", "value"] (defScope s_InvalidName_init) := ⟨rfl, rfl, rfl, by decide +kernel, rfl, by decide +kernel, by decide +kernel⟩
abbrev s_InvalidTaker_init : Stmt := inClass (topS 3) 0
abbrev N_InvalidTaker_init : List Str := ["self", "value"]
theorem sc_InvalidTaker_init : FnScope N_InvalidTaker_init ["self", "value"] (defScope s_InvalidTaker_init) := ⟨rfl, rfl, rfl, by decide +kernel, rfl, by decide +kernel, by decide +kernel⟩
abbrev s_InvalidRight_init : Stmt := inClass (topS 4) 0
abbrev N_InvalidRight_init : List Str := ["self", "value"]
theorem sc_InvalidRight_init : FnScope N_InvalidRight_init ["self", "value"] (defScope s_InvalidRight_init) := ⟨rfl, rfl, rfl, by decide +kernel, rfl, by decide +kernel, by decide +kernel⟩
abbrev s_InvalidKind_init : Stmt := inClass (topS 5) 0
abbrev N_InvalidKind_init : List Str := ["self", "value"]
theorem sc_InvalidKind_init : FnScope N_InvalidKind_init ["self", "value"] (defScope s_InvalidKind_init) := ⟨rfl, rfl, rfl, by decide +kernel, rfl, by decide +kernel, by decide +kernel⟩
abbrev s_InvalidFlag_init : Stmt := inClass (topS 6) 0
abbrev N_InvalidFlag_init : List Str := ["self", "value"]
theorem sc_InvalidFlag_init : FnScope N_InvalidFlag_init ["self", "value"] (defScope s_InvalidFlag_init) := ⟨rfl, rfl, rfl, by decide +kernel, rfl, by decide +kernel, by decide +kernel⟩
abbrev s_InvalidAudience_init : Stmt := inClass (topS 7) 0
abbrev N_InvalidAudience_init : List Str := ["self", "value"]
theorem sc_InvalidAudience_init : FnScope N_InvalidAudience_init ["self", "value"] (defScope s_InvalidAudience_init) := ⟨rfl, rfl, rfl, by decide +kernel, rfl, by decide +kernel, by decide +kernel⟩
abbrev s_InvalidMode_init : Stmt := inClass (topS 8) 0
abbrev N_InvalidMode_init : List Str := ["self", "value"]
theorem sc_InvalidMode_init : FnScope N_InvalidMode_init ["self", "value"] (defScope s_InvalidMode_init) := ⟨rfl, rfl, rfl, by decide +kernel, rfl, by decide +kernel, by decide +kernel⟩
abbrev s_InvalidBody_init : Stmt := inClass (topS 9) 0
abbrev N_InvalidBody_init : List Str := ["self", "value"]
theorem sc_InvalidBody_init : FnScope N_InvalidBody_init ["self", "value"] (defScope s_InvalidBody_init) := ⟨rfl, rfl, rfl, by decide +kernel, rfl, by decide +kernel, by decide +kernel⟩
abbrev s_is_name : Stmt := topS 15
abbrev N_is_name : List Str := ["value"]
theorem sc_is_name : FnScope N_is_name ["value"] (defScope s_is_name) := ⟨rfl, rfl, rfl, by decide +kernel, rfl, by decide +kernel, by decide +kernel⟩
abbrev s_is_taker : Stmt := topS 16
abbrev N_is_taker : List Str := ["value"]
theorem sc_is_taker : FnScope N_is_taker ["value"] (defScope s_is_taker) := ⟨rfl, rfl, rfl, by decide +kernel, rfl, by decide +kernel, by decide +kernel⟩
abbrev s_is_right : Stmt := topS 17
abbrev N_is_right : List Str := ["value"]
theorem sc_is_right : FnScope N_is_right ["value"] (defScope s_is_right) := ⟨rfl, rfl, rfl, by decide +kernel, rfl, by decide +kernel, by decide +kernel⟩
abbrev s_is_kind : Stmt := topS 18
abbrev N_is_kind : List Str := ["value"]
theorem sc_is_kind : FnScope N_is_kind ["value"] (defScope s_is_kind) := ⟨rfl, rfl, rfl, by decide +kernel, rfl, by decide +kernel, by decide +kernel⟩
abbrev s_is_flag : Stmt := topS 19
abbrev N_is_flag : List Str := ["value"]
theorem sc_is_flag : FnScope N_is_flag ["value"] (defScope s_is_flag) := ⟨rfl, rfl, rfl, by decide +kernel, rfl, by decide +kernel, by decide +kernel⟩
abbrev s_is_list : Stmt := topS 20
abbrev N_is_list : List Str := ["value"]
theorem sc_is_list : FnScope N_is_list ["value"] (defScope s_is_list) := ⟨rfl, rfl, rfl, by decide +kernel, rfl, by decide +kernel, by decide +kernel⟩
abbrev s_is_names : Stmt := topS 21
abbrev N_is_names : List Str := ["value", "most", "item"]
theorem sc_is_names : FnScope N_is_names ["value", "most"] (defScope s_is_names) := ⟨rfl, rfl, rfl, by decide +kernel, rfl, by decide +kernel, by decide +kernel⟩
abbrev s_rights_of : Stmt := topS 22
abbrev N_rights_of : List Str := ["kind"]
theorem sc_rights_of : FnScope N_rights_of ["kind"] (defScope s_rights_of) := ⟨rfl, rfl, rfl, by decide +kernel, rfl, by decide +kernel, by decide +kernel⟩
abbrev s_check_name : Stmt := topS 24
abbrev N_check_name : List Str := ["value"]
theorem sc_check_name : FnScope N_check_name ["value"] (defScope s_check_name) := ⟨rfl, rfl, rfl, by decide +kernel, rfl, by decide +kernel, by decide +kernel⟩
abbrev s_check_taker : Stmt := topS 25
abbrev N_check_taker : List Str := ["value"]
theorem sc_check_taker : FnScope N_check_taker ["value"] (defScope s_check_taker) := ⟨rfl, rfl, rfl, by decide +kernel, rfl, by decide +kernel, by decide +kernel⟩
abbrev s_check_right : Stmt := topS 26
abbrev N_check_right : List Str := ["value"]
theorem sc_check_right : FnScope N_check_right ["value"] (defScope s_check_right) := ⟨rfl, rfl, rfl, by decide +kernel, rfl, by decide +kernel, by decide +kernel⟩
abbrev s_check_option : Stmt := topS 27
abbrev N_check_option : List Str := ["value", "taker"]
theorem sc_check_option : FnScope N_check_option ["value", "taker"] (defScope s_check_option) := ⟨rfl, rfl, rfl, by decide +kernel, rfl, by decide +kernel, by decide +kernel⟩
abbrev s_Give_init : Stmt := inClass (topS 33) 0
abbrev N_Give_init : List Str := ["self", "right", "thing", "taker", "option"]
theorem sc_Give_init : FnScope N_Give_init ["self", "right", "thing", "taker", "option"] (defScope s_Give_init) := ⟨rfl, rfl, rfl, by decide +kernel, rfl, by decide +kernel, by decide +kernel⟩
abbrev s_Give_eq : Stmt := inClass (topS 33) 1
abbrev N_Give_eq : List Str := ["self", "other"]
theorem sc_Give_eq : FnScope N_Give_eq ["self", "other"] (defScope s_Give_eq) := ⟨rfl, rfl, rfl, by decide +kernel, rfl, by decide +kernel, by decide +kernel⟩
abbrev s_Give_str : Stmt := inClass (topS 33) 2
abbrev N_Give_str : List Str := ["self", "words"]
theorem sc_Give_str : FnScope N_Give_str ["self"] (defScope s_Give_str) := ⟨rfl, rfl, rfl, by decide +kernel, rfl, by decide +kernel, by decide +kernel⟩
abbrev s_Call_init : Stmt := inClass (topS 34) 0
abbrev N_Call_init : List Str := ["self", "function"]
theorem sc_Call_init : FnScope N_Call_init ["self", "function"] (defScope s_Call_init) := ⟨rfl, rfl, rfl, by decide +kernel, rfl, by decide +kernel, by decide +kernel⟩
abbrev s_Call_eq : Stmt := inClass (topS 34) 1
abbrev N_Call_eq : List Str := ["self", "other"]
theorem sc_Call_eq : FnScope N_Call_eq ["self", "other"] (defScope s_Call_eq) := ⟨rfl, rfl, rfl, by decide +kernel, rfl, by decide +kernel, by decide +kernel⟩
abbrev s_Call_str : Stmt := inClass (topS 34) 2
abbrev N_Call_str : List Str := ["self"]
theorem sc_Call_str : FnScope N_Call_str ["self"] (defScope s_Call_str) := ⟨rfl, rfl, rfl, by decide +kernel, rfl, by decide +kernel, by decide +kernel⟩
abbrev s_Thing_init : Stmt := inClass (topS 35) 0
abbrev N_Thing_init : List Str := ["self", "kind", "name", "owner", "audience", "admitted"]
theorem sc_Thing_init : FnScope N_Thing_init ["self", "kind", "name", "owner", "audience"] (defScope s_Thing_init) := ⟨rfl, rfl, rfl, by decide +kernel, rfl, by decide +kernel, by decide +kernel⟩
abbrev s_Thing_audience : Stmt := inClass (topS 35) 1
abbrev N_Thing_audience : List Str := ["self"]
theorem sc_Thing_audience : FnScope N_Thing_audience ["self"] (defScope s_Thing_audience) := ⟨rfl, rfl, rfl, by decide +kernel, rfl, by decide +kernel, by decide +kernel⟩
abbrev s_Thing_rights : Stmt := inClass (topS 35) 2
abbrev N_Thing_rights : List Str := ["self"]
theorem sc_Thing_rights : FnScope N_Thing_rights ["self"] (defScope s_Thing_rights) := ⟨rfl, rfl, rfl, by decide +kernel, rfl, by decide +kernel, by decide +kernel⟩
abbrev s_Thing_admits : Stmt := inClass (topS 35) 3
abbrev N_Thing_admits : List Str := ["self", "taker"]
theorem sc_Thing_admits : FnScope N_Thing_admits ["self", "taker"] (defScope s_Thing_admits) := ⟨rfl, rfl, rfl, by decide +kernel, rfl, by decide +kernel, by decide +kernel⟩
abbrev s_Thing_same_head : Stmt := inClass (topS 35) 4
abbrev N_Thing_same_head : List Str := ["self", "other"]
theorem sc_Thing_same_head : FnScope N_Thing_same_head ["self", "other"] (defScope s_Thing_same_head) := ⟨rfl, rfl, rfl, by decide +kernel, rfl, by decide +kernel, by decide +kernel⟩
abbrev s_Thing_audience_words : Stmt := inClass (topS 35) 5
abbrev N_Thing_audience_words : List Str := ["self"]
theorem sc_Thing_audience_words : FnScope N_Thing_audience_words ["self"] (defScope s_Thing_audience_words) := ⟨rfl, rfl, rfl, by decide +kernel, rfl, by decide +kernel, by decide +kernel⟩
abbrev s_Thing_eq : Stmt := inClass (topS 35) 6
abbrev N_Thing_eq : List Str := ["self", "other"]
theorem sc_Thing_eq : FnScope N_Thing_eq ["self", "other"] (defScope s_Thing_eq) := ⟨rfl, rfl, rfl, by decide +kernel, rfl, by decide +kernel, by decide +kernel⟩
abbrev s_Thing_str : Stmt := inClass (topS 35) 7
abbrev N_Thing_str : List Str := ["self", "words"]
theorem sc_Thing_str : FnScope N_Thing_str ["self"] (defScope s_Thing_str) := ⟨rfl, rfl, rfl, by decide +kernel, rfl, by decide +kernel, by decide +kernel⟩
abbrev s_Role_init : Stmt := inClass (topS 36) 0
abbrev N_Role_init : List Str := ["self", "name", "owner", "audience"]
theorem sc_Role_init : FnScope N_Role_init ["self", "name", "owner", "audience"] (defScope s_Role_init) := ⟨rfl, rfl, rfl, by decide +kernel, rfl, by decide +kernel, by decide +kernel⟩
abbrev s_Role_rights : Stmt := inClass (topS 36) 1
abbrev N_Role_rights : List Str := ["self", "__class__"]
theorem sc_Role_rights : NdefX.NScope N_Role_rights ["self"] [("__class__" : Str)] (defScope s_Role_rights) := NdefX.nscope_by (by decide +kernel)
abbrev s_Role_admits : Stmt := inClass (topS 36) 2
abbrev N_Role_admits : List Str := ["self", "taker", "__class__"]
theorem sc_Role_admits : NdefX.NScope N_Role_admits ["self", "taker"] [("__class__" : Str)] (defScope s_Role_admits) := NdefX.nscope_by (by decide +kernel)
abbrev s_Role_eq : Stmt := inClass (topS 36) 3
abbrev N_Role_eq : List Str := ["self", "other"]
theorem sc_Role_eq : FnScope N_Role_eq ["self", "other"] (defScope s_Role_eq) := ⟨rfl, rfl, rfl, by decide +kernel, rfl, by decide +kernel, by decide +kernel⟩
abbrev s_Table_init : Stmt := inClass (topS 37) 0
abbrev N_Table_init : List Str := ["self", "name", "owner", "audience"]
theorem sc_Table_init : FnScope N_Table_init ["self", "name", "owner", "audience"] (defScope s_Table_init) := ⟨rfl, rfl, rfl, by decide +kernel, rfl, by decide +kernel, by decide +kernel⟩
abbrev s_Table_rights : Stmt := inClass (topS 37) 1
abbrev N_Table_rights : List Str := ["self", "__class__"]
theorem sc_Table_rights : NdefX.NScope N_Table_rights ["self"] [("__class__" : Str)] (defScope s_Table_rights) := NdefX.nscope_by (by decide +kernel)
abbrev s_Table_admits : Stmt := inClass (topS 37) 2
abbrev N_Table_admits : List Str := ["self", "taker", "__class__"]
theorem sc_Table_admits : NdefX.NScope N_Table_admits ["self", "taker"] [("__class__" : Str)] (defScope s_Table_admits) := NdefX.nscope_by (by decide +kernel)
abbrev s_Table_eq : Stmt := inClass (topS 37) 3
abbrev N_Table_eq : List Str := ["self", "other"]
theorem sc_Table_eq : FnScope N_Table_eq ["self", "other"] (defScope s_Table_eq) := ⟨rfl, rfl, rfl, by decide +kernel, rfl, by decide +kernel, by decide +kernel⟩
abbrev s_Function_init : Stmt := inClass (topS 38) 0
abbrev N_Function_init : List Str := ["self", "name", "owner", "audience", "mode", "body"]
theorem sc_Function_init : FnScope N_Function_init ["self", "name", "owner", "audience", "mode", "body"] (defScope s_Function_init) := ⟨rfl, rfl, rfl, by decide +kernel, rfl, by decide +kernel, by decide +kernel⟩
abbrev s_Function_rights : Stmt := inClass (topS 38) 1
abbrev N_Function_rights : List Str := ["self", "__class__"]
theorem sc_Function_rights : NdefX.NScope N_Function_rights ["self"] [("__class__" : Str)] (defScope s_Function_rights) := NdefX.nscope_by (by decide +kernel)
abbrev s_Function_admits : Stmt := inClass (topS 38) 2
abbrev N_Function_admits : List Str := ["self", "taker", "__class__"]
theorem sc_Function_admits : NdefX.NScope N_Function_admits ["self", "taker"] [("__class__" : Str)] (defScope s_Function_admits) := NdefX.nscope_by (by decide +kernel)
abbrev s_Function_body : Stmt := inClass (topS 38) 3
abbrev N_Function_body : List Str := ["self"]
theorem sc_Function_body : FnScope N_Function_body ["self"] (defScope s_Function_body) := ⟨rfl, rfl, rfl, by decide +kernel, rfl, by decide +kernel, by decide +kernel⟩
abbrev s_Function_len : Stmt := inClass (topS 38) 4
abbrev N_Function_len : List Str := ["self"]
theorem sc_Function_len : FnScope N_Function_len ["self"] (defScope s_Function_len) := ⟨rfl, rfl, rfl, by decide +kernel, rfl, by decide +kernel, by decide +kernel⟩
abbrev s_Function_eq : Stmt := inClass (topS 38) 5
abbrev N_Function_eq : List Str := ["self", "other"]
theorem sc_Function_eq : FnScope N_Function_eq ["self", "other"] (defScope s_Function_eq) := ⟨rfl, rfl, rfl, by decide +kernel, rfl, by decide +kernel, by decide +kernel⟩
abbrev s_Function_str : Stmt := inClass (topS 38) 6
abbrev N_Function_str : List Str := ["self", "words", "deed"]
theorem sc_Function_str : FnScope N_Function_str ["self"] (defScope s_Function_str) := ⟨rfl, rfl, rfl, by decide +kernel, rfl, by decide +kernel, by decide +kernel⟩
abbrev s_is_body : Stmt := topS 39
abbrev N_is_body : List Str := ["value", "deed"]
theorem sc_is_body : FnScope N_is_body ["value"] (defScope s_is_body) := ⟨rfl, rfl, rfl, by decide +kernel, rfl, by decide +kernel, by decide +kernel⟩
abbrev s__law_cell : Stmt := topS 41
abbrev N__law_cell : List Str := ["_law_script", "_law_k"]
theorem sc__law_cell : FnScope N__law_cell ["_law_script", "_law_k"] (defScope s__law_cell) := ⟨rfl, rfl, rfl, by decide +kernel, rfl, by decide +kernel, by decide +kernel⟩
abbrev s__law_box : Stmt := topS 42
abbrev N__law_box : List Str := ["_law_cell_here"]
theorem sc__law_box : FnScope N__law_box ["_law_cell_here"] (defScope s__law_box) := ⟨rfl, rfl, rfl, by decide +kernel, rfl, by decide +kernel, by decide +kernel⟩
abbrev s__law_take : Stmt := topS 43
abbrev N__law_take : List Str := ["_law_box_here", "_law_many", "_law_digit", "_law_number"]
theorem sc__law_take : FnScope N__law_take ["_law_box_here", "_law_many"] (defScope s__law_take) := ⟨rfl, rfl, rfl, by decide +kernel, rfl, by decide +kernel, by decide +kernel⟩
abbrev s__law_names : Stmt := topS 44
abbrev N__law_names : List Str := ["_law_box_here", "_law_many", "_law_letters", "_law_stems", "_law_way", "_law_first", "_law_at", "_law_stem", "_law_found", "_law_letter", "_law_group", "_law_k"]
theorem sc__law_names : FnScope N__law_names ["_law_box_here", "_law_many"] (defScope s__law_names) := ⟨rfl, rfl, rfl, by decide +kernel, rfl, by decide +kernel, by decide +kernel⟩
abbrev s__law_mixed : Stmt := topS 45
abbrev N__law_mixed : List Str := ["_law_box_here", "_law_some", "_law_left", "_law_k"]
theorem sc__law_mixed : FnScope N__law_mixed ["_law_box_here", "_law_some"] (defScope s__law_mixed) := ⟨rfl, rfl, rfl, by decide +kernel, rfl, by decide +kernel, by decide +kernel⟩
abbrev s__law_rights : Stmt := topS 46
abbrev N__law_rights : List Str := ["_law_kind"]
theorem sc__law_rights : FnScope N__law_rights ["_law_kind"] (defScope s__law_rights) := ⟨rfl, rfl, rfl, by decide +kernel, rfl, by decide +kernel, by decide +kernel⟩
abbrev s__law_made : Stmt := topS 47
abbrev N__law_made : List Str := ["_law_row_here", "_law_admitted"]
theorem sc__law_made : FnScope N__law_made ["_law_row_here", "_law_admitted"] (defScope s__law_made) := ⟨rfl, rfl, rfl, by decide +kernel, rfl, by decide +kernel, by decide +kernel⟩
abbrev s__law_row : Stmt := topS 48
abbrev N__law_row : List Str := ["_law_box_here", "_law_names_here", "_law_admitted", "_law_owner"]
theorem sc__law_row : FnScope N__law_row ["_law_box_here"] (defScope s__law_row) := ⟨rfl, rfl, rfl, by decide +kernel, rfl, by decide +kernel, by decide +kernel⟩
abbrev s__law_lets : Stmt := topS 49
abbrev N__law_lets : List Str := ["_law_row_here", "_law_taker"]
theorem sc__law_lets : FnScope N__law_lets ["_law_row_here", "_law_taker"] (defScope s__law_lets) := ⟨rfl, rfl, rfl, by decide +kernel, rfl, by decide +kernel, by decide +kernel⟩
abbrev s__law_told_right : Stmt := topS 50
abbrev N__law_told_right : List Str := ["_law_row_here", "_law_thing", "_law_due", "_law_turn", "_law_found", "_law_some", "_law_name"]
theorem sc__law_told_right : FnScope N__law_told_right ["_law_row_here", "_law_thing"] (defScope s__law_told_right) := ⟨rfl, rfl, rfl, by decide +kernel, rfl, by decide +kernel, by decide +kernel⟩
abbrev s__law_otherwise : Stmt := topS 51
abbrev N__law_otherwise : List Str := ["_law_box_here", "_law_row_here", "_law_found", "_law_names_here", "_law_way", "_law_at", "_law_fresh", "_law_name"]
theorem sc__law_otherwise : FnScope N__law_otherwise ["_law_box_here", "_law_row_here"] (defScope s__law_otherwise) := ⟨rfl, rfl, rfl, by decide +kernel, rfl, by decide +kernel, by decide +kernel⟩
abbrev s__law_like : Stmt := topS 52
abbrev N__law_like : List Str := ["_law_one", "_law_other", "_law_name"]
theorem sc__law_like : FnScope N__law_like ["_law_one", "_law_other"] (defScope s__law_like) := ⟨rfl, rfl, rfl, by decide +kernel, rfl, by decide +kernel, by decide +kernel⟩
abbrev s__law_right : Stmt := topS 53
abbrev N__law_right : List Str := ["_law_box_here", "_law_row_here", "_law_handed", "_law_thing", "_law_taker", "_law_twin", "_law_turn", "_law_other"]
theorem sc__law_right : FnScope N__law_right ["_law_box_here", "_law_row_here"] (defScope s__law_right) := ⟨rfl, rfl, rfl, by decide +kernel, rfl, by decide +kernel, by decide +kernel⟩
abbrev s_law : Stmt := topS 54
abbrev N_law : List Str := ["_law_script", "_law_k", "_law_box_here", "_law_turn"]
theorem sc_law : FnScope N_law ["_law_script"] (defScope s_law) := ⟨rfl, rfl, rfl, by decide +kernel, rfl, by decide +kernel, by decide +kernel⟩
end K08
set_option maxHeartbeats 4000000
namespace RM
open PySem PySem.Spec PyProof.Rows L2 TL
/-! ### the words between the places of a sign are what split tells -/
def sp (c : Nat) : List Nat → List (List Nat)
  | [] => [[]]
  | x :: r => if x = c then [] :: sp c r else (x :: (sp c r).headD []) :: (sp c r).tail
theorem sp_ne (c : Nat) : ∀ l, sp c l ≠ []
  | [] => by simp [sp]
  | x :: r => by
    unfold sp
    split <;> simp
/-- the places -/
def pos (c : Nat) : List Nat → Int → List Int
  | [], _ => []
  | x :: r, k => if x = c then k :: pos c r (k + 1) else pos c r (k + 1)
def sl (l : List Nat) (i j : Int) : List Nat := (l.drop i.toNat).take (j.toNat - i.toNat)
def G (l : List Nat) : Int → List Int → List (List Nat)
  | _, [] => []
  | a, b :: bs => sl l (a + 1) b :: G l b bs
theorem G_shift (x : Nat) (r : List Nat) : ∀ (bs : List Int) (a : Int), -1 ≤ a → (∀ b ∈ bs, 0 ≤ b) → G (x :: r) (a + 1) (bs.map (· + 1)) = G r a bs
  | [], _, _, _ => rfl
  | b :: bs, a, ha, hb => by
    have h0 : 0 ≤ b := hb b (List.mem_cons_self ..)
    show sl (x :: r) (a + 1 + 1) (b + 1) :: G (x :: r) (b + 1) (bs.map (· + 1)) = sl r (a + 1) b :: G r b bs
    rw [G_shift x r bs b (by omega) (fun z hz => hb z (List.mem_cons_of_mem _ hz))]
    congr 1
    unfold sl
    have e1 : (a + 1 + 1).toNat = (a + 1).toNat + 1 := by omega
    have e2 : (b + 1).toNat = b.toNat + 1 := by omega
    rw [e1, e2, List.drop_succ_cons]
    congr 1
    omega
theorem pos_shift (c : Nat) : ∀ (l : List Nat) (k : Int), pos c l (k + 1) = (pos c l k).map (· + 1)
  | [], _ => rfl
  | x :: r, k => by
    unfold pos
    rw [pos_shift c r (k + 1)]
    split <;> simp
theorem pos_nonneg (c : Nat) : ∀ (l : List Nat) (k : Int), 0 ≤ k → ∀ b ∈ pos c l k, 0 ≤ b
  | [], _, _, b, h => by cases h
  | x :: r, k, hk, b, h => by
    unfold pos at h
    split at h
    · rcases List.mem_cons.mp h with e | h
      · omega
      · exact pos_nonneg c r (k + 1) (by omega) b h
    · exact pos_nonneg c r (k + 1) (by omega) b h
theorem G_sp (c : Nat) : ∀ l : List Nat, G l (-1) (pos c l 0 ++ [(l.length : Int)]) = sp c l
  | [] => rfl
  | x :: r => by
    have ih := G_sp c r
    have hn : ∀ b ∈ pos c r 0 ++ [(r.length : Int)], 0 ≤ b := fun b hb => by
      rcases List.mem_append.mp hb with h | h
      · exact pos_nonneg c r 0 (by omega) b h
      · rw [List.mem_singleton.mp h]; omega
    have em : (pos c r 1 ++ [((x :: r).length : Int)]) = (pos c r 0 ++ [(r.length : Int)]).map (· + 1) := by
      rw [List.map_append, ← pos_shift c r 0]
      rfl
    unfold pos sp
    show G (x :: r) (-1) ((if x = c then (0 : Int) :: pos c r (0 + 1) else pos c r (0 + 1)) ++ _) = _
    rw [show (0 : Int) + 1 = 1 from rfl]
    by_cases hx : x = c
    · rw [if_pos hx, if_pos hx, List.cons_append, em]
      show sl (x :: r) 0 0 :: G (x :: r) (-1 + 1) _ = _
      rw [G_shift x r _ (-1) (by omega) hn, ih]
      rfl
    · rw [if_neg hx, if_neg hx, em]
      cases e : pos c r 0 ++ [(r.length : Int)] with
      | nil => simp at e
      | cons b bs =>
        rw [e] at ih hn
        have h0 : 0 ≤ b := hn b (List.mem_cons_self ..)
        rw [List.map_cons]
        show sl (x :: r) 0 (b + 1) :: G (x :: r) (b + 1) (bs.map (· + 1)) = _
        rw [G_shift x r bs b (by omega) (fun z hz => hn z (List.mem_cons_of_mem _ hz)), ← ih]
        show _ = (x :: sl r 0 b) :: G r b bs
        congr 1
        unfold sl
        have e2 : (b + 1).toNat - (0 : Int).toNat = b.toNat + 1 := by
          show (b + 1).toNat - 0 = _
          omega
        rw [e2]
        rfl
theorem sp_hit {c : Nat} (r : List Nat) : sp c (c :: r) = [] :: sp c r := if_pos rfl
theorem sp_miss {c x : Nat} (r : List Nat) (h : x ≠ c) : sp c (x :: r) = (x :: (sp c r).headD []) :: (sp c r).tail := if_neg h
theorem hd_tl {l : List (List Nat)} (h : l ≠ []) : l.headD [] :: l.tail = l := by
  cases l with
  | nil => exact absurd rfl h
  | cons a b => rfl
theorem spl_sp (c : Nat) : ∀ (l acc : List Nat), spl [c] 0 acc l = (acc ++ (sp c l).headD []) :: (sp c l).tail
  | [], acc => by
    rw [spl_nil]
    show [acc] = [acc ++ []]
    rw [List.append_nil]
  | x :: r, acc => by
    by_cases hx : x = c
    · subst hx
      have := spl_part1 (s := x) (S := []) (p := []) (rest := r) (acc := acc) (by simp)
      rw [List.nil_append] at this
      have e : ([x] ++ r) = x :: r := rfl
      rw [e] at this
      rw [this, spl_sp x r [], sp_hit, List.append_nil, List.nil_append, hd_tl (sp_ne x r)]
      show _ = (acc ++ []) :: sp x r
      rw [List.append_nil]
    · have e : spl [c] 0 acc (x :: r) = spl [c] 0 (acc ++ [x]) r := spl_miss (pre_of_head [] r hx)
      rw [e, spl_sp c r (acc ++ [x]), sp_miss r hx, List.append_assoc]
      rfl
/-- what is due of a line: none, or its words -/
def due (c : Nat) (l : List Nat) : Option (List (List Nat)) := if 10 ∈ l then none else if [] ∈ sp c l then none else some (sp c l)
theorem split_eq (x : Str) {c : Nat} (hc : c < 256) : (Txt.split x ⟨#[c]⟩).map tl = sp c (tl x) := by
  have h := split_spl x ⟨#[c]⟩ (by show [c] ≠ []; simp) (kind_ok (by simp [hc]))
  rw [h]
  show spl [c] 0 [] (tl x) = _
  rw [spl_sp, List.nil_append]
  have := sp_ne c (tl x)
  cases h : sp c (tl x) with
  | nil => exact absurd h this
  | cons a b => rfl
/-- texts of lists of codes -/
def tx (l : List Nat) : Str := ⟨l.toArray⟩
theorem tx_tl (x : Str) : tx (tl x) = x := by
  unfold tx tl
  cases x
  simp
theorem split_tx (x : Str) {c : Nat} (hc : c < 256) : Txt.split x ⟨#[c]⟩ = (sp c (tl x)).map tx := by
  rw [← split_eq x hc, List.map_map]
  have : (tx ∘ tl) = id := by
    funext z
    exact tx_tl z
  rw [this, List.map_id]
theorem sp_nil (c : Nat) : sp c [] = [[]] := rfl
theorem due_nil (c : Nat) : due c [] = none := by
  unfold due
  rw [if_neg (by simp), if_pos (by rw [sp_nil]; simp)]
theorem sp_len (c : Nat) : ∀ l, (sp c l).length ≤ l.length + 1
  | [] => Nat.le_refl _
  | x :: r => by
    have := sp_len c r
    unfold sp
    split
    · simp only [List.length_cons]; omega
    · simp only [List.length_cons, List.length_tail]; omega
end RM
set_option maxHeartbeats 4000000
/-! ### a dict beside a text -/
namespace RE
open PySem PySem.SeqAt PySem.Spec PyProof.Rows
open AutoSeq1 (wpAny_loadPart')
open MeetsSeq
theorem dict_eq_txt (a : Addr) (o : Obj) (hc : o.cls = .type "dict") (b : Str) (u : Tok) :
    Meets (Builtin.«dict.__eq__» ⟨[.ref a, .str b u], []⟩) (fun _ R s => s.heap.get? a = some o ∧ R (.ok (.ret .notImplemented)) s) :=
  .of_wp fun prog w A R s h => by
    obtain ⟨hp, g, d, tk, os⟩ := s
    obtain ⟨hl, h⟩ := h
    have f1 := F.sub_str_dict
    wp_walk using wpAny_loadPart' hl, wpAny_load hl
    exact ⟨_, rfl, h⟩
theorem dict_ne_txt (a : Addr) (o : Obj) (hc : o.cls = .type "dict") (b : Str) (u : Tok) :
    Meets (Builtin.«dict.__ne__» ⟨[.ref a, .str b u], []⟩) (fun _ R s => s.heap.get? a = some o ∧ R (.ok (.ret .notImplemented)) s) :=
  .of_wp fun prog w A R s h => by
    obtain ⟨hp, g, d, tk, os⟩ := s
    obtain ⟨hl, h⟩ := h
    have f1 := F.sub_str_dict
    wp_walk using wpAny_loadPart' hl, wpAny_load hl
    exact ⟨_, rfl, h⟩
theorem txt_eq_dict (a : Addr) (o : Obj) (es) (n) (hd : o.data = .dict es n) (b : Str) (u : Tok) :
    Meets (Builtin.«str.__eq__» ⟨[.str b u, .ref a], []⟩) (fun _ R s => s.heap.get? a = some o ∧ R (.ok (.ret .notImplemented)) s) :=
  .of_wp fun prog w A R s h => by
    obtain ⟨hp, g, d, tk, os⟩ := s
    obtain ⟨hl, h⟩ := h
    obtain ⟨cls, dd, data, sl⟩ := o
    simp only at hd
    subst hd
    wp_walk using wpAny_loadPart' hl, wpAny_load hl
    exact ⟨_, rfl, h⟩
theorem txt_ne_dict (a : Addr) (o : Obj) (es) (n) (hd : o.data = .dict es n) (b : Str) (u : Tok) :
    Meets (Builtin.«str.__ne__» ⟨[.str b u, .ref a], []⟩) (fun _ R s => s.heap.get? a = some o ∧ R (.ok (.ret .notImplemented)) s) :=
  .of_wp fun prog w A R s h => by
    obtain ⟨hp, g, d, tk, os⟩ := s
    obtain ⟨hl, h⟩ := h
    obtain ⟨cls, dd, data, sl⟩ := o
    simp only at hd
    subst hd
    wp_walk using wpAny_loadPart' hl, wpAny_load hl
    exact ⟨_, rfl, h⟩
section
variable {A : Around} {s : Shared}
theorem rc_dict_str {a : Addr} {o : Obj} (ho : s.heap.get? a = some o) (hc : o.cls = .type "dict") {es} {n} (hd : o.data = .dict es n) (b : Str) (u : Tok) (hu : A.units < cLine) : RcAt A s (.ref a) (.str b u) false := fun prog w E Q h =>
  rc_eq_decline_or (k := false) ⟨_, ho, hc⟩ (typeIs_str s b u) (by decide) F.sub_str_dict F.slot_dict_eq F.slot_str_eq_refl
    (fun _ hq => call_meets F.slot_dict_eq ⟨_, ho, hc⟩ F.entry_dict_eq (F.args_dict_eq_2 _ _) (dict_eq_txt a o hc b u) ⟨ho, hq⟩)
    (fun _ hq => call_meets F.slot_str_eq_refl (typeIs_str s b u) F.entry_str_eq (F.args_str_eq_2 _ _) (txt_eq_dict a o _ _ hd b u) ⟨ho, hq⟩)
    (fun _ hq => wpAny_of_eq (rfl : isSame (.ref a) (.str b u) = pure false) hq) (.inr hu) h
theorem rc_str_dict {a : Addr} {o : Obj} (ho : s.heap.get? a = some o) (hc : o.cls = .type "dict") {es} {n} (hd : o.data = .dict es n) (b : Str) (u : Tok) (hu : A.units < cLine) : RcAt A s (.str b u) (.ref a) false := fun prog w E Q h =>
  rc_eq_decline_or (k := false) (typeIs_str s b u) ⟨_, ho, hc⟩ (by decide) F.sub_dict_str F.slot_str_eq F.slot_dict_eq_refl
    (fun _ hq => call_meets F.slot_str_eq (typeIs_str s b u) F.entry_str_eq (F.args_str_eq_2 _ _) (txt_eq_dict a o _ _ hd b u) ⟨ho, hq⟩)
    (fun _ hq => call_meets F.slot_dict_eq_refl ⟨_, ho, hc⟩ F.entry_dict_eq (F.args_dict_eq_2 _ _) (dict_eq_txt a o hc b u) ⟨ho, hq⟩)
    (fun _ hq => wpAny_of_eq (rfl : isSame (.str b u) (.ref a) = pure false) hq) (.inr hu) h
theorem rn_dict_str {a : Addr} {o : Obj} (ho : s.heap.get? a = some o) (hc : o.cls = .type "dict") {es} {n} (hd : o.data = .dict es n) (b : Str) (u : Tok) (hu : A.units < cLine) : RcNeAt A s (.ref a) (.str b u) true := fun prog w E Q h =>
  rc_ne_decline_or (k := false) ⟨_, ho, hc⟩ (typeIs_str s b u) (by decide) F.sub_str_dict F.slot_dict_ne F.slot_str_ne_refl
    (fun _ hq => call_meets F.slot_dict_ne ⟨_, ho, hc⟩ F.entry_dict_ne (F.args_dict_ne_2 _ _) (dict_ne_txt a o hc b u) ⟨ho, hq⟩)
    (fun _ hq => call_meets F.slot_str_ne_refl (typeIs_str s b u) F.entry_str_ne (F.args_str_ne_2 _ _) (txt_ne_dict a o _ _ hd b u) ⟨ho, hq⟩)
    (fun _ hq => wpAny_of_eq (rfl : isSame (.ref a) (.str b u) = pure false) hq) (.inr hu) h
theorem eq_str_dict {a : Addr} {o : Obj} (ho : s.heap.get? a = some o) (hc : o.cls = .type "dict") {es} {n} (hd : o.data = .dict es n) (b : Str) (u : Tok) (hu : A.units < cLine) : EqAt A s (.str b u) (.ref a) false := fun prog w E Q h => by
  unfold eqBool
  refine wpAny_holding ?_
  refine wpAny_ite_split (fun hab => absurd (eq_of_beq hab) nofun) (fun _ => ?_)
  exact wpAny_bind (rc_str_dict ho hc hd b u hu prog w E _ (wpAny_truthy_bool h))
end
end RE
namespace RE
open PySem PySem.Spec PyProof.Rows L2
/-- a value of these kinds: flat, a list, a tuple, a dict -/
inductive OdV (K : PySem.W.Frag) (H : Hp) : V → Prop
  | flat {v : V} : flatV v = true → OdV K H v
  | lst {p : Addr} {xs : List V} : SqL K H p xs → OdV K H (.ref p)
  | tup {p : Addr} {xs : List V} : SqT K H p xs → OdV K H (.ref p)
  | dic {p : Addr} {kvs : List (Key × V)} : H p = some (.dK kvs) → OdV K H (.ref p)
def isT (z : Str) : V → Bool
  | .str x => x == z
  | _ => false
theorem isT_dec (z : Str) (v : V) : decide (v = .str z) = isT z v := by
  cases v with
  | str x =>
    show _ = (x == z)
    rw [Bool.eq_iff_iff]
    simp
  | _ => exact decide_eq_false (fun e => nomatch e)
section
variable {X : Cx}
/-- v == text -/
def rOdEq (K : PySem.W.Frag) : R2 := fun x y H Q => ∃ z, y = .str z ∧ OdV K H x ∧ Q (.bl (isT z x)) H
def rOdNe (K : PySem.W.Frag) : R2 := fun x y H Q => ∃ z, y = .str z ∧ OdV K H x ∧ Q (.bl (!isT z x)) H
theorem op_odEq (hu : X.A.units < cLine) : OpR X (compareOp .Eq) (rOdEq X.K) := by
  intro pins s σ H x y v u Q I rx ry h
  obtain ⟨z, rfl, ho, q⟩ := h
  have ryr := ry
  obtain ⟨t, rfl⟩ := ry
  cases ho with
  | flat f =>
    have q2 := q
    rw [← isT_dec] at q2
    refine op_eq pins s σ H x (.str z) v (.str z t) Q I rx ryr ⟨?_, q2⟩
    cases x <;> first | rfl | exact absurd (show false = true from f) Bool.false_ne_true
  | lst hl =>
    cases rx
    obtain ⟨its, rv, pl, hz⟩ := I.list hl
    exact SeqAt.RcAt.list_str z t pl.isList hu X.prog X.w _ _ ⟨.bl false, H, I, rfl, q⟩
  | tup hl =>
    cases rx
    obtain ⟨its, rv, pl, hz⟩ := I.tuple hl
    exact SeqAt.RcAt.tuple_str z t pl hu X.prog X.w _ _ ⟨.bl false, H, I, rfl, q⟩
  | dic e =>
    cases rx
    obtain ⟨_, hs, vs, kv, o, es, ep, h1, h2, h3, _, hp, _⟩ := (show ObjOk X.prog X.w H s.heap _ (.dK _) from I.hok _ _ e)
    exact rc_dict_str h1 h2.1 h3 z t hu X.prog X.w _ _ ⟨.bl false, H, I, rfl, q⟩
theorem op_odNe (hu : X.A.units < cLine) : OpR X (compareOp .NotEq) (rOdNe X.K) := by
  intro pins s σ H x y v u Q I rx ry h
  obtain ⟨z, rfl, ho, q⟩ := h
  have ryr := ry
  obtain ⟨t, rfl⟩ := ry
  cases ho with
  | flat f =>
    have q2 := q
    rw [← isT_dec] at q2
    refine op_ne pins s σ H x (.str z) v (.str z t) Q I rx ryr ⟨?_, q2⟩
    cases x <;> first | rfl | exact absurd (show false = true from f) Bool.false_ne_true
  | lst hl =>
    cases rx
    obtain ⟨its, rv, pl, hz⟩ := I.list hl
    exact SeqAt.RcNeAt.list_str z t pl.isList hu X.prog X.w _ _ ⟨.bl true, H, I, rfl, q⟩
  | tup hl =>
    cases rx
    obtain ⟨its, rv, pl, hz⟩ := I.tuple hl
    exact SeqAt.RcNeAt.tuple_str z t pl hu X.prog X.w _ _ ⟨.bl true, H, I, rfl, q⟩
  | dic e =>
    cases rx
    obtain ⟨_, hs, vs, kv, o, es, ep, h1, h2, h3, _, hp, _⟩ := (show ObjOk X.prog X.w H s.heap _ (.dK _) from I.hok _ _ e)
    exact rn_dict_str h1 h2.1 h3 z t hu X.prog X.w _ _ ⟨.bl true, H, I, rfl, q⟩
/-! ### v in a tuple or list of texts -/
def inT (x : V) (zs : List Str) : Bool := zs.any fun z => isT z x
theorem odEqAt {A : Around} {pins : List (Addr × Obj)} {σ : L2.St} {H : Hp} {s : Shared} (I : Inv X pins σ H s) (hu : A.units < cLine) {x : V} {v : Value} (rx : RelV x v) (ho : OdV X.K H x) (z : Str) (t : Tok) : SeqAt.EqAt A s (.str z t) v (isT z x) := by
  cases ho with
  | flat f =>
    have h := eqAt_V (A := A) (s := s) (y := .str z) (u := .str z t) ⟨t, rfl⟩ rx rfl f
    have e : eqV (.str z) x = isT z x := by
      cases x <;> first | rfl | exact Bool.eq_iff_iff.mpr ⟨fun e => beq_iff_eq.mpr (beq_iff_eq.mp e).symm, fun e => beq_iff_eq.mpr (beq_iff_eq.mp e).symm⟩
    rw [e] at h
    exact h
  | lst hl =>
    cases rx
    obtain ⟨its, rv, pl, hz⟩ := I.list hl
    exact SeqAt.EqAt.str_list z t pl.isList hu
  | tup hl =>
    cases rx
    obtain ⟨its, rv, pl, hz⟩ := I.tuple hl
    exact SeqAt.EqAt.str_tuple z t pl hu
  | dic e =>
    cases rx
    obtain ⟨_, hs, vs, kv, o, es, ep, h1, h2, h3, _, hp, _⟩ := (show ObjOk X.prog X.w H s.heap _ (.dK _) from I.hok _ _ e)
    exact eq_str_dict h1 h2.1 h3 z t hu
def inU (x : V) : Value → Bool
  | .str z _ => isT z x
  | _ => false
theorem any_inU {x : V} : ∀ {zs : List Str} {us : List Value}, Vals (zs.map V.str) us → us.any (inU x) = inT x zs
  | [], _, .nil => rfl
  | z :: zs, _, .cons r t => by
    obtain ⟨tk, rfl⟩ := r
    rw [List.any_cons, any_inU t]
    rfl
theorem mem_inU {A : Around} {pins : List (Addr × Obj)} {σ : L2.St} {H : Hp} {s : Shared} (I : Inv X pins σ H s) (hu : A.units < cLine) {x : V} {v : Value} (rx : RelV x v) (ho : OdV X.K H x) : ∀ {zs : List Str} {us : List Value}, Vals (zs.map V.str) us → ∀ u ∈ us, SeqAt.EqAt A s u v (inU x u)
  | [], _, .nil => fun u hu => by cases hu
  | z :: zs, _, .cons r t => fun u' hm => by
    rcases List.mem_cons.mp hm with rfl | hm
    · obtain ⟨tk, rfl⟩ := r
      exact odEqAt I hu rx ho z tk
    · exact mem_inU I hu rx ho t u' hm
def rOdIn (K : PySem.W.Frag) (neg : Bool) : R2 := fun x y H Q => ∃ p zs, y = .ref p ∧ (SqL K H p (zs.map V.str) ∨ SqT K H p (zs.map V.str)) ∧ OdV K H x ∧ Q (.bl (if neg then !inT x zs else inT x zs)) H
theorem op_odIn (hu : X.A.units + 1 < cLine) : OpR X (compareOp .In) (rOdIn X.K false) := by
  intro pins s σ H x y v u Q I rx ry h
  obtain ⟨p, zs, rfl, hq, ho, q⟩ := h
  cases ry
  have hu1 : X.A.in1.units < cLine := hu
  rcases hq with hq | hq
  · obtain ⟨its, r, pl, hz⟩ := I.list hq
    refine SeqAt.in_listAt (inU x) pl.isList (fun w hw => mem_inU I hu1 rx ho r w (by simpa using hw)) ⟨.bl _, H, I, rfl, ?_⟩
    rw [show its.toArray.any (inU x) = its.any (inU x) by simp, any_inU r]
    exact q
  · obtain ⟨its, r, pl, hz⟩ := I.tuple hq
    refine SeqAt.in_tupleAt (inU x) pl (fun w hw => mem_inU I hu1 rx ho r w (by simpa using hw)) ⟨.bl _, H, I, rfl, ?_⟩
    rw [show its.toArray.any (inU x) = its.any (inU x) by simp, any_inU r]
    exact q
/-- v is True, v is False -/
theorem op_isB : OpR X (compareOp .Is) (fun x y H Q => ∃ b, y = .bl b ∧ OdV X.K H x ∧ Q (.bl (decide (x = .bl b))) H) := by
  intro pins s σ H x y v u Q I rx ry h
  obtain ⟨b, rfl, ho, q⟩ := h
  cases (show u = Value.bool b from ry)
  have no : ∀ {a : Addr}, x = .ref a → EP X pins σ Q (.bool false) s := fun e => ⟨.bl false, H, I, rfl, by rw [decide_eq_false (by rw [e]; exact fun z => nomatch z)] at q; exact q⟩
  cases ho with
  | flat f =>
    cases x with
    | bl c =>
      cases (show v = Value.bool c from rx)
      by_cases e : c = b
      · subst e
        exact wpAny_is_self rfl ⟨.bl true, H, I, rfl, by simpa using q⟩
      · exact wpAny_is_other rfl (fun z => e (Value.bool.inj z)) ⟨.bl false, H, I, rfl, by simpa [e] using q⟩
    | non =>
      cases (show v = Value.none from rx)
      exact wpAny_is_other rfl (fun z => nomatch z) ⟨.bl false, H, I, rfl, q⟩
    | int i =>
      obtain ⟨t, rfl⟩ := rx
      exact wpAny_is_other rfl (fun z => nomatch z) ⟨.bl false, H, I, rfl, q⟩
    | str z =>
      obtain ⟨t, rfl⟩ := rx
      exact wpAny_is_other rfl (fun z => nomatch z) ⟨.bl false, H, I, rfl, q⟩
    | _ => exact absurd (show false = true from f) Bool.false_ne_true
  | lst hl =>
    cases rx
    exact wpAny_is_other rfl (fun z => nomatch z) (no rfl)
  | tup hl =>
    cases rx
    exact wpAny_is_other rfl (fun z => nomatch z) (no rfl)
  | dic e =>
    cases rx
    exact wpAny_is_other rfl (fun z => nomatch z) (no rfl)
end
end RE
set_option maxHeartbeats 4000000
/-! ### names, rights, takers, flags, read off a value -/
namespace RN
open PySem PySem.Spec PyProof.Rows L2 TL RE
def lowC (c : Nat) : Bool := decide (97 ≤ c) && decide (c ≤ 122)
def upC (c : Nat) : Bool := decide (65 ≤ c) && decide (c ≤ 90)
theorem tab : ∀ c, c < 128 → Unicode.isAlpha c = (upC c || lowC c) ∧ Unicode.isLower c = lowC c ∧ (Unicode.isUpper c || Unicode.isTitle c) = upC c := by decide +kernel
theorem low_eq (z : Str) : (Txt.isascii z && (Txt.isalpha z && Txt.islower z)) = (decide (0 < z.length) && (tl z).all lowC) := by
  have e1 : Txt.isascii z = (tl z).all (fun c => decide (c < 128)) := by
    show z.cps.all _ = _
    rw [← Array.all_toList]
  have e2 : Txt.isalpha z = (decide (0 < z.length) && (tl z).all Unicode.isAlpha) := by
    show (decide (z.length > 0) && z.cps.all _) = _
    rw [← Array.all_toList]
  have e3 : Txt.islower z = ((tl z).any Unicode.isLower && !(tl z).any fun c => Unicode.isUpper c || Unicode.isTitle c) := by
    show (z.cps.any _ && !z.cps.any _) = _
    rw [← Array.any_toList, ← Array.any_toList]
  have hl : z.length = (tl z).length := len_tl z
  rw [e1, e2, e3, hl]
  generalize tl z = l
  clear e1 e2 e3 hl z
  rw [Bool.eq_iff_iff]
  simp only [Bool.and_eq_true, List.all_eq_true, decide_eq_true_eq, Bool.not_eq_true', List.any_eq_true, List.any_eq_false]
  constructor
  · rintro ⟨h1, ⟨h2, h3⟩, h4, h5⟩
    refine ⟨h2, fun c hc => ?_⟩
    have t := tab c (h1 c hc)
    have a := h3 c hc
    have u := h5 c hc
    rw [t.1] at a
    rw [t.2.2] at u
    cases hu : upC c with
    | true => exact absurd hu u
    | false => rw [hu, Bool.false_or] at a; exact a
  · rintro ⟨h2, h3⟩
    have lt : ∀ c ∈ l, c < 128 := fun c hc => by
      have := h3 c hc
      simp only [lowC, Bool.and_eq_true, decide_eq_true_eq] at this
      omega
    refine ⟨lt, ⟨h2, fun c hc => ?_⟩, ?_, fun c hc => ?_⟩
    · rw [(tab c (lt c hc)).1, h3 c hc, Bool.or_true]
    · cases l with
      | nil => exact absurd h2 (Nat.lt_irrefl 0)
      | cons c r => exact ⟨c, List.mem_cons_self .., by rw [(tab c (lt c (List.mem_cons_self ..))).2.1]; exact h3 c (List.mem_cons_self ..)⟩
    · rw [(tab c (lt c hc)).2.2]
      have := h3 c hc
      simp only [lowC, upC, Bool.and_eq_true, decide_eq_true_eq] at this ⊢
      omega
def isS : V → Bool
  | .str _ => true
  | _ => false
def isFlag : V → Bool
  | .bl _ => true
  | _ => false
abbrev tPub : Str := Str.ofString "public"
abbrev tCal : Str := Str.ofString "caller"
def nameT (z : Str) : Bool := decide (1 ≤ z.length) && decide (z.length ≤ 8) && (tl z).all lowC && !(z == tPub) && !(z == tCal)
def isName : V → Bool
  | .str z => nameT z
  | _ => false
def isTaker (v : V) : Bool := isName v || isT tPub v
def rightsT : List Str := [Str.ofString "inherit", Str.ofString "act", Str.ofString "read", Str.ofString "write", Str.ofString "call"]
def kindT (z : Str) : Option Str :=
  if z = Str.ofString "inherit" then some (Str.ofString "role") else if z = Str.ofString "act" then some (Str.ofString "role") else if z = Str.ofString "read" then some (Str.ofString "table") else
  if z = Str.ofString "write" then some (Str.ofString "table") else if z = Str.ofString "call" then some (Str.ofString "function") else none
def isRight : V → Bool
  | .str z => (kindT z).isSome
  | _ => false
def isMade (v : V) : Bool := isT (Str.ofString "table") v || isT (Str.ofString "function") v
theorem k_NoneType_str : kitB "NoneType" "str" = some false := by decide +kernel
theorem k_NoneType_bool : kitB "NoneType" "bool" = some false := by decide +kernel
theorem k_NoneType_list : kitB "NoneType" "list" = some false := by decide +kernel
theorem k_NoneType_dict : kitB "NoneType" "dict" = some false := by decide +kernel
theorem k_bool_str : kitB "bool" "str" = some false := by decide +kernel
theorem k_bool_bool : kitB "bool" "bool" = some true := by decide +kernel
theorem k_bool_list : kitB "bool" "list" = some false := by decide +kernel
theorem k_bool_dict : kitB "bool" "dict" = some false := by decide +kernel
theorem k_int_str : kitB "int" "str" = some false := by decide +kernel
theorem k_int_bool : kitB "int" "bool" = some false := by decide +kernel
theorem k_int_list : kitB "int" "list" = some false := by decide +kernel
theorem k_int_dict : kitB "int" "dict" = some false := by decide +kernel
theorem k_str_str : kitB "str" "str" = some true := by decide +kernel
theorem k_str_bool : kitB "str" "bool" = some false := by decide +kernel
theorem k_str_list : kitB "str" "list" = some false := by decide +kernel
theorem k_str_dict : kitB "str" "dict" = some false := by decide +kernel
theorem k_list_str : kitB "list" "str" = some false := by decide +kernel
theorem k_list_bool : kitB "list" "bool" = some false := by decide +kernel
theorem k_list_list : kitB "list" "list" = some true := by decide +kernel
theorem k_list_dict : kitB "list" "dict" = some false := by decide +kernel
theorem k_tuple_str : kitB "tuple" "str" = some false := by decide +kernel
theorem k_tuple_bool : kitB "tuple" "bool" = some false := by decide +kernel
theorem k_tuple_list : kitB "tuple" "list" = some false := by decide +kernel
theorem k_tuple_dict : kitB "tuple" "dict" = some false := by decide +kernel
theorem k_dict_str : kitB "dict" "str" = some false := by decide +kernel
theorem k_dict_bool : kitB "dict" "bool" = some false := by decide +kernel
theorem k_dict_list : kitB "dict" "list" = some false := by decide +kernel
theorem k_dict_dict : kitB "dict" "dict" = some true := by decide +kernel
theorem od_ty {K : PySem.W.Frag} {H : Hp} {x : V} (h : OdV K H x) : ∃ t, TyX K H x t ∧ PySem.W.kitOne K t (.type "str") = some (isS x) ∧ PySem.W.kitOne K t (.type "bool") = some (isFlag x) := by
  cases h with
  | flat f =>
    cases x with
    | non => exact ⟨_, .base .non, kit_ty k_NoneType_str, kit_ty k_NoneType_bool⟩
    | bl b => exact ⟨_, .base (.bl b), kit_ty k_bool_str, kit_ty k_bool_bool⟩
    | int i => exact ⟨_, .base (.int i), kit_ty k_int_str, kit_ty k_int_bool⟩
    | str z => exact ⟨_, .base (.str z), kit_ty k_str_str, kit_ty k_str_bool⟩
    | _ => exact absurd (show false = true from f) Bool.false_ne_true
  | lst h =>
    rcases h with h | ⟨o, its, n, h, c, _⟩
    · rcases h with h | ⟨o, h⟩
      · exact ⟨_, .base (.lst h), kit_ty k_list_str, kit_ty k_list_bool⟩
      · exact ⟨_, .base (.frz h), kit_ty k_list_str, kit_ty k_list_bool⟩
    · exact ⟨_, .kList h c, kit_ty k_list_str, kit_ty k_list_bool⟩
  | tup h =>
    rcases h with h | ⟨o, its, n, h, c, _⟩
    · rcases h with h | ⟨o, h⟩
      · exact ⟨_, .base (.tup h), kit_ty k_tuple_str, kit_ty k_tuple_bool⟩
      · exact ⟨_, .fTuple h, kit_ty k_tuple_str, kit_ty k_tuple_bool⟩
    · exact ⟨_, .kTuple h c, kit_ty k_tuple_str, kit_ty k_tuple_bool⟩
  | dic h => exact ⟨_, .base (.dK h), kit_ty k_dict_str, kit_ty k_dict_bool⟩
theorem isS_str {x : V} (h : isS x = true) : ∃ z, x = .str z := by
  cases x with
  | str z => exact ⟨z, rfl⟩
  | _ => exact absurd (show false = true from h) Bool.false_ne_true
theorem notS_name {x : V} (h : isS x = false) : isName x = false := by
  cases x with
  | str z => exact absurd (show false = true from (show true = false from h).symm) Bool.false_ne_true
  | _ => rfl
end RN
set_option maxHeartbeats 4000000
namespace K08
open PySem PySem.Spec PyProof.Rows L2 RL RE RN TL
/-- a tuple or list of the module with these texts -/
def KTup (K : PySem.W.Frag) (a : Addr) (zs : List Str) : Prop :=
  ∃ (o : Obj) (its : Array Value) (n : Nat), K.lookup a = some o ∧ o.cls = .type "tuple" ∧ o.data = .seq its n ∧ its.size ≤ sizeLine ∧ Vals (zs.map V.str) its.toList
theorem KTup.sq {K : PySem.W.Frag} {a : Addr} {zs : List Str} {H : Hp} (h : KTup K a zs) : SqT K H a (zs.map V.str) := .inr h
/-- KIND_BY_RIGHT -/
structure KRight (K : PySem.W.Frag) (w : World) (d : Addr) : Prop where
  dict : ∃ es n, KDict K w d es n
  get : ∀ z, ∃ r, PySem.W.nsIn K d z = some r ∧ r.isSome = (kindT z).isSome ∧ ∀ k, kindT z = some k → ∃ t, r = some (.str k t)
/-- a value of a row -/
def Od (K : PySem.W.Frag) (H : Hp) (v : V) : Prop := OdV K H v ∧ ∀ z, v = .str z → z.length ≤ 1000 ∧ ∀ x ∈ tl z, x < 256
theorem le_ite {z : Str} {n : Nat} (h : z.length ≤ 1000) (hn : 1000 ≤ n) : z.length ≤ n := Nat.le_trans h hn
theorem nameT_no1 {z : Str} (h : ¬ 1 ≤ z.length) : nameT z = false := by
  unfold nameT
  rw [decide_eq_false h]
  simp
theorem nameT_no8 {z : Str} (h : ¬ z.length ≤ 8) : nameT z = false := by
  unfold nameT
  rw [decide_eq_false h]
  simp
theorem inV2 (z a b : Str) : inV (.str z) [.str a, .str b] = (z == a || z == b) := by
  show ((a == z) || ((b == z) || false)) = _
  rw [Bool.or_false, BEq.comm (a := a), BEq.comm (a := b)]
theorem nameT_eq {z : Str} (h1 : 1 ≤ z.length) (h8 : z.length ≤ 8) : nameT z = (Txt.isascii z && (Txt.isalpha z && (Txt.islower z && !(inV (.str z) [.str tPub, .str tCal])))) := by
  have e := low_eq z
  have h0 : decide (0 < z.length) = true := decide_eq_true (by omega)
  rw [h0, Bool.true_and] at e
  unfold nameT
  rw [decide_eq_true h1, decide_eq_true h8, ← e, inV2]
  cases Txt.isascii z <;> cases Txt.isalpha z <;> cases Txt.islower z <;> cases (z == tPub) <;> cases (z == tCal) <;> rfl
section
variable {P : Program} {w : World} {K : PySem.W.Frag} {mg : Str → Option Value} {base : Heap} {f : Addr} {fd : FuncData}
def spP (K : PySem.W.Frag) (p : V → Bool) : Sp := fun vs H Q _ => ∃ v, vs = [v] ∧ Od K H v ∧ Q (.bl (p v)) H
theorem spP_len {p : V → Bool} : ∀ vs H Q E, spP K p vs H Q E → vs.length = 1 := fun vs H Q E h => by
  obtain ⟨v, rfl, _⟩ := h
  rfl
theorem ok_is_name {aR : Addr} {tL : Tok} (F : Fun K "is_name" "is_name" s_is_name f fd) (mi : mg "isinstance" = none) (ms : mg "str" = none) (ml : mg "len" = none) (mL : mg "LONGEST_NAME" = some (.int 8 tL)) (mR : mg "RESERVED" = some (.ref aR)) (hR : KTup K aR [tPub, tCal]) :
    FnOk P w K mg base CX0 1 f fd ["value"] (spP K isName) := by
  refine F.ok sc_is_name spP_len (fun cdv A outer s H vs Q E hr h => ?_)
  obtain ⟨v, rfl, hv, q⟩ := h
  refine ⟨_, PSs.nox (pss_cons (ps_if (PW.pt (pw_or (pt_not (pt_val (pe_callB call_isi (by rfl) mi boot_isinstance (pa_cons (pv 0) (pa_cons (pe_bltn (v := .ty "str") (by rfl) ms PyProof.Rows.boot_str rfl) pa_nil)))))
      (pw_or1 (pt_not (pt_chain op_le op_le pe_int (pe_callB call_len_str (by rfl) ml PySem.boot_len (pa_cons (pv 0) pa_nil)) (pe_glob (v := .int 8) (by rfl) mL ⟨_, rfl⟩)))))) (pss_one (ps_ret pe_bl)) pss_nil)
    (pss_one (ps_ret (pe_and (pe_m0 PySem.F.slot_str_isascii PySem.F.type_str_isascii mt_isascii (pv 0)) (pe_and (pe_m0 PySem.F.slot_str_isalpha PySem.F.type_str_isalpha mt_isalpha (pv 0)) (pe_and (pe_m0 PySem.F.slot_str_islower PySem.F.type_str_islower mt_islower (pv 0))
      (pe_one (pe_cmpR op_notIn_seq (pv 0) (pe_glob (v := .ref aR) (by rfl) mR rfl) (by rfl))))))))), ?_⟩
  obtain ⟨t, ht, hs, hb⟩ := od_ty hv.1
  refine ⟨_, rfl, v, .ty "str", t, .type "str", _, rfl, .ty _, ht, hs, _, rfl, ?_⟩
  cases hS : isS v with
  | false =>
    rw [notS_name hS] at q
    exact iteT q
  | true =>
    obtain ⟨z, rfl⟩ := isS_str hS
    have hz := (hv.2 z rfl).1
    refine iteF ?_
    refine ⟨_, rfl, z, rfl, Nat.le_trans hz (by decide), 1, z.length, rfl, rfl, _, rfl, ?_⟩
    by_cases h1 : 1 ≤ z.length
    · have e1 : decide ((1 : Int) ≤ (z.length : Nat)) = true := decide_eq_true (by omega)
      rw [e1]
      refine iteT ⟨z.length, 8, rfl, rfl, _, rfl, ?_⟩
      by_cases h8 : z.length ≤ 8
      · have e2 : decide (((z.length : Nat) : Int) ≤ 8) = true := decide_eq_true (by omega)
        rw [e2]
        refine iteF ?_
        have e := nameT_eq h1 h8
        have q : Q (.bl (nameT z)) H := q
        rw [e] at q
        refine ⟨_, rfl, ⟨z, rfl⟩, z, rfl, rfl, trivial, _, rfl, ?_⟩
        cases hA : Txt.isascii z with
        | false => rw [hA] at q; exact iteF q
        | true =>
          rw [hA] at q
          refine iteT ⟨_, rfl, ⟨z, rfl⟩, z, rfl, rfl, trivial, _, rfl, ?_⟩
          cases hB : Txt.isalpha z with
          | false => rw [hB] at q; exact iteF q
          | true =>
            rw [hB] at q
            refine iteT ⟨_, rfl, ⟨z, rfl⟩, z, rfl, rfl, trivial, _, rfl, ?_⟩
            cases hC : Txt.islower z with
            | false => rw [hC] at q; exact iteF q
            | true =>
              rw [hC] at q
              exact iteT ⟨_, rfl, aR, _, rfl, .inr hR.sq, rfl, rfl, q⟩
      · have e2 : decide (((z.length : Nat) : Int) ≤ 8) = false := decide_eq_false (by omega)
        rw [e2]
        have q : Q (.bl (nameT z)) H := q
        rw [nameT_no8 h8] at q
        exact iteT q
    · have e1 : decide ((1 : Int) ≤ (z.length : Nat)) = false := decide_eq_false (by omega)
      rw [e1]
      have q : Q (.bl (nameT z)) H := q
      rw [nameT_no1 h1] at q
      exact ⟨_, rfl, iteT q⟩
end
end K08
set_option maxHeartbeats 4000000
namespace K08
open PySem PySem.Spec PyProof.Rows L2 RL RE RN TL
section
variable {P : Program} {w : World} {K : PySem.W.Frag} {mg : Str → Option Value} {base : Heap} {f : Addr} {fd : FuncData}
theorem ok_is_taker {fN : Addr} {fdN : FuncData} (F : Fun K "is_taker" "is_taker" s_is_taker f fd) (N : FnOk P w K mg base CX0 1 fN fdN ["value"] (spP K isName)) (bN : Binds K fdN ["value"] []) (kN : PySem.W.keepIn K (.ref fN) = true) (gN : mg "is_name" = some (.ref fN)) :
    FnOk P w K mg base CX0 2 f fd ["value"] (spP K isTaker) := by
  refine F.ok sc_is_taker spP_len (fun cdv A outer s H vs Q E hr h => ?_)
  obtain ⟨v, rfl, hv, q⟩ := h
  refine ⟨_, PSs.nox (pss_one (ps_ret (pe_or (pe_call N hr (by rfl) gN kN bN .nil pass0 (pa_cons (pv 0) pa_nil)) (pe_one (pe_cmpR (op_odEq (Nat.lt_of_succ_lt (hu_of hr))) (pv 0) pe_str (nomark _)))))), ?_⟩
  refine ⟨_, rfl, v, rfl, hv, _, rfl, ?_⟩
  have q : Q (.bl (isName v || isT tPub v)) H := q
  cases hN : isName v with
  | true => rw [hN] at q; exact iteT q
  | false => rw [hN] at q; exact iteF ⟨_, rfl, _, rfl, hv.1, q⟩
end
end K08
set_option maxHeartbeats 4000000
namespace K08
open PySem PySem.Spec PyProof.Rows L2 RL RE RN TL
/-! ### a def that is there, in short -/
def Df (P : Program) (w : World) (K : PySem.W.Frag) (mg : Str → Option Value) (base : Heap) (CX : CXT) (k : Nat) (x : Str) (ps : List Str) (sp : Sp) : Prop :=
  ∃ (f : Addr) (fd : FuncData), FnOk P w K mg base CX k f fd ps sp ∧ Binds K fd ps [] ∧ PySem.W.keepIn K (.ref f) = true ∧ mg x = some (.ref f)
section
variable {X : Cx} {k : Nat} {x : Str} {ps : List Str} {sp : Sp} {t : TA} {e : Expr} {es : List Expr} {p pos : Pos}
theorem pe_df0 (D : Df X.prog X.w X.K X.mg X.base CX0 k x ps sp) (hr : Room k X.A) (hg : Gl X x) (ha : PA X (e :: es) t) (hdb : (x == ("__debug__" : Str)) = false := by decide)
    (he : starEach (e :: es) X.env = (false, eval e X.env) :: starEach es X.env := by rfl) (hpl : (backTo pos (starEach es X.env)).any (·.1) = false := by rfl) : PE X (.Call (.Name x p) (e :: es) [] pos) (tCall sp [] (fun _ _ _ => False) t) := by
  obtain ⟨f, fd, F, b, kp, g⟩ := D
  exact pe_call F hr hg g kp b .nil pass0 ha hdb he hpl
end
/-! ### the checks, where nothing is due -/
section
variable {P : Program} {w : World} {K : PySem.W.Frag} {mg : Str → Option Value} {base : Heap} {f : Addr} {fd : FuncData}
def spG (K : PySem.W.Frag) (p : V → Bool) : Sp := fun vs H Q _ => ∃ v, vs = [v] ∧ Od K H v ∧ p v = true ∧ Q .non H
theorem spG_len {p : V → Bool} : ∀ vs H Q E, spG K p vs H Q E → vs.length = 1 := fun vs H Q E h => by
  obtain ⟨v, rfl, _⟩ := h
  rfl
theorem ok_check_name (F : Fun K "check_name" "check_name" s_check_name f fd) (N : Df P w K mg base CX0 1 "is_name" ["value"] (spP K isName)) : FnOk P w K mg base CX0 2 f fd ["value"] (spG K isName) := by
  refine F.ok sc_check_name spG_len (fun cdv A outer s H vs Q E hr h => ?_)
  obtain ⟨v, rfl, hv, hp, q⟩ := h
  refine ⟨_, PSs.nox (pss_one (ps_if (pt_not (pt_val (pe_df0 N hr (by rfl) (pa_cons (pv 0) pa_nil)))) (pss_one ps_never) pss_nil)), ?_⟩
  refine ⟨_, rfl, v, rfl, hv, _, rfl, ?_⟩
  rw [hp]
  exact iteF q
theorem ok_check_taker (F : Fun K "check_taker" "check_taker" s_check_taker f fd) (N : Df P w K mg base CX0 2 "is_taker" ["value"] (spP K isTaker)) : FnOk P w K mg base CX0 3 f fd ["value"] (spG K isTaker) := by
  refine F.ok sc_check_taker spG_len (fun cdv A outer s H vs Q E hr h => ?_)
  obtain ⟨v, rfl, hv, hp, q⟩ := h
  refine ⟨_, PSs.nox (pss_one (ps_if (pt_not (pt_val (pe_df0 N hr (by rfl) (pa_cons (pv 0) pa_nil)))) (pss_one ps_never) pss_nil)), ?_⟩
  refine ⟨_, rfl, v, rfl, hv, _, rfl, ?_⟩
  rw [hp]
  exact iteF q
end
def txt (z : Str) : Prop := z.length ≤ 1000 ∧ ∀ x ∈ tl z, x < 256
theorem txt.od {K : PySem.W.Frag} {H : Hp} {z : Str} (h : txt z) : Od K H (.str z) := ⟨.flat rfl, fun y e => by cases e; exact h⟩
end K08
set_option maxHeartbeats 4000000
namespace K08
open PySem PySem.Spec PyProof.Rows L2 RL RE RN RM TL
section
variable {P : Program} {w : World} {K : PySem.W.Frag} {mg : Str → Option Value} {base : Heap}
/-! ### cells and boxes -/
def spCell (K : PySem.W.Frag) : Sp := fun vs H Q _ => ∃ (a : Addr) (ns : List Int) (k : Nat), vs = [.ref a, .int k] ∧ SqL K H a (ns.map V.int) ∧ k < 1000 ∧ ns.length < 1000 ∧ ∀ v : Int, Q (.int v) H
theorem ok_cell {f : Addr} {fd : FuncData} (F : Fun K "_law_cell" "_law_cell" s__law_cell f fd) (ml : mg "len" = none) : FnOk P w K mg base CX0 1 f fd ["_law_script", "_law_k"] (spCell K) := by
  refine F.ok sc__law_cell (fun vs H Q E h => ?_) (fun cdv A outer s H vs Q E hr h => ?_)
  · obtain ⟨a, ns, k, rfl, _⟩ := h
    rfl
  · obtain ⟨a, ns, k, rfl, hS, hk, hl, q⟩ := h
    refine ⟨_, pss_one (ps_ret (pe_ifExp (pt_cmpR op_lt (pv 1) (pe_callB call_len_seq (by rfl) ml PySem.boot_len (pa_cons (pv 0) pa_nil)) (nomark _)) (pe_ix ix_list (pv 0) (pv 1) (fun _ _ => rfl)) (pe_op op_add (pe_op op_mul pe_int (pv 1)) pe_int))), ?_⟩
    refine ⟨_, rfl, .ref a, rfl, a, ns.map V.int, rfl, .inl hS, (k : Int), _, rfl, rfl, _, rfl, ?_⟩
    refine ite2 (fun e => ?_) (fun e => ?_)
    · have h1 := of_decide_eq_true e
      rw [List.length_map] at h1
      have h2 : k < ns.length := by omega
      refine ⟨_, rfl, _, rfl, a, _, (k : Int), .int ns[k], rfl, rfl, hS, ?_, q _⟩
      exact atI_nat (by rw [List.getElem?_map, List.getElem?_eq_getElem h2]; rfl)
    · exact ⟨_, rfl, 7347, (k : Int), rfl, rfl, .inl ⟨by decide, by decide⟩, 7347 * (k : Int), 367, rfl, rfl, q _⟩
def Bx (H : Hp) (b : Addr) (n : Int) : Prop := ∃ g m k : Int, H b = some (.lst [.int g, .int m, .int k]) ∧ 0 ≤ g ∧ 0 ≤ m ∧ m < 2147483629 ∧ 0 ≤ k ∧ k ≤ n
theorem Bx.mono {H : Hp} {b : Addr} {n n' : Int} (h : Bx H b n) (hn : n ≤ n') : Bx H b n' := by
  obtain ⟨g, m, k, e, h1, h2, h3, h4, h5⟩ := h
  exact ⟨g, m, k, e, h1, h2, h3, h4, by omega⟩
theorem Bx.same {H H' : Hp} {b : Addr} {n : Int} (h : Bx H b n) (s : Same H H') : Bx H' b n := by
  obtain ⟨g, m, k, e, r⟩ := h
  exact ⟨g, m, k, s _ _ e, r⟩
def spBox : Sp := fun vs H Q _ => ∃ v : Int, vs = [.int v] ∧ ∀ p H', H p = none → Same H H' → Bx H' p 0 → Q (.ref p) H'
theorem ok_box {f : Addr} {fd : FuncData} (F : Fun K "_law_box" "_law_box" s__law_box f fd) (mm : mg "max" = none) : FnOk P w K mg base CX0 1 f fd ["_law_cell_here"] spBox := by
  refine F.ok sc__law_box (fun vs H Q E h => ?_) (fun cdv A outer s H vs Q E hr h => ?_)
  · obtain ⟨v, rfl, _⟩ := h
    rfl
  · obtain ⟨v, rfl, q⟩ := h
    refine ⟨_, pss_one (ps_ret (pe_lst (pa_cons (pe_callB (call_max2 rfl) (by rfl) mm PyProof.Rows.boot_max (pa_cons pe_int (pa_cons (pe_op op_sub (pv 0) (pe_op op_pow pe_int pe_int)) pa_nil))) (pa_cons (pe_op op_mod (pv 0) pe_int) (pa_cons pe_int pa_nil))))), ?_⟩
    refine ⟨_, rfl, 10, 18, rfl, rfl, ⟨by decide, by decide, by decide⟩, v, _, rfl, rfl, 0, _, rfl, ?_⟩
    refine ⟨_, rfl, v, 2147483629, rfl, rfl, by show (0 : Int) < 2147483629; decide, ?_⟩
    refine ⟨by show 3 ≤ sizeLine; decide, fun p np => ?_⟩
    refine q p _ np (same_upd np) ⟨_, _, 0, upd_same, ?_, Int.emod_nonneg _ (by decide), Int.emod_lt_of_pos _ (by decide), by decide, by decide⟩
    split <;> omega
/-! ### a draw -/
def spTake : Sp := fun vs H Q _ => ∃ (b : Addr) (q : Int) (n : Int), vs = [.ref b, .int q] ∧ 1 ≤ q ∧ q ≤ 1000000 ∧ 0 ≤ n ∧ n ≤ 100000 ∧ Bx H b n ∧ ∀ d H', 0 ≤ d → d < q → Keep b H H' → Bx H' b (n + 1) → Q (.int d) H'
theorem ok_take {f : Addr} {fd : FuncData} (F : Fun K "_law_take" "_law_take" s__law_take f fd) : FnOk P w K mg base CX0 1 f fd ["_law_box_here", "_law_many"] spTake := by
  refine F.ok sc__law_take (fun vs H Q E h => ?_) (fun cdv A outer s H vs Q E hr h => ?_)
  · obtain ⟨b, q, n, rfl, _⟩ := h
    rfl
  · obtain ⟨b, m, n, rfl, m1, m2, n1, n2, ⟨g, x, k, eb, g0, x0, x1, k0, k1⟩, q⟩ := h
    refine ⟨_, pss_cons (ps_if (pt_cmpR op_gt (pe_ix ix_list (pv 0) pe_int (fun _ _ => rfl)) pe_int (nomark _))
        (pss_cons (ps_set (i := 2) sc__law_take.nd rfl (.inl rfl) (pe_op op_mod (pe_ix ix_list (pv 0) pe_int (fun _ _ => rfl)) (pv 1)))
        (pss_cons (ps_asg (pe_op op_fdiv (pe_ix ix_list (pv 0) pe_int (fun _ _ => rfl)) (pv 1)) (pg_sub (pv 0) pe_int set_list))
        (pss_one (ps_ret (pv 2))))) pss_nil)
      (pss_cons (ps_asg (pe_op op_add (pe_ix ix_list (pv 0) pe_int (fun _ _ => rfl)) pe_int) (pg_sub (pv 0) pe_int set_list))
      (pss_cons (ps_set (i := 3) sc__law_take.nd rfl (.inl rfl) (pe_op op_mod (pe_op op_pow (pe_op op_add (pe_op op_add (pe_ix ix_list (pv 0) pe_int (fun _ _ => rfl)) (pe_op op_mul pe_int (pe_ix ix_list (pv 0) pe_int (fun _ _ => rfl)))) pe_int) pe_int) pe_int))
      (pss_cons (ps_set (i := 3) sc__law_take.nd rfl (.inl rfl) (pe_op op_mod (pe_op op_pow (pe_op op_add (pv 3) (pe_op op_mul pe_int (pe_ix ix_list (pv 0) pe_int (fun _ _ => rfl)))) pe_int) pe_int))
      (pss_one (ps_ret (pe_op op_mod (pe_op op_fdiv (pv 3) pe_int) (pv 1))))))), ?_⟩
    have L : SqL K H b [.int g, .int x, .int k] := SqL.of eb
    refine ⟨_, rfl, b, _, 0, .int g, rfl, rfl, L, atI_nat (j := 0) rfl, g, 0, rfl, rfl, _, rfl, ite2 (fun e => ?_) (fun e => ?_)⟩
    · have hg := of_decide_eq_true e
      refine ⟨_, rfl, b, _, 0, .int g, rfl, rfl, L, atI_nat (j := 0) rfl, _, rfl, g, m, rfl, rfl, by show 0 < m; omega, ?_⟩
      refine ⟨_, rfl, b, _, 0, .int g, rfl, rfl, L, atI_nat (j := 0) rfl, _, rfl, g, m, rfl, rfl, ⟨by omega, by omega⟩, ?_⟩
      refine ⟨_, rfl, b, _, _, 0, rfl, rfl, eb, rfl, ?_⟩
      refine ⟨_, rfl, q _ _ (Int.emod_nonneg _ (by omega)) (Int.emod_lt_of_pos _ (by omega)) Keep.upd ⟨g / m, x, k, upd_same, Int.ediv_nonneg (by omega) (by omega), x0, x1, k0, by omega⟩⟩
    · refine ⟨_, rfl, b, _, 2, .int k, rfl, rfl, L, atI_nat (j := 2) rfl, k, 1, rfl, rfl, ?_⟩
      refine ⟨_, rfl, b, _, _, 2, rfl, rfl, eb, rfl, ?_⟩
      have L2 : SqL K (upd H b (.lst [.int g, .int x, .int (k + 1)])) b [.int g, .int x, .int (k + 1)] := SqL.of upd_same
      refine ⟨_, rfl, b, _, 1, .int x, rfl, rfl, L2, atI_nat (j := 1) rfl, _, rfl, b, _, 2, .int (k + 1), rfl, rfl, L2, atI_nat (j := 2) rfl, 6279, k + 1, rfl, rfl, .inl ⟨by decide, by decide⟩, x, _, rfl, rfl, _, 489, rfl, rfl, _, 5, rfl, rfl, ⟨by decide, by decide, by omega⟩, _, 2147483647, rfl, rfl, by show (0 : Int) < 2147483647; decide, ?_⟩
      have b0 := Int.emod_nonneg ((x + 6279 * (k + 1) + 489) ^ (5 : Int).toNat) (show (2147483647 : Int) ≠ 0 by decide)
      have b1 := Int.emod_lt_of_pos ((x + 6279 * (k + 1) + 489) ^ (5 : Int).toNat) (show (0 : Int) < 2147483647 by decide)
      generalize hy : (x + 6279 * (k + 1) + 489) ^ (5 : Int).toNat % 2147483647 = y at b0 b1
      refine ⟨_, rfl, _, rfl, b, _, 2, .int (k + 1), rfl, rfl, L2, atI_nat (j := 2) rfl, 104729, k + 1, rfl, rfl, .inl ⟨by decide, by decide⟩, y, _, by show V.int (_ % _) = _; rw [hy], rfl, _, 3, rfl, rfl, ⟨by decide, by decide, by omega⟩, _, 2147483587, rfl, rfl, by show (0 : Int) < 2147483587; decide, ?_⟩
      refine ⟨_, rfl, _, 16, rfl, rfl, ⟨by decide, by decide⟩, _, rfl, _, m, rfl, rfl, by show 0 < m; omega, ?_⟩
      exact q _ _ (Int.emod_nonneg _ (by omega)) (Int.emod_lt_of_pos _ (by omega)) Keep.upd ⟨g, x, k + 1, upd_same, g0, x0, x1, by omega, by omega⟩
end
end K08
set_option maxHeartbeats 4000000
namespace K08
open PySem PySem.Spec PyProof.Rows L2 RL RE RN RM TL
/-- all signs of a text are such -/
def okP (p : Nat → Bool) (z : Str) : Prop := ∀ x ∈ tl z, p x = true
def stemC (x : Nat) : Bool := lowC x && decide (x ≠ 108)
theorem okP_joinL {p : Nat → Bool} {S : List Nat} (hS : ∀ x ∈ S, p x = true) : ∀ ps : List (List Nat), (∀ q ∈ ps, ∀ x ∈ q, p x = true) → ∀ x ∈ joinL S ps, p x = true
  | [], _, x, h => by cases h
  | [q], hp, x, h => hp q (List.mem_cons_self ..) x h
  | q :: r :: t, hp, x, h => by
    have h : x ∈ q ++ (S ++ joinL S (r :: t)) := h
    rcases List.mem_append.mp h with h | h
    · exact hp q (List.mem_cons_self ..) x h
    · rcases List.mem_append.mp h with h | h
      · exact hS x h
      · exact okP_joinL hS (r :: t) (fun z hz => hp z (List.mem_cons_of_mem _ hz)) x h
theorem okP_join {p : Nat → Bool} {ys : List Str} (hy : ∀ y ∈ ys, okP p y) : okP p (Txt.join (Str.ofString "") ys) := by
  unfold okP
  rw [join_eq, tl_join]
  refine okP_joinL (fun x h => (by cases h)) _ fun q hq => ?_
  obtain ⟨y, h, rfl⟩ := List.mem_map.mp hq
  exact hy y h
theorem joinL_len : ∀ ps : List (List Nat), (∀ q ∈ ps, q.length = 1) → (joinL [] ps).length = ps.length
  | [], _ => rfl
  | [q], h => h q (List.mem_cons_self ..)
  | q :: r :: t, h => by
    have e : joinL [] (q :: r :: t) = q ++ ([] ++ joinL [] (r :: t)) := rfl
    rw [e, List.length_append, List.nil_append, joinL_len (r :: t) fun z hz => h z (List.mem_cons_of_mem _ hz), h q (List.mem_cons_self ..), List.length_cons, List.length_cons, List.length_cons]
    omega
theorem join1_len {ys : List Str} (h : ∀ y ∈ ys, y.length = 1) : (Txt.join (Str.ofString "") ys).length = ys.length := by
  rw [len_tl, join_eq, tl_join]
  show (joinL [] _).length = _
  rw [joinL_len _ (fun q hq => by obtain ⟨y, hy, rfl⟩ := List.mem_map.mp hq; rw [← len_tl]; exact h y hy), List.length_map]
theorem cut_okP {p : Nat → Bool} {z : Str} (h : okP p z) (a b : Option Int) : okP p (cutS z a b) := by
  intro x hx
  unfold cutS tl at hx
  have hx : x ∈ List.take _ (List.drop _ z.cps.toList) := hx
  exact h x (List.mem_of_mem_drop (List.mem_of_mem_take hx))
theorem app_okP {p : Nat → Bool} {x y : Str} (hx : okP p x) (hy : okP p y) : okP p (x ++ y) := by
  intro c hc
  have hc : c ∈ (x.cps ++ y.cps).toList := hc
  rw [Array.toList_append] at hc
  exact (List.mem_append.mp hc).elim (hx c) (hy c)
theorem okP.imp {p q : Nat → Bool} {z : Str} (h : okP p z) (i : ∀ x, p x = true → q x = true) : okP q z := fun x hx => i x (h x hx)
theorem stem_low {z : Str} (h : okP stemC z) : okP lowC z := h.imp fun x e => (Bool.and_eq_true_iff.mp e).1
theorem cut_two (z : Str) {a : Int} (ha : 0 ≤ a) : (cutS z none (some a)).length + (cutS z (some a) none).length = z.length := by
  unfold cutS
  have e1 : HT.sIx z.length 0 (some a) = min a.toNat z.length := by
    show (if a < 0 then _ else _) = _
    rw [if_neg (by omega)]
  have e2 : HT.sIx z.length z.length (some a) = min a.toNat z.length := by
    show (if a < 0 then _ else _) = _
    rw [if_neg (by omega)]
  rw [e1, e2]
  show (List.toArray _).size + (List.toArray _).size = _
  have e3 : HT.sIx z.length 0 none = 0 := rfl
  have e4 : HT.sIx z.length z.length none = z.length := rfl
  rw [e3, e4, List.size_toArray, List.size_toArray, List.length_take, List.length_drop, List.length_take, List.length_drop]
  have : z.cps.toList.length = z.length := Array.length_toList
  omega
/-- a name by its signs -/
theorem name_of {z : Str} (h1 : 1 ≤ z.length) (h8 : z.length ≤ 8) (hl : okP lowC z) (p : z ≠ tPub) (c : z ≠ tCal) : nameT z = true := by
  unfold nameT
  rw [decide_eq_true h1, decide_eq_true h8, List.all_eq_true.mpr hl, beq_eq_false_iff_ne.mpr p, beq_eq_false_iff_ne.mpr c]
  rfl
/-- one letter ahead of a text without l -/
theorem tail_ne {c : Nat} {z : Str} (h : okP stemC z) : (⟨#[c]⟩ : Str) ++ z ≠ tPub ∧ (⟨#[c]⟩ : Str) ++ z ≠ tCal := by
  have e : tl ((⟨#[c]⟩ : Str) ++ z) = c :: tl z := by
    show (#[c] ++ z.cps).toList = _
    rw [Array.toList_append]
    rfl
  have key : ∀ w : Str, 108 ∈ (tl w).tail → (⟨#[c]⟩ : Str) ++ z ≠ w := fun w hw q => by
    rw [← q, e] at hw
    have := h 108 hw
    revert this
    decide
  exact ⟨key _ (by decide +kernel), key _ (by decide +kernel)⟩
theorem txt_low {z : Str} (h : z.length ≤ 8) (hl : okP lowC z) : txt z := ⟨by omega, fun x hx => by
  have := hl x hx
  simp only [lowC, Bool.and_eq_true, decide_eq_true_eq] at this
  omega⟩
end K08
set_option maxHeartbeats 4000000
namespace K08
open PySem PySem.Spec PyProof.Rows L2 RL RE RN RM TL
/-! ### the names as data: unlike ones -/
abbrev stems : Str := Str.ofString "abcdefghijkmnopqrstuvwxyz"
abbrev letters : Str := Str.ofString "abcdefghijklmnopqrstuvwxyz"
theorem atI_int {α : Type} {xs : List α} {i : Int} {v : α} (h0 : 0 ≤ i) (h : xs[i.toNat]? = some v) : atI xs i = some v := by
  have e : i = ((i.toNat : Nat) : Int) := by omega
  generalize i.toNat = j at e h
  subst e
  exact atI_nat h
/-- the letter at a number -/
def ltr (e : Int) : Nat := 97 + (e % 26).toNat
theorem letters_fin : ∀ k : Fin 26, letters.cps.toList[k.val]? = some (97 + k.val) := by decide +kernel
theorem ltr_at (e : Int) : atI letters.cps.toList (e % 26) = some (ltr e) := by
  have b0 := Int.emod_nonneg e (show (26 : Int) ≠ 0 by decide)
  have b1 := Int.emod_lt_of_pos e (show (0 : Int) < 26 by decide)
  exact atI_int b0 (letters_fin ⟨(e % 26).toNat, by omega⟩)
theorem ltr_low (e : Int) : lowC (ltr e) = true := by
  have b0 := Int.emod_nonneg e (show (26 : Int) ≠ 0 by decide)
  have b1 := Int.emod_lt_of_pos e (show (0 : Int) < 26 by decide)
  unfold ltr
  have : (e % 26).toNat < 26 := by omega
  generalize (e % 26).toNat = k at this
  revert k
  decide +kernel
theorem ltr_inj {a b : Int} (h : ltr a = ltr b) : a % 26 = b % 26 := by
  have b0 := Int.emod_nonneg a (show (26 : Int) ≠ 0 by decide)
  have b1 := Int.emod_nonneg b (show (26 : Int) ≠ 0 by decide)
  unfold ltr at h
  omega
theorem tl_app (x y : Str) : tl (x ++ y) = tl x ++ tl y := Array.toList_append
theorem tl_one (c : Nat) : tl (⟨#[c]⟩ : Str) = [c] := rfl
theorem cut_front (z : Str) {a : Int} (ha : 0 ≤ a) : tl (cutS z none (some a)) = (tl z).take a.toNat := by
  unfold cutS
  have e2 : HT.sIx z.length z.length (some a) = min a.toNat z.length := by
    show (if a < 0 then _ else _) = _
    rw [if_neg (by omega)]
  have e3 : HT.sIx z.length 0 none = 0 := rfl
  rw [e2, e3]
  show ((List.take _ (List.drop 0 z.cps.toList))) = List.take a.toNat z.cps.toList
  rw [List.drop_zero, Nat.sub_zero]
  have : z.cps.toList.length = z.length := Array.length_toList
  rw [← this]
  exact List.take_eq_take_min.symm
/-- a name -/
def nmz (way first at_ : Int) (stem : Str) (i : Nat) : Str :=
  if way = 0 then cutS stem none (some at_) ++ ⟨#[ltr (first + 7 * (i : Int))]⟩ ++ cutS stem (some at_) none
  else if way = 1 then (⟨#[ltr (first + 7 * (i : Int))]⟩ : Str) ++ cutS stem none (some ((i : Int) % 7))
  else (⟨#[ltr (first + (i : Int) / 7)]⟩ : Str) ++ cutS stem none (some ((i : Int) % 7))
theorem nmz_ne {way first at_ : Int} {stem : Str} (h6 : stem.length = 6) (a0 : 0 ≤ at_) (a1 : at_ < 7) {i j : Nat} (hi : i < 12) (hj : j < 12)
    (h : nmz way first at_ stem i = nmz way first at_ stem j) : i = j := by
  have hl : (tl stem).length = 6 := by
    have : stem.cps.toList.length = stem.length := Array.length_toList
    exact this.trans h6
  have h2 : tl (nmz way first at_ stem i) = tl (nmz way first at_ stem j) := congrArg tl h
  unfold nmz at h2
  by_cases w0 : way = 0
  · rw [if_pos w0, if_pos w0] at h2
    simp only [tl_app, tl_one, cut_front stem a0] at h2
    rw [List.append_assoc, List.append_assoc] at h2
    have h3 := List.append_cancel_left h2
    have h4 : ltr (first + 7 * (i : Int)) = ltr (first + 7 * (j : Int)) := by
      injection h3
    have h5 := ltr_inj h4
    omega
  · rw [if_neg w0, if_neg w0] at h2
    by_cases w1 : way = 1
    · rw [if_pos w1, if_pos w1] at h2
      simp only [tl_app, tl_one] at h2
      have h4 : ltr (first + 7 * (i : Int)) = ltr (first + 7 * (j : Int)) := by
        injection h2
      have h5 := ltr_inj h4
      omega
    · rw [if_neg w1, if_neg w1] at h2
      simp only [tl_app, tl_one] at h2
      have h4 : ltr (first + (i : Int) / 7) = ltr (first + (j : Int) / 7) := by
        injection h2
      have h5 := ltr_inj h4
      have i0 : 0 ≤ (i : Int) % 7 := by omega
      have j0 : 0 ≤ (j : Int) % 7 := by omega
      rw [cut_front stem i0, cut_front stem j0] at h2
      have h6 := congrArg List.length h2
      simp only [List.length_append, List.length_cons, List.length_nil, List.length_take, hl] at h6
      omega
/-- all the names -/
def nms (way first at_ : Int) (stem : Str) (n : Nat) : List Str := (List.range n).map (nmz way first at_ stem)
theorem nms_len (way first at_ : Int) (stem : Str) (n : Nat) : (nms way first at_ stem n).length = n := by
  unfold nms
  rw [List.length_map, List.length_range]
theorem nms_snoc (way first at_ : Int) (stem : Str) (n : Nat) : nms way first at_ stem (n + 1) = nms way first at_ stem n ++ [nmz way first at_ stem n] := by
  unfold nms
  rw [List.range_succ, List.map_append]
  rfl
theorem nms_nodup {way first at_ : Int} {stem : Str} (h6 : stem.length = 6) (a0 : 0 ≤ at_) (a1 : at_ < 7) : (nms way first at_ stem 12).Nodup := by
  unfold nms List.Nodup
  rw [List.pairwise_map]
  refine List.Pairwise.imp_of_mem ?_ List.nodup_range
  intro i j hi hj hne e
  exact hne (nmz_ne h6 a0 a1 (List.mem_range.mp hi) (List.mem_range.mp hj) e)
end K08
set_option maxHeartbeats 4000000
namespace K08
open PySem PySem.Spec PyProof.Rows L2 RL RE RN RM TL
theorem cut_len (z : Str) (a b : Option Int) : (cutS z a b).length ≤ z.length := by
  unfold cutS
  show (List.toArray _).size ≤ z.cps.size
  rw [List.size_toArray, List.length_take, List.length_drop]
  have : z.cps.toList.length = z.cps.size := Array.length_toList
  omega
theorem app_len (x y : Str) : (x ++ y).length = x.length + y.length := Array.size_append
theorem sz {n : Nat} (h : n ≤ 1000) : n ≤ sizeLine := Nat.le_trans h (by decide)
theorem stems_len : stems.cps.toList.length = 25 := by decide +kernel
theorem letters_len : letters.cps.toList.length = 26 := by decide +kernel
theorem stems_ok : ∀ x ∈ stems.cps.toList, stemC x = true := by
  have h : (stems.cps.toList.all stemC) = true := by decide +kernel
  exact fun x hx => List.all_eq_true.mp h x hx
theorem letters_ok : ∀ x ∈ letters.cps.toList, lowC x = true := by
  have h : (letters.cps.toList.all lowC) = true := by decide +kernel
  exact fun x hx => List.all_eq_true.mp h x hx
theorem okP_one {p : Nat → Bool} {c : Nat} (h : p c = true) : okP p ⟨#[c]⟩ := fun x hx => by
  have : x = c := by simpa [tl] using hx
  rw [this]; exact h
theorem sum1 {ys : List Str} (h1 : ∀ y ∈ ys, y.length = 1) : (ys.map (·.length)).sum = ys.length := by
  induction ys with
  | nil => rfl
  | cons a r ih =>
    rw [List.map_cons, List.sum_cons, h1 a (List.mem_cons_self ..), ih fun y hy => h1 y (List.mem_cons_of_mem _ hy), List.length_cons, Nat.add_comm]
section
variable {P : Program} {w : World} {K : PySem.W.Frag} {mg : Str → Option Value} {base : Heap} {f : Addr} {fd : FuncData}
def spNames : Sp := fun vs H Q _ => ∃ (b : Addr) (n : Int), vs = [.ref b, .int 12] ∧ 0 ≤ n ∧ n ≤ 90000 ∧ Bx H b n ∧ ∀ (p : Addr) (ys : List Str) H', ys.length = 12 → ys.Nodup → (∀ y ∈ ys, nameT y = true ∧ txt y) → H p = none → H' p = some (.lst (ys.map V.str)) → Keep b H H' → Bx H' b (n + 9) → Q (.ref p) H'
theorem ok_names (F : Fun K "_law_names" "_law_names" s__law_names f fd) (GT : Df P w K mg base CX0 1 "_law_take" ["_law_box_here", "_law_many"] spTake) (mr : mg "range" = none) : FnOk P w K mg base CX0 2 f fd ["_law_box_here", "_law_many"] spNames := by
  refine F.ok sc__law_names (fun vs H Q E h => by obtain ⟨b, n, rfl, _⟩ := h; rfl) (fun cdv A outer s H vs Q E hr h => ?_)
  obtain ⟨b, n, rfl, n0, n1, hb, q⟩ := h
  refine ⟨_, PSs.nox (pss_cons (ps_asg (pe_tup (pa_cons pe_str (pa_cons pe_str pa_nil))) (pg_tup (by rfl) (pgs_cons (pg_name (i := 2) sc__law_names.nd rfl (.inl rfl)) (pgs_cons (pg_name (i := 3) sc__law_names.nd rfl (.inr rfl)) pgs_nil))))
    (pss_cons (ps_par3 (i := 4) (j := 5) (l := 6) rfl sc__law_names.nd rfl rfl rfl (by decide) (by decide) (by decide) rfl rfl rfl (pa_cons (pe_df0 GT hr (by rfl) (pa_cons (pv 0) (pa_cons pe_int pa_nil))) (pa_cons (pe_df0 GT hr (by rfl) (pa_cons (pv 0) (pa_cons pe_int pa_nil))) (pa_cons (pe_df0 GT hr (by rfl) (pa_cons (pv 0) (pa_cons pe_int pa_nil))) pa_nil))) (by rfl))
    (pss_cons (ps_set (i := 7) sc__law_names.nd rfl (.inl rfl) (pe_join pe_str (pe_lc (own := [("_law_k", 11)]) (g := gName 11) (by rfl) sc__law_names.nd (pi_range1 (by rfl) mr (pa_cons pe_int pa_nil))
          (blkOk_by (own := [("_law_k", 11)]) (N := N__law_names) (sc := defScope s__law_names) (by decide +kernel)) (fun _ _ _ _ _ => pg_name (i := 11) sc__law_names.nd rfl (Or.inl rfl)) (fun _ _ _ _ _ => pts_nil)
          (fun _ _ _ _ _ => pe_ix ix_str (pv 3) (pe_df0 GT hr (by rfl) (pa_cons (pv 0) (pa_cons pe_int pa_nil))) (fun _ _ => rfl)))))
    (pss_cons (ps_set (i := 8) sc__law_names.nd rfl (.inl rfl) (pe_lst pa_nil))
    (pss_cons (ps_for PassesOwn.never rfl (pi_range1 (by rfl) mr (pa_cons (pv 1) pa_nil)) (pg_name (i := 11) sc__law_names.nd rfl (Or.inl rfl))
      (pss_cons (ps_set (i := 9) sc__law_names.nd rfl (.inl rfl) (pe_ix ix_str (pv 2) (pe_op op_mod (pe_op op_add (pv 5) (pe_op op_mul pe_int (pv 11))) pe_int) (fun _ _ => rfl)))
      (pss_cons (ps_set (i := 10) sc__law_names.nd rfl (.inl rfl) (pe_ix ix_str (pv 2) (pe_op op_mod (pe_op op_add (pv 5) (pe_op op_fdiv (pv 11) pe_int)) pe_int) (fun _ _ => rfl)))
      (pss_one (ps_expr (pe_bm PySem.F.plainAttrs_list PySem.F.slot_list_append PySem.F.type_list_append mt_append (pv 8)
        (pa_cons (pe_ix ix_list (pe_lst (pa_cons (pe_op op_add_str (pe_op op_add_str (pe_slice sl_str (pv 7) po_none (po_some (pv 6))) (pv 9)) (pe_slice sl_str (pv 7) (po_some (pv 6)) po_none))
          (pa_cons (pe_op op_add_str (pv 9) (pe_slice sl_str (pv 7) po_none (po_some (pe_op op_mod (pv 11) pe_int))))
          (pa_cons (pe_op op_add_str (pv 10) (pe_slice sl_str (pv 7) po_none (po_some (pe_op op_mod (pv 11) pe_int)))) pa_nil)))) (pv 4) (fun _ _ => rfl)) pa_nil)))))))
    (pss_one (ps_ret (pv 8)))))))), ?_⟩
  refine ⟨by show 2 ≤ sizeLine; decide, fun T nT => ?_⟩
  refine ⟨T, _, rfl, .inl (.inl upd_same), rfl, _, _, rfl, _, _, rfl, rfl, ?_⟩
  have hb := hb.same (same_upd (o := .tup [.str (Str.ofString "abcdefghijklmnopqrstuvwxyz"), .str (Str.ofString "abcdefghijkmnopqrstuvwxyz")]) nT)
  have s0 := same_upd (H := H) (o := .tup [.str (Str.ofString "abcdefghijklmnopqrstuvwxyz"), .str (Str.ofString "abcdefghijkmnopqrstuvwxyz")]) nT
  generalize upd H T (.tup [.str (Str.ofString "abcdefghijklmnopqrstuvwxyz"), .str (Str.ofString "abcdefghijkmnopqrstuvwxyz")]) = H0 at hb s0
  refine ⟨_, rfl, b, 3, n, rfl, by decide, by decide, n0, by omega, hb, fun way H1 w0 w1 k1 hb1 => ?_⟩
  refine ⟨_, rfl, b, 26, n + 1, rfl, by decide, by decide, by omega, by omega, hb1, fun first H2 f0 f1 k2 hb2 => ?_⟩
  refine ⟨_, rfl, b, 7, n + 1 + 1, rfl, by decide, by decide, by omega, by omega, hb2, fun at_ H3 a0 a1 k3 hb3 => ?_⟩
  refine ⟨_, _, _, rfl, ?_⟩
  refine ⟨⟨_, rfl⟩, 6, rfl, by decide, by decide, fun D nD => ?_⟩
  have nDb : D ≠ b := fun e => by
    obtain ⟨g0, m0, c0, eb1, hb1r⟩ := id hb3
    rw [e, eb1] at nD
    cases nD
  refine lc_range (lo := 0) (n := 6) (fun i H' => ∃ ys : List Str, H' D = some (.lst (ys.map V.str)) ∧ ys.length = i ∧ (∀ y ∈ ys, y.length = 1) ∧ (∀ y ∈ ys, okP stemC y) ∧ Keep b H3 H' ∧ Bx H' b (n + 3 + (i : Int))) ?_ ?_ ?_
  · refine ⟨[], upd_same, rfl, (fun _ h => nomatch h), (fun _ h => nomatch h), Keep.new nD, ?_⟩
    exact (hb3.same (same_upd nD)).mono (by omega)
  · intro i H4 hi h2
    obtain ⟨ys, eD, el, e1, o1, k4, hb4⟩ := h2
    refine ⟨rfl, ?_⟩
    unfold tYes
    refine iteT ?_
    refine ⟨_, rfl, _, rfl, b, 25, n + 3 + (i : Int), rfl, by decide, by decide, by omega, by omega, hb4, fun d2 H5 d20 d21 k5 hb5 => ?_⟩
    have hlt : d2.toNat < stems.cps.toList.length := by rw [stems_len]; omega
    refine ⟨stems, d2, stems.cps.toList[d2.toNat], rfl, rfl, by decide +kernel, atI_int d20 (List.getElem?_eq_getElem hlt), ?_⟩
    refine ⟨ys.map V.str, k5 _ _ nDb eD, ?_, ys ++ [⟨#[stems.cps.toList[d2.toNat]]⟩], ?_, ?_, ?_, ?_, ?_, ?_⟩
    · rw [List.length_map]
      exact Nat.lt_of_lt_of_le (show ys.length < 1000 by omega) (by decide)
    · rw [upd_same, List.map_append]; rfl
    · rw [List.length_append, el]; rfl
    · intro y hy
      rcases List.mem_append.mp hy with h | h
      · exact e1 y h
      · rw [List.mem_singleton.mp h]; rfl
    · intro y hy
      rcases List.mem_append.mp hy with h | h
      · exact o1 y h
      · rw [List.mem_singleton.mp h]; exact okP_one (stems_ok _ (List.getElem_mem hlt))
    · intro a o na ea
      have haD : a ≠ D := fun z => by rw [z, nD] at ea; cases ea
      rw [upd_ne haD]
      exact k5 a o na (k4 a o na ea)
    · obtain ⟨g, m, k, e, r1, r2, r3, r4, r5⟩ := hb5
      exact ⟨g, m, k, by rw [upd_ne nDb.symm]; exact e, r1, r2, r3, r4, by omega⟩
  · intro H4 h2
    obtain ⟨ys, eD, el, e1, o1, k4, hb4⟩ := h2
    refine ⟨_, D, ys, rfl, rfl, .inl (SqL.of eD), ?_, ?_⟩
    · rw [sum1 e1, el]
      decide
    have hz6' : (Txt.join (Str.ofString "") ys).length = 6 := (join1_len e1).trans el
    have hz6 : (Txt.join (Str.ofString "") ys).length = 6 := (join1_len e1).trans el
    have hz : (Txt.join (Str.ofString "") ys).length ≤ 6 := Nat.le_of_eq hz6
    have oz : okP stemC (Txt.join (Str.ofString "") ys) := okP_join o1
    generalize Txt.join (Str.ofString "") ys = stem at hz6 hz6' hz oz
    have kA : Keep b H0 H4 := ((k1.trans k2).trans k3).trans k4
    refine ⟨by show 0 ≤ sizeLine; decide, fun L nL => ?_⟩
    have nLb : L ≠ b := fun e => by
      obtain ⟨g0, m0, c0, eb1, hb1r⟩ := id hb4
      rw [e, eb1] at nL
      cases nL
    have hb5 := hb4.same (same_upd (o := .lst []) nL)
    have kB : Keep b H0 (upd H4 L (.lst [])) := kA.trans (Keep.new nL)
    have eL : (upd H4 L (.lst [])) L = some (.lst []) := upd_same
    have nHL : H L = none := by
      cases e : H L with
      | none => rfl
      | some o => rw [kA L o nLb (s0 _ _ e)] at nL; cases nL
    have nH0L : H0 L = none := by
      cases e : H0 L with
      | none => rfl
      | some o => rw [kA L o nLb e] at nL; cases nL
    generalize upd H4 L (.lst []) = H5 at hb5 kB eL
    refine ⟨_, rfl, 12, rfl, by decide, by decide, for_range (lo := 0) (n := 12) (fun i σ H' => ∃ y9 y10 y11, σ = [some (.ref b), some (.int 12), some (.str letters), some (.str stems), some (.int way), some (.int first), some (.int at_), some (.str stem), some (.ref L), y9, y10, y11] ∧
      ∃ zs : List Str, H' L = some (.lst (zs.map V.str)) ∧ zs = nms way first at_ stem i ∧ (∀ z ∈ zs, nameT z = true ∧ txt z) ∧ Keep b H0 H' ∧ Bx H' b (n + 9)) ⟨_, _, _, rfl, [], eL, rfl, (fun _ h => nomatch h), kB, hb5.mono (by omega)⟩ ?_ ?_⟩
    · intro i σ H6 hi h
      obtain ⟨y9, y10, y11, rfl, zs, ez, el6, hz6, k6, hb6⟩ := h
      have ec1 := ltr_at (first + 7 * (0 + (i : Int)))
      have oc1 := ltr_low (first + 7 * (0 + (i : Int)))
      have ec2 := ltr_at (first + (0 + (i : Int)) / 7)
      have oc2 := ltr_low (first + (0 + (i : Int)) / 7)
      have xc1 : ltr (first + 7 * (0 + (i : Int))) = ltr (first + 7 * (i : Int)) := by rw [Int.zero_add]
      have xc2 : ltr (first + (0 + (i : Int)) / 7) = ltr (first + (i : Int) / 7) := by rw [Int.zero_add]
      have xi : cutS stem none (some ((0 + (i : Int)) % 7)) = cutS stem none (some ((i : Int) % 7)) := by rw [Int.zero_add]
      generalize ltr (first + 7 * (0 + (i : Int))) = c1 at ec1 oc1 xc1
      generalize ltr (first + (0 + (i : Int)) / 7) = c2 at ec2 oc2 xc2
      have zl : zs.length = i := by rw [el6, nms_len]
      refine ⟨_, rfl, _, rfl, _, rfl, 7, _, rfl, rfl, .inl ⟨by decide, by decide⟩, _, _, rfl, rfl, _, 26, rfl, rfl, by show (0 : Int) < 26; decide, letters, _, c1, rfl, rfl, by decide +kernel, ec1, ?_⟩
      refine ⟨_, rfl, _, rfl, _, rfl, _, 7, rfl, rfl, ⟨by decide, by decide⟩, _, _, rfl, rfl, _, 26, rfl, rfl, by show (0 : Int) < 26; decide, letters, _, c2, rfl, rfl, by decide +kernel, ec2, ?_⟩
      have z6 : stem.length ≤ sizeLine := sz (by omega)
      have l1 := cut_len stem none (some at_)
      have l3 := cut_len stem (some at_) none
      have l4 := cut_len stem none (some ((0 + (i : Int)) % 7))
      have g1 : ∀ c : Nat, (⟨#[c]⟩ : Str).length = 1 := fun _ => rfl
      have p1 := cut_okP oz none (some at_)
      have p3 := cut_okP oz (some at_) none
      have p4 := cut_okP oz none (some ((0 + (i : Int)) % 7))
      have two := cut_two stem a0
      refine ⟨_, rfl, .inl ⟨rfl, _, .inl (.inl ez)⟩, ?_⟩
      refine ⟨_, rfl, _, rfl, at_, rfl, stem, rfl, z6, _, rfl, _, _, rfl, rfl, sz (by rw [g1]; omega), ?_⟩
      refine ⟨_, rfl, _, rfl, at_, rfl, stem, rfl, z6, _, _, rfl, rfl, sz (by rw [app_len, g1]; omega), ?_⟩
      refine ⟨_, rfl, _, rfl, _, rfl, _, 7, rfl, rfl, by show (0 : Int) < 7; decide, _, rfl, stem, rfl, z6, _, _, rfl, rfl, sz (by rw [g1]; omega), ?_⟩
      refine ⟨_, rfl, _, rfl, _, rfl, _, 7, rfl, rfl, by show (0 : Int) < 7; decide, _, rfl, stem, rfl, z6, _, _, rfl, rfl, sz (by rw [g1]; omega), ?_⟩
      refine ⟨by show 3 ≤ sizeLine; decide, fun p np => ?_⟩
      have hx : ∃ x : Str, atI [V.str (cutS stem none (some at_) ++ ⟨#[c1]⟩ ++ cutS stem (some at_) none), .str (⟨#[c1]⟩ ++ cutS stem none (some ((0 + (i : Int)) % 7))), .str (⟨#[c2]⟩ ++ cutS stem none (some ((0 + (i : Int)) % 7)))] way = some (.str x) ∧ x = nmz way first at_ stem i ∧ nameT x = true ∧ txt x := by
        have hw : way = 0 ∨ way = 1 ∨ way = 2 := by omega
        rcases hw with e | e | e
        · rw [e]
          have lx : (cutS stem none (some at_) ++ ⟨#[c1]⟩ ++ cutS stem (some at_) none).length = 7 := by rw [app_len, app_len, g1]; omega
          have ox : okP lowC (cutS stem none (some at_) ++ ⟨#[c1]⟩ ++ cutS stem (some at_) none) := app_okP (app_okP (stem_low p1) (okP_one oc1)) (stem_low p3)
          exact ⟨_, atI_nat (j := 0) rfl, by unfold nmz; rw [if_pos rfl, ← xc1], name_of (by omega) (by omega) ox (fun z => by rw [z] at lx; revert lx; decide +kernel) (fun z => by rw [z] at lx; revert lx; decide +kernel), txt_low (by omega) ox⟩
        · rw [e]
          have lx : (⟨#[c1]⟩ ++ cutS stem none (some ((0 + (i : Int)) % 7)) : Str).length ≤ 7 ∧ 1 ≤ (⟨#[c1]⟩ ++ cutS stem none (some ((0 + (i : Int)) % 7)) : Str).length := by rw [app_len, g1]; omega
          have ox : okP lowC (⟨#[c1]⟩ ++ cutS stem none (some ((0 + (i : Int)) % 7))) := app_okP (okP_one oc1) (stem_low p4)
          exact ⟨_, atI_nat (j := 1) rfl, by unfold nmz; rw [if_neg (by decide), if_pos rfl, ← xc1, xi], name_of lx.2 (by omega) ox (tail_ne p4).1 (tail_ne p4).2, txt_low (by omega) ox⟩
        · rw [e]
          have lx : (⟨#[c2]⟩ ++ cutS stem none (some ((0 + (i : Int)) % 7)) : Str).length ≤ 7 ∧ 1 ≤ (⟨#[c2]⟩ ++ cutS stem none (some ((0 + (i : Int)) % 7)) : Str).length := by rw [app_len, g1]; omega
          have ox : okP lowC (⟨#[c2]⟩ ++ cutS stem none (some ((0 + (i : Int)) % 7))) := app_okP (okP_one oc2) (stem_low p4)
          exact ⟨_, atI_nat (j := 2) rfl, by unfold nmz; rw [if_neg (by decide), if_neg (by decide), ← xc2, xi], name_of lx.2 (by omega) ox (tail_ne p4).1 (tail_ne p4).2, txt_low (by omega) ox⟩
      obtain ⟨x, ex, nx, lx, ox⟩ := hx
      refine ⟨_, rfl, p, _, way, .str x, rfl, rfl, SqL.of upd_same, ex, ?_⟩
      have nLp : L ≠ p := ne_of_none ez np
      refine ⟨L, zs.map V.str, .str x, rfl, rfl, by rw [upd_ne nLp]; exact ez, ?_, ?_⟩
      · rw [List.length_map]
        exact Nat.lt_of_lt_of_le (show zs.length < 1000 by omega) (by decide)
      · refine ⟨_, _, _, rfl, zs ++ [x], ?_, ?_, ?_, ?_, ?_⟩
        · rw [upd_same, List.map_append]; rfl
        · rw [el6, nms_snoc, nx]
        · intro z hz
          rcases List.mem_append.mp hz with h | h
          · exact hz6 z h
          · rw [List.mem_singleton.mp h]; exact ⟨lx, ox⟩
        · intro a o na ea
          have h6 := k6 a o na ea
          have haL : a ≠ L := fun z => by
            subst z
            rw [nH0L] at ea
            cases ea
          rw [upd_ne haL, upd_ne (ne_of_none h6 np)]
          exact h6
        · obtain ⟨g, m, k, e, r1, r2, r3, r4, r5⟩ := hb6
          exact ⟨g, m, k, by rw [upd_ne nLb.symm, upd_ne (ne_of_none e np)]; exact e, r1, r2, r3, r4, r5⟩
    · intro σ H6 h
      obtain ⟨y9, y10, y11, rfl, zs, ez, el6, hz6, k6, hb6⟩ := h
      exact ⟨_, rfl, q L zs H6 (by rw [el6, nms_len]) (by rw [el6]; exact nms_nodup hz6' a0 a1) hz6 nHL ez (fun a o na ea => k6 a o na (s0 _ _ ea)) hb6⟩
end
end K08
set_option maxHeartbeats 4000000
namespace K08
open PySem PySem.Spec PyProof.Rows L2 RL RE RN TL RQ RC
theorem kl_list {K : PySem.W.Frag} : PySem.W.kitAny K (.type "list") [.type "list", .type "tuple"] = some true := kitAny_cons (kit_ty k_list_list) (fun h => nomatch h) (fun _ => rfl)
theorem k_tuple_tuple' : kitB "tuple" "tuple" = some true := by decide +kernel
theorem kl_tup {K : PySem.W.Frag} : PySem.W.kitAny K (.type "tuple") [.type "list", .type "tuple"] = some true := kitAny_cons (kit_ty k_tuple_list) (fun _ => kitAny_cons (kit_ty k_tuple_tuple') (fun h => nomatch h) (fun _ => rfl)) (fun h => nomatch h)
/-- a list or tuple -/
def Sq (K : PySem.W.Frag) (H : Hp) (b : Addr) (xs : List V) : Prop := SqL K H b xs ∨ SqT K H b xs
theorem Sq.ty {K : PySem.W.Frag} {H : Hp} {b : Addr} {xs : List V} (h : Sq K H b xs) : ∃ t, TyX K H (.ref b) t ∧ PySem.W.kitAny K t [.type "list", .type "tuple"] = some true := by
  rcases h with h | h
  · rcases h with h | ⟨o, its, n, h, c, _⟩
    · rcases h with h | ⟨o, h⟩
      · exact ⟨_, .base (.lst h), kl_list⟩
      · exact ⟨_, .base (.frz h), kl_list⟩
    · exact ⟨_, .kList h c, kl_list⟩
  · rcases h with h | ⟨o, its, n, h, c, _⟩
    · rcases h with h | ⟨o, h⟩
      · exact ⟨_, .base (.tup h), kl_tup⟩
      · exact ⟨_, .fTuple h, kl_tup⟩
    · exact ⟨_, .kTuple h c, kl_tup⟩
theorem Sq.ext {K : PySem.W.Frag} {H H' : Hp} {b : Addr} {xs : List V} (h : Sq K H b xs) (e : Ext H H') : Sq K H' b xs := h.imp (fun h => SqL.ext h e) (fun h => SqT.ext h e)
section
variable {P : Program} {w : World} {K : PySem.W.Frag} {mg : Str → Option Value} {base : Heap} {f : Addr} {fd : FuncData}
def spList (K : PySem.W.Frag) : Sp := fun vs H Q _ => ∃ (b : Addr) (xs : List V), vs = [.ref b] ∧ Sq K H b xs ∧ ∀ H', Ext H H' → Q (.bl true) H'
theorem ok_is_list (F : Fun K "is_list" "is_list" s_is_list f fd) (mi : mg "isinstance" = none) (ml : mg "list" = none) (mt : mg "tuple" = none) : FnOk P w K mg base CX0 1 f fd ["value"] (spList K) := by
  refine F.ok sc_is_list (fun vs H Q E h => by obtain ⟨b, xs, rfl, _⟩ := h; rfl) (fun cdv A outer s H vs Q E hr h => ?_)
  obtain ⟨b, xs, rfl, hS, q⟩ := h
  refine ⟨_, PSs.nox (pss_one (ps_ret (pe_callB call_isiT (by rfl) mi boot_isinstance (pa_cons (pv 0) (pa_cons (pe_tup (pa_cons (pe_bltn (v := .ty "list") (by rfl) ml (by decide +kernel) rfl) (pa_cons (pe_bltn (v := .ty "tuple") (by rfl) mt (by decide +kernel) rfl) pa_nil))) pa_nil))))), ?_⟩
  refine ⟨_, rfl, by show 2 ≤ sizeLine; decide, fun p np => ?_⟩
  obtain ⟨t, ht, hk⟩ := (hS.ext (Ext.upd (o := .tup [.ty "list", .ty "tuple"]) np)).ty
  exact ⟨.ref b, p, _, t, _, true, rfl, upd_same, .cons (.ty _) (.cons (.ty _) .nil), ht, hk, q _ (Ext.upd np)⟩
/-- names of an audience -/
def Aud (ys : List Str) : Prop := ys.length ≤ 8 ∧ ys.Nodup ∧ ∀ y ∈ ys, nameT y = true ∧ txt y
def spNms (K : PySem.W.Frag) : Sp := fun vs H Q _ => ∃ (b : Addr) (ys : List Str), vs = [.ref b, .int 8] ∧ Sq K H b (ys.map V.str) ∧ Aud ys ∧ ∀ H', Ext H H' → Q (.bl true) H'
theorem ok_is_names (F : Fun K "is_names" "is_names" s_is_names f fd) (L : Df P w K mg base CX0 1 "is_list" ["value"] (spList K)) (N : Df P w K mg base CX0 1 "is_name" ["value"] (spP K isName)) (ml : mg "len" = none) (ma : mg "all" = none) (ms : mg "set" = none) : FnOk P w K mg base CX0 2 f fd ["value", "most"] (spNms K) := by
  refine F.ok sc_is_names (fun vs H Q E h => by obtain ⟨b, ys, rfl, _⟩ := h; rfl) (fun cdv A outer s H vs Q E hr h => ?_)
  obtain ⟨b, ys, rfl, hS, hD, q⟩ := h
  obtain ⟨hl, nd, hN⟩ := hD
  have hm : (ys.map V.str).length = ys.length := List.length_map ..
  rcases hS with hS | hS
  · refine ⟨_, pss_cons (ps_if (PW.pt (pw_or (pt_not (pt_val (pe_df0 L hr (by rfl) (pa_cons (pv 0) pa_nil)))) (pw_or1 (pt_cmpR op_gt (pe_callB call_len_seq (by rfl) ml PySem.boot_len (pa_cons (pv 0) pa_nil)) (pv 1) (by rfl))))) (pss_one (ps_ret pe_bl)) pss_nil)
      (pss_one (ps_ret (pe_and (pe_callB (cr_all rfl) (by rfl) ma (by decide +kernel) (pa_cons (pe_lc (own := [("item", 2)]) (g := gName 2) (by rfl) sc_is_names.nd (pi_list (pv 0))
        (blkOk_by (own := [("item", 2)]) (N := N_is_names) (sc := defScope s_is_names) (by decide +kernel)) (fun _ _ _ _ _ => pg_name (i := 2) sc_is_names.nd rfl (Or.inl rfl)) (fun _ _ _ _ _ => pts_nil)
        (fun _ _ _ _ _ => pe_df0 N hr (by rfl) (pa_cons (pv 2) pa_nil))) pa_nil))
        (pe_one (pe_cmpR op_eq (pe_lenSetN rfl (by rfl) ml (by rfl) ms (pv 0)) (pe_callB call_len_seq (by rfl) ml PySem.boot_len (pa_cons (pv 0) pa_nil)) (by rfl)))))), ?_⟩
    refine ⟨_, rfl, b, _, rfl, .inl hS, fun H1 x1 => ⟨_, rfl, ?_⟩⟩
    refine iteF ⟨_, rfl, b, _, rfl, .inl (SqL.ext hS x1), _, rfl, ((ys.map V.str).length : Nat), 8, rfl, rfl, _, rfl, ?_⟩
    have e4 : decide ((8 : Int) < (((ys.map V.str).length : Nat) : Int)) = false := decide_eq_false (by omega)
    show if decide ((8 : Int) < (((ys.map V.str).length : Nat) : Int)) = true then _ else _
    rw [e4]
    refine iteF ?_
    refine ⟨_, rfl, b, rfl, ⟨_, SqL.ext hS x1⟩, fun D nD => lc_list (K := K) (xs := ys.map V.str) (fun i H' => H' D = some (.lst ((List.replicate i true).map V.bl)) ∧ Ext H1 H') ⟨upd_same, Ext.upd nD⟩ (fun i H' _ h => SqL.ext hS (x1.trans h.2)) ?_ ?_⟩
    · intro i x H2 hx h
      obtain ⟨eD, x2⟩ := h
      have hi : i < ys.length := by
        rw [← hm]
        exact (List.getElem?_eq_some_iff.mp hx).1
      have ex : x = .str ys[i] := by
        rw [List.getElem?_map, List.getElem?_eq_getElem hi] at hx
        exact (Option.some.inj hx).symm
      obtain ⟨n1, t1⟩ := hN _ (List.getElem_mem hi)
      refine ⟨rfl, ?_⟩
      unfold tYes
      refine iteT ?_
      refine ⟨_, rfl, _, rfl, by rw [ex]; exact t1.od, ?_⟩
      have en : isName x = true := by rw [ex]; exact n1
      rw [en]
      refine ⟨_, eD, ?_, ?_, ?_⟩
      · rw [List.length_map, List.length_replicate]
        exact Nat.lt_of_lt_of_le (show i < 1000 by omega) (by decide)
      · rw [upd_same, List.replicate_succ', List.map_append]; rfl
      · intro u o eu
        rw [upd_ne (fun z => by rw [z, nD] at eu; cases eu)]
        exact x2 _ _ eu
    · intro H2 h
      obtain ⟨eD, x2⟩ := h
      refine ⟨D, List.replicate (ys.map V.str).length true, rfl, SqL.of eD, ?_⟩
      have e : (List.replicate (ys.map V.str).length true).all id = true := by simp
      rw [e]
      refine ⟨_, rfl, iteT ?_⟩
      have x3 := x1.trans x2
      refine ⟨_, rfl, b, ys, rfl, .inl (SqL.ext hS x3), by omega, ?_⟩
      refine ⟨_, rfl, b, _, rfl, .inl (SqL.ext hS x3), rfl, ?_⟩
      rw [TS.fm_same ys nd, hm]
      have e5 : decide (V.int ((ys.length : Nat) : Int) = V.int ((ys.length : Nat) : Int)) = true := decide_eq_true rfl
      rw [e5]
      exact q _ x3
  · refine ⟨_, pss_cons (ps_if (PW.pt (pw_or (pt_not (pt_val (pe_df0 L hr (by rfl) (pa_cons (pv 0) pa_nil)))) (pw_or1 (pt_cmpR op_gt (pe_callB call_len_seq (by rfl) ml PySem.boot_len (pa_cons (pv 0) pa_nil)) (pv 1) (by rfl))))) (pss_one (ps_ret pe_bl)) pss_nil)
      (pss_one (ps_ret (pe_and (pe_callB (cr_all rfl) (by rfl) ma (by decide +kernel) (pa_cons (pe_lc (own := [("item", 2)]) (g := gName 2) (by rfl) sc_is_names.nd (pi_tup (pv 0))
        (blkOk_by (own := [("item", 2)]) (N := N_is_names) (sc := defScope s_is_names) (by decide +kernel)) (fun _ _ _ _ _ => pg_name (i := 2) sc_is_names.nd rfl (Or.inl rfl)) (fun _ _ _ _ _ => pts_nil)
        (fun _ _ _ _ _ => pe_df0 N hr (by rfl) (pa_cons (pv 2) pa_nil))) pa_nil))
        (pe_one (pe_cmpR op_eq (pe_lenSetN rfl (by rfl) ml (by rfl) ms (pv 0)) (pe_callB call_len_seq (by rfl) ml PySem.boot_len (pa_cons (pv 0) pa_nil)) (by rfl)))))), ?_⟩
    refine ⟨_, rfl, b, _, rfl, .inr hS, fun H1 x1 => ⟨_, rfl, ?_⟩⟩
    refine iteF ⟨_, rfl, b, _, rfl, .inr (SqT.ext hS x1), _, rfl, ((ys.map V.str).length : Nat), 8, rfl, rfl, _, rfl, ?_⟩
    have e4 : decide ((8 : Int) < (((ys.map V.str).length : Nat) : Int)) = false := decide_eq_false (by omega)
    show if decide ((8 : Int) < (((ys.map V.str).length : Nat) : Int)) = true then _ else _
    rw [e4]
    refine iteF ?_
    refine ⟨_, rfl, b, rfl, ⟨_, SqT.ext hS x1⟩, fun D nD => lc_tup (K := K) (xs := ys.map V.str) (fun i H' => H' D = some (.lst ((List.replicate i true).map V.bl)) ∧ Ext H1 H') ⟨upd_same, Ext.upd nD⟩ (fun i H' _ h => SqT.ext hS (x1.trans h.2)) ?_ ?_⟩
    · intro i x H2 hx h
      obtain ⟨eD, x2⟩ := h
      have hi : i < ys.length := by
        rw [← hm]
        exact (List.getElem?_eq_some_iff.mp hx).1
      have ex : x = .str ys[i] := by
        rw [List.getElem?_map, List.getElem?_eq_getElem hi] at hx
        exact (Option.some.inj hx).symm
      obtain ⟨n1, t1⟩ := hN _ (List.getElem_mem hi)
      refine ⟨rfl, ?_⟩
      unfold tYes
      refine iteT ?_
      refine ⟨_, rfl, _, rfl, by rw [ex]; exact t1.od, ?_⟩
      have en : isName x = true := by rw [ex]; exact n1
      rw [en]
      refine ⟨_, eD, ?_, ?_, ?_⟩
      · rw [List.length_map, List.length_replicate]
        exact Nat.lt_of_lt_of_le (show i < 1000 by omega) (by decide)
      · rw [upd_same, List.replicate_succ', List.map_append]; rfl
      · intro u o eu
        rw [upd_ne (fun z => by rw [z, nD] at eu; cases eu)]
        exact x2 _ _ eu
    · intro H2 h
      obtain ⟨eD, x2⟩ := h
      refine ⟨D, List.replicate (ys.map V.str).length true, rfl, SqL.of eD, ?_⟩
      have e : (List.replicate (ys.map V.str).length true).all id = true := by simp
      rw [e]
      refine ⟨_, rfl, iteT ?_⟩
      have x3 := x1.trans x2
      refine ⟨_, rfl, b, ys, rfl, .inr (SqT.ext hS x3), by omega, ?_⟩
      refine ⟨_, rfl, b, _, rfl, .inr (SqT.ext hS x3), rfl, ?_⟩
      rw [TS.fm_same ys nd, hm]
      have e5 : decide (V.int ((ys.length : Nat) : Int) = V.int ((ys.length : Nat) : Int)) = true := decide_eq_true rfl
      rw [e5]
      exact q _ x3
end
end K08
set_option maxHeartbeats 4000000
namespace K08
open PySem PySem.Spec PyProof.Rows L2 RL RE RN RM TL
/-! ### sorted texts: one order only -/
theorem ltC_asym : ∀ a b : List Nat, ltCps a b = false → ltCps b a = false → a = b
  | [], [], _, _ => rfl
  | [], b :: bs, h, _ => by simp [ltCps] at h
  | a :: as, [], _, h => by simp [ltCps] at h
  | a :: as, b :: bs, h1, h2 => by
    simp only [ltCps, Bool.or_eq_false_iff, Bool.and_eq_false_iff, decide_eq_false_iff_not, beq_eq_false_iff_ne] at h1 h2
    have e : a = b := by omega
    subst e
    rcases h1.2 with h | h
    · exact absurd rfl h
    rcases h2.2 with h' | h'
    · exact absurd rfl h'
    rw [ltC_asym as bs h h']
theorem ltC_trans : ∀ a b c : List Nat, ltCps b a = false → ltCps c b = false → ltCps c a = false
  | [], _, [], _, _ => rfl
  | [], _, _ :: _, _, _ => rfl
  | _ :: _, [], _, h, _ => by simp [ltCps] at h
  | _ :: _, _ :: _, [], _, h => by simp [ltCps] at h
  | x :: as, y :: bs, z :: cs, h1, h2 => by
    simp only [ltCps, Bool.or_eq_false_iff, Bool.and_eq_false_iff, decide_eq_false_iff_not, beq_eq_false_iff_ne] at h1 h2 ⊢
    refine ⟨by omega, ?_⟩
    by_cases e : z = x
    · have e2 : y = x := by omega
      have e3 : z = y := by omega
      rcases h1.2 with h | h
      · exact absurd e2 h
      rcases h2.2 with h' | h'
      · exact absurd e3 h'
      exact .inr (ltC_trans as bs cs h h')
    · exact .inl e
/-- not above -/
def leS (x y : Str) : Prop := ltCps y.cps.toList x.cps.toList = false
theorem leS_anti {x y : Str} (h1 : leS x y) (h2 : leS y x) : x = y := by
  have e := ltC_asym _ _ h1 h2
  cases x with
  | mk a => cases y with
    | mk b =>
      have e : b.toList = a.toList := e
      rw [Array.toList_inj.mp e]
theorem leS_trans {x y z : Str} (h1 : leS x y) (h2 : leS y z) : leS x z := ltC_trans _ _ _ h1 h2
theorem rising_pw : ∀ (r : List Str) (p : Str), risingS p r = true → (∀ y ∈ r, leS p y) ∧ r.Pairwise leS
  | [], _, _ => ⟨(fun _ h => nomatch h), List.Pairwise.nil⟩
  | x :: r, p, h => by
    unfold risingS at h
    rw [Bool.and_eq_true] at h
    have h1 : leS p x := by
      unfold leS
      simpa using h.1
    obtain ⟨a, b⟩ := rising_pw r x h.2
    refine ⟨fun y hy => ?_, .cons a b⟩
    rcases List.mem_cons.mp hy with e | hy
    · rw [e]; exact h1
    · exact leS_trans h1 (a y hy)
theorem sorted_pw {r : List Str} (h : sortedS r = true) : r.Pairwise leS := by
  cases r with
  | nil => exact List.Pairwise.nil
  | cons x r =>
    obtain ⟨a, b⟩ := rising_pw r x h
    exact .cons a b
theorem srt_uniq : ∀ (xs ys : List Str), xs.Perm ys → xs.Pairwise leS → ys.Pairwise leS → xs = ys
  | [], ys, p, _, _ => p.nil_eq
  | x :: xs, [], p, _, _ => absurd p.length_eq (by simp)
  | x :: xs, y :: ys, p, h1, h2 => by
    have e : x = y := by
      by_cases e : x = y
      · exact e
      · have m1 : x ∈ ys := (List.mem_cons.mp (p.mem_iff.mp List.mem_cons_self)).resolve_left e
        have m2 : y ∈ xs := (List.mem_cons.mp (p.mem_iff.mpr List.mem_cons_self)).resolve_left (fun z => e z.symm)
        exact leS_anti ((List.pairwise_cons.mp h1).1 _ m2) ((List.pairwise_cons.mp h2).1 _ m1)
    subst e
    rw [srt_uniq xs ys (p.cons_inv) (List.pairwise_cons.mp h1).2 (List.pairwise_cons.mp h2).2]
/-- in order -/
def Srt (xs ys : List Str) : Prop := ys.Perm xs ∧ sortedS ys = true
theorem Srt.uniq {xs xs' ys ys' : List Str} (h : Srt xs ys) (h' : Srt xs' ys') (p : xs.Perm xs') : ys = ys' :=
  srt_uniq ys ys' ((h.1.trans p).trans h'.1.symm) (sorted_pw h.2) (sorted_pw h'.2)
end K08
set_option maxHeartbeats 4000000
namespace K08
open PySem PySem.Spec PyProof.Rows L2 RL RE RN RM TL RQ RC
theorem pt_never {X : Cx} {e : Expr} : PT X e (fun _ _ _ => False) := ⟨fun _ _ _ _ _ _ h => h.elim⟩
/-- the fields of any thing -/
def headT (kind name owner : Str) (au : V) : List (Str × V) := [("kind", .str kind), ("name", .str name), ("owner", .str owner), ("_audience", au)]
structure TF (K : PySem.W.Frag) (C : Addr) : Prop where
  cl : Cls K C
  n1 : NoAttr K C "kind"
  n2 : NoAttr K C "name"
  n3 : NoAttr K C "owner"
  n4 : NoAttr K C "_audience"
/-- all but a is kept -/
def But (a : Addr) (H H' : Hp) : Prop := ∀ u o, u ≠ a → H u = some o → H' u = some o
section
variable {P : Program} {w : World} {K : PySem.W.Frag} {mg : Str → Option Value} {base : Heap} {f : Addr} {fd : FuncData}
def spThing (K : PySem.W.Frag) : Sp := fun vs H Q _ => ∃ (a C dx : Addr) (kind name owner : Str) (x : V), vs = [.ref a, .str kind, .str name, .str owner, x] ∧ TF K C ∧ H a = some (.ins C dx []) ∧ txt name ∧ nameT name = true ∧ txt owner ∧ nameT owner = true ∧
  ((x = .non ∧ Q .non (upd H a (.ins C dx (headT kind name owner .non)))) ∨
   (∃ (b : Addr) (ys : List Str), x = .ref b ∧ ((∀ H', But a H H' → SqL K H' b (ys.map V.str)) ∨ (∀ H', But a H H' → SqT K H' b (ys.map V.str))) ∧ Aud ys ∧
     ∀ H' p zs, Srt ys zs → H p = none → But a H H' → H' a = some (.ins C dx (headT kind name owner (.ref p))) → H' p = some (.lst (zs.map V.str)) → Q .non H'))
theorem ok_Thing {tM : Tok} (F : Fun K "__init__" "Thing.__init__" s_Thing_init f fd) (G : Df P w K mg base CX0 2 "check_name" ["value"] (spG K isName)) (NM : Df P w K mg base CX0 2 "is_names" ["value", "most"] (spNms K)) (mM : mg "MOST_IN_AUDIENCE" = some (.int 8 tM)) (mso : mg "sorted" = none) (ms : mg "str" = none) : FnOk P w K mg base CX0 3 f fd ["self", "kind", "name", "owner", "audience"] (spThing K) := by
  refine F.ok sc_Thing_init (fun vs H Q E h => by obtain ⟨a, C, dx, kd, nm, ow, x, rfl, _⟩ := h; rfl) (fun cdv A outer s H vs Q E hr h => ?_)
  obtain ⟨a, C, dx, kd, nm, ow, x, rfl, T, ea, t1, n1, t2, n2, q⟩ := h
  rcases q with ⟨rfl, q⟩ | ⟨b, ys, rfl, hS, hA, q⟩
  · refine ⟨_, PSs.nox (pss_cons (ps_expr (pe_df0 G hr (by rfl) (pa_cons (pv 2) pa_nil))) (pss_cons (ps_expr (pe_df0 G hr (by rfl) (pa_cons (pv 3) pa_nil)))
      (pss_cons (ps_if (PW.pt (pw_and (pt_cmpR op_notN (pv 4) pe_non (by rfl)) (pw_and1 pt_never))) (pss_one ps_never) pss_nil)
      (pss_cons (ps_fld (pv 0) (pv 1) rfl) (pss_cons (ps_fld (pv 0) (pv 2) rfl) (pss_cons (ps_fld (pv 0) (pv 3) rfl) (pss_cons (ps_fld (pv 0) pe_non rfl)
      (pss_one (ps_if (pt_cmpR op_notN (pv 4) pe_non (by rfl)) (pss_one ps_never) pss_nil))))))))), ?_⟩
    refine ⟨_, rfl, _, rfl, t1.od, n1, ?_⟩
    refine ⟨_, rfl, _, rfl, t2.od, n2, ?_⟩
    refine ⟨_, rfl, rfl, _, rfl, ?_⟩
    refine iteF (iteF ?_)
    refine ⟨_, rfl, _, rfl, a, C, dx, _, rfl, ea, T.cl, T.n1, by decide, ?_⟩
    refine ⟨_, rfl, _, rfl, a, C, dx, _, rfl, upd_same, T.cl, T.n2, by show 1 < 1000; decide, ?_⟩
    refine ⟨_, rfl, _, rfl, a, C, dx, _, rfl, upd_same, T.cl, T.n3, by show 2 < 1000; decide, ?_⟩
    refine ⟨_, rfl, a, C, dx, _, rfl, upd_same, T.cl, T.n4, by show 3 < 1000; decide, ?_⟩
    refine ⟨_, rfl, rfl, _, rfl, ?_⟩
    refine iteF ?_
    have up : ∀ {u v x : HO}, upd (upd (upd (upd H a u) a v) a x) a (.ins C dx (headT kd nm ow .non)) = upd H a (.ins C dx (headT kd nm ow .non)) := by
      intro u v x
      rw [upd_upd, upd_upd, upd_upd]
    rw [← up] at q
    exact q
  · rcases hS with hS | hS
    · refine ⟨_, pss_cons (ps_expr (pe_df0 G hr (by rfl) (pa_cons (pv 2) pa_nil))) (pss_cons (ps_expr (pe_df0 G hr (by rfl) (pa_cons (pv 3) pa_nil)))
        (pss_cons (ps_if (PW.pt (pw_and (pt_cmpR op_notN (pv 4) pe_non (by rfl)) (pw_and1 (pt_not (pt_val (pe_df0 NM hr (by rfl) (pa_cons (pv 4) (pa_cons (pe_glob (v := .int 8) (by rfl) mM ⟨_, rfl⟩) pa_nil)))))))) (pss_one ps_never) pss_nil)
        (pss_cons (ps_fld (pv 0) (pv 1) rfl) (pss_cons (ps_fld (pv 0) (pv 2) rfl) (pss_cons (ps_fld (pv 0) (pv 3) rfl) (pss_cons (ps_fld (pv 0) pe_non rfl)
        (pss_one (ps_if (pt_cmpR op_notN (pv 4) pe_non (by rfl)) (pss_one (ps_fld (pv 0) (pe_callB cr_sortedS (by rfl) mso (by decide +kernel) (pa_cons (pe_lc (own := [("admitted", 5)]) (g := gName 5) (by rfl) sc_Thing_init.nd (pi_list (pv 4))
          (blkOk_by (own := [("admitted", 5)]) (N := N_Thing_init) (sc := defScope s_Thing_init) (by decide +kernel)) (fun _ _ _ _ _ => pg_name (i := 5) sc_Thing_init.nd rfl (Or.inl rfl)) (fun _ _ _ _ _ => pts_nil)
          (fun _ _ _ _ _ => pe_callTy SkE.call_str_str (by rfl) ms PyProof.Rows.boot_str (pa_cons (pv 5) pa_nil))) pa_nil)) rfl)) pss_nil)))))))), ?_⟩
      refine ⟨_, rfl, _, rfl, t1.od, n1, ?_⟩
      refine ⟨_, rfl, _, rfl, t2.od, n2, ?_⟩
      refine ⟨_, rfl, rfl, _, rfl, ?_⟩
      refine iteT ?_
      refine ⟨_, rfl, b, ys, rfl, .inl (hS H (fun _ _ _ e => e)), hA, fun H1 x1 => ⟨_, rfl, iteF ?_⟩⟩
      have ea1 : H1 a = some (.ins C dx []) := x1 _ _ ea
      refine ⟨_, rfl, _, rfl, a, C, dx, _, rfl, ea1, T.cl, T.n1, by decide, ?_⟩
      refine ⟨_, rfl, _, rfl, a, C, dx, _, rfl, upd_same, T.cl, T.n2, by show 1 < 1000; decide, ?_⟩
      refine ⟨_, rfl, _, rfl, a, C, dx, _, rfl, upd_same, T.cl, T.n3, by show 2 < 1000; decide, ?_⟩
      refine ⟨_, rfl, a, C, dx, _, rfl, upd_same, T.cl, T.n4, by show 3 < 1000; decide, ?_⟩
      refine ⟨_, rfl, rfl, _, rfl, ?_⟩
      refine iteT ?_
      rw [upd_upd, upd_upd, upd_upd]
      have bc : But a H (upd H1 a (.ins C dx (headT kd nm ow .non))) := fun u o n e => by
        rw [upd_ne n]
        exact x1 _ _ e
      have ec : (upd H1 a (.ins C dx (headT kd nm ow .non))) a = some (.ins C dx (headT kd nm ow .non)) := upd_same
      rw [show putF (Str.ofString "_audience") V.non (putF (Str.ofString "owner") (V.str ow) (putF (Str.ofString "name") (V.str nm) (putF (Str.ofString "kind") (V.str kd) []))) = headT kd nm ow .non from rfl]
      generalize upd H1 a (.ins C dx (headT kd nm ow .non)) = Hc at bc ec ⊢
      have hc := hS Hc bc
      obtain ⟨hl, nd, hN⟩ := hA
      have fin : ∀ (D : Addr), Hc D = none → ∀ H2 : Hp, H2 D = some (.lst ((ys.take (ys.map V.str).length).map V.str)) → Ext Hc H2 →
          rSortedS K [.ref D] H2 fun x H3 => ∃ (v : V), (L2.start N_Thing_init [V.ref a, V.str kd, V.str nm, V.str ow, V.ref b])[0]? = some (some v) ∧ ∃ (a' C' dx' : Addr) (fs' : List (Str × V)), v = .ref a' ∧ H3 a' = some (.ins C' dx' fs') ∧ Cls K C' ∧ NoAttr K C' "_audience" ∧ fs'.length < 1000 ∧ Q .non (upd H3 a' (.ins C' dx' (putF "_audience" x fs'))) := by
        intro D nD H2 eD x2
        rw [List.length_map, List.take_length] at eD
        refine ⟨D, ys, rfl, SqL.of eD, by omega, fun zs p pm so np => ?_⟩
        have ea2 : H2 a = some (.ins C dx (headT kd nm ow .non)) := x2 _ _ ec
        have npa : p ≠ a := fun z => by rw [z, ea2] at np; cases np
        have nHp : H p = none := by
          cases e : H p with
          | none => rfl
          | some o => rw [x2 _ _ (bc p o npa e)] at np; cases np
        refine ⟨_, rfl, a, C, dx, _, rfl, by rw [upd_ne (Ne.symm npa)]; exact ea2, T.cl, T.n4, by show 4 < 1000; decide, ?_⟩
        refine q _ p zs ⟨pm, so⟩ nHp (fun u o n e => ?_) (by rw [upd_same]; rfl) (by rw [upd_ne npa, upd_same])
        rw [upd_ne n, upd_ne (fun z => by rw [z, nHp] at e; cases e)]
        exact x2 _ _ (bc u o n e)
      refine ⟨_, rfl, b, rfl, ⟨_, hc⟩, fun D nD => lc_list (K := K) (xs := ys.map V.str) (fun i H' => H' D = some (.lst ((ys.take i).map V.str)) ∧ Ext Hc H') ⟨upd_same, Ext.upd nD⟩ (fun i H' _ h => SqL.ext hc h.2) ?_ ?_⟩
      · intro i x H2 hx h
        obtain ⟨eD, x2⟩ := h
        have hi : i < ys.length := by
          rw [← List.length_map (f := V.str)]
          exact (List.getElem?_eq_some_iff.mp hx).1
        have ex : x = .str ys[i] := by
          rw [List.getElem?_map, List.getElem?_eq_getElem hi] at hx
          exact (Option.some.inj hx).symm
        refine ⟨rfl, ?_⟩
        unfold tYes
        refine iteT ?_
        refine ⟨_, rfl, ys[i], by rw [ex], ?_⟩
        refine ⟨_, eD, ?_, ?_, ?_⟩
        · rw [List.length_map, List.length_take]
          exact Nat.lt_of_lt_of_le (show min i ys.length < 1000 by omega) (by decide)
        · rw [upd_same, List.take_succ, List.getElem?_eq_getElem hi, List.map_append]; rfl
        · intro u o eu
          rw [upd_ne (fun z => by rw [z, nD] at eu; cases eu)]
          exact x2 _ _ eu
      · intro H2 h
        exact fin D nD H2 h.1 h.2
    · refine ⟨_, pss_cons (ps_expr (pe_df0 G hr (by rfl) (pa_cons (pv 2) pa_nil))) (pss_cons (ps_expr (pe_df0 G hr (by rfl) (pa_cons (pv 3) pa_nil)))
        (pss_cons (ps_if (PW.pt (pw_and (pt_cmpR op_notN (pv 4) pe_non (by rfl)) (pw_and1 (pt_not (pt_val (pe_df0 NM hr (by rfl) (pa_cons (pv 4) (pa_cons (pe_glob (v := .int 8) (by rfl) mM ⟨_, rfl⟩) pa_nil)))))))) (pss_one ps_never) pss_nil)
        (pss_cons (ps_fld (pv 0) (pv 1) rfl) (pss_cons (ps_fld (pv 0) (pv 2) rfl) (pss_cons (ps_fld (pv 0) (pv 3) rfl) (pss_cons (ps_fld (pv 0) pe_non rfl)
        (pss_one (ps_if (pt_cmpR op_notN (pv 4) pe_non (by rfl)) (pss_one (ps_fld (pv 0) (pe_callB cr_sortedS (by rfl) mso (by decide +kernel) (pa_cons (pe_lc (own := [("admitted", 5)]) (g := gName 5) (by rfl) sc_Thing_init.nd (pi_tup (pv 4))
          (blkOk_by (own := [("admitted", 5)]) (N := N_Thing_init) (sc := defScope s_Thing_init) (by decide +kernel)) (fun _ _ _ _ _ => pg_name (i := 5) sc_Thing_init.nd rfl (Or.inl rfl)) (fun _ _ _ _ _ => pts_nil)
          (fun _ _ _ _ _ => pe_callTy SkE.call_str_str (by rfl) ms PyProof.Rows.boot_str (pa_cons (pv 5) pa_nil))) pa_nil)) rfl)) pss_nil)))))))), ?_⟩
      refine ⟨_, rfl, _, rfl, t1.od, n1, ?_⟩
      refine ⟨_, rfl, _, rfl, t2.od, n2, ?_⟩
      refine ⟨_, rfl, rfl, _, rfl, ?_⟩
      refine iteT ?_
      refine ⟨_, rfl, b, ys, rfl, .inr (hS H (fun _ _ _ e => e)), hA, fun H1 x1 => ⟨_, rfl, iteF ?_⟩⟩
      have ea1 : H1 a = some (.ins C dx []) := x1 _ _ ea
      refine ⟨_, rfl, _, rfl, a, C, dx, _, rfl, ea1, T.cl, T.n1, by decide, ?_⟩
      refine ⟨_, rfl, _, rfl, a, C, dx, _, rfl, upd_same, T.cl, T.n2, by show 1 < 1000; decide, ?_⟩
      refine ⟨_, rfl, _, rfl, a, C, dx, _, rfl, upd_same, T.cl, T.n3, by show 2 < 1000; decide, ?_⟩
      refine ⟨_, rfl, a, C, dx, _, rfl, upd_same, T.cl, T.n4, by show 3 < 1000; decide, ?_⟩
      refine ⟨_, rfl, rfl, _, rfl, ?_⟩
      refine iteT ?_
      rw [upd_upd, upd_upd, upd_upd]
      have bc : But a H (upd H1 a (.ins C dx (headT kd nm ow .non))) := fun u o n e => by
        rw [upd_ne n]
        exact x1 _ _ e
      have ec : (upd H1 a (.ins C dx (headT kd nm ow .non))) a = some (.ins C dx (headT kd nm ow .non)) := upd_same
      rw [show putF (Str.ofString "_audience") V.non (putF (Str.ofString "owner") (V.str ow) (putF (Str.ofString "name") (V.str nm) (putF (Str.ofString "kind") (V.str kd) []))) = headT kd nm ow .non from rfl]
      generalize upd H1 a (.ins C dx (headT kd nm ow .non)) = Hc at bc ec ⊢
      have hc := hS Hc bc
      obtain ⟨hl, nd, hN⟩ := hA
      have fin : ∀ (D : Addr), Hc D = none → ∀ H2 : Hp, H2 D = some (.lst ((ys.take (ys.map V.str).length).map V.str)) → Ext Hc H2 →
          rSortedS K [.ref D] H2 fun x H3 => ∃ (v : V), (L2.start N_Thing_init [V.ref a, V.str kd, V.str nm, V.str ow, V.ref b])[0]? = some (some v) ∧ ∃ (a' C' dx' : Addr) (fs' : List (Str × V)), v = .ref a' ∧ H3 a' = some (.ins C' dx' fs') ∧ Cls K C' ∧ NoAttr K C' "_audience" ∧ fs'.length < 1000 ∧ Q .non (upd H3 a' (.ins C' dx' (putF "_audience" x fs'))) := by
        intro D nD H2 eD x2
        rw [List.length_map, List.take_length] at eD
        refine ⟨D, ys, rfl, SqL.of eD, by omega, fun zs p pm so np => ?_⟩
        have ea2 : H2 a = some (.ins C dx (headT kd nm ow .non)) := x2 _ _ ec
        have npa : p ≠ a := fun z => by rw [z, ea2] at np; cases np
        have nHp : H p = none := by
          cases e : H p with
          | none => rfl
          | some o => rw [x2 _ _ (bc p o npa e)] at np; cases np
        refine ⟨_, rfl, a, C, dx, _, rfl, by rw [upd_ne (Ne.symm npa)]; exact ea2, T.cl, T.n4, by show 4 < 1000; decide, ?_⟩
        refine q _ p zs ⟨pm, so⟩ nHp (fun u o n e => ?_) (by rw [upd_same]; rfl) (by rw [upd_ne npa, upd_same])
        rw [upd_ne n, upd_ne (fun z => by rw [z, nHp] at e; cases e)]
        exact x2 _ _ (bc u o n e)
      refine ⟨_, rfl, b, rfl, ⟨_, hc⟩, fun D nD => lc_tup (K := K) (xs := ys.map V.str) (fun i H' => H' D = some (.lst ((ys.take i).map V.str)) ∧ Ext Hc H') ⟨upd_same, Ext.upd nD⟩ (fun i H' _ h => SqT.ext hc h.2) ?_ ?_⟩
      · intro i x H2 hx h
        obtain ⟨eD, x2⟩ := h
        have hi : i < ys.length := by
          rw [← List.length_map (f := V.str)]
          exact (List.getElem?_eq_some_iff.mp hx).1
        have ex : x = .str ys[i] := by
          rw [List.getElem?_map, List.getElem?_eq_getElem hi] at hx
          exact (Option.some.inj hx).symm
        refine ⟨rfl, ?_⟩
        unfold tYes
        refine iteT ?_
        refine ⟨_, rfl, ys[i], by rw [ex], ?_⟩
        refine ⟨_, eD, ?_, ?_, ?_⟩
        · rw [List.length_map, List.length_take]
          exact Nat.lt_of_lt_of_le (show min i ys.length < 1000 by omega) (by decide)
        · rw [upd_same, List.take_succ, List.getElem?_eq_getElem hi, List.map_append]; rfl
        · intro u o eu
          rw [upd_ne (fun z => by rw [z, nD] at eu; cases eu)]
          exact x2 _ _ eu
      · intro H2 h
        exact fin D nD H2 h.1 h.2
end
end K08
set_option maxHeartbeats 4000000
namespace K08
open PySem PySem.Spec PyProof.Rows L2 RL RE RN RM TL RQ RC
abbrev tRol : Str := Str.ofString "role"
abbrev tTab : Str := Str.ofString "table"
abbrev tFun : Str := Str.ofString "function"
/-- the rights of a kind -/
def rightsK (k : Str) : List Str :=
  if k = tRol then ["inherit", "act"] else if k = tTab then ["read", "write"] else ["call"]
def isKd (k : Str) : Prop := k = tRol ∨ k = tTab ∨ k = tFun
/-- RIGHTS_BY_KIND -/
structure KKinds (K : PySem.W.Frag) (w : World) (d : Addr) : Prop where
  dict : ∃ es n, KDict K w d es n
  get : ∀ k, isKd k → ∃ a, PySem.W.nsIn K d k = some (some (.ref a)) ∧ KTup K a (rightsK k)
theorem kd_txt {k : Str} (h : isKd k) : txt k := by
  rcases h with rfl | rfl | rfl <;> exact ⟨by decide +kernel, by decide +kernel⟩
section
variable {X : Cx} {d : Addr} {es : Array DictEntry} {n : Nat}
theorem ix_kd (D : KDict X.K X.w d es n) : IxR X (fun x y H Q => ∃ (z : Str) (u0 : Value) (v0 : V), x = .ref d ∧ y = .str z ∧ PySem.W.nsIn X.K d z = some (some u0) ∧ RelV v0 u0 ∧ Q v0 H) := by
  intro value slice pins s σ H x y v u Q I rx ry h hs
  have h0 := h
  obtain ⟨z, u0, v0, rfl, rfl, _⟩ := h0
  cases rx
  exact tail_any (kd_type D I) PySem.F.slot_dict_getitem.lookup (op_item_kd D pins s σ H (.ref d) (.str z) _ _ Q I rfl ry h) hs
end
section
variable {P : Program} {w : World} {K : PySem.W.Frag} {mg : Str → Option Value} {base : Heap} {f : Addr} {fd : FuncData}
def spKind : Sp := fun vs H Q _ => ∃ k, vs = [.str k] ∧ isKd k ∧ Q (.bl true) H
theorem ok_is_kind {d : Addr} (F : Fun K "is_kind" "is_kind" s_is_kind f fd) (mi : mg "isinstance" = none) (ms : mg "str" = none) (mD : mg "RIGHTS_BY_KIND" = some (.ref d)) (hD : KKinds K w d) :
    FnOk P w K mg base CX0 1 f fd ["value"] spKind := by
  obtain ⟨es, n, kd⟩ := hD.dict
  refine F.ok sc_is_kind (fun vs H Q E h => by obtain ⟨k, rfl, _⟩ := h; rfl) (fun cdv A outer s H vs Q E hr h => ?_)
  obtain ⟨k, rfl, hk, q⟩ := h
  refine ⟨_, PSs.nox (pss_one (ps_ret (pe_and (pe_callB call_isi (by rfl) mi boot_isinstance (pa_cons (pv 0) (pa_cons (pe_bltn (v := .ty "str") (by rfl) ms PyProof.Rows.boot_str rfl) pa_nil)))
    (pe_one (pe_cmpR (op_in_kd (d := d) (es := es) (n := n) kd) (pv 0) (pe_glob (v := .ref d) (by rfl) mD rfl) (by rfl)))))), ?_⟩
  obtain ⟨t, ht, hs, hb⟩ := od_ty (kd_txt hk).od.1
  refine ⟨_, rfl, .str k, .ty "str", t, .type "str", _, rfl, .ty _, ht, hs, _, rfl, ?_⟩
  obtain ⟨a, h1, _⟩ := hD.get k hk
  exact iteT ⟨_, rfl, k, _, rfl, rfl, h1, q⟩
def spRights : Sp := fun vs H Q _ => ∃ k, vs = [.str k] ∧ isKd k ∧ ∀ p, H p = none → Q (.ref p) (upd H p (.lst ((rightsK k).map V.str)))
theorem ok_rights_of {d : Addr} (F : Fun K "rights_of" "rights_of" s_rights_of f fd) (N : Df P w K mg base CX0 1 "is_kind" ["value"] spKind) (ml : mg "list" = none) (mD : mg "RIGHTS_BY_KIND" = some (.ref d)) (hD : KKinds K w d) :
    FnOk P w K mg base CX0 2 f fd ["kind"] spRights := by
  obtain ⟨es, n, kd⟩ := hD.dict
  refine F.ok sc_rights_of (fun vs H Q E h => by obtain ⟨k, rfl, _⟩ := h; rfl) (fun cdv A outer s H vs Q E hr h => ?_)
  obtain ⟨k, rfl, hk, q⟩ := h
  refine ⟨_, PSs.nox (pss_cons (ps_if (pt_not (pt_val (pe_df0 N hr (by rfl) (pa_cons (pv 0) pa_nil)))) (pss_one ps_never) pss_nil)
    (pss_one (ps_ret (pe_callTy call_list_of (by rfl) ml (by decide +kernel) (pa_cons (pe_ix (ix_kd (d := d) (es := es) (n := n) kd) (pe_glob (v := .ref d) (by rfl) mD rfl) (pv 0) (fun _ _ => rfl)) pa_nil))))), ?_⟩
  obtain ⟨a, h1, h2⟩ := hD.get k hk
  refine ⟨_, rfl, k, rfl, hk, _, rfl, ?_⟩
  refine iteF ?_
  refine ⟨_, rfl, k, _, .ref a, rfl, rfl, h1, rfl, a, (rightsK k).map V.str, rfl, .inr h2.sq, fun l hl => q l hl⟩
end
end K08
set_option maxHeartbeats 4000000
namespace K08
open PySem PySem.Spec PyProof.Rows L2 RL RE RN RM TL RQ RC
/-! ### audiences as data -/
theorem hu64 {A : Around} {k : Nat} (hr : Room k A) : A.units + 64 < cLine := by
  have := hr.un
  omega
def strsP (ys : List Str) : List PyData := ys.map PyData.str
theorem strs_all {K : PySem.W.Frag} {H : Hp} : ∀ ys : List Str, DpAll K H (ys.map V.str) (strsP ys)
  | [] => .nil
  | _ :: r => .cons (.str _) (strs_all r)
theorem txt_strOk {y : Str} (h : txt y) : PyData.strOk y = true := by
  unfold PyData.strOk
  rw [← Array.all_toList, List.all_eq_true]
  exact fun x hx => decide_eq_true (Nat.lt_trans (h.2 x hx) (by decide))
theorem strs_lay : ∀ ys : List Str, (∀ y ∈ ys, txt y) → PyData.canLayAll0 (strsP ys) = true
  | [], _ => rfl
  | y :: r, h => by
    show (PyData.canLay0 (.str y) && PyData.canLayAll0 (strsP r)) = true
    rw [strs_lay r fun x hx => h x (List.mem_cons_of_mem _ hx)]
    simp [PyData.canLay0, txt_strOk (h y (List.mem_cons_self ..))]
theorem strs_depth : ∀ ys : List Str, PyData.depthAll (strsP ys) = 0
  | [] => rfl
  | _ :: r => by
    show max (PyData.depth _) (PyData.depthAll (strsP r)) = 0
    rw [strs_depth r]; simp [PyData.depth]
theorem strs_shaped {ys : List Str} (h : ∀ y ∈ ys, txt y) : SeqAt.shaped (.list (strsP ys)) = true := by
  simp [SeqAt.shaped, PyData.canLay0, PyData.depth, strs_lay ys h, strs_depth]
theorem strs_eqvA : ∀ xs ys : List Str, PyData.eqvAll (strsP xs) (strsP ys) = decide (xs = ys)
  | [], [] => rfl
  | [], _ :: _ => rfl
  | _ :: _, [] => rfl
  | x :: xs, y :: ys => by
    have ih := strs_eqvA xs ys
    show (PyData.eqv (.str x) (.str y) && PyData.eqvAll (strsP xs) (strsP ys)) = _
    rw [ih, Bool.eq_iff_iff]
    simp [PyData.eqv]
theorem strs_eqv (xs ys : List Str) : PyData.eqv (.list (strsP xs)) (.list (strsP ys)) = decide (xs = ys) := strs_eqvA xs ys
/-- an audience at hand: the names in order, or none -/
def AuAt (H : Hp) (v : V) : Option (List Str) → Prop
  | none => v = .non
  | some zs => (∃ p, v = .ref p ∧ H p = some (.lst (zs.map V.str))) ∧ ∀ z ∈ zs, nameT z = true ∧ txt z
def auP : Option (List Str) → PyData
  | none => .none
  | some zs => .list (strsP zs)
theorem AuAt.dp {K : PySem.W.Frag} {H : Hp} {v : V} {au : Option (List Str)} (h : AuAt H v au) : Dp K H v (auP au) := by
  cases au with
  | none => rw [show v = V.non from h]; exact .non
  | some zs =>
    obtain ⟨⟨p, rfl, e⟩, _⟩ := h
    exact .lst (SqL.of e) (strs_all zs)
theorem AuAt.shaped {H : Hp} {v : V} {au : Option (List Str)} (h : AuAt H v au) : SeqAt.shaped (auP au) = true := by
  cases au with
  | none => decide +kernel
  | some zs => exact strs_shaped fun y hy => (h.2 y hy).2
theorem auP_eqv (x y : Option (List Str)) : PyData.eqv (auP x) (auP y) = decide (x = y) := by
  cases x with
  | none => cases y with
    | none => rfl
    | some zs => simp [auP, PyData.eqv]
  | some xs => cases y with
    | none => simp [auP, PyData.eqv]
    | some ys =>
      show PyData.eqv (.list (strsP xs)) (.list (strsP ys)) = _
      rw [strs_eqv, Bool.eq_iff_iff]
      simp
theorem AuAt.same {H H' : Hp} {v : V} {au : Option (List Str)} (h : AuAt H v au) (s : Ext H H') : AuAt H' v au := by
  cases au with
  | none => exact h
  | some zs =>
    obtain ⟨⟨p, rfl, e⟩, n⟩ := h
    exact ⟨⟨p, rfl, s _ _ e⟩, n⟩
/-- a thing: kind, name, owner, audience in order -/
structure Tm where
  kind : Str
  name : Str
  owner : Str
  au : Option (List Str)
  deriving DecidableEq
def HeadAt (C : Addr) (H : Hp) (a : Addr) (m : Tm) : Prop := ∃ dx fs v, H a = some (.ins C dx fs) ∧ fs.lookup (Str.ofString "kind") = some (.str m.kind) ∧ fs.lookup (Str.ofString "name") = some (.str m.name) ∧ fs.lookup (Str.ofString "owner") = some (.str m.owner) ∧ fs.lookup (Str.ofString "_audience") = some v ∧ AuAt H v m.au
theorem HeadAt.same {C : Addr} {H H' : Hp} {a : Addr} {m : Tm} (h : HeadAt C H a m) (s : Ext H H') : HeadAt C H' a m := by
  obtain ⟨dx, fs, v, e, f1, f2, f3, f4, g⟩ := h
  exact ⟨dx, fs, v, s _ _ e, f1, f2, f3, f4, g.same s⟩
theorem decS (x y : Str) : decide (V.str x = V.str y) = decide (x = y) := by
  rw [Bool.eq_iff_iff]
  simp
section
variable {P : Program} {w : World} {K : PySem.W.Frag} {mg : Str → Option Value} {base : Heap} {f : Addr} {fd : FuncData}
def spHead (K : PySem.W.Frag) : Sp := fun vs H Q _ => ∃ (a b C C' : Addr) (m m' : Tm), vs = [.ref a, .ref b] ∧ TF K C ∧ TF K C' ∧ HeadAt C H a m ∧ HeadAt C' H b m' ∧ Q (.bl (decide (m = m'))) H
theorem ok_head (F : Fun K "same_head" "Thing.same_head" s_Thing_same_head f fd) : FnOk P w K mg base CX0 2 f fd ["self", "other"] (spHead K) := by
  refine F.ok sc_Thing_same_head (fun vs H Q E h => by obtain ⟨a, b, C, C', m, m', rfl, _⟩ := h; rfl) (fun cdv A outer s H vs Q E hr h => ?_)
  obtain ⟨a, b, C, C', ⟨k, n, o, u⟩, ⟨k', n', o', u'⟩, rfl, T, T', ⟨dx, fs, v, ea, f1, f2, f3, f4, f5⟩, ⟨dy, gs, v', eb, g1, g2, g3, g4, g5⟩, q⟩ := h
  refine ⟨_, PSs.nox (pss_one (ps_ret (pe_and (pe_cmpR op_eq (pe_fld (pv 0) rfl) (pe_fld (pv 1) rfl) (by rfl)) (pe_and (pe_cmpR op_eq (pe_fld (pv 0) rfl) (pe_fld (pv 1) rfl) (by rfl)) (pe_and (pe_cmpR op_eq (pe_fld (pv 0) rfl) (pe_fld (pv 1) rfl) (by rfl)) (pe_one (pe_cmpR (op_eqD (hu64 hr)) (pe_fld (pv 0) rfl) (pe_fld (pv 1) rfl) (by rfl)))))))), ?_⟩
  have em : decide ((⟨k, n, o, u⟩ : Tm) = ⟨k', n', o', u'⟩) = (decide (k = k') && (decide (n = n') && (decide (o = o') && decide (u = u')))) := by
    rw [Bool.eq_iff_iff]
    simp
  rw [em] at q
  refine ⟨_, rfl, a, C, dx, fs, _, rfl, ea, T.cl, T.n1, f1, _, rfl, b, C', dy, gs, _, rfl, eb, T'.cl, T'.n1, g1, rfl, _, rfl, ?_⟩
  rw [decS]
  cases h1 : decide (k = k') with
  | false => rw [h1] at q; exact iteF q
  | true =>
    rw [h1] at q
    refine iteT ⟨_, rfl, a, C, dx, fs, _, rfl, ea, T.cl, T.n2, f2, _, rfl, b, C', dy, gs, _, rfl, eb, T'.cl, T'.n2, g2, rfl, _, rfl, ?_⟩
    rw [decS]
    cases h2 : decide (n = n') with
    | false => rw [h2] at q; exact iteF q
    | true =>
      rw [h2] at q
      refine iteT ⟨_, rfl, a, C, dx, fs, _, rfl, ea, T.cl, T.n3, f3, _, rfl, b, C', dy, gs, _, rfl, eb, T'.cl, T'.n3, g3, rfl, _, rfl, ?_⟩
      rw [decS]
      cases h3 : decide (o = o') with
      | false => rw [h3] at q; exact iteF q
      | true =>
        rw [h3] at q
        refine iteT ⟨_, rfl, a, C, dx, fs, _, rfl, ea, T.cl, T.n4, f4, _, rfl, b, C', dy, gs, _, rfl, eb, T'.cl, T'.n4, g4, auP u, auP u', f5.dp, g5.dp, f5.shaped, g5.shaped, ?_⟩
        rw [auP_eqv]
        exact q
/-- the audience, new each time -/
def spAud (K : PySem.W.Frag) : Sp := fun vs H Q _ => ∃ (a C : Addr) (m : Tm), vs = [.ref a] ∧ TF K C ∧ HeadAt C H a m ∧ (m.au = none → Q .non H) ∧ ∀ zs, m.au = some zs → ∀ p, H p = none → Q (.ref p) (upd H p (.lst (zs.map V.str)))
theorem ok_audience (F : Fun K "audience" "Thing.audience" s_Thing_audience f fd) (mli : mg "list" = none) : FnOk P w K mg base CX0 1 f fd ["self"] (spAud K) := by
  refine F.ok sc_Thing_audience (fun vs H Q E h => by obtain ⟨a, C, m, rfl, _⟩ := h; rfl) (fun cdv A outer s H vs Q E hr h => ?_)
  obtain ⟨a, C, ⟨k, n, o, u⟩, rfl, T, ⟨dx, fs, v, ea, f1, f2, f3, f4, f5⟩, q1, q2⟩ := h
  refine ⟨_, PSs.nox (pss_cons (ps_if (pt_cmpR op_isN (pe_fld (pv 0) rfl) pe_non (by rfl)) (pss_one (ps_ret pe_non)) pss_nil)
    (pss_one (ps_ret (pe_callTy call_list_of (by rfl) mli (by decide +kernel) (pa_cons (pe_fld (pv 0) rfl) pa_nil))))), ?_⟩
  refine ⟨_, rfl, a, C, dx, fs, _, rfl, ea, T.cl, T.n4, f4, rfl, _, rfl, ?_⟩
  cases u with
  | none =>
    rw [show v = V.non from f5]
    exact iteT (q1 rfl)
  | some zs =>
    obtain ⟨⟨p, rfl, ep⟩, _⟩ := f5
    exact iteF ⟨_, rfl, a, C, dx, fs, _, rfl, ea, T.cl, T.n4, f4, p, _, rfl, .inl (SqL.of ep), fun l hl => q2 zs rfl l hl⟩
/-- the rights -/
def spRts (K : PySem.W.Frag) : Sp := fun vs H Q _ => ∃ (a C : Addr) (m : Tm), vs = [.ref a] ∧ TF K C ∧ HeadAt C H a m ∧ isKd m.kind ∧ ∀ p, H p = none → Q (.ref p) (upd H p (.lst ((rightsK m.kind).map V.str)))
theorem ok_rights (F : Fun K "rights" "Thing.rights" s_Thing_rights f fd) (G : Df P w K mg base CX0 2 "rights_of" ["kind"] spRights) : FnOk P w K mg base CX0 3 f fd ["self"] (spRts K) := by
  refine F.ok sc_Thing_rights (fun vs H Q E h => by obtain ⟨a, C, m, rfl, _⟩ := h; rfl) (fun cdv A outer s H vs Q E hr h => ?_)
  obtain ⟨a, C, m, rfl, T, ⟨dx, fs, v, ea, f1, f2, f3, f4, f5⟩, hk, q⟩ := h
  refine ⟨_, PSs.nox (pss_one (ps_ret (pe_df0 G hr (by rfl) (pa_cons (pe_fld (pv 0) rfl) pa_nil)))), ?_⟩
  exact ⟨_, rfl, a, C, dx, fs, _, rfl, ea, T.cl, T.n1, f1, _, rfl, hk, q⟩
/-- whom the audience admits -/
def lets (au : Option (List Str)) (t : Str) : Bool := match au with
  | none => true
  | some zs => zs.any fun z => z == t
def spAdm (K : PySem.W.Frag) : Sp := fun vs H Q _ => ∃ (a C : Addr) (m : Tm) (t : Str), vs = [.ref a, .str t] ∧ TF K C ∧ HeadAt C H a m ∧ txt t ∧ isTaker (.str t) = true ∧ Q (.bl (lets m.au t)) H
theorem ok_admits (F : Fun K "admits" "Thing.admits" s_Thing_admits f fd) (G : Df P w K mg base CX0 3 "check_taker" ["value"] (spG K isTaker)) : FnOk P w K mg base CX0 4 f fd ["self", "taker"] (spAdm K) := by
  refine F.ok sc_Thing_admits (fun vs H Q E h => by obtain ⟨a, C, m, t, rfl, _⟩ := h; rfl) (fun cdv A outer s H vs Q E hr h => ?_)
  obtain ⟨a, C, ⟨k, n, o, u⟩, t, rfl, T, ⟨dx, fs, v, ea, f1, f2, f3, f4, f5⟩, ht, hk, q⟩ := h
  refine ⟨_, PSs.nox (pss_cons (ps_expr (pe_df0 G hr (by rfl) (pa_cons (pv 1) pa_nil)))
    (pss_one (ps_ret (pe_or (pe_cmpR op_isN (pe_fld (pv 0) rfl) pe_non (by rfl)) (pe_one (pe_cmpR op_in_seq (pv 1) (pe_fld (pv 0) rfl) (by rfl))))))), ?_⟩
  refine ⟨_, rfl, _, rfl, ht.od, hk, ?_⟩
  refine ⟨_, rfl, a, C, dx, fs, _, rfl, ea, T.cl, T.n4, f4, rfl, _, rfl, ?_⟩
  cases u with
  | none =>
    rw [show v = V.non from f5]
    exact iteT q
  | some zs =>
    obtain ⟨⟨p, rfl, ep⟩, _⟩ := f5
    refine iteF ⟨_, rfl, _, rfl, a, C, dx, fs, _, rfl, ea, T.cl, T.n4, f4, p, _, rfl, .inl (SqL.of ep), rfl, ?_, ?_⟩
    · rw [List.all_map, List.all_eq_true]
      exact fun _ _ => rfl
    · have e : inV (.str t) (zs.map V.str) = lets (some zs) t := by
        unfold inV lets
        rw [List.any_map]
        rfl
      rw [← e] at q
      exact q
end
end K08
set_option maxHeartbeats 4000000
namespace K08
open PySem PySem.Spec PyProof.Rows L2 RL RE RN RM TL RQ RC
/-! ### super().rights(), super().admits(taker) -/
section
variable {P : Program} {w : World} {K : PySem.W.Frag} {mg : Str → Option Value} {base : Heap}
variable {f f2 cc cda C D : Addr} {fd2 : FuncData} {stm : Stmt} {qual : Str} {N : List Str}
variable {oc : Value} {od : Option Addr} {osl : Array (Option Value)} {dV kV doc pm ct : Value} {an : Option Addr} {p0 p1 apos pos pr : Pos}
/-- the body is one super().m(es) -/
def SupB (b : List Stmt) (m : Str) (es : List Expr) (p0 p1 apos pos pr : Pos) (pl : Env → Sem Bool) : Prop :=
  b = [.Return (some (.Call (.Attribute (.Call (.Name "super" p0) [] [] p1) m apos) es [] pos)) pr] ∧
  ∀ env : Env, eval (.Call (.Attribute (.Call (.Name "super" p0) [] [] p1) m apos) es [] pos) env = (do
    let ov ← attributeBase (.Call (.Name "super" p0) [] [] p1) m env (eval (.Call (.Name "super" p0) [] [] p1) env)
    standAt apos.atName
    let (f, first) ← holding [ov] (getMethod ov m (pl env))
    callWith pos f first (backTo pos (starEach es env)) [])
theorem sb_Role_rights : ∃ p0 p1 p2 p3 p4 pl, SupB (defBody s_Role_rights) "rights" [] p0 p1 p2 p3 p4 pl := ⟨_, _, _, _, _, _, rfl, fun _ => rfl⟩
theorem sb_Table_rights : ∃ p0 p1 p2 p3 p4 pl, SupB (defBody s_Table_rights) "rights" [] p0 p1 p2 p3 p4 pl := ⟨_, _, _, _, _, _, rfl, fun _ => rfl⟩
theorem sb_Function_rights : ∃ p0 p1 p2 p3 p4 pl, SupB (defBody s_Function_rights) "rights" [] p0 p1 p2 p3 p4 pl := ⟨_, _, _, _, _, _, rfl, fun _ => rfl⟩
theorem sb_Role_admits : ∃ q p0 p1 p2 p3 p4 pl, SupB (defBody s_Role_admits) "admits" [.Name "taker" q] p0 p1 p2 p3 p4 pl := ⟨_, _, _, _, _, _, _, rfl, fun _ => rfl⟩
theorem sb_Table_admits : ∃ q p0 p1 p2 p3 p4 pl, SupB (defBody s_Table_admits) "admits" [.Name "taker" q] p0 p1 p2 p3 p4 pl := ⟨_, _, _, _, _, _, _, rfl, fun _ => rfl⟩
theorem sb_Function_admits : ∃ q p0 p1 p2 p3 p4 pl, SupB (defBody s_Function_admits) "admits" [.Name "taker" q] p0 p1 p2 p3 p4 pl := ⟨_, _, _, _, _, _, _, rfl, fun _ => rfl⟩
/-- the def's words -/
abbrev nf (stm : Stmt) (name qual : Str) (cc cda : Addr) : NdefX.NF := ⟨name, qual, defArgs stm, defBody stm, defScope stm, [(("__class__" : Str), cc)], cda⟩
abbrev nfd (stm : Stmt) (name qual : Str) (cc cda : Addr) (dV kV doc pm ct : Value) (an : Option Addr) : FuncData :=
  PySem.W.ksFn name qual (defArgs stm) (defBody stm) (defScope stm) dV kV doc pm an (.ref cda) ct cc
def spRtsC (K : PySem.W.Frag) (C : Addr) : Sp := fun vs H Q _ => ∃ (a : Addr) (m : Tm), vs = [.ref a] ∧ TF K C ∧ HeadAt C H a m ∧ isKd m.kind ∧ ∀ p, H p = none → Q (.ref p) (upd H p (.lst ((rightsK m.kind).map V.str)))
theorem ok_supR (S : SU.SupD P K mg f f2 cc cda C D (nf stm "rights" qual cc cda) N [("self" : Str)] "self" "rights") (n0 : N[0]? = some ("self" : Str))
    (lk : K.lookup f = some ⟨oc, od, .func (nfd stm "rights" qual cc cda dV kV doc pm ct an), osl⟩)
    (bd : ∃ p0 p1 p2 p3 p4 pl, SupB (defBody stm) "rights" [] p0 p1 p2 p3 p4 pl)
    (F2 : FnOk P w K mg base CX0 3 f2 fd2 ["self"] (spRts K)) (b2 : Binds K fd2 ["self"] []) :
    FnOk P w K mg base CX0 4 f (nfd stm "rights" qual cc cda dV kV doc pm ct an) ["self"] (spRtsC K C) := by
  obtain ⟨p0, p1, p2, p3, p4, pl, bd, ev⟩ := bd
  refine (SU.sup_fn (k := 3) (good := fun σ H a Q E => spRts K [.ref a] H Q E) S n0 lk bd ev (fun A outer s H E q a σ H1 s1 Q hr I nb g => ?_)).imp (fun vs H Q E h => ?_)
  · exact SU.cw0 S.fi F2 hr b2 pass0 I g
  · obtain ⟨a, m, rfl, T, ⟨dx, fs, v, e, r⟩, hk, q⟩ := h
    exact ⟨a, dx, fs, [], rfl, e, rfl, a, C, m, rfl, T, ⟨dx, fs, v, e, r⟩, hk, q⟩
def spAdmC (K : PySem.W.Frag) (C : Addr) : Sp := fun vs H Q _ => ∃ (a : Addr) (m : Tm) (t : Str), vs = [.ref a, .str t] ∧ TF K C ∧ HeadAt C H a m ∧ txt t ∧ isTaker (.str t) = true ∧ Q (.bl (lets m.au t)) H
theorem ok_supA (S : SU.SupD P K mg f f2 cc cda C D (nf stm "admits" qual cc cda) N [("self" : Str), "taker"] "self" "admits") (hN : N = [("self" : Str), "taker", "__class__"])
    (lk : K.lookup f = some ⟨oc, od, .func (nfd stm "admits" qual cc cda dV kV doc pm ct an), osl⟩)
    (bd : ∃ q p0 p1 p2 p3 p4 pl, SupB (defBody stm) "admits" [.Name "taker" q] p0 p1 p2 p3 p4 pl)
    (F2 : FnOk P w K mg base CX0 4 f2 fd2 ["self", "taker"] (spAdm K)) (b2 : Binds K fd2 ["self", "taker"] []) :
    FnOk P w K mg base CX0 5 f (nfd stm "admits" qual cc cda dV kV doc pm ct an) ["self", "taker"] (spAdmC K C) := by
  subst hN
  have kl : (defScope stm).names.lookup ("taker" : Str) = some .local := S.sc.par "taker" (by simp)
  obtain ⟨q, p0, p1, p2, p3, p4, pl, bd, ev⟩ := bd
  refine (SU.sup_fn (k := 4) (good := fun σ H a Q E => ∃ t, σ[1]? = some (some (.str t)) ∧ spAdm K [.ref a, .str t] H Q E) S rfl lk bd ev (fun A outer s H E q a σ H1 s1 Q hr I nb g => ?_)).imp (fun vs H Q E h => ?_)
  · obtain ⟨t, et, g⟩ := g
    have g2 : tCons (tVar 1) tNil σ H1 (fun vs H2 => spAdm K (.ref a :: vs) H2 Q E) := ⟨_, et, g⟩
    exact SU.cw1 (sp := spAdm K) (E := E) S.fi F2 hr b2 pass0 I nb (pa_cons (pe_var (i := 1) rfl (.inl kl)) pa_nil) g2
  · obtain ⟨a, m, t, rfl, T, ⟨dx, fs, v, e, r⟩, ht, hk, q⟩ := h
    exact ⟨a, dx, fs, [.str t], rfl, e, rfl, t, rfl, a, C, m, t, rfl, T, ⟨dx, fs, v, e, r⟩, ht, hk, q⟩
end
end K08
set_option maxHeartbeats 4000000
namespace K08
open PySem PySem.Spec PyProof.Rows L2 RL RE RN RM TL RQ RC
/-! ### things made -/
/-- an audience before and behind the ordering -/
def SrtO : Option (List Str) → Option (List Str) → Prop
  | none, none => True
  | some ys, some zs => Srt ys zs
  | _, _ => False
/-- an audience as it is handed in -/
def Given (K : PySem.W.Frag) (H : Hp) (a : Addr) (x : V) : Option (List Str) → Prop
  | none => x = .non
  | some ys => Aud ys ∧ ∃ b, x = .ref b ∧ ((∀ H', But a H H' → SqL K H' b (ys.map V.str)) ∨ (∀ H', But a H H' → SqT K H' b (ys.map V.str)))
/-- a heap behind a making -/
structure Made (H H' : Hp) (a C dx : Addr) (kd nm ow : Str) (v : V) (au : Option (List Str)) (fs : List (Str × V)) : Prop where
  but : But a H H'
  fresh : ∀ p, v = .ref p → H p = none
  at_ : H' a = some (.ins C dx (headT kd nm ow v ++ fs))
  aud : AuAt H' v au
theorem Made.head {H H' : Hp} {a C dx : Addr} {kd nm ow : Str} {v : V} {au : Option (List Str)} {fs : List (Str × V)} (m : Made H H' a C dx kd nm ow v au fs) : HeadAt C H' a ⟨kd, nm, ow, au⟩ :=
  ⟨dx, _, v, m.at_, rfl, rfl, rfl, rfl, m.aud⟩
theorem aud_names {ys zs : List Str} (h : Aud ys) (s : Srt ys zs) : ∀ z ∈ zs, nameT z = true ∧ txt z := fun z hz => h.2.2 z (s.1.mem_iff.mp hz)
/-- what Thing.__init__ promises, in one -/
theorem thing_or {K : PySem.W.Frag} {H : Hp} {a C dx : Addr} {kd nm ow : Str} {x : V} {au : Option (List Str)} {R : Hp → Prop} (g : Given K H a x au)
    (q : ∀ H' v au', SrtO au au' → Made H H' a C dx kd nm ow v au' [] → R H') :
    ((x = .non ∧ R (upd H a (.ins C dx (headT kd nm ow .non)))) ∨
     (∃ (b : Addr) (ys : List Str), x = .ref b ∧ ((∀ H', But a H H' → SqL K H' b (ys.map V.str)) ∨ (∀ H', But a H H' → SqT K H' b (ys.map V.str))) ∧ Aud ys ∧
       ∀ H' p zs, Srt ys zs → H p = none → But a H H' → H' a = some (.ins C dx (headT kd nm ow (.ref p))) → H' p = some (.lst (zs.map V.str)) → R H')) := by
  cases au with
  | none =>
    rw [show x = V.non from g]
    exact .inl ⟨rfl, q (upd H a (.ins C dx (headT kd nm ow .non))) .non none trivial ⟨(fun u o n e => (upd_ne n).trans e), (fun p e => nomatch e), upd_same, rfl⟩⟩
  | some ys =>
    obtain ⟨hA, b, rfl, hS⟩ := g
    exact .inr ⟨b, ys, rfl, hS, hA, fun H' p zs s np bt e ep => q H' (.ref p) (some zs) s ⟨bt, (fun p' e' => by cases e'; exact np), (by rw [e]; rfl), ⟨⟨p, rfl, ep⟩, aud_names hA s⟩⟩⟩
section
variable {P : Program} {w : World} {K : PySem.W.Frag} {mg : Str → Option Value} {base : Heap} {f : Addr} {fd : FuncData}
def spMk (K : PySem.W.Frag) (C : Addr) (kd : Str) : Sp := fun vs H Q _ => ∃ (a dx : Addr) (nm ow : Str) (x : V) (au : Option (List Str)), vs = [.ref a, .str nm, .str ow, x] ∧ H a = some (.ins C dx []) ∧ txt nm ∧ nameT nm = true ∧ txt ow ∧ nameT ow = true ∧ Given K H a x au ∧
  ∀ H' v au', SrtO au au' → Made H H' a C dx kd nm ow v au' [] → Q .non H'
abbrev psT : List Str := ["self", "kind", "name", "owner", "audience"]
theorem ok_Role {C CT gT : Addr} {fdT : FuncData} {mc : Value} {dvs : List V} {kws : List (Str × V)} (F : FunD K "__init__" "Role.__init__" (defArgs s_Role_init) (defBody s_Role_init) (defScope s_Role_init) dvs kws f fd) (B : CDef K mg "Thing" CT mc "__init__" gT) (FT : FnOk P w K mg base CX0 3 gT fdT psT (spThing K)) (bT : Binds K fdT psT []) (T : TF K C) :
    FnOk P w K mg base CX0 4 f fd ["self", "name", "owner", "audience"] (spMk K C tRol) := by
  refine F.ok sc_Role_init (fun vs H Q E h => by obtain ⟨a, dx, nm, ow, x, au, rfl, _⟩ := h; rfl) (fun cdv A outer s H vs Q E hr h => ?_)
  obtain ⟨a, dx, nm, ow, x, au, rfl, ea, t1, n1, t2, n2, g, q⟩ := h
  refine ⟨_, PSs.nox (pss_one (ps_expr (pe_ccall B FT hr bT .nil pass0 (by rfl) (pa_cons (pv 0) (pa_cons pe_str (pa_cons (pv 1) (pa_cons (pv 2) (pa_cons (pv 3) pa_nil)))))))), ?_⟩
  exact ⟨_, rfl, _, rfl, _, rfl, _, rfl, a, C, dx, _, nm, ow, x, rfl, T, ea, t1, n1, t2, n2, thing_or g q⟩
theorem ok_Table {C CT gT : Addr} {fdT : FuncData} {mc : Value} {dvs : List V} {kws : List (Str × V)} (F : FunD K "__init__" "Table.__init__" (defArgs s_Table_init) (defBody s_Table_init) (defScope s_Table_init) dvs kws f fd) (B : CDef K mg "Thing" CT mc "__init__" gT) (FT : FnOk P w K mg base CX0 3 gT fdT psT (spThing K)) (bT : Binds K fdT psT []) (T : TF K C) :
    FnOk P w K mg base CX0 4 f fd ["self", "name", "owner", "audience"] (spMk K C tTab) := by
  refine F.ok sc_Table_init (fun vs H Q E h => by obtain ⟨a, dx, nm, ow, x, au, rfl, _⟩ := h; rfl) (fun cdv A outer s H vs Q E hr h => ?_)
  obtain ⟨a, dx, nm, ow, x, au, rfl, ea, t1, n1, t2, n2, g, q⟩ := h
  refine ⟨_, PSs.nox (pss_one (ps_expr (pe_ccall B FT hr bT .nil pass0 (by rfl) (pa_cons (pv 0) (pa_cons pe_str (pa_cons (pv 1) (pa_cons (pv 2) (pa_cons (pv 3) pa_nil)))))))), ?_⟩
  exact ⟨_, rfl, _, rfl, _, rfl, _, rfl, a, C, dx, _, nm, ow, x, rfl, T, ea, t1, n1, t2, n2, thing_or g q⟩
structure FF (K : PySem.W.Frag) (C : Addr) : Prop where
  t : TF K C
  n5 : NoAttr K C "mode"
  n6 : NoAttr K C "_body"
abbrev tOwn : Str := Str.ofString "owner"
/-- no body -/
def spBody0 (K : PySem.W.Frag) : Sp := fun vs H Q _ => ∃ (b : Addr), vs = [.ref b] ∧ SqT K H b [] ∧ ∀ H', Ext H H' → Q (.bl true) H'
theorem ok_is_body {tM : Tok} (F : Fun K "is_body" "is_body" s_is_body f fd) (L : Df P w K mg base CX0 1 "is_list" ["value"] (spList K)) (ml : mg "len" = none) (ma : mg "all" = none) (mM : mg "MOST_IN_BODY" = some (.int 4 tM)) (mi : mg "isinstance" = none) {cG cC : Addr} (gG : mg "Give" = some (.ref cG)) (gC : mg "Call" = some (.ref cC)) : FnOk P w K mg base CX0 2 f fd ["value"] (spBody0 K) := by
  refine F.ok sc_is_body (fun vs H Q E h => by obtain ⟨b, rfl, _⟩ := h; rfl) (fun cdv A outer s H vs Q E hr h => ?_)
  obtain ⟨b, rfl, hS, q⟩ := h
  refine ⟨_, PSs.nox (pss_cons (ps_if (PW.pt (pw_or (pt_not (pt_val (pe_df0 L hr (by rfl) (pa_cons (pv 0) pa_nil)))) (pw_or1 (pt_cmpR op_gt (pe_callB call_len_seq (by rfl) ml PySem.boot_len (pa_cons (pv 0) pa_nil)) (pe_glob (v := .int 4) (by rfl) mM ⟨_, rfl⟩) (by rfl))))) (pss_one (ps_ret pe_bl)) pss_nil)
    (pss_one (ps_ret (pe_callB (cr_all rfl) (by rfl) ma (by decide +kernel) (pa_cons (pe_lc (own := [("deed", 1)]) (g := gName 1) (by rfl) sc_is_body.nd (pi_tup (pv 0))
      (blkOk_by (own := [("deed", 1)]) (N := N_is_body) (sc := defScope s_is_body) (by decide +kernel)) (fun _ _ _ _ _ => pg_name (i := 1) sc_is_body.nd rfl (Or.inl rfl)) (fun _ _ _ _ _ => pts_nil)
      (fun _ _ _ _ _ => pe_callB (r := rIsiT K) call_isiT (by rfl) mi boot_isinstance (pa_cons (pv 1) (pa_cons (pe_tup (pa_cons (pe_glob (v := .ref cG) (by rfl) gG rfl) (pa_cons (pe_glob (v := .ref cC) (by rfl) gC rfl) pa_nil))) pa_nil)))) pa_nil))))), ?_⟩
  refine ⟨_, rfl, b, [], rfl, .inr hS, fun H1 x1 => ⟨_, rfl, ?_⟩⟩
  refine iteF ⟨_, rfl, b, [], rfl, .inr (SqT.ext hS x1), 0, 4, rfl, rfl, _, rfl, ?_⟩
  refine iteF ?_
  refine ⟨_, rfl, b, rfl, ⟨[], SqT.ext hS x1⟩, fun D nD => lc_tup (K := K) (xs := []) (fun i H' => H' D = some (.lst []) ∧ Ext H1 H') ⟨upd_same, Ext.upd nD⟩ (fun i H' _ h => SqT.ext hS (x1.trans h.2)) ?_ ?_⟩
  · intro i x H2 hx h
    simp at hx
  · intro H2 h
    exact ⟨D, [], rfl, SqL.of h.1, q _ (x1.trans h.2)⟩
def spMkF (K : PySem.W.Frag) (C : Addr) : Sp := fun vs H Q _ => ∃ (a dx b : Addr) (nm ow : Str) (x : V) (au : Option (List Str)), vs = [.ref a, .str nm, .str ow, x, .str tOwn, .ref b] ∧ H a = some (.ins C dx []) ∧ txt nm ∧ nameT nm = true ∧ txt ow ∧ nameT ow = true ∧ Given K H a x au ∧ (∀ H', But a H H' → SqT K H' b []) ∧
  ∀ H' v au' p, SrtO au au' → H p = none → Made H H' a C dx tFun nm ow v au' [("mode", .str tOwn), ("_body", .ref p)] → H' p = some (.lst []) → Q .non H'
theorem ok_Function {C CT gT aM : Addr} {fdT : FuncData} {mc : Value} {dvs : List V} {kws : List (Str × V)} (F : FunD K "__init__" "Function.__init__" (defArgs s_Function_init) (defBody s_Function_init) (defScope s_Function_init) dvs kws f fd) (B : CDef K mg "Thing" CT mc "__init__" gT) (FT : FnOk P w K mg base CX0 3 gT fdT psT (spThing K)) (bT : Binds K fdT psT [])
    (L : Df P w K mg base CX0 2 "is_body" ["value"] (spBody0 K)) (T : FF K C) (gM : mg "MODES" = some (.ref aM)) (hM : KTup K aM [tOwn, Str.ofString "caller"]) (mli : mg "list" = none) :
    FnOk P w K mg base CX0 4 f fd ["self", "name", "owner", "audience", "mode", "body"] (spMkF K C) := by
  refine F.ok sc_Function_init (fun vs H Q E h => by obtain ⟨a, dx, b, nm, ow, x, au, rfl, _⟩ := h; rfl) (fun cdv A outer s H vs Q E hr h => ?_)
  obtain ⟨a, dx, b, nm, ow, x, au, rfl, ea, t1, n1, t2, n2, g, hS, q⟩ := h
  refine ⟨_, PSs.nox (pss_cons (ps_expr (pe_ccall B FT hr bT .nil pass0 (by rfl) (pa_cons (pv 0) (pa_cons pe_str (pa_cons (pv 1) (pa_cons (pv 2) (pa_cons (pv 3) pa_nil)))))))
    (pss_cons (ps_if (pt_cmpR op_notIn_seq (pv 4) (pe_glob (v := .ref aM) (by rfl) gM rfl) (by rfl)) (pss_one ps_never) pss_nil)
    (pss_cons (ps_if (pt_not (pt_val (pe_df0 L (hr.mono (by decide)) (by rfl) (pa_cons (pv 5) pa_nil)))) (pss_one ps_never) pss_nil)
    (pss_cons (ps_fld (pv 0) (pv 4) rfl) (pss_one (ps_fld (pv 0) (pe_callTy call_list_of (by rfl) mli (by decide +kernel) (pa_cons (pv 5) pa_nil)) rfl)))))), ?_⟩
  refine ⟨_, rfl, _, rfl, _, rfl, _, rfl, a, C, dx, _, nm, ow, x, rfl, T.t, ea, t1, n1, t2, n2, thing_or g fun H1 v au' so m => ?_⟩
  refine ⟨_, rfl, aM, _, rfl, .inr hM.sq, rfl, rfl, _, rfl, ?_⟩
  have e0 : (if true = true then !inV (.str tOwn) [.str tOwn, .str (Str.ofString "caller")] else inV (.str tOwn) [.str tOwn, .str (Str.ofString "caller")]) = false := by
    rw [if_pos rfl, inV2]
    decide +kernel
  show if (if true = true then !inV (.str tOwn) [.str tOwn, .str (Str.ofString "caller")] else inV (.str tOwn) [.str tOwn, .str (Str.ofString "caller")]) = true then _ else _
  rw [e0]
  refine iteF ?_
  refine ⟨_, rfl, b, rfl, hS _ m.but, fun H2 x2 => ⟨_, rfl, ?_⟩⟩
  refine iteF ?_
  have ea2 : H2 a = some (.ins C dx (headT tFun nm ow v ++ [])) := x2 _ _ m.at_
  have k2 : But a H H2 := fun u o n e => x2 _ _ (m.but u o n e)
  refine ⟨_, rfl, _, rfl, a, C, dx, _, rfl, ea2, T.t.cl, T.n5, by show 4 < 1000; decide, ?_⟩
  have k3 : ∀ {w : HO}, But a H (upd H2 a w) := fun u o n e => by rw [upd_ne n]; exact k2 u o n e
  refine ⟨_, rfl, b, [], rfl, .inr (hS _ k3), fun p np => ?_⟩
  have npa : p ≠ a := fun z => by rw [z, upd_same] at np; cases np
  have nH2p : H2 p = none := by rw [upd_ne npa] at np; exact np
  have nHp : H p = none := by
    cases e : H p with
    | none => rfl
    | some o => rw [k2 p o npa e] at nH2p; cases nH2p
  refine ⟨_, rfl, a, C, dx, _, rfl, by rw [upd_ne (Ne.symm npa)]; exact upd_same, T.t.cl, T.n6, by show 5 < 1000; decide, ?_⟩
  have k4 : ∀ {w1 w2 w3 : HO}, But a H2 (upd (upd (upd H2 a w1) p w2) a w3) := fun u o n e => by
    rw [upd_ne n, upd_ne (fun z => by rw [z, nH2p] at e; cases e), upd_ne n]
    exact e
  refine q _ v au' p so nHp ⟨(fun u o n e => k4 u o n (k2 u o n e)), m.fresh, ?_, ?_⟩ ?_
  · rw [upd_same]; rfl
  · have h2 := m.aud.same x2
    cases au' with
    | none => exact h2
    | some zs =>
      obtain ⟨⟨p', rfl, e'⟩, ns⟩ := h2
      refine ⟨⟨p', rfl, k4 p' _ (fun z => ?_) e'⟩, ns⟩
      rw [z, ea2] at e'
      cases e'
  · rw [upd_ne npa, upd_same]
end
end K08
set_option maxHeartbeats 4000000
/-! ### == and != of an instance by its own __eq__, the other side any value whose class is known -/
namespace RQ
open PySem PySem.Spec PyProof.Rows PySem.SeqAt Builtin
section
variable {M : Model} {prog : Program} {w : World} {A : Around} {E : Value → Shared → Prop} {s : Shared} {K : PySem.W.Frag} {x C f : Addr} {y : Value} {ox : Obj} {od : Option Obj}
theorem entry_neV (hu : A.units < cLine) (X : K.In s.heap) (I : PySem.W.InstAt s.heap x ox C od) (hs : PySem.W.findIn K (.ref C) "__eq__" = some (some (.ref f))) (hf : PySem.W.isFn K (.ref f) = true) {Q : Fin → Shared → Prop}
    (hcall : wpAny M A (call (.ref f) [.ref x, y]) (fun v s' => ∃ b, v = .bool b ∧ Q (.done (.ret (.bool (!b)))) s') E s) : wpAny M A (Builtin.«object.__ne__» ⟨[.ref x, y], []⟩) Q E s := by
  unfold Builtin.«object.__ne__»
  repeat (first
    | with_reducible refine wpAny_cRoomFor hu ?_
    | (refine wpAny_bind (m := callSpecialIfBound? (.ref x) (Str.ofString "__eq__") [y])
        (PySem.W.ifBound_K X I hs hf (wpAny_mono hcall (fun r s' hr => by
          obtain ⟨b, rfl, hq⟩ := hr
          repeat (first | exact hq | exact wpAny_pure hq | exact wpAny_truthy_bool hq | (refine wpAny_bind (m := truthy (.bool _)) (wpAny_truthy_bool ?_)) | wp_step)) fun _ _ e => e)))
    | wp_step)
theorem call_objNeV (hu : A.units + 1 < cLine) (X : K.In s.heap) (I : PySem.W.InstAt s.heap x ox C od) (hm : PySem.W.mroIn K C (.type "object") = some true) (hs : PySem.W.findIn K (.ref C) "__eq__" = some (some (.ref f))) (hf : PySem.W.isFn K (.ref f) = true) {Q : Value → Shared → Prop}
    (hcall : wpAny (model prog w) A.in1 (call (.ref f) [.ref x, y]) (fun v s' => ∃ b, v = .bool b ∧ Q (.bool (!b)) s') E s) : wpAny (model prog w) A (call (.builtin "object.__ne__") [.ref x, y]) Q E s :=
  wpAny_call (codeAny_call_builtin F.cmp_object.ne.plain F.cmpEntry_ne (PySem.W.check_slot F.cmpKind_ne F.cmpSplit_ne (I.type.andThen (PySem.W.looks_mroIn X hm)) (F.cmpArgs_ne _ _)
    (entry_neV (A := A.in1) hu X I hs hf (wpAny_mono hcall (fun v s' hv => by obtain ⟨b, rfl, q⟩ := hv; exact ⟨b, rfl, q⟩) fun _ _ e => e))))
theorem ne_V {tb : Value} {Q : Value → Shared → Prop} (hu : A.units + 1 < cLine) (X : K.In s.heap) (I : PySem.W.InstAt s.heap x ox C od) (hb : PySem.W.Looks (model prog w) s.heap (typeOf y) tb)
    (hn : PySem.W.notFirst K C tb = true) (hm : PySem.W.mroIn K C (.type "object") = some true) (hne : PySem.W.findIn K (.ref C) "__ne__" = some (some (.builtin "object.__ne__"))) (hs : PySem.W.findIn K (.ref C) "__eq__" = some (some (.ref f))) (hf : PySem.W.isFn K (.ref f) = true)
    (hcall : wpAny (model prog w) A.in1 (call (.ref f) [.ref x, y]) (fun v s' => ∃ b, v = .bool b ∧ Q (.bool (!b)) s') E s) : wpAny (model prog w) A (richCompare .NotEq (.ref x) y) Q E s := by
  have one : wpAny (model prog w) A (tryCompare (.ref x) "__ne__" y) (fun r s' => ∃ b, r = some (.bool b) ∧ Q (.bool b) s') E s := by
    unfold tryCompare
    refine wpAny_bind (ifBound_objNe X I hne (call_objNeV hu X I hm hs hf (wpAny_mono hcall (fun v s' hv => ?_) fun _ _ e => e)))
    obtain ⟨b, rfl, q⟩ := hv
    exact ⟨b, rfl, wpAny_pure ⟨_, rfl, q⟩⟩
  simp only [richCompare, cmpInfo_NotEq, oneThing_ref]
  refine wpAny_holding (wpAny_bind (wpAny_cRoomFor (Nat.lt_of_succ_lt hu) ?_))
  refine wpAny_bind (I.type.here (wpAny_bind (hb.here ?_)))
  split
  · rename_i q
    have e : PySem.W.subIn K tb (.ref C) = some false := by
      rcases Bool.or_eq_true_iff.mp hn with e | e
      · rw [beq_iff_eq.mp e] at q; simp at q
      · exact beq_iff_eq.mp e
    refine wpAny_bind ((PySem.W.looks_subIn X e).here ?_)
    simp only [Bool.false_eq_true, if_false]
    refine wpAny_bind (wpAny_mono one (fun r s' z => ?_) fun _ _ e => e)
    obtain ⟨b, rfl, hq⟩ := z
    exact wpAny_pure hq
  · refine wpAny_bind (wpAny_pure ?_)
    simp only [Bool.false_eq_true, if_false]
    refine wpAny_bind (wpAny_mono one (fun r s' z => ?_) fun _ _ e => e)
    obtain ⟨b, rfl, hq⟩ := z
    exact wpAny_pure hq
end
end RQ
namespace RQ
open PySem PySem.Spec PyProof.Rows L2
section
variable {X : Cx} {n : Nat}
/-- an instance of the class at C beside any value of the class t, which isn't asked first -/
def DAnyB (K : PySem.W.Frag) (C : Addr) (R : Addr → V → Hp → Bool → Prop) : EqvB := fun x y H k => ∃ a dx fs t, x = .ref a ∧ H a = some (.ins C dx fs) ∧ TyX K H y t ∧ PySem.W.notFirst K C t = true ∧ R a y H k
theorem looks_ty {pins : List (Addr × Obj)} {σ : L2.St} {H : Hp} {s : Shared} {y : V} {v t : Value} {M : Model} (I : Inv X pins σ H s) (ry : RelV y v) (ty : TyX X.K H y t) : PySem.W.Looks M s.heap (typeOf v) t := by
  obtain ⟨P, Z, p, _⟩ := kit_of I ry ty
  exact Z.ty _ _ I.kIn p
theorem rcB_any {CX : CXT} {C f : Addr} {fd : FuncData} {ps : List Str} {R : Addr → V → Hp → Bool → Prop} {E : XK} (F : FnOk X.prog X.w X.K X.mg X.base CX n f fd ps (spEqB R))
    (hs : PySem.W.findIn X.K (.ref C) "__eq__" = some (some (.ref f))) (hf : PySem.W.isFn X.K (.ref f) = true) (hb : Binds X.K fd ps []) (hx : Passes CX X E) : RcB X n (DAnyB X.K C R) := by
  intro A pins s σ H x y u v k sb I rx ry d
  obtain ⟨a, dx, fs, t, rfl, ha, ty, hn, hr⟩ := d
  cases rx
  obtain ⟨mA, J, _⟩ := ins_get I.hok ha
  obtain ⟨od, J, _⟩ := J.look
  obtain ⟨m, hF⟩ := I.fr
  refine PySem.W.cmp_K (op := .Eq) (tb := t) sb.room.units0 hF I.ok.mod.kin J (looks_ty I ry ty) hn hs hf ?_
  have hsp : spEqB R [.ref a, y] H (fun v H' => v = .bl k ∧ Ext H H') E := ⟨a, y, k, rfl, hr, fun H' e => ⟨rfl, e⟩⟩
  have e0 : Env0 X.prog X.w X.K X.mg X.base A X.stack s H := by
    have e := I.env0
    exact ⟨by rw [sb.fr]; exact e.frames, e.mod, e.bs, e.bsz, e.funs, e.frf, e.hok, e.bare⟩
  have hl := F.len _ _ _ _ hsp
  have r2 : Vals [V.ref a, y] [Value.ref a, v] := .cons rfl (.cons ry .nil)
  refine wpAny_call (codeAny_mono (F.run A X.stack s H ⟨[.ref a, v], []⟩ [.ref a, v] [.ref a, y] _ E sb.room e0 (by
    have := hb s [.ref a, v] I.kIn (by simpa using hl)
    simpa using this) r2 hsp) fun r s' hq => ?_)
  cases r with
  | error e => exact hx pins σ H s e s' I hq
  | ok fl =>
    cases fl with
    | ret w =>
      obtain ⟨z, H', I', rz, ez, ex⟩ := I.after hq
      subst ez
      cases rz
      exact ⟨rfl, H', I', ex⟩
    | next => exact False.elim hq
    | brk => exact False.elim hq
    | cont => exact False.elim hq
theorem op_neAny {CX : CXT} {C f : Addr} {fd : FuncData} {ps : List Str} {R : Addr → V → Hp → Bool → Prop} {E : XK} (F : FnOk X.prog X.w X.K X.mg X.base CX n f fd ps (spEqB R)) (hr : Room (n + 1) X.A)
    (hm : PySem.W.mroIn X.K C (.type "object") = some true) (hne : PySem.W.findIn X.K (.ref C) "__ne__" = some (some (.builtin "object.__ne__"))) (hs : PySem.W.findIn X.K (.ref C) "__eq__" = some (some (.ref f))) (hf : PySem.W.isFn X.K (.ref f) = true) (hb : Binds X.K fd ps []) (hx : Passes CX X E) :
    OpR X (compareOp .NotEq) (rNeB (DAnyB X.K C R)) := by
  intro pins s σ H x y v u Q I rx ry hq
  obtain ⟨k, d, q⟩ := hq
  obtain ⟨a, dx, fs, t, rfl, ha, ty, hn, hrr⟩ := d
  cases rx
  obtain ⟨mA, J, _⟩ := ins_get I.hok ha
  obtain ⟨od, J, _⟩ := J.look
  show wpAny (model X.prog X.w) X.A (richCompare .NotEq (.ref a) u) (EP X pins σ Q) X.xe s
  refine ne_V (tb := t) (by have := hr.un; omega) I.kIn J (looks_ty I ry ty) hn hm hne hs hf ?_
  have hsp : spEqB R [.ref a, y] H (fun v H' => v = .bl k ∧ Ext H H') E := ⟨a, y, k, rfl, hrr, fun H' e => ⟨rfl, e⟩⟩
  have e0 : Env0 X.prog X.w X.K X.mg X.base X.A.in1 X.stack s H := by
    have e := I.env0
    exact ⟨e.frames, e.mod, e.bs, e.bsz, e.funs, e.frf, e.hok, e.bare⟩
  have hl := F.len _ _ _ _ hsp
  have r2 : Vals [V.ref a, y] [Value.ref a, u] := .cons rfl (.cons ry .nil)
  refine wpAny_call (codeAny_mono (F.run X.A.in1 X.stack s H ⟨[.ref a, u], []⟩ [.ref a, u] [.ref a, y] _ E hr.in1 e0 (by
    have := hb s [.ref a, u] I.kIn (by simpa using hl)
    simpa using this) r2 hsp) fun r s' hq => ?_)
  cases r with
  | error e => exact hx pins σ H s e s' I hq
  | ok fl =>
    cases fl with
    | ret w =>
      obtain ⟨z, H', I', rz, ez, ex⟩ := I.after hq
      subst ez
      cases rz
      exact ⟨k, rfl, .bl (!k), H', I', rfl, q H' ex⟩
    | next => exact False.elim hq
    | brk => exact False.elim hq
    | cont => exact False.elim hq
end
end RQ
set_option maxHeartbeats 4000000
namespace K08
open PySem PySem.Spec PyProof.Rows L2 RL RE RN RM TL RQ RC
/-! ### == of things -/
/-- no field stands for a method -/
def NoM (H : Hp) (a : Addr) : Prop := ∀ C dx fs, H a = some (.ins C dx fs) → fs.lookup (Str.ofString "same_head") = none ∧ fs.lookup (Str.ofString "rights") = none ∧ fs.lookup (Str.ofString "admits") = none
theorem spEqB_len {R : Addr → V → Hp → Bool → Prop} : ∀ vs H Q E, spEqB R vs H Q E → vs.length = 2 := fun vs H Q E h => by
  obtain ⟨a, y, k, rfl, _⟩ := h
  rfl
/-- how a role or a table compares with any value -/
def RT (K : PySem.W.Frag) (C : Addr) : Addr → V → Hp → Bool → Prop := fun a y H k => ∃ m, HeadAt C H a m ∧ NoM H a ∧ ∃ t, TyX K H y t ∧
  ((PySem.W.kitOne K t (.ref C) = some true ∧ ∃ b m', y = .ref b ∧ HeadAt C H b m' ∧ k = decide (m = m')) ∨ (PySem.W.kitOne K t (.ref C) = some false ∧ k = false))
/-- a function without a body -/
def FunAt (C : Addr) (H : Hp) (a : Addr) (m : Tm) : Prop := ∃ dx v p, H a = some (.ins C dx (headT m.kind m.name m.owner v ++ ([("mode", .str tOwn), ("_body", .ref p)] : List (Str × V)))) ∧ AuAt H v m.au ∧ H p = some (.lst [])
theorem FunAt.head {C : Addr} {H : Hp} {a : Addr} {m : Tm} (h : FunAt C H a m) : HeadAt C H a m := by
  obtain ⟨dx, v, p, e, u, _⟩ := h
  exact ⟨dx, _, v, e, rfl, rfl, rfl, rfl, u⟩
def RF (K : PySem.W.Frag) (C : Addr) : Addr → V → Hp → Bool → Prop := fun a y H k => ∃ m, FunAt C H a m ∧ ∃ t, TyX K H y t ∧
  ((PySem.W.kitOne K t (.ref C) = some true ∧ ∃ b m', y = .ref b ∧ FunAt C H b m' ∧ k = decide (m = m')) ∨ (PySem.W.kitOne K t (.ref C) = some false ∧ k = false))
section
variable {P : Program} {w : World} {K : PySem.W.Frag} {mg : Str → Option Value} {base : Heap} {f : Addr} {fd : FuncData}
theorem ok_RoleE {C fH : Addr} {fdH : FuncData} (F : Fun K "__eq__" "Role.__eq__" s_Role_eq f fd) (T : TF K C) (gC : mg "Role" = some (.ref C)) (mi : mg "isinstance" = none)
    (M : Meth K C "same_head" fH) (FH : FnOk P w K mg base CX0 2 fH fdH ["self", "other"] (spHead K)) (bH : Binds K fdH ["self", "other"] []) : FnOk P w K mg base CX0 3 f fd ["self", "other"] (spEqB (RT K C)) := by
  refine F.ok sc_Role_eq spEqB_len (fun cdv A outer s H vs Q E hr h => ?_)
  obtain ⟨a, y, k, rfl, ⟨m, hm, nm, t, ty, hk⟩, q⟩ := h
  refine ⟨_, PSs.nox (pss_one (ps_ret (pe_and (pe_callB call_isi (by rfl) mi boot_isinstance (pa_cons (pv 1) (pa_cons (pe_glob (v := .ref C) (by rfl) gC rfl) pa_nil)))
    (pe_one (pe_meth (pv 0) T.cl M FH hr bH .nil pass0 (pa_cons (pv 1) pa_nil)))))), ?_⟩
  rcases hk with ⟨kt, b, m', rfl, hb, rfl⟩ | ⟨kf, rfl⟩
  · refine ⟨_, rfl, .ref b, .ref C, t, .ref C, _, rfl, .own _, ty, kt, _, rfl, ?_⟩
    obtain ⟨dx, fs, v, ea, r⟩ := hm
    refine iteT ⟨_, rfl, a, dx, fs, rfl, ea, (nm _ _ _ ea).1, _, rfl, a, b, C, C, m, m', rfl, T, T, ⟨dx, fs, v, ea, r⟩, hb, q H Ext.rfl'⟩
  · refine ⟨_, rfl, y, .ref C, t, .ref C, _, rfl, .own _, ty, kf, _, rfl, ?_⟩
    exact iteF (q H Ext.rfl')
theorem ok_TableE {C fH : Addr} {fdH : FuncData} (F : Fun K "__eq__" "Table.__eq__" s_Table_eq f fd) (T : TF K C) (gC : mg "Table" = some (.ref C)) (mi : mg "isinstance" = none)
    (M : Meth K C "same_head" fH) (FH : FnOk P w K mg base CX0 2 fH fdH ["self", "other"] (spHead K)) (bH : Binds K fdH ["self", "other"] []) : FnOk P w K mg base CX0 3 f fd ["self", "other"] (spEqB (RT K C)) := by
  refine F.ok sc_Table_eq spEqB_len (fun cdv A outer s H vs Q E hr h => ?_)
  obtain ⟨a, y, k, rfl, ⟨m, hm, nm, t, ty, hk⟩, q⟩ := h
  refine ⟨_, PSs.nox (pss_one (ps_ret (pe_and (pe_callB call_isi (by rfl) mi boot_isinstance (pa_cons (pv 1) (pa_cons (pe_glob (v := .ref C) (by rfl) gC rfl) pa_nil)))
    (pe_one (pe_meth (pv 0) T.cl M FH hr bH .nil pass0 (pa_cons (pv 1) pa_nil)))))), ?_⟩
  rcases hk with ⟨kt, b, m', rfl, hb, rfl⟩ | ⟨kf, rfl⟩
  · refine ⟨_, rfl, .ref b, .ref C, t, .ref C, _, rfl, .own _, ty, kt, _, rfl, ?_⟩
    obtain ⟨dx, fs, v, ea, r⟩ := hm
    refine iteT ⟨_, rfl, a, dx, fs, rfl, ea, (nm _ _ _ ea).1, _, rfl, a, b, C, C, m, m', rfl, T, T, ⟨dx, fs, v, ea, r⟩, hb, q H Ext.rfl'⟩
  · refine ⟨_, rfl, y, .ref C, t, .ref C, _, rfl, .own _, ty, kf, _, rfl, ?_⟩
    exact iteF (q H Ext.rfl')
theorem FunAt.nom {C : Addr} {H : Hp} {a : Addr} {m : Tm} (h : FunAt C H a m) : NoM H a := by
  obtain ⟨dx, v, p, e, _⟩ := h
  intro C' dx' fs e'
  rw [e] at e'
  cases e'
  exact ⟨rfl, rfl, rfl⟩
theorem ok_FunctionE {C fH : Addr} {fdH : FuncData} (F : Fun K "__eq__" "Function.__eq__" s_Function_eq f fd) (T : FF K C) (gC : mg "Function" = some (.ref C)) (mi : mg "isinstance" = none)
    (M : Meth K C "same_head" fH) (FH : FnOk P w K mg base CX0 2 fH fdH ["self", "other"] (spHead K)) (bH : Binds K fdH ["self", "other"] []) : FnOk P w K mg base CX0 3 f fd ["self", "other"] (spEqB (RF K C)) := by
  refine F.ok sc_Function_eq spEqB_len (fun cdv A outer s H vs Q E hr h => ?_)
  obtain ⟨a, y, k, rfl, ⟨m, hm, t, ty, hk⟩, q⟩ := h
  refine ⟨_, PSs.nox (pss_one (ps_ret (pe_and (pe_callB call_isi (by rfl) mi boot_isinstance (pa_cons (pv 1) (pa_cons (pe_glob (v := .ref C) (by rfl) gC rfl) pa_nil)))
    (pe_and (pe_meth (pv 0) T.t.cl M FH hr bH .nil pass0 (pa_cons (pv 1) pa_nil)) (pe_and (pe_cmpR op_eq (pe_fld (pv 0) rfl) (pe_fld (pv 1) rfl) (by rfl)) (pe_one (pe_cmpR (op_eqD (hu64 hr)) (pe_fld (pv 0) rfl) (pe_fld (pv 1) rfl) (by rfl)))))))), ?_⟩
  rcases hk with ⟨kt, b, m', rfl, hb, rfl⟩ | ⟨kf, rfl⟩
  · refine ⟨_, rfl, .ref b, .ref C, t, .ref C, _, rfl, .own _, ty, kt, _, rfl, ?_⟩
    have hh := hm.head
    have hh' := hb.head
    have nm := hm.nom
    obtain ⟨dx, v, p, ea, ua, ep⟩ := hm
    obtain ⟨dy, v', p', eb, ub, ep'⟩ := hb
    refine iteT ⟨_, rfl, a, dx, _, rfl, ea, (nm _ _ _ ea).1, _, rfl, a, b, C, C, m, m', rfl, T.t, T.t, hh, hh', _, rfl, ?_⟩
    cases hmm : decide (m = m') with
    | false => rw [hmm] at q; exact iteF (q H Ext.rfl')
    | true =>
      rw [hmm] at q
      refine iteT ⟨_, rfl, a, C, dx, _, _, rfl, ea, T.t.cl, T.n5, rfl, _, rfl, b, C, dy, _, _, rfl, eb, T.t.cl, T.n5, rfl, rfl, _, rfl, ?_⟩
      rw [decide_eq_true rfl]
      refine iteT ⟨_, rfl, a, C, dx, _, _, rfl, ea, T.t.cl, T.n6, rfl, _, rfl, b, C, dy, _, _, rfl, eb, T.t.cl, T.n6, rfl, .list [], .list [], .lst (SqL.of ep) .nil, .lst (SqL.of ep') .nil, by decide +kernel, by decide +kernel, ?_⟩
      exact q H Ext.rfl'
  · refine ⟨_, rfl, y, .ref C, t, .ref C, _, rfl, .own _, ty, kf, _, rfl, ?_⟩
    exact iteF (q H Ext.rfl')
end
end K08
set_option maxHeartbeats 4000000
namespace K08
open PySem PySem.Spec PyProof.Rows L2 RL RE RN RM TL RQ RC
/-! ### texts in a drawn order -/
theorem erase_map {α β : Type} (g : α → β) : ∀ (xs : List α) (k : Nat), (xs.map g).eraseIdx k = (xs.eraseIdx k).map g
  | [], _ => rfl
  | _ :: _, 0 => rfl
  | x :: xs, k + 1 => by
    show g x :: (xs.map g).eraseIdx k = g x :: (xs.eraseIdx k).map g
    rw [erase_map g xs k]
theorem erase_perm {α : Type} : ∀ (xs : List α) (k : Nat) (y : α), xs[k]? = some y → (y :: xs.eraseIdx k).Perm xs
  | [], _, _, h => by simp at h
  | x :: xs, 0, y, h => by
    simp at h
    subst h
    exact List.Perm.refl _
  | x :: xs, k + 1, y, h => by
    have h' : xs[k]? = some y := by simpa using h
    exact (List.Perm.swap x y _).trans ((erase_perm xs k y h').cons x)
theorem ne_box {H : Hp} {b p : Addr} {n : Int} (hb : Bx H b n) (np : H p = none) : p ≠ b := fun z => by
  obtain ⟨g0, m0, c0, eb1, hb1r⟩ := hb
  rw [z, eb1] at np
  cases np
theorem none_keep {H H' : Hp} {b p : Addr} (k : Keep b H H') (ne : p ≠ b) (n : H' p = none) : H p = none := by
  cases e : H p with
  | none => rfl
  | some o => rw [k p o ne e] at n; cases n
section
variable {P : Program} {w : World} {K : PySem.W.Frag} {mg : Str → Option Value} {base : Heap} {f : Addr} {fd : FuncData}
def rLenK (K : PySem.W.Frag) : List V → Hp → VK → Prop := fun xs H Q => ∃ p ys, xs = [V.ref p] ∧ (SqL K H p ys ∨ SqT K H p ys) ∧ Q (.int ys.length) H
def spMixed (K : PySem.W.Frag) : Sp := fun vs H Q _ => ∃ (b p : Addr) (n : Int) (ys : List Str), vs = [.ref b, .ref p] ∧ 0 ≤ n ∧ n ≤ 90000 ∧ Bx H b n ∧ SqL K H p (ys.map V.str) ∧ ys.length ≤ 12 ∧
  ∀ (r : Addr) (zs : List Str) H', zs.Perm ys → H r = none → H' r = some (.lst (zs.map V.str)) → Keep b H H' → Bx H' b (n + 12) → Q (.ref r) H'
theorem ok_mixed (F : Fun K "_law_mixed" "_law_mixed" s__law_mixed f fd) (GT : Df P w K mg base CX0 1 "_law_take" ["_law_box_here", "_law_many"] spTake) (mr : mg "range" = none) (ml : mg "len" = none) (mli : mg "list" = none) : FnOk P w K mg base CX0 2 f fd ["_law_box_here", "_law_some"] (spMixed K) := by
  refine F.ok sc__law_mixed (fun vs H Q E h => by obtain ⟨b, p, n, ys, rfl, _⟩ := h; rfl) (fun cdv A outer s H vs Q E hr h => ?_)
  obtain ⟨b, p, n, ys, rfl, n0, n1, hb, hS, hl, q⟩ := h
  refine ⟨_, PSs.nox (pss_cons (ps_set (i := 2) sc__law_mixed.nd rfl (.inr rfl) (pe_callTy call_list_of (by rfl) mli (by decide +kernel) (pa_cons (pv 1) pa_nil)))
    (pss_one (ps_ret (pe_lc (own := [("_law_k", 3)]) (g := gName 3) (by rfl) sc__law_mixed.nd (pi_range1 (by rfl) mr (pa_cons (pe_callB call_len_seq (by rfl) ml PySem.boot_len (pa_cons (pv 1) pa_nil)) pa_nil))
      (blkOk_by (own := [("_law_k", 3)]) (N := N__law_mixed) (sc := defScope s__law_mixed) (by decide +kernel)) (fun _ _ _ _ _ => pg_name (i := 3) sc__law_mixed.nd rfl (Or.inl rfl)) (fun _ _ _ _ _ => pts_nil)
      (fun _ _ _ _ _ => show PE _ _ (tBM K "list" rPopAt _ _) from pe_bm PySem.F.plainAttrs_list PySem.F.slot_list_pop PySem.F.type_list_pop mt_popAt (pv 2)
        (pa_cons (pe_df0 GT hr (by rfl) (pa_cons (pv 0) (pa_cons (pe_callB (r := rLenK K) call_len_seq (by rfl) ml PySem.boot_len (pa_cons (pv 2) pa_nil)) pa_nil))) pa_nil)))))), ?_⟩
  refine ⟨_, rfl, p, _, rfl, .inl hS, fun L nL => ?_⟩
  have nLb := ne_box hb nL
  have s1 := same_upd (H := H) (o := .lst (ys.map V.str)) nL
  have hb1 := hb.same s1
  have eL : (upd H L (.lst (ys.map V.str))) L = some (.lst (ys.map V.str)) := upd_same
  have nLp : H L = none := nL
  generalize upd H L (.lst (ys.map V.str)) = H1 at s1 hb1 eL
  refine ⟨_, rfl, p, _, rfl, .inl (SqL.ext hS s1), _, rfl, (by rw [List.length_map]; omega), (by rw [List.length_map]; omega), fun D nD => ?_⟩
  have nDb := ne_box hb1 nD
  have nDL : D ≠ L := fun z => by rw [z, eL] at nD; cases nD
  rw [List.length_map]
  refine lc_range (lo := 0) (n := ys.length) (fun i H' => ∃ zs left : List Str, H' D = some (.lst (zs.map V.str)) ∧ H' L = some (.lst (left.map V.str)) ∧ zs.length = i ∧ (zs ++ left).Perm ys ∧ Keep b H H' ∧ Bx H' b (n + (i : Int))) ?_ ?_ ?_
  · refine ⟨[], ys, upd_same, (by rw [upd_ne (Ne.symm nDL)]; exact eL), rfl, .refl _, (Keep.of s1).trans (Keep.new nD), ?_⟩
    exact (hb1.same (same_upd nD)).mono (by omega)
  · intro i H4 hi h2
    obtain ⟨zs, left, eD, e4, el, pm, k4, hb4⟩ := h2
    have hlen : zs.length + left.length = ys.length := by rw [← List.length_append]; exact pm.length_eq
    refine ⟨rfl, ?_⟩
    unfold tYes
    refine iteT ?_
    refine ⟨_, rfl, .inl ⟨rfl, _, .inl (.inl e4)⟩, ?_⟩
    refine ⟨_, rfl, _, rfl, L, left.map V.str, rfl, .inl (SqL.of e4), ?_⟩
    refine ⟨b, ((left.map V.str).length : Nat), n + (i : Int), rfl, by rw [List.length_map]; omega, by rw [List.length_map]; omega, by omega, by omega, hb4, fun d H5 d0 d1 k5 hb5 => ?_⟩
    rw [List.length_map] at d1
    have dl : d.toNat < left.length := by omega
    have nLb' : L ≠ b := nLb
    have e5 : H5 L = some (.lst (left.map V.str)) := k5 _ _ nLb' e4
    refine ⟨L, left.map V.str, d, d.toNat, .str left[d.toNat], rfl, rfl, e5, by omega, by omega, ?_, ?_, ?_⟩
    · rw [List.length_map]
      have e1 : (if d < 0 then d + (left.length : Int) else d) = d := if_neg (by omega)
      unfold seqIndex?
      simp only [e1]
      rw [if_pos]
      simp only [Bool.and_eq_true, decide_eq_true_eq]
      exact ⟨d0, d1⟩
    · rw [List.getElem?_map, List.getElem?_eq_getElem dl]; rfl
    · have eD5 : H5 D = some (.lst (zs.map V.str)) := k5 _ _ nDb eD
      have np := erase_perm left d.toNat left[d.toNat] (List.getElem?_eq_getElem dl)
      rw [erase_map]
      refine ⟨zs.map V.str, by rw [upd_ne nDL]; exact eD5, ?_, zs ++ [left[d.toNat]], left.eraseIdx d.toNat, ?_, ?_, ?_, ?_, ?_, ?_⟩
      · rw [List.length_map]
        exact Nat.lt_of_lt_of_le (show zs.length < 1000 by omega) (by decide)
      · rw [upd_same, List.map_append]; rfl
      · rw [upd_ne (Ne.symm nDL), upd_same]
      · rw [List.length_append, el]; rfl
      · refine List.Perm.trans ?_ pm
        rw [List.append_assoc]
        exact np.append_left zs
      · intro a o na ea
        have h5 := k5 a o na (k4 a o na ea)
        rw [upd_ne (fun z => by rw [z] at ea; rw [s1 D o ea] at nD; cases nD), upd_ne (fun z => by rw [z, nLp] at ea; cases ea)]
        exact h5
      · obtain ⟨g, m, k, e, r1, r2, r3, r4, r5⟩ := hb5
        exact ⟨g, m, k, by rw [upd_ne nDb.symm, upd_ne nLb.symm]; exact e, r1, r2, r3, r4, by omega⟩
  · intro H4 h2
    obtain ⟨zs, left, eD, e4, el, pm, k4, hb4⟩ := h2
    have hlen : zs.length + left.length = ys.length := by rw [← List.length_append]; exact pm.length_eq
    have l0 : left = [] := List.length_eq_zero_iff.mp (by omega)
    subst l0
    rw [List.append_nil] at pm
    refine q D zs H4 pm ?_ eD k4 (hb4.mono (by omega))
    exact none_keep (Keep.of s1) nDb nD
end
end K08
set_option maxHeartbeats 4000000
namespace K08
open PySem PySem.Spec PyProof.Rows L2 RL RE RN RM TL RQ RC
/-! ### rights by the law, rows, whom a row lets -/
/-- a row: kind, name, owner, audience, all the names -/
structure RowAt (H : Hp) (pR pN : Addr) (m : Tm) (v : V) (ys : List Str) : Prop where
  row : H pR = some (.lst [.str m.kind, .str m.name, .str m.owner, v, .ref pN])
  aud : AuAt H v m.au
  nms : H pN = some (.lst (ys.map V.str))
theorem RowAt.same {H H' : Hp} {pR pN : Addr} {m : Tm} {v : V} {ys : List Str} (h : RowAt H pR pN m v ys) (s : Ext H H') : RowAt H' pR pN m v ys :=
  ⟨s _ _ h.row, h.aud.same s, s _ _ h.nms⟩
section
variable {P : Program} {w : World} {K : PySem.W.Frag} {mg : Str → Option Value} {base : Heap} {f : Addr} {fd : FuncData}
def spLets : Sp := fun vs H Q _ => ∃ (pR pN : Addr) (m : Tm) (v : V) (ys : List Str) (t : Str), vs = [.ref pR, .str t] ∧ RowAt H pR pN m v ys ∧ Q (.bl (lets m.au t)) H
theorem ok_lets (F : Fun K "_law_lets" "_law_lets" s__law_lets f fd) : FnOk P w K mg base CX0 1 f fd ["_law_row_here", "_law_taker"] spLets := by
  refine F.ok sc__law_lets (fun vs H Q E h => by obtain ⟨pR, pN, m, v, ys, t, rfl, _⟩ := h; rfl) (fun cdv A outer s H vs Q E hr h => ?_)
  obtain ⟨pR, pN, ⟨k, n, o, u⟩, v, ys, t, rfl, ⟨e1, e2, e3⟩, q⟩ := h
  refine ⟨_, PSs.nox (pss_one (ps_ret (pe_or (pe_cmpR op_isN (pe_ix ix_list (pv 0) pe_int (fun _ _ => rfl)) pe_non (by rfl)) (pe_one (pe_cmpR op_in_seq (pv 1) (pe_ix ix_list (pv 0) pe_int (fun _ _ => rfl)) (by rfl)))))), ?_⟩
  refine ⟨_, rfl, pR, _, 3, v, rfl, rfl, SqL.of e1, atI_nat (j := 3) rfl, rfl, _, rfl, ?_⟩
  cases u with
  | none =>
    rw [show v = V.non from e2]
    exact iteT q
  | some zs =>
    obtain ⟨⟨p, rfl, ep⟩, _⟩ := e2
    refine iteF ⟨_, rfl, _, rfl, pR, _, 3, _, rfl, rfl, SqL.of e1, atI_nat (j := 3) rfl, p, _, rfl, .inl (SqL.of ep), rfl, ?_, ?_⟩
    · rw [List.all_map, List.all_eq_true]
      exact fun _ _ => rfl
    · have e : inV (.str t) (zs.map V.str) = lets (some zs) t := by
        unfold inV lets
        rw [List.any_map]
        rfl
      rw [← e] at q
      exact q
def spLR : Sp := fun vs H Q _ => ∃ k, vs = [.str k] ∧ isKd k ∧ ∀ p H', Same H H' → H p = none → H' p = some (.lst ((rightsK k).map V.str)) → Q (.ref p) H'
theorem ok_law_rights (F : Fun K "_law_rights" "_law_rights" s__law_rights f fd) : FnOk P w K mg base CX0 1 f fd ["_law_kind"] spLR := by
  refine F.ok sc__law_rights (fun vs H Q E h => by obtain ⟨k, rfl, _⟩ := h; rfl) (fun cdv A outer s H vs Q E hr h => ?_)
  obtain ⟨k, rfl, hk, q⟩ := h
  refine ⟨_, PSs.nox (pss_one (ps_ret (pe_dget (hu_of hr) (pe_disp (pps_cons pe_str (pe_lst (pa_cons pe_str (pa_cons pe_str pa_nil))) (pps_cons pe_str (pe_lst (pa_cons pe_str (pa_cons pe_str pa_nil))) (pps_cons pe_str (pe_lst (pa_cons pe_str pa_nil)) pps_nil))) (by rfl) (by rfl) (fun z => by cases z) (by decide)) (pv 0) (fun _ _ => rfl)))), ?_⟩
  refine fun pD npD => ?_
  refine ⟨by show 2 ≤ sizeLine; decide, fun l1 nl1 => ?_⟩
  refine ⟨by show 2 ≤ sizeLine; decide, fun l2 nl2 => ?_⟩
  refine ⟨by show 1 ≤ sizeLine; decide, fun l3 nl3 => ?_⟩
  have k0 : Same H (upd H pD (.dK [])) := same_upd npD
  have e0 : (upd H pD (.dK [])) pD = some (.dK []) := upd_same
  generalize upd H pD (.dK []) = Ha at k0 e0 nl1 nl2 nl3 ⊢
  have k1 : Same Ha (upd Ha l1 (.lst [.str (Str.ofString "inherit"), .str (Str.ofString "act")])) := same_upd nl1
  have e1 : (upd Ha l1 (.lst [.str (Str.ofString "inherit"), .str (Str.ofString "act")])) l1 = _ := upd_same
  have nH1 : H l1 = none := by
    cases e : H l1 with
    | none => rfl
    | some o => rw [k0 _ _ e] at nl1; cases nl1
  generalize upd Ha l1 (.lst [.str (Str.ofString "inherit"), .str (Str.ofString "act")]) = Hb at k1 e1 nl2 nl3 ⊢
  have k2 : Same Hb (upd Hb l2 (.lst [.str (Str.ofString "read"), .str (Str.ofString "write")])) := same_upd nl2
  have e2 : (upd Hb l2 (.lst [.str (Str.ofString "read"), .str (Str.ofString "write")])) l2 = _ := upd_same
  have nH2 : H l2 = none := by
    cases e : H l2 with
    | none => rfl
    | some o => rw [k1 _ _ (k0 _ _ e)] at nl2; cases nl2
  generalize upd Hb l2 (.lst [.str (Str.ofString "read"), .str (Str.ofString "write")]) = Hc at k2 e2 nl3 ⊢
  have k3 : Same Hc (upd Hc l3 (.lst [.str (Str.ofString "call")])) := same_upd nl3
  have e3 : (upd Hc l3 (.lst [.str (Str.ofString "call")])) l3 = _ := upd_same
  have nH3 : H l3 = none := by
    cases e : H l3 with
    | none => rfl
    | some o => rw [k2 _ _ (k1 _ _ (k0 _ _ e))] at nl3; cases nl3
  generalize upd Hc l3 (.lst [.str (Str.ofString "call")]) = Hd at k3 e3 ⊢
  have eD : Hd pD = some (.dK []) := k3 _ _ (k2 _ _ (k1 _ _ e0))
  refine ⟨eD, [(.inr tRol, .ref l1), (.inr tTab, .ref l2), (.inr tFun, .ref l3)], rfl, by show 3 ≤ 15; decide, ?_⟩
  have em : mergeK [] [((.inr tRol : Key), V.ref l1), (.inr tTab, .ref l2), (.inr tFun, .ref l3)] = [(.inr tRol, .ref l1), (.inr tTab, .ref l2), (.inr tFun, .ref l3)] := rfl
  rw [em]
  have ne1 : ∀ {l : Addr} {xs : List V}, Hd l = some (.lst xs) → l ≠ pD := fun e z => by rw [z, eD] at e; cases e
  have kH : Same H (upd Hd pD (.dK [(.inr tRol, .ref l1), (.inr tTab, .ref l2), (.inr tFun, .ref l3)])) := fun u o e => by
    rw [upd_ne (ne_of_none e npD)]
    exact k3 _ _ (k2 _ _ (k1 _ _ (k0 _ _ e)))
  have g1 : Hd l1 = _ := k3 _ _ (k2 _ _ e1)
  have g2 : Hd l2 = _ := k3 _ _ e2
  refine ⟨_, rfl, pD, ?_⟩
  rcases hk with rfl | rfl | rfl
  · exact ⟨.ref l1, rfl, DGet.k (k := .inr tRol) upd_same, q l1 _ kH nH1 (by rw [upd_ne (ne1 g1)]; exact g1)⟩
  · exact ⟨.ref l2, rfl, DGet.k (k := .inr tTab) upd_same, q l2 _ kH nH2 (by rw [upd_ne (ne1 g2)]; exact g2)⟩
  · exact ⟨.ref l3, rfl, DGet.k (k := .inr tFun) upd_same, q l3 _ kH nH3 (by rw [upd_ne (ne1 e3)]; exact e3)⟩
end
end K08
set_option maxHeartbeats 4000000
namespace K08
open PySem PySem.Spec PyProof.Rows L2 RL RE RN RM TL RQ RC
/-! ### a row -/
/-- all that is known of a row's data -/
structure RowOk (m : Tm) (ys : List Str) : Prop where
  kd : isKd m.kind
  n1 : nameT m.name = true ∧ txt m.name
  n2 : nameT m.owner = true ∧ txt m.owner
  au : ∀ zs, m.au = some zs → Aud zs
  len : ys.length = 12
  nd : ys.Nodup
  ok : ∀ y ∈ ys, nameT y = true ∧ txt y
theorem get_nm {ys : List Str} (h : ys.length = 12) (ok : ∀ y ∈ ys, nameT y = true ∧ txt y) {d : Int} (d0 : 0 ≤ d) (d1 : d < 12) : ∃ y, atI (ys.map V.str) d = some (.str y) ∧ nameT y = true ∧ txt y := by
  have hd : d.toNat < ys.length := by omega
  refine ⟨ys[d.toNat], atI_int d0 ?_, ok _ (List.getElem_mem hd)⟩
  rw [List.getElem?_map, List.getElem?_eq_getElem hd]
  rfl
theorem kd_at {d : Int} (d0 : 0 ≤ d) (d1 : d < 3) : ∃ k, atI [V.str tRol, .str tTab, .str tFun] d = some (.str k) ∧ isKd k := by
  have : d = 0 ∨ d = 1 ∨ d = 2 := by omega
  rcases this with rfl | rfl | rfl
  · exact ⟨tRol, rfl, .inl rfl⟩
  · exact ⟨tTab, rfl, .inr (.inl rfl)⟩
  · exact ⟨tFun, rfl, .inr (.inr rfl)⟩
theorem cut_strs (ys : List Str) (lo hi : Option Int) : ∃ zs : List Str, cutV (ys.map V.str) lo hi = zs.map V.str ∧ zs.Sublist ys := by
  unfold cutV
  refine ⟨(ys.drop (HT.sIx ys.length 0 lo)).take (HT.sIx ys.length ys.length hi - HT.sIx ys.length 0 lo), ?_, ?_⟩
  · rw [List.length_map, List.map_take, List.map_drop]
  · exact (List.take_sublist _ _).trans (List.drop_sublist _ _)
theorem cut_2_10 {ys zs : List Str} (h : ys.length = 12) (e : cutV (ys.map V.str) (some 2) (some 10) = zs.map V.str) : zs.length = 8 := by
  have e2 := congrArg List.length e
  unfold cutV at e2
  have e3 : HT.sIx 12 0 (some 2) = 2 := rfl
  have e4 : HT.sIx 12 12 (some 10) = 10 := rfl
  simp only [List.length_take, List.length_drop, List.length_map, h, e3, e4] at e2
  omega
section
variable {P : Program} {w : World} {K : PySem.W.Frag} {mg : Str → Option Value} {base : Heap} {f : Addr} {fd : FuncData}
def spRow : Sp := fun vs H Q _ => ∃ (b : Addr) (n : Int), vs = [.ref b] ∧ 0 ≤ n ∧ n ≤ 80000 ∧ Bx H b n ∧ ∀ (pR pN : Addr) (m : Tm) (v : V) (ys : List Str) H', RowOk m ys → RowAt H' pR pN m v ys → H pR = none → Keep b H H' → Bx H' b (n + 40) → Q (.ref pR) H'
theorem ok_row (F : Fun K "_law_row" "_law_row" s__law_row f fd) (GT : Df P w K mg base CX0 1 "_law_take" ["_law_box_here", "_law_many"] spTake) (GN : Df P w K mg base CX0 2 "_law_names" ["_law_box_here", "_law_many"] spNames) (GM : Df P w K mg base CX0 2 "_law_mixed" ["_law_box_here", "_law_some"] (spMixed K)) : FnOk P w K mg base CX0 3 f fd ["_law_box_here"] spRow := by
  refine F.ok sc__law_row (fun vs H Q E h => by obtain ⟨b, n, rfl, _⟩ := h; rfl) (fun cdv A outer s H vs Q E hr h => ?_)
  obtain ⟨b, n, rfl, n0, n1, hb, q⟩ := h
  have hr1 := hr.mono (show 1 ≤ 2 by decide)
  refine ⟨_, PSs.nox (pss_cons (ps_set (i := 1) sc__law_row.nd rfl (.inl rfl) (pe_df0 GN hr (by rfl) (pa_cons (pv 0) (pa_cons pe_int pa_nil))))
    (pss_cons (ps_set (i := 2) sc__law_row.nd rfl (.inl rfl) pe_non)
    (pss_cons (ps_if (pt_cmpR op_gt (pe_df0 GT hr1 (by rfl) (pa_cons (pv 0) (pa_cons pe_int pa_nil))) pe_int (nomark _))
      (pss_one (ps_set (i := 2) sc__law_row.nd rfl (.inl rfl) (pe_slice sl_list (pe_df0 GM hr (by rfl) (pa_cons (pv 0) (pa_cons (pe_slice sl_list (pv 1) (po_some pe_int) (po_some pe_int)) pa_nil))) po_none (po_some (pe_df0 GT hr1 (by rfl) (pa_cons (pv 0) (pa_cons pe_int pa_nil))))))) pss_nil)
    (pss_cons (ps_set (i := 3) sc__law_row.nd rfl (.inl rfl) (pe_ix ix_list (pv 1) (pe_df0 GT hr1 (by rfl) (pa_cons (pv 0) (pa_cons pe_int pa_nil))) (fun _ _ => rfl)))
    (pss_one (ps_ret (pe_lst (pa_cons (pe_ix ix_list (pe_lst (pa_cons pe_str (pa_cons pe_str (pa_cons pe_str pa_nil)))) (pe_df0 GT hr1 (by rfl) (pa_cons (pv 0) (pa_cons pe_int pa_nil))) (fun _ _ => rfl))
      (pa_cons (pe_ix ix_list (pv 1) pe_int (fun _ _ => rfl)) (pa_cons (pv 3) (pa_cons (pv 2) (pa_cons (pv 1) pa_nil)))))))))))), ?_⟩
  refine ⟨_, rfl, b, n, rfl, n0, by omega, hb, fun pN ys H1 hl nd ok npN eN k1 hb1 => ?_⟩
  refine ⟨_, rfl, b, 4, n + 9, rfl, by decide, by decide, by omega, by omega, hb1, fun d1 H2 _ _ k2 hb2 => ⟨_, _, rfl, rfl, _, rfl, ?_⟩⟩
  have nNb : pN ≠ b := fun z => by
    obtain ⟨g0, m0, c0, eb1, _⟩ := hb
    rw [z, eb1] at npN
    cases npN
  have eN2 : H2 pN = some (.lst (ys.map V.str)) := k2 _ _ nNb eN
  have kA := k1.trans k2
  refine ite2 (fun _ => ?_) (fun _ => ?_)
  · refine ⟨_, rfl, _, rfl, 2, rfl, 10, rfl, pN, _, rfl, SqL.of eN2, fun pC nC => ?_⟩
    obtain ⟨cs, ecs, scs⟩ := cut_strs ys (some 2) (some 10)
    have lcs := cut_2_10 hl ecs
    rw [ecs]
    have nCb := ne_box hb2 nC
    have sC := same_upd (o := .lst (cs.map V.str)) nC
    have eC : (upd H2 pC (.lst (cs.map V.str))) pC = some (.lst (cs.map V.str)) := upd_same
    have hb3 := hb2.same sC
    generalize upd H2 pC (.lst (cs.map V.str)) = H3 at sC eC hb3 ⊢
    refine ⟨b, pC, n + 9 + 1, cs, rfl, by omega, by omega, hb3, SqL.of eC, by omega, fun pM zs H4 pm nM eM k4 hb4 => ?_⟩
    have nMb : pM ≠ b := ne_box hb3 nM
    refine ⟨_, rfl, b, 9, n + 9 + 1 + 12, rfl, by decide, by decide, by omega, by omega, hb4, fun d2 H5 d20 d21 k5 hb5 => ⟨d2, rfl, ?_⟩⟩
    refine ⟨pM, _, rfl, SqL.of (k5 _ _ nMb eM), fun pA nA => ?_⟩
    obtain ⟨as_, eas, sas⟩ := cut_strs zs none (some d2)
    rw [eas]
    have nAb := ne_box hb5 nA
    have sA := same_upd (o := .lst (as_.map V.str)) nA
    have eA : (upd H5 pA (.lst (as_.map V.str))) pA = some (.lst (as_.map V.str)) := upd_same
    have hbZ := hb5.same sA
    have kZ : Keep b H (upd H5 pA (.lst (as_.map V.str))) := (((kA.trans (Keep.of sC)).trans k4).trans k5).trans (Keep.of sA)
    have eNZ : (upd H5 pA (.lst (as_.map V.str))) pN = some (.lst (ys.map V.str)) := sA _ _ (k5 _ _ nNb (k4 _ _ nNb (sC _ _ eN2)))
    generalize upd H5 pA (.lst (as_.map V.str)) = HZ at kZ eNZ eA hbZ sA ⊢
    have hA : Aud as_ := by
      refine ⟨?_, ?_, fun y hy => ok y (scs.subset (pm.mem_iff.mp (sas.subset hy)))⟩
      · have h1 := sas.length_le
        have h2 := pm.length_eq
        omega
      · exact ((pm.nodup_iff).mpr (nd.sublist scs)).sublist sas
    refine ⟨_, rfl, _, rfl, b, 4, (n + 9 + 1 + 12 + 1), rfl, by decide, by decide, by omega, by omega, hbZ, fun d3 H6 d30 d31 k6 hb6 => ?_⟩
    have eN6 : H6 pN = some (.lst (ys.map V.str)) := k6 _ _ nNb eNZ
    obtain ⟨ow, eow, oow⟩ := get_nm hl ok d30 (by omega)
    refine ⟨pN, _, d3, .str ow, rfl, rfl, SqL.of eN6, eow, ?_⟩
    refine ⟨by show 3 ≤ sizeLine; decide, fun pK nK => ?_⟩
    have sK := same_upd (o := .lst [.str (Str.ofString "role"), .str (Str.ofString "table"), .str (Str.ofString "function")]) nK
    have eK : (upd H6 pK (.lst [.str (Str.ofString "role"), .str (Str.ofString "table"), .str (Str.ofString "function")])) pK = some (.lst [.str tRol, .str tTab, .str tFun]) := upd_same
    have nKb := ne_box hb6 nK
    have hb7 := hb6.same sK
    generalize upd H6 pK (.lst [.str (Str.ofString "role"), .str (Str.ofString "table"), .str (Str.ofString "function")]) = H7 at sK eK hb7 ⊢
    refine ⟨_, rfl, b, 3, (n + 9 + 1 + 12 + 1) + 1, rfl, by decide, by decide, by omega, by omega, hb7, fun d4 H8 d40 d41 k8 hb8 => ?_⟩
    obtain ⟨kd, ekd, okd⟩ := kd_at d40 d41
    refine ⟨pK, _, d4, .str kd, rfl, rfl, SqL.of (k8 _ _ nKb eK), ekd, ?_⟩
    have eN8 : H8 pN = some (.lst (ys.map V.str)) := k8 _ _ nNb (sK _ _ eN6)
    obtain ⟨nm, enm, onm⟩ := get_nm hl ok (d := 0) (by decide) (by decide)
    refine ⟨_, rfl, pN, _, 0, .str nm, rfl, rfl, SqL.of eN8, enm, ?_⟩
    refine ⟨_, rfl, _, rfl, _, rfl, by show 5 ≤ sizeLine; decide, fun pR nR => ?_⟩
    have sR := same_upd (o := .lst [.str kd, .str nm, .str ow, (.ref pA), .ref pN]) nR
    have eR : (upd H8 pR (.lst [.str kd, .str nm, .str ow, (.ref pA), .ref pN])) pR = _ := upd_same
    have nRb := ne_box hb8 nR
    have hb9 := hb8.same sR
    have kAll : Keep b HZ H8 := (k6.trans (Keep.of sK)).trans k8
    generalize upd H8 pR (.lst [.str kd, .str nm, .str ow, (.ref pA), .ref pN]) = H9 at sR eR hb9 ⊢
    have kEnd := (kZ.trans kAll)
    refine q pR pN ⟨kd, nm, ow, some as_⟩ (.ref pA) ys H9 ⟨okd, onm, oow, fun zs e => by cases e; exact hA, hl, nd, ok⟩ ⟨eR, ?_, sR _ _ eN8⟩ (none_keep kEnd nRb nR) (kEnd.trans (Keep.of sR)) (hb9.mono (by omega))
    exact ⟨⟨pA, rfl, sR _ _ (k8 _ _ nAb (sK _ _ (k6 _ _ nAb eA)))⟩, hA.2.2⟩
  · have hbZ := hb2
    have kZ := kA
    have eNZ := eN2
    generalize H2 = HZ at hbZ kZ eNZ ⊢
    refine ⟨_, rfl, _, rfl, b, 4, (n + 9 + 1), rfl, by decide, by decide, by omega, by omega, hbZ, fun d3 H6 d30 d31 k6 hb6 => ?_⟩
    have eN6 : H6 pN = some (.lst (ys.map V.str)) := k6 _ _ nNb eNZ
    obtain ⟨ow, eow, oow⟩ := get_nm hl ok d30 (by omega)
    refine ⟨pN, _, d3, .str ow, rfl, rfl, SqL.of eN6, eow, ?_⟩
    refine ⟨by show 3 ≤ sizeLine; decide, fun pK nK => ?_⟩
    have sK := same_upd (o := .lst [.str (Str.ofString "role"), .str (Str.ofString "table"), .str (Str.ofString "function")]) nK
    have eK : (upd H6 pK (.lst [.str (Str.ofString "role"), .str (Str.ofString "table"), .str (Str.ofString "function")])) pK = some (.lst [.str tRol, .str tTab, .str tFun]) := upd_same
    have nKb := ne_box hb6 nK
    have hb7 := hb6.same sK
    generalize upd H6 pK (.lst [.str (Str.ofString "role"), .str (Str.ofString "table"), .str (Str.ofString "function")]) = H7 at sK eK hb7 ⊢
    refine ⟨_, rfl, b, 3, (n + 9 + 1) + 1, rfl, by decide, by decide, by omega, by omega, hb7, fun d4 H8 d40 d41 k8 hb8 => ?_⟩
    obtain ⟨kd, ekd, okd⟩ := kd_at d40 d41
    refine ⟨pK, _, d4, .str kd, rfl, rfl, SqL.of (k8 _ _ nKb eK), ekd, ?_⟩
    have eN8 : H8 pN = some (.lst (ys.map V.str)) := k8 _ _ nNb (sK _ _ eN6)
    obtain ⟨nm, enm, onm⟩ := get_nm hl ok (d := 0) (by decide) (by decide)
    refine ⟨_, rfl, pN, _, 0, .str nm, rfl, rfl, SqL.of eN8, enm, ?_⟩
    refine ⟨_, rfl, _, rfl, _, rfl, by show 5 ≤ sizeLine; decide, fun pR nR => ?_⟩
    have sR := same_upd (o := .lst [.str kd, .str nm, .str ow, .non, .ref pN]) nR
    have eR : (upd H8 pR (.lst [.str kd, .str nm, .str ow, .non, .ref pN])) pR = _ := upd_same
    have nRb := ne_box hb8 nR
    have hb9 := hb8.same sR
    have kAll : Keep b HZ H8 := (k6.trans (Keep.of sK)).trans k8
    generalize upd H8 pR (.lst [.str kd, .str nm, .str ow, .non, .ref pN]) = H9 at sR eR hb9 ⊢
    have kEnd := (kZ.trans kAll)
    refine q pR pN ⟨kd, nm, ow, none⟩ .non ys H9 ⟨okd, onm, oow, (fun zs e => nomatch e), hl, nd, ok⟩ ⟨eR, ?_, sR _ _ eN8⟩ (none_keep kEnd nRb nR) (kEnd.trans (Keep.of sR)) (hb9.mono (by omega))
    exact rfl
end
end K08
set_option maxHeartbeats 4000000
namespace K08
open PySem PySem.Spec PyProof.Rows L2 RL RE RN RM TL RQ RC
/-! ### a thing made of a row -/
structure Cs where
  rol : Addr
  tab : Addr
  fn : Addr
def clsK (c : Cs) (k : Str) : Addr := if k = tRol then c.rol else if k = tTab then c.tab else c.fn
/-- a thing at hand -/
structure ThAt (c : Cs) (H : Hp) (a : Addr) (m : Tm) : Prop where
  head : HeadAt (clsK c m.kind) H a m
  nom : NoM H a
  fn : m.kind = tFun → FunAt c.fn H a m
theorem tab_ne : ¬ tTab = tRol := by decide +kernel
theorem fun_ne : ¬ tFun = tRol := by decide +kernel
theorem fun_ne2 : ¬ tFun = tTab := by decide +kernel
theorem cls_rol (c : Cs) : clsK c tRol = c.rol := if_pos rfl
theorem cls_tab (c : Cs) : clsK c tTab = c.tab := by unfold clsK; rw [if_neg tab_ne, if_pos rfl]
theorem cls_fun (c : Cs) : clsK c tFun = c.fn := by unfold clsK; rw [if_neg fun_ne, if_neg fun_ne2]
/-- an audience handed in, as it stands ahead of the making -/
def GivenC (H : Hp) (x : V) : Option (List Str) → Prop
  | none => x = .non
  | some ys => Aud ys ∧ ∃ b, x = .ref b ∧ (H b = some (.lst (ys.map V.str)) ∨ H b = some (.tup (ys.map V.str)))
theorem GivenC.to {K : PySem.W.Frag} {H : Hp} {x : V} {au : Option (List Str)} (g : GivenC H x au) {a dx C : Addr} (na : H a = none) (nd : H dx = none) : Given K (upd (upd H dx (.own a)) a (.ins C dx [])) a x au := by
  cases au with
  | none => exact g
  | some ys =>
    obtain ⟨hA, b, rfl, e⟩ := g
    have up : ∀ {o : HO}, H b = some o → ∀ H', But a (upd (upd H dx (.own a)) a (.ins C dx [])) H' → H' b = some o := fun {o} e H' k => by
      have n1 := ne_of_none e na
      have n2 := ne_of_none e nd
      exact k b o n1 (by rw [upd_ne n1, upd_ne n2]; exact e)
    rcases e with e | e
    · exact ⟨hA, b, rfl, .inl fun H' k => SqL.of (up e H' k)⟩
    · exact ⟨hA, b, rfl, .inr fun H' k => SqT.of (up e H' k)⟩
abbrev psR : List Str := ["self", "name", "owner", "audience"]
abbrev psF : List Str := ["self", "name", "owner", "audience", "mode", "body"]
structure MkR (P : Program) (w : World) (K : PySem.W.Frag) (mg : Str → Option Value) (base : Heap) (x : Str) (kd : Str) (C f : Addr) (fd : FuncData) (g1 : List Value → List Value → List Value) : Prop where
  M : Mk K C f
  F : FnOk P w K mg base CX0 4 f fd psR (spMk K C kd)
  g : mg x = some (.ref C)
  b0 : ∃ ds, Binds K fd psR ds ∧ Vals [V.non] ds
  b1 : KBn K fd psR 3 ["audience"] g1 (fun vs zs => vs ++ zs)
structure MkFn (P : Program) (w : World) (K : PySem.W.Frag) (mg : Str → Option Value) (base : Heap) (C f aT : Addr) (fd : FuncData) (g1 : List Value → List Value → List Value) : Prop where
  M : Mk K C f
  F : FnOk P w K mg base CX0 4 f fd psF (spMkF K C)
  g : mg "Function" = some (.ref C)
  t : KTup K aT []
  b1 : KBn K fd psF 3 ["audience"] g1 (fun vs zs => vs ++ (zs ++ [.str tOwn, .ref aT]))
theorem new_same {H : Hp} {x dx : Addr} {u v : HO} (nx : H x = none) (nd : H dx = none) : Same H (upd (upd H dx u) x v) := fun a y e => by
  rw [upd_ne (ne_of_none e nx), upd_ne (ne_of_none e nd)]
  exact e
/-- what was not there ahead stands as it is -/
def Kept (H H' H2 : Hp) : Prop := ∀ u o, H u = none → H' u = some o → H2 u = some o
theorem upd2_none {H : Hp} {dx x p : Addr} {u v : HO} (h : upd (upd H dx u) x v p = none) : H p = none := by
  by_cases e1 : p = x
  · rw [e1, upd_same] at h; cases h
  · rw [upd_ne e1] at h
    by_cases e2 : p = dx
    · rw [e2, upd_same] at h; cases h
    · rw [upd_ne e2] at h; exact h
theorem made_aud {H H' H2 : Hp} {x dx C : Addr} {kd n o : Str} {v : V} {au : Option (List Str)} {fs : List (Str × V)} {u1 u2 : HO} (m : Made (upd (upd H dx u1) x u2) H' x C dx kd n o v au fs) (k : Kept H H' H2) : AuAt H2 v au := by
  have a := m.aud
  cases au with
  | none => exact a
  | some zs =>
    obtain ⟨⟨p, e, ep⟩, g⟩ := a
    exact ⟨⟨p, e, k _ _ (upd2_none (m.fresh p e)) ep⟩, g⟩
theorem mk_init {K : PySem.W.Frag} {C : Addr} {H : Hp} {kd n o : Str} {v : V} {au : Option (List Str)} {x dx : Addr} {R : Hp → Prop} {E : XK} (n1 : nameT n = true ∧ txt n) (n2 : nameT o = true ∧ txt o) (g : GivenC H v au)
    (q : ∀ H' au' , SrtO au au' → Same H H' → (∀ H2, Kept H H' H2 → HeadAt C H2 x ⟨kd, n, o, au'⟩ ∧ NoM H2 x) → R H') (nx : H x = none) (nd : H dx = none) (ne : dx ≠ x) :
    spMk K C kd [.ref x, .str n, .str o, v] (upd (upd H dx (.own x)) x (.ins C dx [])) (fun v H3 => v = .non ∧ R H3) E := by
  refine ⟨x, dx, n, o, v, au, rfl, upd_same, n1.2, n1.1, n2.2, n2.1, g.to nx nd, fun H' v' au' so m => ⟨rfl, q H' au' so ?_ fun H2 k => ?_⟩⟩
  · intro u y e
    exact m.but u y (ne_of_none e nx) (new_same nx nd u y e)
  · have e2 : H2 x = some (.ins C dx (headT kd n o v' ++ [])) := k _ _ nx m.at_
    refine ⟨⟨dx, _, v', e2, rfl, rfl, rfl, rfl, made_aud m k⟩, fun C' dx' fs e => ?_⟩
    rw [e2] at e
    cases e
    exact ⟨rfl, rfl, rfl⟩
theorem mk_initF {K : PySem.W.Frag} {C aT : Addr} {H : Hp} {n o : Str} {v : V} {au : Option (List Str)} {x dx : Addr} {R : Hp → Prop} {E : XK} (n1 : nameT n = true ∧ txt n) (n2 : nameT o = true ∧ txt o) (g : GivenC H v au) (hT : KTup K aT [])
    (q : ∀ H' au' , SrtO au au' → Same H H' → (∀ H2, Kept H H' H2 → FunAt C H2 x ⟨tFun, n, o, au'⟩) → R H') (nx : H x = none) (nd : H dx = none) (ne : dx ≠ x) :
    spMkF K C [.ref x, .str n, .str o, v, .str tOwn, .ref aT] (upd (upd H dx (.own x)) x (.ins C dx [])) (fun v H3 => v = .non ∧ R H3) E := by
  refine ⟨x, dx, aT, n, o, v, au, rfl, upd_same, n1.2, n1.1, n2.2, n2.1, g.to nx nd, fun H' _ => hT.sq, fun H' v' au' p so np m ep => ⟨rfl, q H' au' so ?_ fun H2 k => ?_⟩⟩
  · intro u y e
    exact m.but u y (ne_of_none e nx) (new_same nx nd u y e)
  · exact ⟨dx, v', p, k _ _ nx m.at_, made_aud m k, k _ _ (upd2_none np) ep⟩
section
variable {P : Program} {w : World} {K : PySem.W.Frag} {mg : Str → Option Value} {base : Heap} {f : Addr} {fd : FuncData}
def spMade (c : Cs) : Sp := fun vs H Q _ => ∃ (pR pN : Addr) (m : Tm) (v x : V) (ys : List Str) (au : Option (List Str)), vs = [.ref pR, x] ∧ RowAt H pR pN m v ys ∧ RowOk m ys ∧ GivenC H x au ∧
  ∀ a H' au', SrtO au au' → Same H H' → (∀ H2, Kept H H' H2 → ThAt c H2 a ⟨m.kind, m.name, m.owner, au'⟩) → Q (.ref a) H'
theorem ok_made {c : Cs} {fR fT fF aT : Addr} {dR dT dF : FuncData} {gR gT gF : List Value → List Value → List Value} (F : Fun K "_law_made" "_law_made" s__law_made f fd) (MR : MkR P w K mg base "Role" tRol c.rol fR dR gR) (MT : MkR P w K mg base "Table" tTab c.tab fT dT gT) (MF : MkFn P w K mg base c.fn fF aT dF gF) :
    FnOk P w K mg base CX0 6 f fd ["_law_row_here", "_law_admitted"] (spMade c) := by
  refine F.ok sc__law_made (fun vs H Q E h => by obtain ⟨pR, pN, m, v, x, ys, au, rfl, _⟩ := h; rfl) (fun cdv A outer s H vs Q E hr h => ?_)
  obtain ⟨pR, pN, ⟨k, n, o, u⟩, v, x, ys, au, rfl, hR, ⟨hk, n1, n2, _, _, _, _⟩, g, q⟩ := h
  obtain ⟨dsR, bR, vR⟩ := MR.b0
  obtain ⟨dsT, bT, vT⟩ := MT.b0
  have L := SqL.of (K := K) hR.row
  refine ⟨_, PSs.nox (pss_cons (ps_if (pt_cmpR op_eq (pe_ix ix_list (pv 0) pe_int (fun _ _ => rfl)) pe_str (nomark _)) (pss_one (ps_ret (pe_ifExp (pt_cmpR op_isN (pv 1) pe_non (by rfl))
      (pe_make MR.M MR.F (hr.mono (by decide)) (by rfl) MR.g bR vR pass0 (pa_cons (pe_ix ix_list (pv 0) pe_int (fun _ _ => rfl)) (pa_cons (pe_ix ix_list (pv 0) pe_int (fun _ _ => rfl)) pa_nil)))
      (pe_makeK (n := 2) MR.M MR.F (hr.mono (by decide)) (by rfl) MR.g MR.b1 pass0 (pa_cons (pe_ix ix_list (pv 0) pe_int (fun _ _ => rfl)) (pa_cons (pe_ix ix_list (pv 0) pe_int (fun _ _ => rfl)) pa_nil)) (pk_cons (pv 1) pk_nil))))) pss_nil)
    (pss_cons (ps_if (pt_cmpR op_eq (pe_ix ix_list (pv 0) pe_int (fun _ _ => rfl)) pe_str (nomark _)) (pss_one (ps_ret (pe_ifExp (pt_cmpR op_isN (pv 1) pe_non (by rfl))
      (pe_make MT.M MT.F (hr.mono (by decide)) (by rfl) MT.g bT vT pass0 (pa_cons (pe_ix ix_list (pv 0) pe_int (fun _ _ => rfl)) (pa_cons (pe_ix ix_list (pv 0) pe_int (fun _ _ => rfl)) pa_nil)))
      (pe_makeK (n := 2) MT.M MT.F (hr.mono (by decide)) (by rfl) MT.g MT.b1 pass0 (pa_cons (pe_ix ix_list (pv 0) pe_int (fun _ _ => rfl)) (pa_cons (pe_ix ix_list (pv 0) pe_int (fun _ _ => rfl)) pa_nil)) (pk_cons (pv 1) pk_nil))))) pss_nil)
    (pss_one (ps_ret (pe_makeK (n := 2) MF.M MF.F (hr.mono (by decide)) (by rfl) MF.g MF.b1 pass0 (pa_cons (pe_ix ix_list (pv 0) pe_int (fun _ _ => rfl)) (pa_cons (pe_ix ix_list (pv 0) pe_int (fun _ _ => rfl)) pa_nil)) (pk_cons (pv 1) pk_nil)))))), ?_⟩
  refine ⟨_, rfl, pR, _, 0, .str k, rfl, rfl, L, atI_nat (j := 0) rfl, rfl, _, rfl, ?_⟩
  rcases hk with hk | hk | hk
  · have hk : k = tRol := hk
    subst hk
    refine ite2 (fun _ => ?_) (fun e => absurd (decide_eq_true rfl) e)
    refine ⟨_, rfl, rfl, _, rfl, ?_⟩
    cases au with
    | none =>
      have ex : x = V.non := g
      subst ex
      refine ite2 (fun _ => ?_) (fun e => absurd (decide_eq_true rfl) e)
      refine ⟨_, rfl, pR, _, 1, .str n, rfl, rfl, L, atI_nat (j := 1) rfl, _, rfl, pR, _, 2, .str o, rfl, rfl, L, atI_nat (j := 2) rfl, fun x dx nx nd ne => ?_⟩
      exact mk_init (au := none) n1 n2 rfl (fun H' au' so s hk => q x H' au' so s fun H2 kk => ⟨by rw [cls_rol]; exact (hk H2 kk).1, (hk H2 kk).2, fun e => absurd (show tRol = tFun from e) (fun z => fun_ne z.symm)⟩) nx nd ne
    | some zs =>
      have g' := g
      obtain ⟨_, b, ex, _⟩ := g'
      refine ite2 (fun e => absurd (of_decide_eq_true e) (by rw [ex]; exact fun z => nomatch z)) (fun _ => ?_)
      refine ⟨_, rfl, pR, _, 1, .str n, rfl, rfl, L, atI_nat (j := 1) rfl, _, rfl, pR, _, 2, .str o, rfl, rfl, L, atI_nat (j := 2) rfl, _, rfl, rfl, rfl, fun x dx nx nd ne => ?_⟩
      exact mk_init n1 n2 g (fun H' au' so s hk => q x H' au' so s fun H2 kk => ⟨by rw [cls_rol]; exact (hk H2 kk).1, (hk H2 kk).2, fun e => absurd (show tRol = tFun from e) (fun z => fun_ne z.symm)⟩) nx nd ne
  · have hk : k = tTab := hk
    subst hk
    refine ite2 (fun e => absurd (V.str.inj (of_decide_eq_true e)) tab_ne) (fun _ => ?_)
    refine ⟨_, rfl, pR, _, 0, .str tTab, rfl, rfl, L, atI_nat (j := 0) rfl, rfl, _, rfl, ?_⟩
    refine ite2 (fun _ => ?_) (fun e => absurd (decide_eq_true rfl) e)
    refine ⟨_, rfl, rfl, _, rfl, ?_⟩
    cases au with
    | none =>
      have ex : x = V.non := g
      subst ex
      refine ite2 (fun _ => ?_) (fun e => absurd (decide_eq_true rfl) e)
      refine ⟨_, rfl, pR, _, 1, .str n, rfl, rfl, L, atI_nat (j := 1) rfl, _, rfl, pR, _, 2, .str o, rfl, rfl, L, atI_nat (j := 2) rfl, fun x dx nx nd ne => ?_⟩
      exact mk_init (au := none) n1 n2 rfl (fun H' au' so s hk => q x H' au' so s fun H2 kk => ⟨by rw [cls_tab]; exact (hk H2 kk).1, (hk H2 kk).2, fun e => absurd (show tTab = tFun from e) (fun z => fun_ne2 z.symm)⟩) nx nd ne
    | some zs =>
      have g' := g
      obtain ⟨_, b, ex, _⟩ := g'
      refine ite2 (fun e => absurd (of_decide_eq_true e) (by rw [ex]; exact fun z => nomatch z)) (fun _ => ?_)
      refine ⟨_, rfl, pR, _, 1, .str n, rfl, rfl, L, atI_nat (j := 1) rfl, _, rfl, pR, _, 2, .str o, rfl, rfl, L, atI_nat (j := 2) rfl, _, rfl, rfl, rfl, fun x dx nx nd ne => ?_⟩
      exact mk_init n1 n2 g (fun H' au' so s hk => q x H' au' so s fun H2 kk => ⟨by rw [cls_tab]; exact (hk H2 kk).1, (hk H2 kk).2, fun e => absurd (show tTab = tFun from e) (fun z => fun_ne2 z.symm)⟩) nx nd ne
  · have hk : k = tFun := hk
    subst hk
    refine ite2 (fun e => absurd (V.str.inj (of_decide_eq_true e)) fun_ne) (fun _ => ?_)
    refine ⟨_, rfl, pR, _, 0, .str tFun, rfl, rfl, L, atI_nat (j := 0) rfl, rfl, _, rfl, ?_⟩
    refine ite2 (fun e => absurd (V.str.inj (of_decide_eq_true e)) fun_ne2) (fun _ => ?_)
    refine ⟨_, rfl, pR, _, 1, .str n, rfl, rfl, L, atI_nat (j := 1) rfl, _, rfl, pR, _, 2, .str o, rfl, rfl, L, atI_nat (j := 2) rfl, _, rfl, rfl, rfl, fun x dx nx nd ne => ?_⟩
    exact mk_initF n1 n2 g MF.t (fun H' au' so s h => q x H' au' so s fun H2 kk => ⟨by rw [cls_fun]; exact (h H2 kk).head, (h H2 kk).nom, fun _ => h H2 kk⟩) nx nd ne
end
end K08
set_option maxHeartbeats 4000000
namespace K08
open PySem PySem.Spec PyProof.Rows L2 RL RE RN RM TL RQ RC
/-! ### rows that are alike -/
def hdP (k n o : Str) : PyData := .list [.str k, .str n, .str o]
theorem hd_dp {K : PySem.W.Frag} {H : Hp} {p : Addr} {k n o : Str} (e : H p = some (.lst [.str k, .str n, .str o])) : Dp K H (.ref p) (hdP k n o) :=
  .lst (SqL.of e) (.cons (.str _) (.cons (.str _) (.cons (.str _) .nil)))
theorem hd_shaped {k n o : Str} (h1 : txt k) (h2 : txt n) (h3 : txt o) : SeqAt.shaped (hdP k n o) = true :=
  strs_shaped (ys := [k, n, o]) (fun y hy => by
    simp only [List.mem_cons, List.not_mem_nil, or_false] at hy
    rcases hy with rfl | rfl | rfl
    · exact h1
    · exact h2
    · exact h3)
theorem hd_eqv (k n o k' n' o' : Str) : PyData.eqv (hdP k n o) (hdP k' n' o') = (decide (k = k') && (decide (n = n') && decide (o = o'))) := by
  have h := strs_eqv [k, n, o] [k', n', o']
  refine h.trans ?_
  rw [Bool.eq_iff_iff]
  simp
section
variable {P : Program} {w : World} {K : PySem.W.Frag} {mg : Str → Option Value} {base : Heap} {f : Addr} {fd : FuncData}
def spLike : Sp := fun vs H Q _ => ∃ (p1 p2 pN pN' : Addr) (m m' : Tm) (v v' : V) (ys ys' : List Str) (z z' : Option (List Str)), vs = [.ref p1, .ref p2] ∧ RowAt H p1 pN m v ys ∧ RowAt H p2 pN' m' v' ys' ∧ RowOk m ys ∧ RowOk m' ys' ∧ SrtO m.au z ∧ SrtO m'.au z' ∧
  ∀ H', Same H H' → Q (.bl (decide ((⟨m.kind, m.name, m.owner, z⟩ : Tm) = ⟨m'.kind, m'.name, m'.owner, z'⟩))) H'
theorem ok_like (F : Fun K "_law_like" "_law_like" s__law_like f fd) (mso : mg "sorted" = none) (ms : mg "str" = none) : FnOk P w K mg base CX0 2 f fd ["_law_one", "_law_other"] spLike := by
  refine F.ok sc__law_like (fun vs H Q E h => by obtain ⟨p1, p2, pN, pN', m, m', v, v', ys, ys', z, z', rfl, _⟩ := h; rfl) (fun cdv A outer s H vs Q E hr h => ?_)
  obtain ⟨p1, p2, pN, pN', ⟨k, n, o, u⟩, ⟨k', n', o', u'⟩, v, v', ys, ys', z, z', rfl, hR, hR', hO, hO', hz, hz', q⟩ := h
  refine ⟨_, PSs.nox (pss_cons (ps_if (PW.pt (pw_or (pt_cmpR (op_neD (hu64 hr)) (pe_slice sl_list (pv 0) po_none (po_some pe_int)) (pe_slice sl_list (pv 1) po_none (po_some pe_int)) (by rfl))
      (pw_or1 (pt_cmpR op_ne (pe_cmpR op_isN (pe_ix ix_list (pv 0) pe_int (fun _ _ => rfl)) pe_non (by rfl)) (pe_cmpR op_isN (pe_ix ix_list (pv 1) pe_int (fun _ _ => rfl)) pe_non (by rfl)) (by rfl))))) (pss_one (ps_ret pe_bl)) pss_nil)
    (pss_cons (ps_if (pt_cmpR op_isN (pe_ix ix_list (pv 0) pe_int (fun _ _ => rfl)) pe_non (by rfl)) (pss_one (ps_ret pe_bl)) pss_nil)
    (pss_one (ps_ret (pe_cmpR (op_eqD (hu64 hr)) (pe_callB cr_sortedS (by rfl) mso (by decide +kernel) (pa_cons (pe_lc (own := [("_law_name", 2)]) (g := gName 2) (by rfl) sc__law_like.nd (pi_list (pe_ix ix_list (pv 0) pe_int (fun _ _ => rfl)))
        (blkOk_by (own := [("_law_name", 2)]) (N := N__law_like) (sc := defScope s__law_like) (by decide +kernel)) (fun _ _ _ _ _ => pg_name (i := 2) sc__law_like.nd rfl (Or.inl rfl)) (fun _ _ _ _ _ => pts_nil)
        (fun _ _ _ _ _ => pe_callTy SkE.call_str_str (by rfl) ms PyProof.Rows.boot_str (pa_cons (pv 2) pa_nil))) pa_nil))
      (pe_callB cr_sortedS (by rfl) mso (by decide +kernel) (pa_cons (pe_lc (own := [("_law_name", 2)]) (g := gName 2) (by rfl) sc__law_like.nd (pi_list (pe_ix ix_list (pv 1) pe_int (fun _ _ => rfl)))
        (blkOk_by (own := [("_law_name", 2)]) (N := N__law_like) (sc := defScope s__law_like) (by decide +kernel)) (fun _ _ _ _ _ => pg_name (i := 2) sc__law_like.nd rfl (Or.inl rfl)) (fun _ _ _ _ _ => pts_nil)
        (fun _ _ _ _ _ => pe_callTy SkE.call_str_str (by rfl) ms PyProof.Rows.boot_str (pa_cons (pv 2) pa_nil))) pa_nil)) (by rfl)))))), ?_⟩
  have c3 : ∀ (a b c d e : V), cutV [a, b, c, d, e] none (some 3) = [a, b, c] := fun _ _ _ _ _ => rfl
  refine ⟨_, rfl, 3, rfl, p1, _, rfl, SqL.of hR.row, fun pa na => ?_⟩
  rw [c3]
  have sa := same_upd (o := .lst [.str k, .str n, .str o]) na
  have ea : (upd H pa (.lst [.str k, .str n, .str o])) pa = _ := upd_same
  generalize upd H pa (.lst [.str k, .str n, .str o]) = H1 at sa ea ⊢
  refine ⟨_, rfl, 3, rfl, p2, _, rfl, SqL.of (sa _ _ hR'.row), fun pb nb => ?_⟩
  rw [c3]
  have sb := same_upd (o := .lst [.str k', .str n', .str o']) nb
  have eb : (upd H1 pb (.lst [.str k', .str n', .str o'])) pb = _ := upd_same
  have ea2 := sb _ _ ea
  generalize upd H1 pb (.lst [.str k', .str n', .str o']) = H2 at sb eb ea2 ⊢
  have s2 : Same H H2 := fun a x e => sb _ _ (sa _ _ e)
  have hR2 := hR.same s2
  have hR2' := hR'.same s2
  refine ⟨hdP k n o, hdP k' n' o', hd_dp ea2, hd_dp eb, hd_shaped (kd_txt hO.kd) hO.n1.2 hO.n2.2, hd_shaped (kd_txt hO'.kd) hO'.n1.2 hO'.n2.2, _, rfl, ?_⟩
  rw [hd_eqv]
  have q2 := q H2 s2
  cases hh : (decide (k = k') && (decide (n = n') && decide (o = o'))) with
  | false =>
    have e : decide ((⟨k, n, o, z⟩ : Tm) = ⟨k', n', o', z'⟩) = false := by
      refine decide_eq_false fun e => ?_
      cases e
      simp at hh
    rw [e] at q2
    exact iteT q2
  | true =>
    have hh : k = k' ∧ n = n' ∧ o = o' := by simpa using hh
    obtain ⟨rfl, rfl, rfl⟩ := hh
    refine iteF ?_
    refine ⟨_, rfl, p1, _, 3, v, rfl, rfl, SqL.of hR2.row, atI_nat (j := 3) rfl, rfl, _, rfl, p2, _, 3, v', rfl, rfl, SqL.of hR2'.row, atI_nat (j := 3) rfl, rfl, rfl, _, rfl, ?_⟩
    cases u with
    | none =>
      have ev : v = V.non := hR.aud
      subst ev
      cases z with
      | some _ => exact False.elim hz
      | none =>
      cases u' with
      | none =>
        have ev' : v' = V.non := hR'.aud
        subst ev'
        cases z' with
        | some _ => exact False.elim hz'
        | none =>
        refine iteF ?_
        refine ⟨_, rfl, p1, _, 3, .non, rfl, rfl, SqL.of hR2.row, atI_nat (j := 3) rfl, rfl, _, rfl, ?_⟩
        rw [decide_eq_true rfl] at q2
        exact iteT q2
      | some as' =>
        obtain ⟨⟨b', rfl, eb'⟩, _⟩ := hR2'.aud
        cases z' with
        | none => exact False.elim hz'
        | some zs' =>
        have e : decide ((⟨k, n, o, none⟩ : Tm) = ⟨k, n, o, some zs'⟩) = false := decide_eq_false fun e => by cases e
        rw [e] at q2
        exact iteT q2
    | some as_ =>
      obtain ⟨⟨b1, rfl, eb1⟩, nb1⟩ := hR2.aud
      cases z with
      | none => exact False.elim hz
      | some zs =>
      cases u' with
      | none =>
        have ev' : v' = V.non := hR'.aud
        subst ev'
        cases z' with
        | some _ => exact False.elim hz'
        | none =>
        have e : decide ((⟨k, n, o, some zs⟩ : Tm) = ⟨k, n, o, none⟩) = false := decide_eq_false fun e => by cases e
        rw [e] at q2
        exact iteT q2
      | some as' =>
        obtain ⟨⟨b2, rfl, eb2⟩, nb2⟩ := hR2'.aud
        cases z' with
        | none => exact False.elim hz'
        | some zs' =>
        refine iteF ?_
        refine ⟨_, rfl, p1, _, 3, .ref b1, rfl, rfl, SqL.of hR2.row, atI_nat (j := 3) rfl, rfl, _, rfl, ?_⟩
        refine iteF ?_
        have hA := hO.au as_ rfl
        have hA' := hO'.au as' rfl
        refine ⟨_, rfl, p1, _, 3, .ref b1, rfl, rfl, SqL.of hR2.row, atI_nat (j := 3) rfl, b1, rfl, ⟨_, SqL.of eb1⟩, fun D nD => lc_list (K := K) (xs := as_.map V.str) (fun i H' => H' D = some (.lst ((as_.take i).map V.str)) ∧ Ext H2 H') ⟨upd_same, Ext.upd nD⟩ (fun i H' _ h => SqL.of (h.2 _ _ eb1)) ?_ ?_⟩
        · intro i x H5 hx h
          obtain ⟨eD, x2⟩ := h
          have hi : i < as_.length := by
            rw [← List.length_map (f := V.str)]
            exact (List.getElem?_eq_some_iff.mp hx).1
          have ex : x = .str as_[i] := by
            rw [List.getElem?_map, List.getElem?_eq_getElem hi] at hx
            exact (Option.some.inj hx).symm
          refine ⟨rfl, ?_⟩
          unfold tYes
          refine iteT ?_
          refine ⟨_, rfl, as_[i], by rw [ex], ?_⟩
          refine ⟨_, eD, ?_, ?_, ?_⟩
          · rw [List.length_map, List.length_take]
            have := hA.1
            exact Nat.lt_of_lt_of_le (show min i as_.length < 1000 by omega) (by decide)
          · rw [upd_same, List.take_succ, List.getElem?_eq_getElem hi, List.map_append]; rfl
          · intro u o eu
            rw [upd_ne (fun z => by rw [z, nD] at eu; cases eu)]
            exact x2 _ _ eu
        intro H3 h3
        obtain ⟨eD, x3⟩ := h3
        rw [List.length_map, List.take_length] at eD
        refine ⟨D, as_, rfl, SqL.of eD, by have := hA.1; omega, fun ws pw pm so npw => ?_⟩
        have hws : Srt as_ ws := ⟨pm, so⟩
        have s4 := same_upd (o := .lst (ws.map V.str)) npw
        have e4 : (upd H3 pw (.lst (ws.map V.str))) pw = some (.lst (ws.map V.str)) := upd_same
        have x4 : Ext H2 (upd H3 pw (.lst (ws.map V.str))) := fun u o e => s4 _ _ (x3 _ _ e)
        generalize upd H3 pw (.lst (ws.map V.str)) = H4 at s4 e4 x4 ⊢
        have eb24 := x4 _ _ eb2
        have r24 := x4 _ _ hR2'.row
        refine ⟨_, rfl, p2, _, 3, .ref b2, rfl, rfl, SqL.of r24, atI_nat (j := 3) rfl, b2, rfl, ⟨_, SqL.of eb24⟩, fun D2 nD2 => lc_list (K := K) (xs := as'.map V.str) (fun i H' => H' D2 = some (.lst ((as'.take i).map V.str)) ∧ Ext H4 H') ⟨upd_same, Ext.upd nD2⟩ (fun i H' _ h => SqL.of (h.2 _ _ eb24)) ?_ ?_⟩
        · intro i x H5 hx h
          obtain ⟨eD, x2⟩ := h
          have hi : i < as'.length := by
            rw [← List.length_map (f := V.str)]
            exact (List.getElem?_eq_some_iff.mp hx).1
          have ex : x = .str as'[i] := by
            rw [List.getElem?_map, List.getElem?_eq_getElem hi] at hx
            exact (Option.some.inj hx).symm
          refine ⟨rfl, ?_⟩
          unfold tYes
          refine iteT ?_
          refine ⟨_, rfl, as'[i], by rw [ex], ?_⟩
          refine ⟨_, eD, ?_, ?_, ?_⟩
          · rw [List.length_map, List.length_take]
            have := hA'.1
            exact Nat.lt_of_lt_of_le (show min i as'.length < 1000 by omega) (by decide)
          · rw [upd_same, List.take_succ, List.getElem?_eq_getElem hi, List.map_append]; rfl
          · intro u o eu
            rw [upd_ne (fun z => by rw [z, nD2] at eu; cases eu)]
            exact x2 _ _ eu
        intro H6 h6
        obtain ⟨eD2, x6⟩ := h6
        rw [List.length_map, List.take_length] at eD2
        refine ⟨D2, as', rfl, SqL.of eD2, by have := hA'.1; omega, fun ws' pw' pm' so' npw' => ?_⟩
        have hws' : Srt as' ws' := ⟨pm', so'⟩
        have s7 := same_upd (o := .lst (ws'.map V.str)) npw'
        have e7 : (upd H6 pw' (.lst (ws'.map V.str))) pw' = some (.lst (ws'.map V.str)) := upd_same
        generalize upd H6 pw' (.lst (ws'.map V.str)) = H7 at s7 e7 ⊢
        have e47 : H7 pw = some (.lst (ws.map V.str)) := s7 _ _ (x6 _ _ e4)
        have u1 : ws = zs := hws.uniq hz (.refl _)
        have u2 : ws' = zs' := hws'.uniq hz' (.refl _)
        refine ⟨.list (strsP ws), .list (strsP ws'), .lst (SqL.of e47) (strs_all ws), .lst (SqL.of e7) (strs_all ws'), strs_shaped (fun y hy => (aud_names hA hws y hy).2), strs_shaped (fun y hy => (aud_names hA' hws' y hy).2), ?_⟩
        rw [strs_eqv]
        have e : decide ((⟨k, n, o, some zs⟩ : Tm) = ⟨k, n, o, some zs'⟩) = decide (ws = ws') := by
          rw [u1, u2, Bool.eq_iff_iff]
          simp
        have q3 := q H7 (fun u x e => s7 _ _ (x6 _ _ (x4 _ _ (s2 _ _ e))))
        rw [e] at q3
        exact q3
end
end K08
set_option maxHeartbeats 4000000
namespace K08
open PySem PySem.Spec PyProof.Rows L2 RL RE RN RM TL RQ RC
/-! ### a row with one part otherwise -/
theorem cutV_front (ys : List Str) {a : Int} (h : 0 ≤ a) : cutV (ys.map V.str) none (some a) = (ys.take a.toNat).map V.str := by
  unfold cutV
  have e2 : HT.sIx (ys.map V.str).length (ys.map V.str).length (some a) = min a.toNat (ys.map V.str).length := by
    show (if a < 0 then _ else _) = _
    rw [if_neg (by omega)]
  have e3 : HT.sIx (ys.map V.str).length 0 none = 0 := rfl
  rw [e2, e3, List.drop_zero, Nat.sub_zero, List.map_take]
  exact List.take_eq_take_min.symm
theorem cutV_back (ys : List Str) {a : Int} (h : 0 ≤ a) : cutV (ys.map V.str) (some a) none = (ys.drop a.toNat).map V.str := by
  unfold cutV
  have e2 : HT.sIx (ys.map V.str).length 0 (some a) = min a.toNat (ys.map V.str).length := by
    show (if a < 0 then _ else _) = _
    rw [if_neg (by omega)]
  have e3 : HT.sIx (ys.map V.str).length (ys.map V.str).length none = (ys.map V.str).length := rfl
  rw [e2, e3, List.take_of_length_le (by rw [List.length_drop]; exact Nat.le_refl _), List.map_drop]
  by_cases hl : a.toNat ≤ (ys.map V.str).length
  · rw [Nat.min_eq_left hl]
  · rw [Nat.min_eq_right (by omega), List.drop_length, List.drop_eq_nil_of_le (by omega)]
/-- names of an audience, one left out, some others put in -/
theorem aud_mix {as_ zs ys : List Str} {a c t : Nat} (hc : a ≤ c) (hA : Aud as_) (hs : zs.Sublist ys) (nd : ys.Nodup) (ok : ∀ y ∈ ys, nameT y = true ∧ txt y) (hn : ∀ z ∈ zs, z ∉ as_) :
    Aud (((as_.take a ++ zs.take t) ++ as_.drop c).take (8 : Int).toNat) := by
  have m1 : ∀ x ∈ as_.take a, x ∈ as_ := fun x h => List.mem_of_mem_take h
  have m2 : ∀ x ∈ zs.take t, x ∈ zs := fun x h => List.mem_of_mem_take h
  have m3 : ∀ x ∈ as_.drop c, x ∈ as_ := fun x h => List.mem_of_mem_drop h
  refine ⟨?_, ?_, fun y hy => ?_⟩
  · rw [List.length_take]
    exact Nat.min_le_left _ _
  · have s13 : (as_.take a ++ as_.drop c).Sublist as_ := by
      have := (List.Sublist.refl (as_.take a)).append (List.drop_sublist_drop_left as_ hc)
      rwa [List.take_append_drop] at this
    have n13 := hA.2.1.sublist s13
    rw [List.nodup_append] at n13
    have n2 : (zs.take t).Nodup := nd.sublist ((List.take_sublist _ _).trans hs)
    refine List.Nodup.sublist (List.take_sublist _ _) ?_
    rw [List.nodup_append, List.nodup_append]
    refine ⟨⟨n13.1, n2, fun x h1 y h2 e => hn y (m2 y h2) (e ▸ m1 x h1)⟩, n13.2.1, fun x h1 y h3 e => ?_⟩
    rcases List.mem_append.mp h1 with h1 | h2
    · exact n13.2.2 x h1 y h3 e
    · exact hn x (m2 x h2) (e ▸ m3 y h3)
  · have h := List.mem_of_mem_take hy
    rcases List.mem_append.mp h with h | h
    · rcases List.mem_append.mp h with h | h
      · exact hA.2.2 y (m1 y h)
      · exact ok y (hs.subset (m2 y h))
    · exact hA.2.2 y (m3 y h)
theorem lst_ne {H : Hp} {b p : Addr} {n : Int} {xs : List V} (hb : Bx H b n) (e : H p = some (.lst xs)) (h : ∀ g m k : Int, xs ≠ [.int g, .int m, .int k]) : p ≠ b := fun z => by
  obtain ⟨g, m, k, eb, _⟩ := hb
  rw [z, eb] at e
  cases e
  exact h g m k rfl
theorem strs_no (ys : List Str) : ∀ g m k : Int, ys.map V.str ≠ [.int g, .int m, .int k] := fun g m k e => by
  cases ys with
  | nil => cases e
  | cons y r => cases e
theorem RowAt.keep {H H' : Hp} {b pR pN : Addr} {m : Tm} {v : V} {ys : List Str} {n : Int} (h : RowAt H pR pN m v ys) (k : Keep b H H') (hb : Bx H b n) : RowAt H' pR pN m v ys := by
  refine ⟨k _ _ (lst_ne hb h.row (fun _ _ _ e => by cases e)) h.row, ?_, k _ _ (lst_ne hb h.nms (strs_no ys)) h.nms⟩
  have a := h.aud
  cases hu : m.au with
  | none => rw [hu] at a; exact a
  | some zs =>
    rw [hu] at a
    obtain ⟨⟨p, rfl, e⟩, g⟩ := a
    exact ⟨⟨p, rfl, k _ _ (lst_ne hb e (strs_no zs)) e⟩, g⟩
theorem Bx.updp {H : Hp} {b p : Addr} {n : Int} {o : HO} (h : Bx H b n) (ne : p ≠ b) : Bx (upd H p o) b n := by
  obtain ⟨g, m, k, e, r⟩ := h
  exact ⟨g, m, k, by rw [upd_ne (Ne.symm ne)]; exact e, r⟩
theorem AuAt.updp {H H4 : Hp} {p : Addr} {v : V} {u : Option (List Str)} {o : HO} (np : H p = none) (h : AuAt H v u) (h4 : AuAt H4 v u) : AuAt (upd H4 p o) v u := by
  cases u with
  | none => exact h4
  | some zs =>
    obtain ⟨⟨q, rfl, e⟩, g⟩ := h4
    obtain ⟨⟨q', e', e2⟩, _⟩ := h
    cases e'
    exact ⟨⟨q, rfl, by rw [upd_ne (ne_of_none e2 np)]; exact e⟩, g⟩
theorem ifT {c : Prop} [Decidable c] {A B : Prop} (h : c) (a : A) : if decide c = true then A else B := by
  rw [decide_eq_true h]; exact iteT a
theorem ifF {c : Prop} [Decidable c] {A B : Prop} (h : ¬ c) (a : B) : if decide c = true then A else B := by
  rw [decide_eq_false h]; exact iteF a
section
variable {P : Program} {w : World} {K : PySem.W.Frag} {mg : Str → Option Value} {base : Heap} {f : Addr} {fd : FuncData}
def spOther : Sp := fun vs H Q _ => ∃ (b pR pN : Addr) (n : Int) (m : Tm) (v : V) (ys : List Str), vs = [.ref b, .ref pR] ∧ 0 ≤ n ∧ n ≤ 90000 ∧ Bx H b n ∧ RowAt H pR pN m v ys ∧ RowOk m ys ∧
  ∀ (p : Addr) (m' : Tm) (v' : V) H', RowOk m' ys → RowAt H' p pN m' v' ys → H p = none → Keep b H H' → Bx H' b (n + 4) → Q (.ref p) H'
theorem ok_other (F : Fun K "_law_otherwise" "_law_otherwise" s__law_otherwise f fd) (GT : Df P w K mg base CX0 1 "_law_take" ["_law_box_here", "_law_many"] spTake) (ml : mg "len" = none) (mli : mg "list" = none) : FnOk P w K mg base CX0 2 f fd ["_law_box_here", "_law_row_here"] spOther := by
  refine F.ok sc__law_otherwise (fun vs H Q E h => by obtain ⟨b, pR, pN, n, m, v, ys, rfl, _⟩ := h; rfl) (fun cdv A outer s H vs Q E hr h => ?_)
  obtain ⟨b, pR, pN, n, ⟨k, nm, o, u⟩, v, ys, rfl, n0, n1, hb, hR, hO, q⟩ := h
  refine ⟨_, PSs.nox (pss_cons (ps_par (i := 2) (j := 3) (by rfl) sc__law_otherwise.nd rfl rfl (by decide) rfl rfl (pa_cons (pe_callTy call_list_of (by rfl) mli (by decide +kernel) (pa_cons (pv 1) pa_nil)) (pa_cons (pe_ix ix_list (pv 1) pe_int (fun _ _ => rfl)) pa_nil)) (by rfl))
    (pss_cons (ps_set (i := 4) sc__law_otherwise.nd rfl (.inl rfl) (pe_df0 GT hr (by rfl) (pa_cons (pv 0) (pa_cons pe_int pa_nil))))
    (pss_cons (ps_if (pt_cmpR op_eq (pv 4) pe_int (nomark _)) (pss_one (ps_asg (pe_ix ix_list (pe_lst (pa_cons pe_str (pa_cons pe_str (pa_cons pe_str pa_nil)))) (pe_df0 GT hr (by rfl) (pa_cons (pv 0) (pa_cons pe_int pa_nil))) (fun _ _ => rfl)) (pg_sub (pv 2) pe_int set_list))) pss_nil)
    (pss_cons (ps_if (pt_cmpR op_in_seq (pv 4) (pe_lst (pa_cons pe_int (pa_cons pe_int pa_nil))) (by rfl)) (pss_one (ps_asg (pe_ix ix_list (pv 3) (pe_df0 GT hr (by rfl) (pa_cons (pv 0) (pa_cons pe_int pa_nil))) (fun _ _ => rfl)) (pg_sub (pv 2) (pv 4) set_list))) pss_nil)
    (pss_cons (ps_if (pt_cmpR op_eq (pv 4) pe_int (nomark _)) (pss_one (ps_asg (pe_ifExp (pt_cmpR op_notN (pe_ix ix_list (pv 1) pe_int (fun _ _ => rfl)) pe_non (by rfl)) pe_non (pe_lst pa_nil)) (pg_sub (pv 2) pe_int set_list))) pss_nil)
    (pss_cons (ps_if (PW.pt (pw_and (pt_cmpR op_eq (pv 4) pe_int (nomark _)) (pw_and1 (pt_cmpR op_notN (pe_ix ix_list (pv 1) pe_int (fun _ _ => rfl)) pe_non (by rfl)))))
      (pss_cons (ps_set (i := 5) sc__law_otherwise.nd rfl (.inl rfl) (pe_df0 GT hr (by rfl) (pa_cons (pv 0) (pa_cons (pe_op op_add (pe_callB call_len_seq (by rfl) ml PySem.boot_len (pa_cons (pe_ix ix_list (pv 1) pe_int (fun _ _ => rfl)) pa_nil)) pe_int) pa_nil))))
      (pss_cons (ps_setLc (i := 6) (own := [("_law_name", 7)]) (g := gName 7) (by rfl) sc__law_otherwise.nd rfl rfl (sw_true rfl rfl rfl (by decide +kernel)) (pi_list (pv 3))
        (blkOk_by (own := [("_law_name", 7)]) (N := N__law_otherwise) (sc := defScope s__law_otherwise) (by decide +kernel)) (fun _ _ _ _ _ => pg_name (i := 7) sc__law_otherwise.nd rfl (Or.inl rfl))
        (fun _ _ _ _ _ => pts_one (pt_cmpR (r := rIn K true) op_notIn_seq (pv 7) (pe_ix (r := rIxL K) ix_list (pv 1) pe_int (fun _ _ => rfl)) (by rfl))) (fun _ _ _ _ _ => pv 7))
      (pss_one (ps_asg (pe_slice sl_list (pe_op op_cat (pe_op op_cat (pe_slice sl_list (pe_ix ix_list (pv 1) pe_int (fun _ _ => rfl)) po_none (po_some (pv 5))) (pe_slice sl_list (pv 6) po_none (po_some (pe_df0 GT hr (by rfl) (pa_cons (pv 0) (pa_cons pe_int pa_nil))))))
        (pe_slice sl_list (pe_ix ix_list (pv 1) pe_int (fun _ _ => rfl)) (po_some (pe_op op_add (pv 5) pe_int)) po_none)) po_none (po_some pe_int)) (pg_sub (pv 2) pe_int set_list))))) pss_nil)
    (pss_one (ps_ret (pv 2))))))))), ?_⟩
  -- PROOF
  refine ⟨_, rfl, pR, _, rfl, .inl (SqL.of hR.row), fun p np => ?_⟩
  have npb := ne_box hb np
  have s1 := same_upd (o := .lst [.str k, .str nm, .str o, v, .ref pN]) np
  have ep1 : (upd H p (.lst [.str k, .str nm, .str o, v, .ref pN])) p = _ := upd_same
  have hb1 := hb.same s1
  have hR1 := hR.same s1
  generalize upd H p (.lst [.str k, .str nm, .str o, v, .ref pN]) = H1 at s1 ep1 hb1 hR1 ⊢
  refine ⟨_, rfl, pR, _, 4, .ref pN, rfl, rfl, SqL.of hR1.row, atI_nat (j := 4) rfl, ?_⟩
  refine ⟨_, _, rfl, ?_⟩
  refine ⟨_, rfl, b, 5, n, rfl, by decide, by decide, by omega, by omega, hb1, fun way H2 w0 w1 k2 hb2 => ?_⟩
  have hR2 := hR1.keep k2 hb1
  have ep2 : H2 p = some (.lst [.str k, .str nm, .str o, v, .ref pN]) := k2 _ _ npb ep1
  have kA : Keep b H H2 := (Keep.of s1).trans k2
  have nNb : pN ≠ b := lst_ne hb hR.nms (strs_no ys)
  have fin : ∀ (H9 : Hp) (m' : Tm) (v' : V) (n9 : Int), Keep b H H9 → Bx H9 b n9 → n9 ≤ n + 4 → RowOk m' ys → H9 p = some (.lst [.str m'.kind, .str m'.name, .str m'.owner, v', .ref pN]) → AuAt H9 v' m'.au → Q (.ref p) H9 :=
    fun H9 m' v' n9 kk hb9 hn ok row au => q p m' v' H9 ok ⟨row, au, kk _ _ nNb hR.nms⟩ np kk (hb9.mono hn)
  have one : ∀ a c : Int, a ≠ c → ¬ (V.int a = V.int c) := fun a c h e => h (V.int.inj e)
  have ways : way = 0 ∨ way = 1 ∨ way = 2 ∨ way = 3 ∨ way = 4 := by omega
  rcases ways with rfl | rfl | rfl | rfl | rfl
  · refine ⟨_, rfl, rfl, _, rfl, ifT rfl ?_⟩
    refine ⟨by show 3 ≤ sizeLine; decide, fun pK nK => ?_⟩
    have sK := same_upd (o := .lst [.str (Str.ofString "role"), .str (Str.ofString "table"), .str (Str.ofString "function")]) nK
    have eK : (upd H2 pK (.lst [.str (Str.ofString "role"), .str (Str.ofString "table"), .str (Str.ofString "function")])) pK = some (.lst [.str tRol, .str tTab, .str tFun]) := upd_same
    have nKb := ne_box hb2 nK
    have hb3 := hb2.same sK
    generalize upd H2 pK (.lst [.str (Str.ofString "role"), .str (Str.ofString "table"), .str (Str.ofString "function")]) = H3 at sK eK hb3 ⊢
    refine ⟨_, rfl, b, 3, n + 1, rfl, by decide, by decide, by omega, by omega, hb3, fun d H4 d0 d1 k4 hb4 => ?_⟩
    obtain ⟨kd, ekd, okd⟩ := kd_at d0 d1
    refine ⟨pK, _, d, .str kd, rfl, rfl, SqL.of (k4 _ _ nKb eK), ekd, ?_⟩
    have ep4 : H4 p = some (.lst [.str k, .str nm, .str o, v, .ref pN]) := k4 _ _ npb (sK _ _ ep2)
    refine ⟨_, rfl, p, _, _, 0, rfl, rfl, ep4, rfl, ?_⟩
    have kB : Keep b H H4 := (kA.trans (Keep.of sK)).trans k4
    rw [show ([V.str k, .str nm, .str o, v, .ref pN] : List V).set 0 (V.str kd) = [.str kd, .str nm, .str o, v, .ref pN] from rfl]
    have eH5 : (upd H4 p (.lst [.str kd, .str nm, .str o, v, .ref pN])) p = some (.lst [.str kd, .str nm, .str o, v, .ref pN]) := upd_same
    have kH5 : Keep b H (upd H4 p (.lst [.str kd, .str nm, .str o, v, .ref pN])) := fun a x na e => by rw [upd_ne (ne_of_none e np)]; exact kB a x na e
    have bH5 := Bx.updp (o := .lst [.str kd, .str nm, .str o, v, .ref pN]) hb4 npb
    have aH5 := AuAt.updp (o := .lst [.str kd, .str nm, .str o, v, .ref pN]) np hR.aud ((hR2.same sK).keep k4 hb3).aud
    generalize upd H4 p (.lst [.str kd, .str nm, .str o, v, .ref pN]) = H5 at eH5 kH5 bH5 aH5 ⊢
    refine ⟨_, rfl, by show 2 ≤ sizeLine; decide, fun pl npl => ?_⟩
    have sL := same_upd (o := .lst [.int 1, .int 2]) npl
    have eL : (upd H5 pl (.lst [.int 1, .int 2])) pl = some (.lst [.int 1, .int 2]) := upd_same
    have hbL := bH5.same sL
    have kL := kH5.trans (Keep.of sL)
    have epL := sL _ _ eH5
    have auL := aH5.same sL
    generalize upd H5 pl (.lst [.int 1, .int 2]) = H6 at sL eL hbL kL epL auL ⊢
    refine ⟨pl, _, rfl, .inl (SqL.of eL), rfl, rfl, _, rfl, ?_⟩
    show if inV (.int 0) [.int 1, .int 2] = true then _ else _
    rw [show inV (V.int 0) [V.int 1, V.int 2] = false by decide +kernel]
    refine iteF ?_
    refine ⟨_, rfl, rfl, _, rfl, ifF (one _ _ (by decide)) ?_⟩
    refine ⟨_, rfl, rfl, _, rfl, ifF (one _ _ (by decide)) (iteF ?_)⟩
    exact ⟨_, rfl, fin H6 ⟨kd, nm, o, u⟩ v _ kL hbL (by omega) ⟨okd, hO.n1, hO.n2, hO.au, hO.len, hO.nd, hO.ok⟩ epL auL⟩
  · refine ⟨_, rfl, rfl, _, rfl, ifF (one _ _ (by decide)) ?_⟩
    refine ⟨_, rfl, by show 2 ≤ sizeLine; decide, fun pl npl => ?_⟩
    have sL := same_upd (o := .lst [.int 1, .int 2]) npl
    have eL : (upd H2 pl (.lst [.int 1, .int 2])) pl = some (.lst [.int 1, .int 2]) := upd_same
    have hbL := hb2.same sL
    have kL := kA.trans (Keep.of sL)
    have epL := sL _ _ ep2
    have auL := hR2.aud.same sL
    generalize upd H2 pl (.lst [.int 1, .int 2]) = H3 at sL eL hbL kL epL auL ⊢
    refine ⟨pl, _, rfl, .inl (SqL.of eL), rfl, rfl, _, rfl, ?_⟩
    show if inV (.int 1) [.int 1, .int 2] = true then _ else _
    rw [show inV (V.int 1) [V.int 1, V.int 2] = true by decide +kernel]
    refine iteT ?_
    refine ⟨_, rfl, _, rfl, b, 12, n + 1, rfl, by decide, by decide, by omega, by omega, hbL, fun d H4 d0 d1 k4 hb4 => ?_⟩
    obtain ⟨y, ey, oy⟩ := get_nm hO.len hO.ok d0 d1
    have eN4 : H4 pN = some (.lst (ys.map V.str)) := k4 _ _ nNb (kL _ _ nNb hR.nms)
    refine ⟨pN, _, d, .str y, rfl, rfl, SqL.of eN4, ey, ?_⟩
    have ep4 := k4 _ _ npb epL
    refine ⟨_, rfl, _, rfl, p, _, _, 1, rfl, rfl, ep4, rfl, ?_⟩
    have kB : Keep b H H4 := kL.trans k4
    rw [show ([V.str k, .str nm, .str o, v, .ref pN] : List V).set 1 (V.str y) = [.str k, .str y, .str o, v, .ref pN] from rfl]
    have eH5 : (upd H4 p (.lst [.str k, .str y, .str o, v, .ref pN])) p = some (.lst [.str k, .str y, .str o, v, .ref pN]) := upd_same
    have kH5 : Keep b H (upd H4 p (.lst [.str k, .str y, .str o, v, .ref pN])) := fun a x na e => by rw [upd_ne (ne_of_none e np)]; exact kB a x na e
    have bH5 := Bx.updp (o := .lst [.str k, .str y, .str o, v, .ref pN]) hb4 npb
    have aH5 := AuAt.updp (o := .lst [.str k, .str y, .str o, v, .ref pN]) np hR.aud ((hR2.same sL).keep k4 hbL).aud
    generalize upd H4 p (.lst [.str k, .str y, .str o, v, .ref pN]) = H5 at eH5 kH5 bH5 aH5 ⊢
    refine ⟨_, rfl, rfl, _, rfl, ifF (one _ _ (by decide)) ?_⟩
    refine ⟨_, rfl, rfl, _, rfl, ifF (one _ _ (by decide)) (iteF ?_)⟩
    exact ⟨_, rfl, fin H5 ⟨k, y, o, u⟩ v _ kH5 bH5 (by omega) ⟨hO.kd, oy, hO.n2, hO.au, hO.len, hO.nd, hO.ok⟩ eH5 aH5⟩
  · refine ⟨_, rfl, rfl, _, rfl, ifF (one _ _ (by decide)) ?_⟩
    refine ⟨_, rfl, by show 2 ≤ sizeLine; decide, fun pl npl => ?_⟩
    have sL := same_upd (o := .lst [.int 1, .int 2]) npl
    have eL : (upd H2 pl (.lst [.int 1, .int 2])) pl = some (.lst [.int 1, .int 2]) := upd_same
    have hbL := hb2.same sL
    have kL := kA.trans (Keep.of sL)
    have epL := sL _ _ ep2
    have auL := hR2.aud.same sL
    generalize upd H2 pl (.lst [.int 1, .int 2]) = H3 at sL eL hbL kL epL auL ⊢
    refine ⟨pl, _, rfl, .inl (SqL.of eL), rfl, rfl, _, rfl, ?_⟩
    show if inV (.int 2) [.int 1, .int 2] = true then _ else _
    rw [show inV (V.int 2) [V.int 1, V.int 2] = true by decide +kernel]
    refine iteT ?_
    refine ⟨_, rfl, _, rfl, b, 12, n + 1, rfl, by decide, by decide, by omega, by omega, hbL, fun d H4 d0 d1 k4 hb4 => ?_⟩
    obtain ⟨y, ey, oy⟩ := get_nm hO.len hO.ok d0 d1
    have eN4 : H4 pN = some (.lst (ys.map V.str)) := k4 _ _ nNb (kL _ _ nNb hR.nms)
    refine ⟨pN, _, d, .str y, rfl, rfl, SqL.of eN4, ey, ?_⟩
    have ep4 := k4 _ _ npb epL
    refine ⟨_, rfl, _, rfl, p, _, _, 2, rfl, rfl, ep4, rfl, ?_⟩
    have kB : Keep b H H4 := kL.trans k4
    rw [show ([V.str k, .str nm, .str o, v, .ref pN] : List V).set 2 (V.str y) = [.str k, .str nm, .str y, v, .ref pN] from rfl]
    have eH5 : (upd H4 p (.lst [.str k, .str nm, .str y, v, .ref pN])) p = some (.lst [.str k, .str nm, .str y, v, .ref pN]) := upd_same
    have kH5 : Keep b H (upd H4 p (.lst [.str k, .str nm, .str y, v, .ref pN])) := fun a x na e => by rw [upd_ne (ne_of_none e np)]; exact kB a x na e
    have bH5 := Bx.updp (o := .lst [.str k, .str nm, .str y, v, .ref pN]) hb4 npb
    have aH5 := AuAt.updp (o := .lst [.str k, .str nm, .str y, v, .ref pN]) np hR.aud ((hR2.same sL).keep k4 hbL).aud
    generalize upd H4 p (.lst [.str k, .str nm, .str y, v, .ref pN]) = H5 at eH5 kH5 bH5 aH5 ⊢
    refine ⟨_, rfl, rfl, _, rfl, ifF (one _ _ (by decide)) ?_⟩
    refine ⟨_, rfl, rfl, _, rfl, ifF (one _ _ (by decide)) (iteF ?_)⟩
    exact ⟨_, rfl, fin H5 ⟨k, nm, y, u⟩ v _ kH5 bH5 (by omega) ⟨hO.kd, hO.n1, oy, hO.au, hO.len, hO.nd, hO.ok⟩ eH5 aH5⟩
  · refine ⟨_, rfl, rfl, _, rfl, ifF (one _ _ (by decide)) ?_⟩
    refine ⟨_, rfl, by show 2 ≤ sizeLine; decide, fun pl npl => ?_⟩
    have sL := same_upd (o := .lst [.int 1, .int 2]) npl
    have eL : (upd H2 pl (.lst [.int 1, .int 2])) pl = some (.lst [.int 1, .int 2]) := upd_same
    have hbL := hb2.same sL
    have kL := kA.trans (Keep.of sL)
    have epL := sL _ _ ep2
    have auL := hR2.aud.same sL
    generalize upd H2 pl (.lst [.int 1, .int 2]) = H3 at sL eL hbL kL epL auL ⊢
    refine ⟨pl, _, rfl, .inl (SqL.of eL), rfl, rfl, _, rfl, ?_⟩
    show if inV (.int 3) [.int 1, .int 2] = true then _ else _
    rw [show inV (V.int 3) [V.int 1, V.int 2] = false by decide +kernel]
    refine iteF ?_
    refine ⟨_, rfl, rfl, _, rfl, ifT rfl ?_⟩
    have rR := (hR2.same sL).row
    refine ⟨_, rfl, pR, _, 3, v, rfl, rfl, SqL.of rR, atI_nat (j := 3) rfl, rfl, _, rfl, ?_⟩
    cases u with
    | none =>
      have ev : v = V.non := hR.aud
      subst ev
      refine iteF ?_
      refine ⟨by show 0 ≤ sizeLine; decide, fun pe npe => ?_⟩
      have sE := same_upd (o := .lst []) npe
      have eE : (upd H3 pe (.lst [])) pe = some (.lst []) := upd_same
      have hbE := hbL.same sE
      have kE := kL.trans (Keep.of sE)
      have epE := sE _ _ epL
      have nep : pe ≠ p := fun z => by rw [z, epL] at npe; cases npe
      generalize upd H3 pe (.lst []) = H4 at sE eE hbE kE epE ⊢
      refine ⟨_, rfl, p, _, _, 3, rfl, rfl, epE, rfl, ?_⟩
      have k5 : Keep b H (upd H4 p (.lst [.str k, .str nm, .str o, .ref pe, .ref pN])) := fun a x na e => by rw [upd_ne (ne_of_none e np)]; exact kE a x na e
      have b5 := Bx.updp (o := .lst [.str k, .str nm, .str o, .ref pe, .ref pN]) hbE npb
      have e5 : (upd H4 p (.lst [.str k, .str nm, .str o, .ref pe, .ref pN])) p = some (.lst [.str k, .str nm, .str o, .ref pe, .ref pN]) := upd_same
      have a5 : (upd H4 p (.lst [.str k, .str nm, .str o, .ref pe, .ref pN])) pe = some (.lst []) := by rw [upd_ne nep]; exact eE
      rw [show ([V.str k, .str nm, .str o, .non, .ref pN] : List V).set 3 (V.ref pe) = [.str k, .str nm, .str o, .ref pe, .ref pN] from rfl]
      generalize upd H4 p (.lst [.str k, .str nm, .str o, .ref pe, .ref pN]) = H5 at k5 b5 e5 a5 ⊢
      refine ⟨_, rfl, rfl, _, rfl, ifF (one _ _ (by decide)) (iteF ?_)⟩
      exact ⟨_, rfl, fin H5 ⟨k, nm, o, some []⟩ (.ref pe) _ k5 b5 (by omega) ⟨hO.kd, hO.n1, hO.n2, (fun zs e => by cases e; exact ⟨Nat.zero_le _, List.nodup_nil, (fun _ h => nomatch h)⟩), hO.len, hO.nd, hO.ok⟩ e5 ⟨⟨pe, rfl, a5⟩, (fun _ h => nomatch h)⟩⟩
    | some as_ =>
      obtain ⟨⟨b1, rfl, eb1⟩, nb1⟩ := hR.aud
      refine iteT ?_
      refine ⟨_, rfl, p, _, _, 3, rfl, rfl, epL, rfl, ?_⟩
      have k5 : Keep b H (upd H3 p (.lst [.str k, .str nm, .str o, .non, .ref pN])) := fun a x na e => by rw [upd_ne (ne_of_none e np)]; exact kL a x na e
      have b5 := Bx.updp (o := .lst [.str k, .str nm, .str o, .non, .ref pN]) hbL npb
      have e5 : (upd H3 p (.lst [.str k, .str nm, .str o, .non, .ref pN])) p = some (.lst [.str k, .str nm, .str o, .non, .ref pN]) := upd_same
      rw [show ([V.str k, .str nm, .str o, .ref b1, .ref pN] : List V).set 3 V.non = [.str k, .str nm, .str o, .non, .ref pN] from rfl]
      generalize upd H3 p (.lst [.str k, .str nm, .str o, .non, .ref pN]) = H5 at k5 b5 e5 ⊢
      refine ⟨_, rfl, rfl, _, rfl, ifF (one _ _ (by decide)) (iteF ?_)⟩
      exact ⟨_, rfl, fin H5 ⟨k, nm, o, none⟩ .non _ k5 b5 (by omega) ⟨hO.kd, hO.n1, hO.n2, (fun zs e => nomatch e), hO.len, hO.nd, hO.ok⟩ e5 rfl⟩
  · refine ⟨_, rfl, rfl, _, rfl, ifF (one _ _ (by decide)) ?_⟩
    refine ⟨_, rfl, by show 2 ≤ sizeLine; decide, fun pl npl => ?_⟩
    have sL := same_upd (o := .lst [.int 1, .int 2]) npl
    have eL : (upd H2 pl (.lst [.int 1, .int 2])) pl = some (.lst [.int 1, .int 2]) := upd_same
    have hbL := hb2.same sL
    have kL := kA.trans (Keep.of sL)
    have epL := sL _ _ ep2
    have auL := hR2.aud.same sL
    generalize upd H2 pl (.lst [.int 1, .int 2]) = H3 at sL eL hbL kL epL auL ⊢
    refine ⟨pl, _, rfl, .inl (SqL.of eL), rfl, rfl, _, rfl, ?_⟩
    show if inV (.int 4) [.int 1, .int 2] = true then _ else _
    rw [show inV (V.int 4) [V.int 1, V.int 2] = false by decide +kernel]
    refine iteF ?_
    refine ⟨_, rfl, rfl, _, rfl, ifF (one _ _ (by decide)) ?_⟩
    have hR3 := hR2.same sL
    refine ⟨_, rfl, rfl, _, rfl, ifT rfl ?_⟩
    refine ⟨_, rfl, pR, _, 3, v, rfl, rfl, SqL.of hR3.row, atI_nat (j := 3) rfl, rfl, _, rfl, ?_⟩
    cases u with
    | none =>
      have ev : v = V.non := hR.aud
      subst ev
      refine iteF ?_
      exact ⟨_, rfl, fin H3 ⟨k, nm, o, none⟩ .non _ kL hbL (by omega) ⟨hO.kd, hO.n1, hO.n2, hO.au, hO.len, hO.nd, hO.ok⟩ epL rfl⟩
    | some as_ =>
      have hA := hO.au as_ rfl
      obtain ⟨⟨b1, rfl, eb1⟩, nb1⟩ := hR3.aud
      refine iteT ?_
      refine ⟨_, rfl, _, rfl, pR, _, 3, .ref b1, rfl, rfl, SqL.of hR3.row, atI_nat (j := 3) rfl, b1, _, rfl, .inl (SqL.of eb1), ((as_.map V.str).length : Nat), 1, rfl, rfl, ?_⟩
      refine ⟨b, _, n + 1, rfl, by omega, by have := hA.1; rw [List.length_map]; omega, by omega, by omega, hbL, fun at_ H4 a0 a1 k4 hb4 => ?_⟩
      have hR4 := hR3.keep k4 hbL
      have eN4 := hR4.nms
      have eb4 : H4 b1 = some (.lst (as_.map V.str)) := k4 _ _ (lst_ne hbL eb1 (strs_no as_)) eb1
      have ep4 := k4 _ _ npb epL
      have kB : Keep b H H4 := kL.trans k4
      refine ⟨_, rfl, pN, rfl, ⟨_, SqL.of eN4⟩, fun D nD => lc_list (K := K) (xs := ys.map V.str) (fun i H' => ∃ zs : List Str, H' D = some (.lst (zs.map V.str)) ∧ zs.length ≤ i ∧ zs.Sublist (ys.take i) ∧ (∀ z ∈ zs, z ∉ as_) ∧ Ext H4 H') ⟨[], upd_same, Nat.le_refl _, List.nil_sublist _, (fun _ h => nomatch h), Ext.upd nD⟩ (fun i H' _ h => SqL.of (by obtain ⟨_, _, _, _, _, x⟩ := h; exact x _ _ eN4)) ?_ ?_⟩
      · intro i x H5 hx h
        obtain ⟨zs, eD, hl, hs, hn, x5⟩ := h
        have hi : i < ys.length := by
          rw [← List.length_map (f := V.str)]
          exact (List.getElem?_eq_some_iff.mp hx).1
        have ex : x = .str ys[i] := by
          rw [List.getElem?_map, List.getElem?_eq_getElem hi] at hx
          exact (Option.some.inj hx).symm
        subst ex
        refine ⟨rfl, ?_⟩
        have tk : ys.take (i + 1) = ys.take i ++ [ys[i]] := by rw [List.take_succ, List.getElem?_eq_getElem hi]; rfl
        refine ⟨_, rfl, _, rfl, pR, _, 3, .ref b1, rfl, rfl, SqL.of (x5 _ _ hR4.row), atI_nat (j := 3) rfl, b1, _, rfl, .inl (SqL.of (x5 _ _ eb4)), rfl, ?_, _, rfl, ?_⟩
        · rw [List.all_map, List.all_eq_true]
          exact fun _ _ => rfl
        have ei : inV (V.str ys[i]) (as_.map V.str) = decide (ys[i] ∈ as_) := by
          unfold inV
          rw [List.any_map]
          show (as_.any fun z => z == ys[i]) = _
          rw [Bool.eq_iff_iff]
          simp
        show if (!inV (V.str ys[i]) (as_.map V.str)) = true then _ else _
        rw [ei]
        by_cases hm : ys[i] ∈ as_
        · rw [decide_eq_true hm]
          refine iteF ?_
          exact ⟨zs, eD, by omega, hs.trans (by rw [tk]; exact List.sublist_append_left _ _), hn, x5⟩
        · rw [decide_eq_false hm]
          refine iteT ⟨_, rfl, _, eD, ?_, zs ++ [ys[i]], ?_, ?_, ?_, ?_, ?_⟩
          · rw [List.length_map]
            have := hO.len
            exact Nat.lt_of_lt_of_le (show zs.length < 1000 by omega) (by decide)
          · rw [upd_same, List.map_append]; rfl
          · rw [List.length_append, List.length_singleton]; omega
          · rw [tk]; exact hs.append (.refl _)
          · intro z hz
            rcases List.mem_append.mp hz with h | h
            · exact hn z h
            · rw [List.mem_singleton.mp h]; exact hm
          · intro u o eu
            rw [upd_ne (fun z => by rw [z, nD] at eu; cases eu)]
            exact x5 _ _ eu
      · intro H5 h
        obtain ⟨zs, eD, hl, hs, hn, x5⟩ := h
        have hb5 := hb4.same x5
        have kC : Keep b H H5 := kB.trans (Keep.of x5)
        have hR5 := hR4.same x5
        have eb5 := x5 _ _ eb4
        have ep5 := x5 _ _ ep4
        refine ⟨_, rfl, pR, _, 3, .ref b1, rfl, rfl, SqL.of hR5.row, atI_nat (j := 3) rfl, _, rfl, at_, rfl, b1, _, rfl, SqL.of eb5, fun q1 n1 => ?_⟩
        rw [cutV_front as_ a0]
        have sG1 := same_upd (o := .lst ((as_.take at_.toNat).map V.str)) n1
        have eG1 : (upd H5 q1 (.lst ((as_.take at_.toNat).map V.str))) q1 = some (.lst ((as_.take at_.toNat).map V.str)) := upd_same
        have rG1 := hR5.same sG1
        have fG1 := sG1 _ _ eb5
        have pG1 := sG1 _ _ ep5
        have kG1 := kC.trans (Keep.of sG1)
        have bG1 := hb5.same sG1
        have dG1 := sG1 _ _ eD
        generalize upd H5 q1 (.lst ((as_.take at_.toNat).map V.str)) = G1 at sG1 eG1 rG1 fG1 pG1 kG1 bG1 dG1 ⊢
        refine ⟨_, rfl, _, rfl, b, 2, n + 1 + 1, rfl, by decide, by decide, by omega, by omega, bG1, fun t G2 t0 t1 kG2' bG2 => ⟨t, rfl, D, _, rfl, SqL.of (kG2' _ _ (lst_ne bG1 dG1 (strs_no zs)) dG1), fun q2 n2 => ?_⟩⟩
        rw [cutV_front zs t0]
        have rG2 := rG1.keep kG2' bG1
        have fG2 : G2 b1 = some (.lst (as_.map V.str)) := kG2' _ _ (lst_ne bG1 fG1 (strs_no as_)) fG1
        have pG2 := kG2' _ _ npb pG1
        have kG2 := kG1.trans kG2'
        have e1G2 : G2 q1 = some (.lst ((as_.take at_.toNat).map V.str)) := kG2' _ _ (lst_ne bG1 eG1 (strs_no _)) eG1
        have sG3 := same_upd (o := .lst ((zs.take t.toNat).map V.str)) n2
        have eG3 : (upd G2 q2 (.lst ((zs.take t.toNat).map V.str))) q2 = some (.lst ((zs.take t.toNat).map V.str)) := upd_same
        have rG3 := rG2.same sG3
        have fG3 := sG3 _ _ fG2
        have pG3 := sG3 _ _ pG2
        have kG3 := kG2.trans (Keep.of sG3)
        have bG3 := bG2.same sG3
        have e1G3 := sG3 _ _ e1G2
        generalize upd G2 q2 (.lst ((zs.take t.toNat).map V.str)) = G3 at sG3 eG3 rG3 fG3 pG3 kG3 bG3 e1G3 ⊢
        have h8 := hA.1
        have hz12 : zs.length ≤ 12 := by have := hO.len; rw [List.length_map] at hl; omega
        refine ⟨q1, q2, _, _, rfl, rfl, e1G3, eG3, ?_, fun q3 n3 => ?_⟩
        · rw [List.length_map, List.length_map, List.length_take, List.length_take]
          exact Nat.le_of_lt (Nat.lt_of_lt_of_le (show min at_.toNat as_.length + min t.toNat zs.length < 1000 by omega) (by decide))
        rw [← List.map_append]
        have sG4 := same_upd (o := .lst ((as_.take at_.toNat ++ zs.take t.toNat).map V.str)) n3
        have eG4 : (upd G3 q3 (.lst ((as_.take at_.toNat ++ zs.take t.toNat).map V.str))) q3 = some (.lst ((as_.take at_.toNat ++ zs.take t.toNat).map V.str)) := upd_same
        have rG4 := rG3.same sG4
        have fG4 := sG4 _ _ fG3
        have pG4 := sG4 _ _ pG3
        have kG4 := kG3.trans (Keep.of sG4)
        have bG4 := bG3.same sG4
        generalize upd G3 q3 (.lst ((as_.take at_.toNat ++ zs.take t.toNat).map V.str)) = G4 at sG4 eG4 rG4 fG4 pG4 kG4 bG4  ⊢
        refine ⟨_, rfl, pR, _, 3, .ref b1, rfl, rfl, SqL.of rG4.row, atI_nat (j := 3) rfl, _, rfl, at_, 1, rfl, rfl, at_ + 1, rfl, b1, _, rfl, SqL.of fG4, fun q4 n4 => ?_⟩
        rw [cutV_back as_ (show 0 ≤ at_ + 1 by omega)]
        have sG5 := same_upd (o := .lst ((as_.drop (at_ + 1).toNat).map V.str)) n4
        have eG5 : (upd G4 q4 (.lst ((as_.drop (at_ + 1).toNat).map V.str))) q4 = some (.lst ((as_.drop (at_ + 1).toNat).map V.str)) := upd_same
        have rG5 := rG4.same sG5
        have fG5 := sG5 _ _ fG4
        have pG5 := sG5 _ _ pG4
        have kG5 := kG4.trans (Keep.of sG5)
        have bG5 := bG4.same sG5
        have e3G5 := sG5 _ _ eG4
        generalize upd G4 q4 (.lst ((as_.drop (at_ + 1).toNat).map V.str)) = G5 at sG5 eG5 rG5 fG5 pG5 kG5 bG5 e3G5 ⊢
        refine ⟨q3, q4, _, _, rfl, rfl, e3G5, eG5, ?_, fun q5 n5 => ?_⟩
        · rw [List.length_map, List.length_map, List.length_append, List.length_take, List.length_take, List.length_drop]
          exact Nat.le_of_lt (Nat.lt_of_lt_of_le (show min at_.toNat as_.length + min t.toNat zs.length + (as_.length - (at_ + 1).toNat) < 1000 by omega) (by decide))
        rw [← List.map_append]
        have sG6 := same_upd (o := .lst (((as_.take at_.toNat ++ zs.take t.toNat) ++ as_.drop (at_ + 1).toNat).map V.str)) n5
        have eG6 : (upd G5 q5 (.lst (((as_.take at_.toNat ++ zs.take t.toNat) ++ as_.drop (at_ + 1).toNat).map V.str))) q5 = some (.lst (((as_.take at_.toNat ++ zs.take t.toNat) ++ as_.drop (at_ + 1).toNat).map V.str)) := upd_same
        have rG6 := rG5.same sG6
        have fG6 := sG6 _ _ fG5
        have pG6 := sG6 _ _ pG5
        have kG6 := kG5.trans (Keep.of sG6)
        have bG6 := bG5.same sG6
        generalize upd G5 q5 (.lst (((as_.take at_.toNat ++ zs.take t.toNat) ++ as_.drop (at_ + 1).toNat).map V.str)) = G6 at sG6 eG6 rG6 fG6 pG6 kG6 bG6  ⊢
        refine ⟨8, rfl, q5, _, rfl, SqL.of eG6, fun q6 n6 => ?_⟩
        rw [cutV_front _ (show (0 : Int) ≤ 8 by decide)]
        have sG7 := same_upd (o := .lst ((((as_.take at_.toNat ++ zs.take t.toNat) ++ as_.drop (at_ + 1).toNat).take (8 : Int).toNat).map V.str)) n6
        have eG7 : (upd G6 q6 (.lst ((((as_.take at_.toNat ++ zs.take t.toNat) ++ as_.drop (at_ + 1).toNat).take (8 : Int).toNat).map V.str))) q6 = some (.lst ((((as_.take at_.toNat ++ zs.take t.toNat) ++ as_.drop (at_ + 1).toNat).take (8 : Int).toNat).map V.str)) := upd_same
        have rG7 := rG6.same sG7
        have fG7 := sG7 _ _ fG6
        have pG7 := sG7 _ _ pG6
        have kG7 := kG6.trans (Keep.of sG7)
        have bG7 := bG6.same sG7
        generalize upd G6 q6 (.lst ((((as_.take at_.toNat ++ zs.take t.toNat) ++ as_.drop (at_ + 1).toNat).take (8 : Int).toNat).map V.str)) = G7 at sG7 eG7 rG7 fG7 pG7 kG7 bG7  ⊢
        have hAud := aud_mix (a := at_.toNat) (c := (at_ + 1).toNat) (t := t.toNat) (by omega) hA (hs.trans (List.take_sublist _ _)) hO.nd hO.ok hn
        generalize ((as_.take at_.toNat ++ zs.take t.toNat) ++ as_.drop (at_ + 1).toNat).take (8 : Int).toNat = rs at eG7 hAud ⊢
        refine ⟨_, rfl, p, _, _, 3, rfl, rfl, pG7, rfl, ?_⟩
        have nqp : q6 ≠ p := fun z => by rw [z, pG6] at n6; cases n6
        have k9 : Keep b H (upd G7 p (.lst [.str k, .str nm, .str o, .ref q6, .ref pN])) := fun a x na e => by rw [upd_ne (ne_of_none e np)]; exact kG7 a x na e
        have b9 := Bx.updp (o := .lst [.str k, .str nm, .str o, .ref q6, .ref pN]) bG7 npb
        have e9 : (upd G7 p (.lst [.str k, .str nm, .str o, .ref q6, .ref pN])) p = some (.lst [.str k, .str nm, .str o, .ref q6, .ref pN]) := upd_same
        have a9 : (upd G7 p (.lst [.str k, .str nm, .str o, .ref q6, .ref pN])) q6 = some (.lst (rs.map V.str)) := by rw [upd_ne nqp]; exact eG7
        rw [show ([V.str k, .str nm, .str o, .ref b1, .ref pN] : List V).set 3 (V.ref q6) = [.str k, .str nm, .str o, .ref q6, .ref pN] from rfl]
        generalize upd G7 p (.lst [.str k, .str nm, .str o, .ref q6, .ref pN]) = G9 at k9 b9 e9 a9 ⊢
        exact ⟨_, rfl, fin G9 ⟨k, nm, o, some rs⟩ (.ref q6) _ k9 b9 (by omega) ⟨hO.kd, hO.n1, hO.n2, (fun zs e => by cases e; exact hAud), hO.len, hO.nd, hO.ok⟩ e9 ⟨⟨q6, rfl, a9⟩, hAud.2.2⟩⟩
end
end K08
set_option maxHeartbeats 4000000
namespace K08
open PySem PySem.Spec PyProof.Rows L2 RL RE RN RM TL RQ RC RG
/-! ### what a thing tells -/
abbrev tLate : Str := Str.ofString "late"
theorem PSw {X : Cx} {st : Stmt} {t u : TS} (h : PS X st t) (w : ∀ D σ H, u D σ H → t D σ H) : PS X st u := ⟨fun pins s σ H D I q => h.run pins s σ H D I (w D σ H q)⟩
/-- a def that may ask for a repr, in short -/
def DfG (P : Program) (w : World) (K : PySem.W.Frag) (mg : Str → Option Value) (base : Heap) (CX : CXT) (k : Nat) (x : Str) (ps : List Str) (sp : Sp) : Prop :=
  ∃ (f : Addr) (fd : FuncData), FnG P w K mg base CX k f fd ps sp ∧ Binds K fd ps [] ∧ PySem.W.keepIn K (.ref f) = true ∧ mg x = some (.ref f)
section
variable {X : Cx} {k : Nat} {x : Str} {ps : List Str} {sp : Sp} {t : TA} {e : Expr} {es : List Expr} {p pos : Pos}
theorem pe_dfG (D : DfG X.prog X.w X.K X.mg X.base CX0 k x ps sp) (qt : Quiet X.A) (hr : Room k X.A) (hg : Gl X x) (ha : PA X (e :: es) t) (hdb : (x == ("__debug__" : Str)) = false := by decide)
    (he : starEach (e :: es) X.env = (false, eval e X.env) :: starEach es X.env := by rfl) (hpl : (backTo pos (starEach es X.env)).any (·.1) = false := by rfl) : PE X (.Call (.Name x p) (e :: es) [] pos) (tCall sp [] (fun _ _ _ => False) t) := by
  obtain ⟨f, fd, F, b, kp, g⟩ := D
  exact pe_callG F qt hr hg g kp b .nil pass0 ha hdb he hpl
end
theorem ThAt.same {c : Cs} {H H' : Hp} {a : Addr} {m : Tm} (h : ThAt c H a m) (s : Same H H') : ThAt c H' a m := by
  obtain ⟨hd, nm, fn⟩ := h
  refine ⟨hd.same s, fun C dx fs e => ?_, fun e => ?_⟩
  · obtain ⟨dx', fs', v, ea, _⟩ := hd
    have e2 := s _ _ ea
    rw [e2] at e
    cases e
    exact nm _ _ _ ea
  · obtain ⟨dx, v, p, ea, u, ep⟩ := fn e
    exact ⟨dx, v, p, s _ _ ea, u.same s, s _ _ ep⟩
/-- what is known of the class of a thing -/
structure ClOk (P : Program) (w : World) (K : PySem.W.Frag) (mg : Str → Option Value) (base : Heap) (C : Addr) : Prop where
  T : TF K C
  prop : ∃ p g fd, PropOf K C "audience" p g ∧ FnOk P w K mg base CX0 1 g fd ["self"] (spAud K) ∧ Binds K fd ["self"] []
  rts : ∃ f fd, Meth K C "rights" f ∧ FnOk P w K mg base CX0 4 f fd ["self"] (spRtsC K C) ∧ Binds K fd ["self"] []
  adm : ∃ f fd, Meth K C "admits" f ∧ FnOk P w K mg base CX0 5 f fd ["self", "taker"] (spAdmC K C) ∧ Binds K fd ["self", "taker"] []
/-! ### what is shown -/
theorem txt_show {z : Str} (h : txt z) : (PyData.shown (.str z)).length ≤ 10002 := by
  have := StrLaws.reprText_len z fun c hc => Nat.lt_trans (h.2 c hc) (by decide)
  have l := h.1
  show (reprText z).length ≤ 10002
  omega
theorem strs_able : ∀ ys : List Str, PyData.showableAll (strsP ys) = true
  | [] => rfl
  | _ :: r => by
    have ih := strs_able r
    show (PyData.showable (.str _) && PyData.showableAll (strsP r)) = true
    rw [ih]
    rfl
theorem strs_len : ∀ ys : List Str, (∀ y ∈ ys, txt y) → ((PyData.shownAll (strsP ys)).map (·.length)).sum ≤ 10002 * ys.length ∧ (PyData.shownAll (strsP ys)).length = ys.length
  | [], _ => ⟨Nat.le_refl _, rfl⟩
  | y :: r, h => by
    obtain ⟨i1, i2⟩ := strs_len r fun x hx => h x (List.mem_cons_of_mem _ hx)
    have l := txt_show (h y (List.mem_cons_self ..))
    have e : PyData.shownAll (strsP (y :: r)) = PyData.shown (.str y) :: PyData.shownAll (strsP r) := rfl
    rw [e]
    simp only [List.map_cons, List.sum_cons, List.length_cons]
    omega
theorem au_show {u : Option (List Str)} (h : ∀ zs, u = some zs → zs.length ≤ 8 ∧ ∀ y ∈ zs, txt y) : PyData.showable (auP u) = true ∧ (PyData.shown (auP u)).length ≤ 80100 ∧ PyData.depth (auP u) ≤ 1 := by
  cases u with
  | none => exact ⟨by decide +kernel, by decide +kernel, by decide +kernel⟩
  | some zs =>
    obtain ⟨l8, ht⟩ := h zs rfl
    refine ⟨by simp [auP, PyData.showable, strs_able], ?_, by simp [auP, PyData.depth, strs_depth]⟩
    obtain ⟨a, b⟩ := strs_len zs ht
    have c := listText_len_le (PyData.shownAll (strsP zs))
    have e : PyData.shown (auP (some zs)) = listText (PyData.shownAll (strsP zs)) := by simp [auP, PyData.shown]
    rw [e]
    omega
theorem row_show {k n o : Str} {u : Option (List Str)} (h1 : txt k) (h2 : txt n) (h3 : txt o) (h : ∀ zs, u = some zs → zs.length ≤ 8 ∧ ∀ y ∈ zs, txt y) :
    PyData.showable (.list [.str k, .str n, .str o, auP u]) = true ∧ (PyData.shown (.list [.str k, .str n, .str o, auP u])).length ≤ sizeLine ∧ PyData.depth (.list [.str k, .str n, .str o, auP u]) ≤ 60 := by
  obtain ⟨a, b, c⟩ := au_show h
  refine ⟨by simp [PyData.showable, PyData.showableAll, a], ?_, by simp [PyData.depth, PyData.depthAll]; omega⟩
  have l1 := txt_show h1
  have l2 := txt_show h2
  have l3 := txt_show h3
  have t := listText_len_le [PyData.shown (.str k), PyData.shown (.str n), PyData.shown (.str o), PyData.shown (auP u)]
  simp only [List.map_cons, List.map_nil, List.sum_cons, List.sum_nil, List.length_cons, List.length_nil] at t
  have e : PyData.shown (.list [.str k, .str n, .str o, auP u]) = listText [PyData.shown (.str k), PyData.shown (.str n), PyData.shown (.str o), PyData.shown (auP u)] := by simp [PyData.shown, PyData.shownAll]
  rw [e]
  exact Nat.le_trans t (Nat.le_trans (show _ ≤ 200000 by omega) (by decide))
section
variable {P : Program} {w : World} {K : PySem.W.Frag} {mg : Str → Option Value} {base : Heap} {f : Addr} {fd : FuncData}
/-- the audience, in one -/
def spAudN (K : PySem.W.Frag) : Sp := fun vs H Q _ => ∃ (a C : Addr) (m : Tm), vs = [.ref a] ∧ TF K C ∧ HeadAt C H a m ∧ ∀ fv H', Same H H' → (∀ p, fv = .ref p → H p = none) → AuAt H' fv m.au → Q fv H'
theorem audN (F : FnOk P w K mg base CX0 1 f fd ["self"] (spAud K)) : FnOk P w K mg base CX0 1 f fd ["self"] (spAudN K) := by
  refine F.imp (fun vs H Q E h => ?_)
  obtain ⟨a, C, ⟨k, n, o, u⟩, rfl, T, hd, q⟩ := h
  refine ⟨a, C, _, rfl, T, hd, fun e => ?_, fun zs e p np => ?_⟩
  · have e : u = none := e
    subst e
    exact q .non H (fun _ _ e => e) (fun p e => nomatch e) rfl
  · have e : u = some zs := e
    subst e
    obtain ⟨dx, fs, v, ea, f1, f2, f3, f4, f5⟩ := hd
    exact q (.ref p) _ (same_upd np) (fun p' e => by cases e; exact np) ⟨⟨p, rfl, upd_same⟩, f5.2⟩
/-- the words of an audience due -/
def tDue (pR a : Addr) (v : V) (u z : Option (List Str)) : TS := fun D σ H => σ = [some (.ref pR), some (.ref a), some v, none, none, none, none] ∧ AuAt H v u ∧
  ∀ dv H', Same H H' → AuAt H' dv z → D.nx [some (.ref pR), some (.ref a), some dv, none, none, none, none] H'
/-- a name more in a list of one's own -/
def tLt (z : Option (List Str)) : TS := fun D σ H => ∃ y0 y1 y2 y3 fv y5 y6, σ = [y0, y1, y2, y3, some fv, y5, y6] ∧ AuAt H fv z ∧ (∀ zs, z = some zs → zs.length ≤ 8) ∧
  ∀ H', (∀ u o, fv ≠ .ref u → H u = some o → H' u = some o) → D.nx σ H'
def spTold (c : Cs) : Sp := fun vs H Q _ => ∃ (pR pN a : Addr) (m : Tm) (v : V) (ys : List Str) (z : Option (List Str)), vs = [.ref pR, .ref a] ∧ RowAt H pR pN m v ys ∧ RowOk m ys ∧ SrtO m.au z ∧ ThAt c H a ⟨m.kind, m.name, m.owner, z⟩ ∧
  ∀ H', Same H H' → Q (.bl true) H'
theorem au_late {H : Hp} {fv : V} {z : Option (List Str)} (h : AuAt H fv z) : fv = .non ∨ ∃ p zs, z = some zs ∧ fv = .ref p ∧ H p = some (.lst (zs.map V.str)) := by
  cases z with
  | none => exact .inl h
  | some zs =>
    obtain ⟨⟨p, e, ep⟩, _⟩ := h
    exact .inr ⟨p, zs, rfl, e, ep⟩
theorem srto_aud {u z : Option (List Str)} (hu : ∀ zs, u = some zs → Aud zs) (s : SrtO u z) : ∀ zs, z = some zs → zs.length ≤ 8 ∧ ∀ y ∈ zs, txt y := fun zs e => by
  subst e
  cases u with
  | none => exact False.elim s
  | some ys =>
    have s : Srt ys zs := s
    have A := hu ys rfl
    exact ⟨by rw [s.1.length_eq]; exact A.1, fun y hy => (aud_names A s y hy).2⟩
theorem rk_txt {k : Str} (h : isKd k) : ∀ y ∈ rightsK k, txt y := by
  rcases h with rfl | rfl | rfl
  · intro y hy
    have hy : y ∈ [Str.ofString "inherit", Str.ofString "act"] := hy
    simp only [List.mem_cons, List.not_mem_nil, or_false] at hy
    rcases hy with rfl | rfl <;> exact ⟨by decide +kernel, by decide +kernel⟩
  · intro y hy
    have hy : y ∈ [Str.ofString "read", Str.ofString "write"] := hy
    simp only [List.mem_cons, List.not_mem_nil, or_false] at hy
    rcases hy with rfl | rfl <;> exact ⟨by decide +kernel, by decide +kernel⟩
  · intro y hy
    have hy : y ∈ [Str.ofString "call"] := hy
    simp only [List.mem_cons, List.not_mem_nil, or_false] at hy
    rcases hy with rfl
    exact ⟨by decide +kernel, by decide +kernel⟩
theorem rk_len {k : Str} (h : isKd k) : (rightsK k).length ≤ 2 := by
  rcases h with rfl | rfl | rfl <;> decide +kernel
theorem ok_told {c : Cs} (F : Fun K "_law_told_right" "_law_told_right" s__law_told_right f fd) (HC : ∀ k, isKd k → ClOk P w K mg base (clsK c k)) (GR : Df P w K mg base CX0 1 "_law_rights" ["_law_kind"] spLR)
    (mr : mg "range" = none) (mi : mg "isinstance" = none) (mli : mg "list" = none) (mrp : mg "repr" = none) (mso : mg "sorted" = none) (ms : mg "str" = none) :
    FnG P w K mg base CX0 7 f fd ["_law_row_here", "_law_thing"] (spTold c) := by
  obtain ⟨oc, od, kV, doc, pm, an, cdv, ct, osl, rfl, lk, hcd⟩ := F.ex
  refine FnG.mk' lk hcd sc__law_told_right (fun {vs H Q E} h => by obtain ⟨pR, pN, a, m, v, ys, z, rfl, _⟩ := h; rfl) (fun {A fr s H vs Q E} qt hr h => ?_)
  obtain ⟨pR, pN, a, ⟨k, n, o, u⟩, v, ys, z, rfl, hR, hO, hz, hT, q⟩ := h
  have HK := HC k hO.kd
  have hA : ∀ zs, u = some zs → Aud zs := hO.au
  have hzA := srto_aud hA hz
  obtain ⟨T, ⟨pp, gp, fdp, hp, FP, bP⟩, ⟨fr_, fdr, MR, FR, bR⟩, _⟩ := HK
  have FN := audN FP
  have hr1 := hr.mono (show 1 ≤ 6 by decide)
  have hr2 := hr.mono (show 2 ≤ 6 by decide)
  have hr4 := hr.mono (show 4 ≤ 6 by decide)
  refine ⟨_, PSs.nox (pss_cons (ps_set (i := 2) sc__law_told_right.nd rfl (.inl rfl) (pe_ix ix_list (pv 0) pe_int (fun _ _ => rfl)))
    (pss_cons (PSw (u := tDue pR a v u z) (ps_if (pt_cmpR op_notN (pv 2) pe_non (by rfl)) (pss_one (ps_set (i := 2) sc__law_told_right.nd rfl (.inl rfl) (pe_callB cr_sortedS (by rfl) mso (by decide +kernel) (pa_cons (pe_lc (own := [("_law_name", 6)]) (g := gName 6) (by rfl) sc__law_told_right.nd (pi_list (pv 2))
        (blkOk_by (own := [("_law_name", 6)]) (N := N__law_told_right) (sc := defScope s__law_told_right) (by decide +kernel)) (fun _ _ _ _ _ => pg_name (i := 6) sc__law_told_right.nd rfl (Or.inl rfl)) (fun _ _ _ _ _ => pts_nil)
        (fun _ _ _ _ _ => pe_callTy SkE.call_str_str (by rfl) ms PyProof.Rows.boot_str (pa_cons (pv 6) pa_nil))) pa_nil)))) pss_nil) ?w1)
    (pss_cons (ps_for PassesOwn.never rfl (pi_range1 (by rfl) mr (pa_cons pe_int pa_nil)) (pg_name (i := 3) sc__law_told_right.nd rfl (Or.inl rfl))
      (pss_cons (ps_set (i := 4) sc__law_told_right.nd rfl (.inl rfl) (pe_prop (pv 1) T.cl hp FN hr2 bP .nil pass0 rfl))
      (pss_cons (ps_if (pt_cmpR op_ne (pe_callB (call_reprL qt hr) (by rfl) mrp (by decide +kernel) (pa_cons (pe_lst (pa_cons (pe_fld (pv 1) rfl) (pa_cons (pe_fld (pv 1) rfl) (pa_cons (pe_fld (pv 1) rfl) (pa_cons (pv 4) pa_nil))))) pa_nil))
          (pe_callB (call_reprL qt hr) (by rfl) mrp (by decide +kernel) (pa_cons (pe_op op_cat (pe_slice sl_list (pv 0) po_none (po_some pe_int)) (pe_lst (pa_cons (pv 2) pa_nil))) pa_nil)) (by rfl)) (pss_one (ps_ret pe_bl)) pss_nil)
      (pss_cons (PSw (u := tLt z) (ps_if (pt_cmpR op_notN (pv 4) pe_non (by rfl)) (pss_one (ps_expr (pe_bm PySem.F.plainAttrs_list PySem.F.slot_list_append PySem.F.type_list_append mt_append (pv 4) (pa_cons pe_str pa_nil)))) pss_nil) ?w2)
      (pss_cons (ps_set (i := 5) sc__law_told_right.nd rfl (.inl rfl) (pe_meth0 (pv 1) T.cl MR FR hr4 bR .nil pass0))
      (pss_cons (ps_if (PW.pt (pw_or (pt_not (pt_val (pe_callB call_isi (by rfl) mi boot_isinstance (pa_cons (pv 5) (pa_cons (pe_bltn (v := .ty "list") (by rfl) mli (by decide +kernel) rfl) pa_nil)))))
          (pw_or1 (pt_cmpR (op_neD (hu64 hr)) (pv 5) (pe_df0 GR hr1 (by rfl) (pa_cons (pe_ix ix_list (pv 0) pe_int (fun _ _ => rfl)) pa_nil)) (by rfl))))) (pss_one (ps_ret pe_bl)) pss_nil)
      (pss_one (ps_expr (pe_bm PySem.F.plainAttrs_list PySem.F.slot_list_append PySem.F.type_list_append mt_append (pv 5) (pa_cons pe_str pa_nil))))))))))
    (pss_one (ps_ret pe_bl))))), ?main⟩
  case w1 =>
    intro D σ H1 h
    obtain ⟨rfl, au, q1⟩ := h
    cases u with
    | none =>
      have ev : v = V.non := au
      subst ev
      cases z with
      | some _ => exact False.elim hz
      | none =>
      refine ⟨_, rfl, rfl, _, rfl, ?_⟩
      exact iteF (q1 .non H1 (fun _ _ e => e) rfl)
    | some as_ =>
      obtain ⟨⟨b1, rfl, eb1⟩, nb1⟩ := au
      cases z with
      | none => exact False.elim hz
      | some zs =>
      have hAs := hA as_ rfl
      refine ⟨_, rfl, rfl, _, rfl, ?_⟩
      refine iteT ?_
      refine ⟨_, rfl, b1, rfl, ⟨_, SqL.of eb1⟩, fun L nL => lc_list (K := K) (xs := as_.map V.str) (fun i H' => H' L = some (.lst ((as_.take i).map V.str)) ∧ Ext H1 H') ⟨upd_same, Ext.upd nL⟩ (fun i H' _ h => SqL.of (h.2 _ _ eb1)) ?_ ?_⟩
      · intro i x H5 hx h
        obtain ⟨eD, x2⟩ := h
        have hi : i < as_.length := by
          rw [← List.length_map (f := V.str)]
          exact (List.getElem?_eq_some_iff.mp hx).1
        have ex : x = .str as_[i] := by
          rw [List.getElem?_map, List.getElem?_eq_getElem hi] at hx
          exact (Option.some.inj hx).symm
        refine ⟨rfl, ?_⟩
        unfold tYes
        refine iteT ?_
        refine ⟨_, rfl, as_[i], by rw [ex], ?_⟩
        refine ⟨_, eD, ?_, ?_, ?_⟩
        · rw [List.length_map, List.length_take]
          have := hAs.1
          exact Nat.lt_of_lt_of_le (show min i as_.length < 1000 by omega) (by decide)
        · rw [upd_same, List.take_succ, List.getElem?_eq_getElem hi, List.map_append]; rfl
        · intro u o eu
          rw [upd_ne (fun z => by rw [z, nL] at eu; cases eu)]
          exact x2 _ _ eu
      intro H3 h3
      obtain ⟨eD, x3⟩ := h3
      rw [List.length_map, List.take_length] at eD
      refine ⟨L, as_, rfl, SqL.of eD, by have := hAs.1; omega, fun ws pw pm so npw => ?_⟩
      have hws : Srt as_ ws := ⟨pm, so⟩
      have hz : Srt as_ zs := hz
      have u1 : ws = zs := hws.uniq hz (.refl _)
      subst u1
      exact q1 (.ref pw) _ (fun x y e => same_upd npw _ _ (x3 _ _ e)) ⟨⟨pw, rfl, upd_same⟩, aud_names hAs hz⟩
  case w2 =>
    intro D σ H1 h
    obtain ⟨y0, y1, y2, y3, fv, y5, y6, rfl, au, l8, q1⟩ := h
    rcases au_late au with rfl | ⟨p, zs, ez, rfl, ep⟩
    · refine ⟨_, rfl, rfl, _, rfl, ?_⟩
      exact iteF (q1 H1 fun _ _ _ e => e)
    · refine ⟨_, rfl, rfl, _, rfl, ?_⟩
      refine iteT ⟨_, rfl, .inl ⟨rfl, _, .inl (.inl ep)⟩, p, zs.map V.str, .str tLate, rfl, rfl, ep, ?_, ?_⟩
      · rw [List.length_map]
        exact Nat.lt_of_le_of_lt (l8 zs ez) (by decide)
      · exact q1 _ fun x o ne e => (upd_ne (fun z => ne (by rw [z]))).trans e
  case main =>
    have c3 : ∀ (a b c d e : V), cutV [a, b, c, d, e] none (some 3) = [a, b, c] := fun _ _ _ _ _ => rfl
    refine ⟨_, rfl, pR, _, 3, v, rfl, rfl, SqL.of hR.row, atI_nat (j := 3) rfl, ?_⟩
    refine ⟨rfl, hR.aud, fun dv H2 s2 ad => ?_⟩
    refine ⟨2, rfl, by decide, by decide, for_range (lo := 0) (n := 2) (fun i σ H' => ∃ y3 y4 y5 y6, σ = [some (.ref pR), some (.ref a), some dv, y3, y4, y5, y6] ∧ Same H2 H') ⟨_, _, _, _, rfl, fun _ _ e => e⟩ ?_ ?_⟩
    · intro i σ H3 hi h
      obtain ⟨y3, y4, y5, y6, rfl, s3⟩ := h
      have s03 : Same H H3 := fun x y e => s3 _ _ (s2 _ _ e)
      have hT3 := hT.same s03
      have hR3 := hR.same s03
      obtain ⟨dx, fs, va, ea, f1, f2, f3, f4, f5⟩ := hT3.head
      refine ⟨_, rfl, a, dx, fs, rfl, ea, a, _, _, rfl, T, ⟨dx, fs, va, ea, f1, f2, f3, f4, f5⟩, fun fv H4 s4 nf af => ?_⟩
      have ea4 := s4 _ _ ea
      have ad4 := (ad.same s3).same s4
      have hR4 := hR3.same s4
      have SH := row_show (kd_txt hO.kd) hO.n1.2 hO.n2.2 hzA
      refine ⟨_, rfl, a, _, dx, fs, _, rfl, ea4, T.cl, T.n1, f1, _, rfl, a, _, dx, fs, _, rfl, ea4, T.cl, T.n2, f2, _, rfl, a, _, dx, fs, _, rfl, ea4, T.cl, T.n3, f3, _, rfl, by show 4 ≤ sizeLine; decide, fun pA nA => ?_⟩
      have sA := same_upd (o := .lst [.str k, .str n, .str o, fv]) nA
      have eA : (upd H4 pA (.lst [.str k, .str n, .str o, fv])) pA = some (.lst [.str k, .str n, .str o, fv]) := upd_same
      have af5 := af.same sA
      have ad5 := ad4.same sA
      have hR5 := hR4.same sA
      generalize upd H4 pA (.lst [.str k, .str n, .str o, fv]) = H5 at sA eA af5 ad5 hR5 ⊢
      refine ⟨pA, _, [.str k, .str n, .str o, auP z], rfl, SqL.of eA, .all (.cons (.str _) (.cons (.str _) (.cons (.str _) (.cons af5.dp .nil)))), SH.1, SH.2.1, SH.2.2, ?_⟩
      refine ⟨_, rfl, 3, rfl, pR, _, rfl, SqL.of hR5.row, fun pa na => ?_⟩
      rw [c3]
      have sa := same_upd (o := .lst [.str k, .str n, .str o]) na
      have e6 : (upd H5 pa (.lst [.str k, .str n, .str o])) pa = some (.lst [.str k, .str n, .str o]) := upd_same
      have ad6 := ad5.same sa
      generalize upd H5 pa (.lst [.str k, .str n, .str o]) = H6 at sa e6 ad6 ⊢
      refine ⟨_, rfl, by show 1 ≤ sizeLine; decide, fun pl nl => ?_⟩
      have sl := same_upd (o := .lst [dv]) nl
      have e7 : (upd H6 pl (.lst [dv])) pl = some (.lst [dv]) := upd_same
      have e67 := sl _ _ e6
      have ad7 := ad6.same sl
      generalize upd H6 pl (.lst [dv]) = H7 at sl e7 e67 ad7 ⊢
      refine ⟨pa, pl, [.str k, .str n, .str o], [dv], rfl, rfl, e67, e7, by show 4 ≤ sizeLine; decide, fun pc nc => ?_⟩
      have sc := same_upd (o := .lst ([.str k, .str n, .str o] ++ [dv])) nc
      have e8 : (upd H7 pc (.lst ([.str k, .str n, .str o] ++ [dv]))) pc = some (.lst [.str k, .str n, .str o, dv]) := upd_same
      have ad8 := ad7.same sc
      have s38 : Same H3 (upd H7 pc (.lst ([.str k, .str n, .str o] ++ [dv]))) := fun x y e => sc _ _ (sl _ _ (sa _ _ (sA _ _ (s4 _ _ e))))
      have af8 := ((af5.same sa).same sl).same sc
      generalize upd H7 pc (.lst ([.str k, .str n, .str o] ++ [dv])) = H8 at sc e8 ad8 s38 af8 ⊢
      refine ⟨pc, _, [.str k, .str n, .str o, auP z], rfl, SqL.of e8, .all (.cons (.str _) (.cons (.str _) (.cons (.str _) (.cons ad8.dp .nil)))), SH.1, SH.2.1, SH.2.2, rfl, _, rfl, ?_⟩
      rw [decide_eq_true rfl]
      refine iteF ?_
      refine ⟨_, _, _, _, fv, _, _, rfl, af8, (fun zs e => (hzA zs e).1), fun H9 k9 => ?_⟩
      have s39 : Same H3 H9 := fun x y e => k9 x y (fun zz => by have := nf x zz; rw [this] at e; cases e) (s38 _ _ e)
      have hT9 := hT3.same s39
      have hR9 := hR3.same s39
      obtain ⟨dx9, fs9, va9, ea9, r9⟩ := hT9.head
      refine ⟨_, rfl, a, dx9, fs9, rfl, ea9, (hT9.nom _ _ _ ea9).2.1, a, _, rfl, T, ⟨dx9, fs9, va9, ea9, r9⟩, hO.kd, fun pr nr => ?_⟩
      have sr := same_upd (o := .lst ((rightsK k).map V.str)) nr
      have er : (upd H9 pr (.lst ((rightsK k).map V.str))) pr = some (.lst ((rightsK k).map V.str)) := upd_same
      have hR10 := hR9.same sr
      have nr3 : H3 pr = none := by
        cases e : H3 pr with
        | none => rfl
        | some y => rw [s39 _ _ e] at nr; cases nr
      have s310 : Same H3 (upd H9 pr (.lst ((rightsK k).map V.str))) := fun x y e => sr _ _ (s39 _ _ e)
      generalize upd H9 pr (.lst ((rightsK k).map V.str)) = H10 at sr er hR10 s310 ⊢
      refine ⟨_, rfl, .ref pr, .ty "list", .type "list", .type "list", _, rfl, .ty _, .base (.lst er), kit_ty k_list_list, _, rfl, ?_⟩
      refine iteF ?_
      refine ⟨_, rfl, _, rfl, pR, _, 0, .str k, rfl, rfl, SqL.of hR10.row, atI_nat (j := 0) rfl, k, rfl, hO.kd, fun pq H11 s11 nq e11 => ?_⟩
      have er11 := s11 _ _ er
      refine ⟨.list (strsP (rightsK k)), .list (strsP (rightsK k)), .lst (SqL.of er11) (strs_all _), .lst (SqL.of e11) (strs_all _), strs_shaped (rk_txt hO.kd), strs_shaped (rk_txt hO.kd), _, rfl, ?_⟩
      rw [strs_eqv, decide_eq_true rfl]
      refine iteF ?_
      refine ⟨_, rfl, .inl ⟨rfl, _, .inl (.inl er11)⟩, pr, _, .str tLate, rfl, rfl, er11, ?_, ?_⟩
      · rw [List.length_map]
        exact Nat.lt_of_le_of_lt (rk_len hO.kd) (by decide)
      · refine ⟨_, _, _, _, rfl, fun x y e => ?_⟩
        have e3 := s3 _ _ e
        rw [upd_ne (fun zz => by rw [zz, nr3] at e3; cases e3)]
        exact s11 _ _ (s310 _ _ e3)
    · intro σ H3 h
      obtain ⟨y3, y4, y5, y6, rfl, s3⟩ := h
      exact q H3 fun x y e => s3 _ _ (s2 _ _ e)
end
end K08
set_option maxHeartbeats 4000000
namespace K08
open PySem PySem.Spec PyProof.Rows L2 RL RE RN RM TL RQ RC RG
/-! ### == and != of things of any kind -/
structure TyC (K : PySem.W.Frag) (C : Addr) : Prop where
  cl : Cls K C
  ha : PySem.W.findIn K (.ref C) "__class__" = some (some (.builtin "object.__class__"))
  hn : PySem.W.specialIn K (.builtin "object.__class__") "__get__" = some (some (.builtin "getset_descriptor.__get__"))
  ht : PySem.W.takesIn K (.builtin "object.__class__") = some true
  hm : PySem.W.mroIn K C (.type "object") = some true
theorem TyC.ty {K : PySem.W.Frag} {C : Addr} (t : TyC K C) {H : Hp} {a dx : Addr} {fs : List (Str × V)} (e : H a = some (.ins C dx fs)) : TyX K H (.ref a) (.ref C) := .base (.ins e t.cl t.ha t.hn t.ht t.hm)
def RK (K : PySem.W.Frag) (c : Cs) (k : Str) : Addr → V → Hp → Bool → Prop := fun a y H b => if k = tFun then RF K (clsK c k) a y H b else RT K (clsK c k) a y H b
structure EqOk (P : Program) (w : World) (K : PySem.W.Frag) (mg : Str → Option Value) (base : Heap) (c : Cs) : Prop where
  t : ∀ k, isKd k → TyC K (clsK c k)
  eq : ∀ k, isKd k → ∃ (f : Addr) (fd : FuncData), FnOk P w K mg base CX0 3 f fd ["self", "other"] (spEqB (RK K c k)) ∧ PySem.W.findIn K (.ref (clsK c k)) "__eq__" = some (some (.ref f)) ∧ PySem.W.isFn K (.ref f) = true ∧ Binds K fd ["self", "other"] []
  ne : ∀ k, isKd k → PySem.W.findIn K (.ref (clsK c k)) "__ne__" = some (some (.builtin "object.__ne__"))
  nf : ∀ k k', isKd k → isKd k' → PySem.W.notFirst K (clsK c k) (.ref (clsK c k')) = true
  kk : ∀ k k', isKd k → isKd k' → PySem.W.kitOne K (.ref (clsK c k')) (.ref (clsK c k)) = some (decide (k' = k))
  nS : ∀ k, isKd k → PySem.W.notFirst K (clsK c k) (.type "str") = true
  nL : ∀ k, isKd k → PySem.W.notFirst K (clsK c k) (.type "list") = true
  kS : ∀ k, isKd k → PySem.W.kitOne K (.type "str") (.ref (clsK c k)) = some false
  kL : ∀ k, isKd k → PySem.W.kitOne K (.type "list") (.ref (clsK c k)) = some false
def DThing (K : PySem.W.Frag) (c : Cs) : EqvB := fun x y H b => ∃ (a : Addr) (m : Tm) (t : Value), x = .ref a ∧ ThAt c H a m ∧ isKd m.kind ∧ TyX K H y t ∧ PySem.W.notFirst K (clsK c m.kind) t = true ∧ RK K c m.kind a y H b
section
variable {X : Cx} {c : Cs}
theorem rcBT (D : EqOk X.prog X.w X.K X.mg X.base c) : RcB X 3 (DThing X.K c) := by
  intro A pins s σ H x y u v k sb I rx ry h
  obtain ⟨a, m, t, rfl, ha, hk, ty, nf, hr⟩ := h
  obtain ⟨f, fd, F, hs, hf, hb⟩ := D.eq _ hk
  obtain ⟨dx, fs, va, ea, _⟩ := ha.head
  exact rcB_any F hs hf hb pass0 A pins s σ H _ y u v k sb I rx ry ⟨a, dx, fs, t, rfl, ea, ty, nf, hr⟩
theorem op_neT (D : EqOk X.prog X.w X.K X.mg X.base c) (hr : Room 4 X.A) : OpR X (compareOp .NotEq) (rNeB (DThing X.K c)) := by
  intro pins s σ H x y v u Q I rx ry hq
  obtain ⟨k, ⟨a, m, t, rfl, ha, hk, ty, nf, hR⟩, q⟩ := hq
  obtain ⟨f, fd, F, hs, hf, hb⟩ := D.eq _ hk
  obtain ⟨dx, fs, va, ea, _⟩ := ha.head
  exact op_neAny F hr (D.t _ hk).hm (D.ne _ hk) hs hf hb pass0 pins s σ H _ y v u Q I rx ry ⟨k, ⟨a, dx, fs, t, rfl, ea, ty, nf, hR⟩, q⟩
theorem PEw {e : Expr} {t u : TE} (h : PE X e t) (w : ∀ σ H Q, u σ H Q → t σ H Q) : PE X e u := ⟨fun pins s σ H Q I q => h.run pins s σ H Q I (w σ H Q q)⟩
end
section
variable {P : Program} {w : World} {K : PySem.W.Frag} {mg : Str → Option Value} {base : Heap} {f : Addr} {fd : FuncData} {c : Cs}
theorem th_th (D : EqOk P w K mg base c) {H : Hp} {a b : Addr} {m m' : Tm} (h1 : isKd m.kind) (h2 : isKd m'.kind) (ha : ThAt c H a m) (hb : ThAt c H b m') : DThing K c (.ref a) (.ref b) H (decide (m = m')) := by
  obtain ⟨dy, gs, vb, eb, _⟩ := id hb.head
  have ty := (D.t _ h2).ty eb
  have kk := D.kk _ _ h1 h2
  have hd : ¬ m'.kind = m.kind → decide (m = m') = false := fun h => decide_eq_false fun e => h (by rw [e])
  refine ⟨a, m, _, rfl, ha, h1, ty, D.nf _ _ h1 h2, ?_⟩
  unfold RK
  by_cases e : m.kind = tFun
  · rw [if_pos e]
    have cf : clsK c m.kind = c.fn := by rw [e]; exact cls_fun c
    refine ⟨m, by rw [cf]; exact ha.fn e, _, ty, ?_⟩
    by_cases e2 : m'.kind = m.kind
    · exact .inl ⟨by rw [kk, decide_eq_true e2], b, m', rfl, by rw [cf]; exact hb.fn (e2.trans e), rfl⟩
    · exact .inr ⟨by rw [kk, decide_eq_false e2], hd e2⟩
  · rw [if_neg e]
    refine ⟨m, ha.head, ha.nom, _, ty, ?_⟩
    by_cases e2 : m'.kind = m.kind
    · exact .inl ⟨by rw [kk, decide_eq_true e2], b, m', rfl, by rw [← e2]; exact hb.head, rfl⟩
    · exact .inr ⟨by rw [kk, decide_eq_false e2], hd e2⟩
theorem th_no {H : Hp} {a : Addr} {m : Tm} {y : V} {t : Value} (h1 : isKd m.kind) (ha : ThAt c H a m) (ty : TyX K H y t) (nf : PySem.W.notFirst K (clsK c m.kind) t = true) (kn : PySem.W.kitOne K t (.ref (clsK c m.kind)) = some false) : DThing K c (.ref a) y H false := by
  refine ⟨a, m, t, rfl, ha, h1, ty, nf, ?_⟩
  unfold RK
  by_cases e : m.kind = tFun
  · rw [if_pos e]
    have cf : clsK c m.kind = c.fn := by rw [e]; exact cls_fun c
    exact ⟨m, by rw [cf]; exact ha.fn e, t, ty, .inr ⟨kn, rfl⟩⟩
  · rw [if_neg e]
    exact ⟨m, ha.head, ha.nom, t, ty, .inr ⟨kn, rfl⟩⟩
theorem AuAt.keep {H H' : Hp} {b : Addr} {v : V} {u : Option (List Str)} {n : Int} (h : AuAt H v u) (k : Keep b H H') (hb : Bx H b n) : AuAt H' v u := by
  cases u with
  | none => exact h
  | some zs =>
    obtain ⟨⟨p, rfl, e⟩, g⟩ := h
    exact ⟨⟨p, rfl, k _ _ (lst_ne hb e (strs_no zs)) e⟩, g⟩
theorem ThAt.keep {H H' : Hp} {a b : Addr} {m : Tm} {n : Int} (h : ThAt c H a m) (k : Keep b H H') (hb : Bx H b n) : ThAt c H' a m := by
  obtain ⟨hd, nm, fn⟩ := h
  obtain ⟨dx, fs, v, ea, f1, f2, f3, f4, f5⟩ := hd
  have ne : a ≠ b := fun z => by
    obtain ⟨g, m, k, eb, _⟩ := hb
    rw [z, eb] at ea
    cases ea
  have e2 := k _ _ ne ea
  refine ⟨⟨dx, fs, v, e2, f1, f2, f3, f4, f5.keep k hb⟩, fun C dx fs e => ?_, fun e => ?_⟩
  · rw [e2] at e
    cases e
    exact nm _ _ _ ea
  · obtain ⟨dx, v, p, ea, u, ep⟩ := fn e
    exact ⟨dx, v, p, k _ _ ne ea, u.keep k hb, k _ _ (lst_ne hb ep (fun _ _ _ e => nomatch e)) ep⟩
theorem given_of {H : Hp} {v : V} {u : Option (List Str)} (h : AuAt H v u) (hA : ∀ zs, u = some zs → Aud zs) : GivenC H v u := by
  cases u with
  | none => exact h
  | some zs =>
    obtain ⟨⟨p, rfl, e⟩, _⟩ := h
    exact ⟨hA _ rfl, p, rfl, .inl e⟩
theorem aud_perm {xs ys : List Str} (h : Aud ys) (p : xs.Perm ys) : Aud xs := ⟨by rw [p.length_eq]; exact h.1, p.nodup_iff.mpr h.2.1, fun y hy => h.2.2 y (p.mem_iff.mp hy)⟩
theorem lets_srt {u z : Option (List Str)} (h : SrtO u z) (t : Str) : lets z t = lets u t := by
  cases u with
  | none => cases z with
    | none => rfl
    | some _ => exact False.elim h
  | some xs => cases z with
    | none => exact False.elim h
    | some ys =>
      have h : Srt xs ys := h
      show (ys.any fun y => y == t) = xs.any fun y => y == t
      rw [Bool.eq_iff_iff, List.any_eq_true, List.any_eq_true]
      constructor
      · rintro ⟨x, hx, e⟩; exact ⟨x, h.1.mem_iff.mp hx, e⟩
      · rintro ⟨x, hx, e⟩; exact ⟨x, h.1.mem_iff.mpr hx, e⟩
/-! ### a row is right -/
/-- the audience handed in -/
def tHand (b pR : Addr) (v : V) (u : Option (List Str)) (n : Int) : TS := fun D σ H => σ = [some (.ref b), some (.ref pR), some v, none, none, none, none, none] ∧ AuAt H v u ∧ Bx H b n ∧
  ∀ x H', GivenC H' x u → (∀ l, x = .ref l → H l = none) → Keep b H H' → Bx H' b (n + 1) → D.nx [some (.ref b), some (.ref pR), some x, none, none, none, none, none] H'
def tApp (u : Option (List Str)) : TS := fun D σ H => ∃ y0 y1 x y3 y4 y5 y6 y7, σ = [y0, y1, some x, y3, y4, y5, y6, y7] ∧ GivenC H x u ∧ ∀ H', (∀ l o, x ≠ .ref l → H l = some o → H' l = some o) → D.nx σ H'
/-- an audience for the twin -/
def tMix (b pR pN : Addr) (m : Tm) (v : V) (ys : List Str) (n : Int) : TE := fun σ H Q => σ[0]? = some (some (.ref b)) ∧ σ[1]? = some (some (.ref pR)) ∧ Bx H b n ∧ RowAt H pR pN m v ys ∧
  ∀ x H' au, Keep b H H' → Bx H' b (n + 12) → GivenC H' x au → (∀ z z', SrtO m.au z → SrtO au z' → z' = z) → RowAt H' pR pN m v ys → Q x H'
theorem given_cases {H : Hp} {x : V} {u : Option (List Str)} (g : GivenC H x u) : x = .non ∨ (∃ l zs, u = some zs ∧ x = .ref l ∧ zs.length ≤ 8 ∧ H l = some (.lst (zs.map V.str))) ∨ (∃ l zs, u = some zs ∧ x = .ref l ∧ H l = some (.tup (zs.map V.str))) := by
  cases u with
  | none => exact .inl g
  | some zs =>
    obtain ⟨hA, l, e, h | h⟩ := g
    · exact .inr (.inl ⟨l, zs, rfl, e, hA.1, h⟩)
    · exact .inr (.inr ⟨l, zs, rfl, e, h⟩)
abbrev tPubl : Str := Str.ofString "public"
theorem taker_ok {ys : List Str} (ok : ∀ y ∈ ys, nameT y = true ∧ txt y) {t : Str} (h : t ∈ ys ∨ t = tPubl) : txt t ∧ isTaker (.str t) = true := by
  rcases h with h | rfl
  · obtain ⟨a, b⟩ := ok t h
    refine ⟨b, ?_⟩
    show (nameT t || _) = true
    rw [a]
    rfl
  · exact ⟨⟨by decide +kernel, by decide +kernel⟩, by decide +kernel⟩
theorem GivenC.same {H H' : Hp} {x : V} {u : Option (List Str)} (g : GivenC H x u) (s : Same H H') : GivenC H' x u := by
  cases u with
  | none => exact g
  | some zs =>
    obtain ⟨hA, l, e, h | h⟩ := g
    · exact ⟨hA, l, e, .inl (s _ _ h)⟩
    · exact ⟨hA, l, e, .inr (s _ _ h)⟩
theorem given_some {H : Hp} {x : V} {u : Option (List Str)} {l : Addr} (g : GivenC H x u) (e : x = .ref l) (n : H l = none) : False := by
  rcases given_cases g with rfl | ⟨l', zs, eu, rfl, l8, e2⟩ | ⟨l', zs, eu, rfl, e2⟩
  · cases e
  · cases e; rw [n] at e2; cases e2
  · cases e; rw [n] at e2; cases e2
def spRight : Sp := fun vs H Q _ => ∃ (b pR pN : Addr) (n : Int) (m : Tm) (v : V) (ys : List Str), vs = [.ref b, .ref pR] ∧ 0 ≤ n ∧ n ≤ 80000 ∧ Bx H b n ∧ RowAt H pR pN m v ys ∧ RowOk m ys ∧ ∀ H', Keep b H H' → Bx H' b (n + 40) → Q (.bl true) H'
theorem ok_right (F : Fun K "_law_right" "_law_right" s__law_right f fd) (D : EqOk P w K mg base c) (HC : ∀ k, isKd k → ClOk P w K mg base (clsK c k)) (GT : Df P w K mg base CX0 1 "_law_take" ["_law_box_here", "_law_many"] spTake)
    (GM : Df P w K mg base CX0 6 "_law_made" ["_law_row_here", "_law_admitted"] (spMade c)) (GD : DfG P w K mg base CX0 7 "_law_told_right" ["_law_row_here", "_law_thing"] (spTold c)) (GL : Df P w K mg base CX0 1 "_law_lets" ["_law_row_here", "_law_taker"] spLets)
    (GX : Df P w K mg base CX0 2 "_law_mixed" ["_law_box_here", "_law_some"] (spMixed K)) (GO : Df P w K mg base CX0 2 "_law_otherwise" ["_law_box_here", "_law_row_here"] spOther) (GK : Df P w K mg base CX0 2 "_law_like" ["_law_one", "_law_other"] spLike)
    (mr : mg "range" = none) (mi : mg "isinstance" = none) (mli : mg "list" = none) (mtu : mg "tuple" = none) :
    FnG P w K mg base CX0 8 f fd ["_law_box_here", "_law_row_here"] spRight := by
  obtain ⟨oc, od, kV, doc, pm, an, cdv, ct, osl, rfl, lk, hcd⟩ := F.ex
  refine FnG.mk' lk hcd sc__law_right (fun {vs H Q E} h => by obtain ⟨b, pR, pN, n, m, v, ys, rfl, _⟩ := h; rfl) (fun {A fr s H vs Q E} qt hr h => ?_)
  obtain ⟨b, pR, pN, n, ⟨k, nm, o, u⟩, v, ys, rfl, n0, n1, hb, hR, hO, q⟩ := h
  have hkd : isKd k := hO.kd
  obtain ⟨T, _, _, ⟨fa, fda, MA, FA, bA⟩⟩ := HC k hkd
  have hA : ∀ zs, u = some zs → Aud zs := hO.au
  have hr1 := hr.mono (show 1 ≤ 7 by decide)
  have hr2 := hr.mono (show 2 ≤ 7 by decide)
  have hr3 := hr.mono (show 3 ≤ 7 by decide)
  have hr4 := hr.mono (show 4 ≤ 7 by decide)
  have hr5 := hr.mono (show 5 ≤ 7 by decide)
  have hr6 := hr.mono (show 6 ≤ 7 by decide)
  refine ⟨_, PSs.nox (pss_cons (ps_set (i := 2) sc__law_right.nd rfl (.inl rfl) (pe_ix ix_list (pv 1) pe_int (fun _ _ => rfl)))
    (pss_cons (PSw (u := tHand b pR v u n) (ps_if (pt_cmpR op_notN (pv 2) pe_non (by rfl)) (pss_one (ps_set (i := 2) sc__law_right.nd rfl (.inl rfl) (pe_ix ix_list (pe_lst (pa_cons (pe_callTy call_list_of (by rfl) mli (by decide +kernel) (pa_cons (pv 2) pa_nil)) (pa_cons (pe_callTy call_tuple_of (by rfl) mtu (by decide +kernel) (pa_cons (pv 2) pa_nil)) pa_nil))) (pe_df0 GT hr1 (by rfl) (pa_cons (pv 0) (pa_cons pe_int pa_nil))) (fun _ _ => rfl)))) pss_nil) ?w1)
    (pss_cons (ps_set (i := 3) sc__law_right.nd rfl (.inl rfl) (pe_df0 GM hr6 (by rfl) (pa_cons (pv 1) (pa_cons (pv 2) pa_nil))))
    (pss_cons (PSw (u := tApp u) (ps_if (pt_val (pe_callB call_isi (by rfl) mi boot_isinstance (pa_cons (pv 2) (pa_cons (pe_bltn (v := .ty "list") (by rfl) mli (by decide +kernel) rfl) pa_nil)))) (pss_one (ps_expr (pe_bm PySem.F.plainAttrs_list PySem.F.slot_list_append PySem.F.type_list_append mt_append (pv 2) (pa_cons pe_str pa_nil)))) pss_nil) ?w2)
    (pss_cons (ps_if (pt_not (pt_val (pe_dfG GD qt hr (by rfl) (pa_cons (pv 1) (pa_cons (pv 3) pa_nil))))) (pss_one (ps_ret pe_bl)) pss_nil)
    (pss_cons (ps_for PassesOwn.never rfl (pi_list (pe_op op_cat (pe_ix ix_list (pv 1) pe_int (fun _ _ => rfl)) (pe_lst (pa_cons pe_str pa_nil)))) (pg_name (i := 4) sc__law_right.nd rfl (Or.inl rfl))
      (pss_cons (ps_if (PW.pt (pw_and (pt_cmpR op_isnot_bl (pe_meth (pv 3) T.cl MA FA hr5 bA .nil pass0 (pa_cons (pv 4) pa_nil)) pe_bl (by rfl)) (pw_and1 (pt_val (pe_df0 GL hr1 (by rfl) (pa_cons (pv 1) (pa_cons (pv 4) pa_nil))))))) (pss_one (ps_ret pe_bl)) pss_nil)
      (pss_one (ps_if (PW.pt (pw_and (pt_cmpR op_isnot_bl (pe_meth (pv 3) T.cl MA FA hr5 bA .nil pass0 (pa_cons (pv 4) pa_nil)) pe_bl (by rfl)) (pw_and1 (pt_not (pt_val (pe_df0 GL hr1 (by rfl) (pa_cons (pv 1) (pa_cons (pv 4) pa_nil)))))))) (pss_one (ps_ret pe_bl)) pss_nil))))
    (pss_cons (ps_set (i := 5) sc__law_right.nd rfl (.inl rfl) (pe_df0 GM hr6 (by rfl) (pa_cons (pv 1) (pa_cons (PEw (u := tMix b pR pN ⟨k, nm, o, u⟩ v ys (n + 1)) (pe_ifExp (pt_cmpR op_isN (pe_ix ix_list (pv 1) pe_int (fun _ _ => rfl)) pe_non (by rfl)) pe_non (pe_df0 GX hr2 (by rfl) (pa_cons (pv 0) (pa_cons (pe_ix ix_list (pv 1) pe_int (fun _ _ => rfl)) pa_nil)))) ?w3) pa_nil))))
    (pss_cons (ps_if (PW.pt (pw_or (pt_cmpR (op_neT D hr4) (pv 3) (pv 5) (by rfl)) (pw_or1 (pt_not (pt_val (pe_dfG GD qt hr (by rfl) (pa_cons (pv 1) (pa_cons (pv 3) pa_nil)))))))) (pss_one (ps_ret pe_bl)) pss_nil)
    (pss_cons (ps_for PassesOwn.never rfl (pi_range1 (by rfl) mr (pa_cons pe_int pa_nil)) (pg_name (i := 6) sc__law_right.nd rfl (Or.inl rfl))
      (pss_cons (ps_set (i := 7) sc__law_right.nd rfl (.inl rfl) (pe_df0 GO hr2 (by rfl) (pa_cons (pv 0) (pa_cons (pv 1) pa_nil))))
      (pss_one (ps_if (pt_cmpR op_ne (pe_cmpR (op_eqB (rcBT D) hr3) (pv 3) (pe_df0 GM hr6 (by rfl) (pa_cons (pv 7) (pa_cons (pe_ix ix_list (pv 7) pe_int (fun _ _ => rfl)) pa_nil))) (by rfl)) (pe_df0 GK hr2 (by rfl) (pa_cons (pv 1) (pa_cons (pv 7) pa_nil))) (by rfl)) (pss_one (ps_ret pe_bl)) pss_nil))))
    (pss_one (ps_ret (pe_and (pe_cmpR (op_neT D hr4) (pv 3) (pe_ix ix_list (pv 1) pe_int (fun _ _ => rfl)) (by rfl)) (pe_one (pe_cmpR (op_neT D hr4) (pv 3) (pv 1) (by rfl))))))))))))))), ?main⟩
  case w1 =>
    intro D σ H1 h
    obtain ⟨rfl, au, hb1, q1⟩ := h
    cases u with
    | none =>
      have ev : v = V.non := au
      subst ev
      refine ⟨_, rfl, rfl, _, rfl, ?_⟩
      exact iteF (q1 .non H1 rfl (fun l e => nomatch e) (fun _ _ _ e => e) (hb1.mono (by omega)))
    | some zs =>
      obtain ⟨⟨p, rfl, ep⟩, _⟩ := au
      refine ⟨_, rfl, rfl, _, rfl, ?_⟩
      refine iteT ?_
      refine ⟨_, rfl, p, _, rfl, .inl (SqL.of ep), fun l1 nl1 => ?_⟩
      have s1 := same_upd (o := .lst (zs.map V.str)) nl1
      have e1 : (upd H1 l1 (.lst (zs.map V.str))) l1 = some (.lst (zs.map V.str)) := upd_same
      have ne1 := ne_box hb1 nl1
      have hb2 := hb1.same s1
      generalize upd H1 l1 (.lst (zs.map V.str)) = H2 at s1 e1 hb2 ⊢
      refine ⟨_, rfl, p, _, rfl, .inl ⟨SqL.of (s1 _ _ ep), fun l2 nl2 => ?_⟩⟩
      have s2 := same_upd (o := .tup (zs.map V.str)) nl2
      have e2 : (upd H2 l2 (.tup (zs.map V.str))) l2 = some (.tup (zs.map V.str)) := upd_same
      have ne2 := ne_box hb2 nl2
      have hb3 := hb2.same s2
      have e13 := s2 _ _ e1
      have nl2' := none_keep (b := b) (Keep.of s1) ne2 nl2
      generalize upd H2 l2 (.tup (zs.map V.str)) = H3 at s2 e2 hb3 e13 ⊢
      refine ⟨by show 2 ≤ sizeLine; decide, fun pl npl => ?_⟩
      have s3 := same_upd (o := .lst [.ref l1, .ref l2]) npl
      have e3 : (upd H3 pl (.lst [.ref l1, .ref l2])) pl = some (.lst [.ref l1, .ref l2]) := upd_same
      have ne3 := ne_box hb3 npl
      have hb4 := hb3.same s3
      have e14 := s3 _ _ e13
      have e24 := s3 _ _ e2
      generalize upd H3 pl (.lst [.ref l1, .ref l2]) = H4 at s3 e3 hb4 e14 e24 ⊢
      refine ⟨_, rfl, b, 2, n, rfl, by decide, by decide, by omega, by omega, hb4, fun d H5 d0 d1 k5 hb5 => ?_⟩
      have kk : Keep b H1 H5 := (((Keep.of s1).trans (Keep.of s2)).trans (Keep.of s3)).trans k5
      have hAz := hA zs rfl
      have dd : d = 0 ∨ d = 1 := by omega
      rcases dd with rfl | rfl
      · refine ⟨pl, _, 0, .ref l1, rfl, rfl, SqL.of (k5 _ _ ne3 e3), atI_nat (j := 0) rfl, ?_⟩
        exact q1 (.ref l1) H5 ⟨hAz, l1, rfl, .inl (k5 _ _ ne1 e14)⟩ (fun l e => by cases e; exact nl1) kk hb5
      · refine ⟨pl, _, 1, .ref l2, rfl, rfl, SqL.of (k5 _ _ ne3 e3), atI_nat (j := 1) rfl, ?_⟩
        exact q1 (.ref l2) H5 ⟨hAz, l2, rfl, .inr (k5 _ _ ne2 e24)⟩ (fun l e => by cases e; exact nl2') kk hb5
  case w2 =>
    intro D σ H1 h
    obtain ⟨y0, y1, x, y3, y4, y5, y6, y7, rfl, g, q1⟩ := h
    rcases given_cases g with rfl | ⟨l, zs, eu, rfl, l8, e⟩ | ⟨l, zs, eu, rfl, e⟩
    · refine ⟨_, rfl, .non, .ty "list", .type "NoneType", .type "list", _, rfl, .ty _, .base .non, kit_ty k_NoneType_list, _, rfl, ?_⟩
      exact iteF (q1 H1 fun _ _ _ e => e)
    · refine ⟨_, rfl, .ref l, .ty "list", .type "list", .type "list", _, rfl, .ty _, .base (.lst e), kit_ty k_list_list, _, rfl, ?_⟩
      refine iteT ⟨_, rfl, .inl ⟨rfl, _, .inl (.inl e)⟩, l, zs.map V.str, .str tLate, rfl, rfl, e, ?_, ?_⟩
      · rw [List.length_map]
        exact Nat.lt_of_le_of_lt l8 (by decide)
      · exact q1 _ fun p o ne e => (upd_ne (fun z => ne (by rw [z]))).trans e
    · refine ⟨_, rfl, .ref l, .ty "list", .type "tuple", .type "list", _, rfl, .ty _, .base (.tup e), kit_ty k_tuple_list, _, rfl, ?_⟩
      exact iteF (q1 H1 fun _ _ _ e => e)
  case w3 =>
    intro σ H1 Q h
    obtain ⟨e0, e1, hb1, hR1, q1⟩ := h
    refine ⟨_, e1, pR, _, 3, v, rfl, rfl, SqL.of hR1.row, atI_nat (j := 3) rfl, rfl, _, rfl, ?_⟩
    cases u with
    | none =>
      have ev : v = V.non := hR1.aud
      subst ev
      exact iteT (q1 .non H1 none (fun _ _ _ e => e) (hb1.mono (by omega)) rfl (fun z z' hz h => by
        cases z with
        | some _ => exact False.elim hz
        | none =>
        cases z' with
        | none => rfl
        | some _ => exact False.elim h) hR1)
    | some as_ =>
      obtain ⟨⟨p, rfl, ep⟩, _⟩ := hR1.aud
      refine iteF ?_
      have hAs := hA as_ rfl
      refine ⟨_, e0, _, e1, pR, _, 3, .ref p, rfl, rfl, SqL.of hR1.row, atI_nat (j := 3) rfl, b, p, n + 1, as_, rfl, by omega, by omega, hb1, SqL.of ep, by have := hAs.1; omega, fun r zs' H2 pm nr er k2 hb2 => ?_⟩
      exact q1 (.ref r) H2 (some zs') k2 (hb2.mono (by omega)) ⟨aud_perm hAs pm, r, rfl, .inl er⟩ (fun z z' hz h => by
        cases z with
        | none => exact False.elim hz
        | some ws0 =>
        cases z' with
        | none => exact False.elim h
        | some ws => exact congrArg some (Srt.uniq h hz pm)) (hR1.keep k2 hb1)
  case main =>
    refine ⟨_, rfl, pR, _, 3, v, rfl, rfl, SqL.of hR.row, atI_nat (j := 3) rfl, ?_⟩
    refine ⟨rfl, hR.aud, hb, fun x H1 gx fx k1 hb1 => ?_⟩
    have hR1 := hR.keep k1 hb
    refine ⟨_, rfl, _, rfl, pR, pN, ⟨k, nm, o, u⟩, v, x, ys, u, rfl, hR1, hO, gx, fun a H2 z hz s2 own => ?_⟩
    refine ⟨_, _, x, _, _, _, _, _, rfl, gx.same s2, fun H3 k3 => ?_⟩
    have k03 : Keep b H H3 := fun p o' np e => k3 p o' (fun z => by rw [fx p z] at e; cases e) (s2 _ _ (k1 p o' np e))
    have hb3 : Bx H3 b (n + 1) := by
      obtain ⟨g, m, cc, eb, r⟩ := hb1.same s2
      refine ⟨g, m, cc, k3 _ _ (fun z => ?_) eb, r⟩
      obtain ⟨_, _, _, eb0, _⟩ := hb
      rw [fx b z] at eb0
      cases eb0
    have hR3 := hR.keep k03 hb
    have hT3 : ThAt c H3 a ⟨k, nm, o, z⟩ := own H3 fun p o' np e => k3 p o' (fun z => given_some gx z np) e
    refine ⟨_, rfl, _, rfl, pR, pN, a, ⟨k, nm, o, u⟩, v, ys, z, rfl, hR3, hO, hz, hT3, fun H4 s4 => ⟨_, rfl, iteF ?_⟩⟩
    have hR4 := hR3.same s4
    refine ⟨_, rfl, pR, _, 4, .ref pN, rfl, rfl, SqL.of hR4.row, atI_nat (j := 4) rfl, ?_⟩
    refine ⟨by show 1 ≤ sizeLine; decide, fun pl npl => ?_⟩
    have s5 := same_upd (o := .lst [.str tPubl]) npl
    have e5 : (upd H4 pl (.lst [.str tPubl])) pl = some (.lst [.str tPubl]) := upd_same
    have hR5 := hR4.same s5
    generalize upd H4 pl (.lst [.str tPubl]) = H5 at s5 e5 hR5 ⊢
    refine ⟨pN, pl, ys.map V.str, [.str tPubl], rfl, rfl, hR5.nms, e5, ?_, fun pc npc => ?_⟩
    · rw [List.length_map, hO.len]
      show 13 ≤ sizeLine
      decide
    have s6 := same_upd (o := .lst (ys.map V.str ++ [.str tPubl])) npc
    have e6 : (upd H5 pc (.lst (ys.map V.str ++ [.str tPubl]))) pc = some (.lst (ys.map V.str ++ [.str tPubl])) := upd_same
    have hR6 := hR5.same s6
    generalize upd H5 pc (.lst (ys.map V.str ++ [.str tPubl])) = H6 at s6 e6 hR6 ⊢
    have s36 : Same H3 H6 := fun p y e => s6 _ _ (s5 _ _ (s4 _ _ e))
    have hT6 := hT3.same s36
    have hb6 := hb3.same s36
    have k06 : Keep b H H6 := k03.trans (Keep.of s36)
    obtain ⟨dx, fs, va, ea, r6⟩ := id hT6.head
    have nom6 := (hT6.nom _ _ _ ea).2.2
    refine ⟨pc, rfl, ⟨_, SqL.of e6⟩, for_list (K := K) (xs := ys.map V.str ++ [.str tPubl]) (fun i σ H' => ∃ y4, σ = [some (.ref b), some (.ref pR), some x, some (.ref a), y4, none, none, none] ∧ H' = H6) ⟨_, rfl, rfl⟩ (fun i σ H' _ h => by
      obtain ⟨_, _, eH⟩ := h
      rw [eH]
      exact SqL.of e6) ?_ ?_⟩
    · intro i y σ H' hx h
      obtain ⟨y4, rfl, eH⟩ := h
      rw [eH]
      have ht : ∃ t, y = .str t ∧ (t ∈ ys ∨ t = tPubl) := by
        rcases List.mem_append.mp (List.mem_of_getElem? hx) with h | h
        · obtain ⟨t, ht, e⟩ := List.mem_map.mp h
          exact ⟨t, e.symm, .inl ht⟩
        · exact ⟨_, List.mem_singleton.mp h, .inr rfl⟩
      obtain ⟨t, rfl, ht⟩ := ht
      obtain ⟨t1, t2⟩ := taker_ok hO.ok ht
      have el := lets_srt hz t
      refine ⟨_, rfl, a, dx, fs, rfl, ea, nom6, _, rfl, a, ⟨k, nm, o, z⟩, t, rfl, T, hT6.head, t1, t2, lets z t, true, rfl, rfl, _, rfl, ?_⟩
      cases hl : lets z t with
      | true =>
        refine iteF ?_
        refine ⟨_, rfl, a, dx, fs, rfl, ea, nom6, _, rfl, a, ⟨k, nm, o, z⟩, t, rfl, T, hT6.head, t1, t2, lets z t, false, rfl, rfl, _, rfl, ?_⟩
        rw [hl]
        refine iteT ⟨_, rfl, _, rfl, pR, pN, ⟨k, nm, o, u⟩, v, ys, t, rfl, hR6, _, rfl, ?_⟩
        refine ite2 (fun h => ?_) (fun _ => ⟨_, rfl, rfl⟩)
        have h : (!lets u t) = true := h
        rw [← el, hl] at h
        cases h
      | false =>
        refine iteT ⟨_, rfl, _, rfl, pR, pN, ⟨k, nm, o, u⟩, v, ys, t, rfl, hR6, _, rfl, ?_⟩
        refine ite2 (fun h => ?_) (fun _ => ?_)
        · have h : lets u t = true := h
          rw [← el, hl] at h
          cases h
        refine ⟨_, rfl, a, dx, fs, rfl, ea, nom6, _, rfl, a, ⟨k, nm, o, z⟩, t, rfl, T, hT6.head, t1, t2, lets z t, false, rfl, rfl, _, rfl, ?_⟩
        rw [hl]
        exact iteF ⟨_, rfl, rfl⟩
    intro σ H' h
    obtain ⟨y4, rfl, eH⟩ := h
    rw [eH]
    refine ⟨_, rfl, rfl, rfl, hb6, hR6, fun x2 H7 au2 k7 hb7 g2 un2 hR7 => ?_⟩
    refine ⟨pR, pN, ⟨k, nm, o, u⟩, v, x2, ys, au2, rfl, hR7, hO, g2, fun a2 H8 z2 hz2 s8 own8 => ?_⟩
    have ez : z2 = z := un2 z z2 hz hz2
    have hT8' : ThAt c H8 a2 ⟨k, nm, o, z⟩ := by
      rw [← ez]
      exact own8 H8 fun _ _ _ e => e
    have hT8 := (hT6.keep k7 hb6).same s8
    have hb8 := hb7.same s8
    have hR8 := hR7.same s8
    have k08 : Keep b H H8 := (k06.trans k7).trans (Keep.of s8)
    refine ⟨_, rfl, _, rfl, _, th_th D hkd hkd hT8 hT8', fun H9 x9 => ⟨_, rfl, ?_⟩⟩
    refine ite2 (fun h => ?_) (fun _ => ?_)
    · rw [decide_eq_true rfl] at h
      cases h
    have hR9 := hR8.same x9
    have hT9 := hT8.same x9
    refine ⟨_, rfl, _, rfl, pR, pN, a, ⟨k, nm, o, u⟩, v, ys, z, rfl, hR9, hO, hz, hT9, fun H10 s10 => ⟨_, rfl, iteF ?_⟩⟩
    have hR10 := hR9.same s10
    have hT10 := hT9.same s10
    have hb10 := (hb8.same x9).same s10
    have k10 : Keep b H H10 := (k08.trans (Keep.of x9)).trans (Keep.of s10)
    refine ⟨4, rfl, by decide, by decide, for_range (lo := 0) (n := 4) (fun i σ H' => ∃ y4 y6 y7, σ = [some (.ref b), some (.ref pR), some x, some (.ref a), y4, some (.ref a2), y6, y7] ∧ Keep b H10 H' ∧ Bx H' b (n + 13 + 4 * (i : Int))) ⟨_, _, _, rfl, (fun _ _ _ e => e), hb10.mono (by omega)⟩ ?_ ?_⟩
    · intro i σ H11 hi h
      obtain ⟨y4, y6, y7, rfl, k11, hb11⟩ := h
      have hR11 := hR10.keep k11 hb10
      have hT11 := hT10.keep k11 hb10
      refine ⟨_, rfl, _, rfl, b, pR, pN, n + 13 + 4 * (i : Int), ⟨k, nm, o, u⟩, v, ys, rfl, by omega, by omega, hb11, hR11, hO, fun p m' v' H12 ok' rw' np k12 hb12 => ?_⟩
      have hT12 := hT11.keep k12 hb11
      have hR12 := hR11.keep k12 hb11
      refine ⟨_, rfl, _, rfl, _, rfl, p, _, 3, v', rfl, rfl, SqL.of rw'.row, atI_nat (j := 3) rfl, p, pN, m', v', v', ys, m'.au, rfl, rw', ok', given_of rw'.aud ok'.au, fun a3 H13 z3 hz3 s13 own13 => ?_⟩
      refine ⟨_, th_th (m' := ⟨m'.kind, m'.name, m'.owner, z3⟩) D hkd ok'.kd (hT12.same s13) (own13 H13 fun _ _ _ e => e), fun H14 x14 => ?_⟩
      have hR14 := (hR12.same s13).same x14
      have rw14 := (rw'.same s13).same x14
      refine ⟨_, rfl, _, rfl, pR, p, pN, pN, ⟨k, nm, o, u⟩, m', v, v', ys, ys, z, z3, rfl, hR14, rw14, hO, ok', hz, hz3, fun H15 s15 => ?_⟩
      refine ⟨rfl, _, rfl, ?_⟩
      refine ite2 (fun h => ?_) (fun _ => ?_)
      · exact (of_decide_eq_false ((Bool.not_eq_true' _).mp h) rfl).elim
      · exact ⟨_, _, _, rfl, (((k11.trans k12).trans (Keep.of s13)).trans (Keep.of x14)).trans (Keep.of s15), (((hb12.same s13).same x14).same s15).mono (by omega)⟩
    · intro σ H11 h
      obtain ⟨y4, y6, y7, rfl, k11, hb11⟩ := h
      have hR11 := hR10.keep k11 hb10
      have hT11 := hT10.keep k11 hb10
      refine ⟨_, rfl, _, rfl, pR, _, 1, .str nm, rfl, rfl, SqL.of hR11.row, atI_nat (j := 1) rfl, false, th_no hkd hT11 (.base (.str nm)) (D.nS _ hkd) (D.kS _ hkd), fun H12 x12 => ⟨_, rfl, iteT ?_⟩⟩
      refine ⟨_, rfl, _, rfl, false, th_no hkd (hT11.same x12) (.base (.lst (x12 _ _ hR11.row))) (D.nL _ hkd) (D.kL _ hkd), fun H13 x13 => ?_⟩
      exact q H13 (((k10.trans k11).trans (Keep.of x12)).trans (Keep.of x13)) (((hb11.same x12).same x13).mono (by omega))
end
end K08
set_option maxHeartbeats 4000000
namespace K08
open PySem PySem.Spec PyProof.Rows L2 RL RE RN RM TL RQ RC RG
/-! ### what stands frozen stays -/
def Fz (H H' : Hp) : Prop := ∀ a o u, H a = some (.frz o u) → H' a = some (.frz o u)
theorem Fz.refl {H : Hp} : Fz H H := fun _ _ _ e => e
theorem Fz.same {H H1 H2 : Hp} (h : Fz H H1) (s : Same H1 H2) : Fz H H2 := fun a o u e => s _ _ (h a o u e)
theorem Fz.keep {H H1 H2 : Hp} {b : Addr} {n : Int} (h : Fz H H1) (k : Keep b H1 H2) (hb : Bx H1 b n) : Fz H H2 := fun a o u e => by
  have e1 := h a o u e
  refine k _ _ (fun z => ?_) e1
  subst z
  obtain ⟨g, m, k, eb, _⟩ := hb
  rw [e1] at eb
  cases eb
theorem Fz.seq {K : PySem.W.Frag} {H H1 : Hp} {a : Addr} {xs : List V} (h : Fz H H1) (ho : Only H) (hs : SqL K H a xs) : SqL K H1 a xs := by
  rcases hs with hs | hs
  · refine .inl ?_
    rcases hs with e | ⟨o, e⟩
    · rcases ho a with n | ⟨o, ys, n⟩
      · rw [n] at e; cases e
      · rw [n] at e; cases e
    · exact .inr ⟨o, h a o _ e⟩
  · exact .inr hs
section
variable {P : Program} {w : World} {K : PySem.W.Frag} {mg : Str → Option Value} {base : Heap} {f : Addr} {fd : FuncData}
def spLaw (K : PySem.W.Frag) : Sp := fun vs H Q _ => ∃ (a : Addr) (ns : List Int), vs = [.ref a] ∧ SqL K H a (ns.map V.int) ∧ ns.length ≤ 63 ∧ Only H ∧ ∀ H', Q (.bl true) H'
theorem ok_law (F : Fun K "law" "law" s_law f fd) (GC : Df P w K mg base CX0 1 "_law_cell" ["_law_script", "_law_k"] (spCell K)) (GB : Df P w K mg base CX0 1 "_law_box" ["_law_cell_here"] spBox) (GR : Df P w K mg base CX0 3 "_law_row" ["_law_box_here"] spRow)
    (GG : DfG P w K mg base CX0 8 "_law_right" ["_law_box_here", "_law_row_here"] spRight)
    (mr : mg "range" = none) (ml : mg "len" = none) (mm : mg "max" = none) (mn : mg "min" = none) :
    FnG P w K mg base CX0 9 f fd ["_law_script"] (spLaw K) := by
  obtain ⟨oc, od, kV, doc, pm, an, cdv, ct, osl, rfl, lk, hcd⟩ := F.ex
  refine FnG.mk' lk hcd sc_law (fun {vs H Q E} h => by obtain ⟨a, ns, rfl, _⟩ := h; rfl) (fun {A fr s H vs Q E} qt hr h => ?_)
  obtain ⟨a, ns, rfl, hS, hl, hO, q⟩ := h
  have hr1 := hr.mono (show 1 ≤ 8 by decide)
  have hr3 := hr.mono (show 3 ≤ 8 by decide)
  refine ⟨_, PSs.nox (pss_cons (ps_for PassesOwn.never rfl (pi_range1 (by rfl) mr (pa_cons (pe_callB (call_max2 rfl) (by rfl) mm PyProof.Rows.boot_max (pa_cons pe_int (pa_cons (pe_callB (call_min2 rfl) (by rfl) mn PyProof.Rows.boot_min (pa_cons pe_int (pa_cons (pe_callB call_len_seq (by rfl) ml PySem.boot_len (pa_cons (pv 0) pa_nil)) pa_nil))) pa_nil))) pa_nil)) (pg_name (i := 1) sc_law.nd rfl (Or.inl rfl))
      (pss_cons (ps_set (i := 2) sc_law.nd rfl (.inl rfl) (pe_df0 GB hr1 (by rfl) (pa_cons (pe_df0 GC hr1 (by rfl) (pa_cons (pv 0) (pa_cons (pv 1) pa_nil))) pa_nil)))
      (pss_one (ps_for PassesOwn.never rfl (pi_range1 (by rfl) mr (pa_cons pe_int pa_nil)) (pg_name (i := 3) sc_law.nd rfl (Or.inl rfl))
        (pss_one (ps_if (pt_not (pt_val (pe_dfG GG qt hr (by rfl) (pa_cons (pv 2) (pa_cons (pe_df0 GR hr3 (by rfl) (pa_cons (pv 2) pa_nil)) pa_nil))))) (pss_one (ps_ret pe_bl)) pss_nil))))))
    (pss_one (ps_ret pe_bl))), ?_⟩
  refine ⟨_, rfl, a, ns.map V.int, rfl, .inl hS, 8, _, rfl, 2, _, rfl, ?_⟩
  obtain ⟨M, eM, m0, m1⟩ : ∃ M : Int, (if (if (((ns.map V.int).length : Nat) : Int) < 8 then (((ns.map V.int).length : Nat) : Int) else 8) > 2 then (if (((ns.map V.int).length : Nat) : Int) < 8 then (((ns.map V.int).length : Nat) : Int) else 8) else 2) = M ∧ 0 ≤ M ∧ M ≤ 8 := ⟨_, rfl, by split <;> (try split) <;> omega, by split <;> (try split) <;> omega⟩
  rw [eM]
  refine ⟨M, rfl, by omega, by omega, for_range (lo := 0) (n := M.toNat) (fun i σ H' => ∃ y1 y2 y3, σ = [some (.ref a), y1, y2, y3] ∧ Fz H H') ⟨_, _, _, rfl, Fz.refl⟩ ?_ ?_⟩
  · intro i σ H1 hi h
    obtain ⟨y1, y2, y3, rfl, fz1⟩ := h
    refine ⟨_, rfl, _, rfl, a, ns, i, by rw [Int.zero_add]; rfl, fz1.seq hO hS, by omega, by omega, fun v => ⟨v, rfl, fun b H2 nb s2 hb2 => ?_⟩⟩
    have fz2 := fz1.same s2
    refine ⟨4, rfl, by decide, by decide, for_range (lo := 0) (n := 4) (fun j σ H' => ∃ y3, σ = [some (.ref a), some (.int (0 + (i : Int))), some (.ref b), y3] ∧ Fz H H' ∧ Bx H' b (80 * (j : Int))) ⟨_, rfl, fz2, hb2.mono (by omega)⟩ ?_ ?_⟩
    · intro j σ H2 hj h
      obtain ⟨y3, rfl, fz2, hb2⟩ := h
      refine ⟨_, rfl, _, rfl, b, 80 * (j : Int), rfl, by omega, by omega, hb2, fun pR pN m v ys H3 hO3 hR3 np k3 hb3 => ?_⟩
      have fz3 := fz2.keep k3 hb2
      refine ⟨b, pR, pN, 80 * (j : Int) + 40, m, v, ys, rfl, by omega, by omega, hb3, hR3, hO3, fun H4 k4 hb4 => ⟨_, rfl, iteF ?_⟩⟩
      exact ⟨_, rfl, fz3.keep k4 hb3, hb4.mono (by omega)⟩
    · intro σ H2 h
      obtain ⟨y3, rfl, fz2, hb2⟩ := h
      exact ⟨_, _, _, rfl, fz2⟩
  · intro σ H1 h
    obtain ⟨y1, y2, y3, rfl, fz1⟩ := h
    exact q H1
end
end K08
set_option maxHeartbeats 16000000
namespace K08
open PySem PySem.Spec PyProof.Rows L2 RL RE RN RM TL RQ RC RG
theorem kt_mk {K : PySem.W.Frag} {a : Addr} {od : Option Addr} {sl : Array (Option Value)} {n : Nat} {z1 z2 : Str} {t1 t2 : Tok} (l : K.lookup a = some ⟨.type "tuple", od, .seq #[.str z1 t1, .str z2 t2] n, sl⟩) : KTup K a [z1, z2] :=
  ⟨_, _, _, l, rfl, rfl, by show 2 ≤ sizeLine; decide, .cons ⟨_, rfl⟩ (.cons ⟨_, rfl⟩ .nil)⟩
theorem kt1_mk {K : PySem.W.Frag} {a : Addr} {od : Option Addr} {sl : Array (Option Value)} {n : Nat} {z1 : Str} {t1 : Tok} (l : K.lookup a = some ⟨.type "tuple", od, .seq #[.str z1 t1] n, sl⟩) : KTup K a [z1] :=
  ⟨_, _, _, l, rfl, rfl, by show 1 ≤ sizeLine; decide, .cons ⟨_, rfl⟩ .nil⟩
theorem kk_mk {K : PySem.W.Frag} {w : World} {d a1 a2 a3 : Addr} {n n1 n2 n3 : Nat} {h1 h2 h3 : Int} {t1 t2 t3 q1 q2 q3 q4 q5 : Tok} {o1 o2 o3 : Option Addr} {s1 s2 s3 : Array (Option Value)}
    (l : K.lookup d = some ⟨.type "dict", none, .dict #[⟨h1, .str tRol t1, .ref a1⟩, ⟨h2, .str tTab t2, .ref a2⟩, ⟨h3, .str tFun t3, .ref a3⟩] n, #[]⟩)
    (k : PySem.W.KeysLit w.params [⟨h1, .str tRol t1, .ref a1⟩, ⟨h2, .str tTab t2, .ref a2⟩, ⟨h3, .str tFun t3, .ref a3⟩]) (lo : (d == sysModules) = false)
    (l1 : K.lookup a1 = some ⟨.type "tuple", o1, .seq #[.str (Str.ofString "inherit") q1, .str (Str.ofString "act") q2] n1, s1⟩)
    (l2 : K.lookup a2 = some ⟨.type "tuple", o2, .seq #[.str (Str.ofString "read") q3, .str (Str.ofString "write") q4] n2, s2⟩)
    (l3 : K.lookup a3 = some ⟨.type "tuple", o3, .seq #[.str (Str.ofString "call") q5] n3, s3⟩) : KKinds K w d := by
  refine ⟨⟨_, n, l, k, lo⟩, fun z hz => ?_⟩
  unfold PySem.W.nsIn
  rw [l]
  show ∃ a, (match List.find? (fun e : DictEntry => e.key.isStr z) [_, _, _] with | some e => some (some e.val) | none => _) = some (some (.ref a)) ∧ _
  have e : ∀ (x : Str) (t : Tok), (Value.str x t).isStr z = (x == z) := fun x t => rfl
  simp only [List.find?_cons, List.find?_nil, e]
  rcases hz with rfl | rfl | rfl
  · exact ⟨a1, rfl, kt_mk l1⟩
  · rw [show (tRol == tTab) = false by decide +kernel]
    exact ⟨a2, rfl, kt_mk l2⟩
  · rw [show (tRol == tFun) = false by decide +kernel, show (tTab == tFun) = false by decide +kernel]
    exact ⟨a3, rfl, kt1_mk l3⟩
theorem df_mk {P : Program} {w : World} {K : PySem.W.Frag} {mg : Str → Option Value} {base : Heap} {CX : CXT} {k : Nat} {x : Str} {ps : List Str} {sp : Sp} {f : Addr} {fd : FuncData} (F : FnOk P w K mg base CX k f fd ps sp) (b : Binds K fd ps []) (kp : PySem.W.keepIn K (.ref f) = true) (g : mg x = some (.ref f)) : Df P w K mg base CX k x ps sp := ⟨f, fd, F, b, kp, g⟩
theorem dfg_mk {P : Program} {w : World} {K : PySem.W.Frag} {mg : Str → Option Value} {base : Heap} {CX : CXT} {k : Nat} {x : Str} {ps : List Str} {sp : Sp} {f : Addr} {fd : FuncData} (F : FnG P w K mg base CX k f fd ps sp) (b : Binds K fd ps []) (kp : PySem.W.keepIn K (.ref f) = true) (g : mg x = some (.ref f)) : DfG P w K mg base CX k x ps sp := ⟨f, fd, F, b, kp, g⟩
abbrev EqF (P : Program) (w : World) (K : PySem.W.Frag) (mg : Str → Option Value) (base : Heap) (C : Addr) (R : Addr → V → Hp → Bool → Prop) : Prop :=
  ∃ (f : Addr) (fd : FuncData), FnOk P w K mg base CX0 3 f fd ["self", "other"] (spEqB R) ∧ PySem.W.findIn K (.ref C) "__eq__" = some (some (.ref f)) ∧ PySem.W.isFn K (.ref f) = true ∧ Binds K fd ["self", "other"] []
theorem eqok_mk {P : Program} {w : World} {K : PySem.W.Frag} {mg : Str → Option Value} {base : Heap} {r b f : Addr} (t1 : TyC K r) (t2 : TyC K b) (t3 : TyC K f)
    (e1 : EqF P w K mg base r (RT K r)) (e2 : EqF P w K mg base b (RT K b)) (e3 : EqF P w K mg base f (RF K f))
    (ner : PySem.W.findIn K (.ref r) "__ne__" = some (some (.builtin "object.__ne__")))
    (neb : PySem.W.findIn K (.ref b) "__ne__" = some (some (.builtin "object.__ne__")))
    (nef : PySem.W.findIn K (.ref f) "__ne__" = some (some (.builtin "object.__ne__")))
    (nfrr : PySem.W.notFirst K r (.ref r) = true)
    (nfrb : PySem.W.notFirst K r (.ref b) = true)
    (nfrf : PySem.W.notFirst K r (.ref f) = true)
    (nfbr : PySem.W.notFirst K b (.ref r) = true)
    (nfbb : PySem.W.notFirst K b (.ref b) = true)
    (nfbf : PySem.W.notFirst K b (.ref f) = true)
    (nffr : PySem.W.notFirst K f (.ref r) = true)
    (nffb : PySem.W.notFirst K f (.ref b) = true)
    (nfff : PySem.W.notFirst K f (.ref f) = true)
    (orr : PySem.W.kitOne K (.ref r) (.ref r) = some true)
    (orb : PySem.W.kitOne K (.ref b) (.ref r) = some false)
    (orf : PySem.W.kitOne K (.ref f) (.ref r) = some false)
    (obr : PySem.W.kitOne K (.ref r) (.ref b) = some false)
    (obb : PySem.W.kitOne K (.ref b) (.ref b) = some true)
    (obf : PySem.W.kitOne K (.ref f) (.ref b) = some false)
    (ofr : PySem.W.kitOne K (.ref r) (.ref f) = some false)
    (ofb : PySem.W.kitOne K (.ref b) (.ref f) = some false)
    (off : PySem.W.kitOne K (.ref f) (.ref f) = some true)
    (nSr : PySem.W.notFirst K r (.type "str") = true)
    (nSb : PySem.W.notFirst K b (.type "str") = true)
    (nSf : PySem.W.notFirst K f (.type "str") = true)
    (nLr : PySem.W.notFirst K r (.type "list") = true)
    (nLb : PySem.W.notFirst K b (.type "list") = true)
    (nLf : PySem.W.notFirst K f (.type "list") = true)
    (kSr : PySem.W.kitOne K (.type "str") (.ref r) = some false)
    (kSb : PySem.W.kitOne K (.type "str") (.ref b) = some false)
    (kSf : PySem.W.kitOne K (.type "str") (.ref f) = some false)
    (kLr : PySem.W.kitOne K (.type "list") (.ref r) = some false)
    (kLb : PySem.W.kitOne K (.type "list") (.ref b) = some false)
    (kLf : PySem.W.kitOne K (.type "list") (.ref f) = some false)
    : EqOk P w K mg base ⟨r, b, f⟩ := by
  have c1 : clsK ⟨r, b, f⟩ tRol = r := cls_rol _
  have c2 : clsK ⟨r, b, f⟩ tTab = b := cls_tab _
  have c3 : clsK ⟨r, b, f⟩ tFun = f := cls_fun _
  have r1 : RK K ⟨r, b, f⟩ tRol = RT K r := by
    funext a y H k
    unfold RK
    rw [if_neg (fun z => fun_ne z.symm), c1]
  have r2 : RK K ⟨r, b, f⟩ tTab = RT K b := by
    funext a y H k
    unfold RK
    rw [if_neg (fun z => fun_ne2 z.symm), c2]
  have r3 : RK K ⟨r, b, f⟩ tFun = RF K f := by
    funext a y H k
    unfold RK
    rw [if_pos rfl, c3]
  refine ⟨fun k h => ?_, fun k h => ?_, fun k h => ?_, fun k k' h h' => ?_, fun k k' h h' => ?_, fun k h => ?_, fun k h => ?_, fun k h => ?_, fun k h => ?_⟩
  · rcases h with rfl | rfl | rfl
    · rw [c1]; exact t1
    · rw [c2]; exact t2
    · rw [c3]; exact t3
  · rcases h with rfl | rfl | rfl
    · rw [r1, c1]; exact e1
    · rw [r2, c2]; exact e2
    · rw [r3, c3]; exact e3
  · rcases h with rfl | rfl | rfl
    · rw [c1]; exact ner
    · rw [c2]; exact neb
    · rw [c3]; exact nef
  · rcases h with rfl | rfl | rfl <;> rcases h' with rfl | rfl | rfl
    · rw [c1]; exact nfrr
    · rw [c1, c2]; exact nfrb
    · rw [c1, c3]; exact nfrf
    · rw [c2, c1]; exact nfbr
    · rw [c2]; exact nfbb
    · rw [c2, c3]; exact nfbf
    · rw [c3, c1]; exact nffr
    · rw [c3, c2]; exact nffb
    · rw [c3]; exact nfff
  · rcases h with rfl | rfl | rfl <;> rcases h' with rfl | rfl | rfl
    · rw [c1, show decide (tRol = tRol) = true by decide +kernel]; exact orr
    · rw [c1, c2, show decide (tTab = tRol) = false by decide +kernel]; exact orb
    · rw [c1, c3, show decide (tFun = tRol) = false by decide +kernel]; exact orf
    · rw [c2, c1, show decide (tRol = tTab) = false by decide +kernel]; exact obr
    · rw [c2, show decide (tTab = tTab) = true by decide +kernel]; exact obb
    · rw [c2, c3, show decide (tFun = tTab) = false by decide +kernel]; exact obf
    · rw [c3, c1, show decide (tRol = tFun) = false by decide +kernel]; exact ofr
    · rw [c3, c2, show decide (tTab = tFun) = false by decide +kernel]; exact ofb
    · rw [c3, show decide (tFun = tFun) = true by decide +kernel]; exact off
  · rcases h with rfl | rfl | rfl
    · rw [c1]; exact nSr
    · rw [c2]; exact nSb
    · rw [c3]; exact nSf
  · rcases h with rfl | rfl | rfl
    · rw [c1]; exact nLr
    · rw [c2]; exact nLb
    · rw [c3]; exact nLf
  · rcases h with rfl | rfl | rfl
    · rw [c1]; exact kSr
    · rw [c2]; exact kSb
    · rw [c3]; exact kSf
  · rcases h with rfl | rfl | rfl
    · rw [c1]; exact kLr
    · rw [c2]; exact kLb
    · rw [c3]; exact kLf
theorem all_mk {l : PySem.W.OpenLaw} {w : World} {K : PySem.W.Frag} {h : Heap} {mg : Str → Option Value} {fa : Addr} (X : K.In h) (G : h.Ns mainGlobals mg) (hfa : mg "law" = some (.ref fa))
    {oc0 dc0 pm0 cd0 ct0 : Value} {od0 an0 : Option Addr} {sl0 : Array (Option Value)} {f0 : Addr} {kV0 : Value}
    {oc1 dc1 pm1 cd1 ct1 : Value} {od1 an1 : Option Addr} {sl1 : Array (Option Value)} {f1 : Addr} {kV1 : Value}
    {oc2 dc2 pm2 cd2 ct2 : Value} {od2 an2 : Option Addr} {sl2 : Array (Option Value)} {f2 : Addr} {kV2 : Value}
    {oc3 dc3 pm3 cd3 ct3 : Value} {od3 an3 : Option Addr} {sl3 : Array (Option Value)} {f3 : Addr} {kV3 : Value}
    {oc4 dc4 pm4 cd4 ct4 : Value} {od4 an4 : Option Addr} {sl4 : Array (Option Value)} {f4 : Addr} {kV4 : Value}
    {oc5 dc5 pm5 cd5 ct5 : Value} {od5 an5 : Option Addr} {sl5 : Array (Option Value)} {f5 : Addr} {kV5 : Value}
    {oc6 dc6 pm6 cd6 ct6 : Value} {od6 an6 : Option Addr} {sl6 : Array (Option Value)} {f6 : Addr} {kV6 : Value}
    {oc7 dc7 pm7 cd7 ct7 : Value} {od7 an7 : Option Addr} {sl7 : Array (Option Value)} {f7 : Addr} {kV7 : Value}
    {oc8 dc8 pm8 cd8 ct8 : Value} {od8 an8 : Option Addr} {sl8 : Array (Option Value)} {f8 : Addr} {kV8 : Value}
    {oc9 dc9 pm9 cd9 ct9 : Value} {od9 an9 : Option Addr} {sl9 : Array (Option Value)} {f9 : Addr} {kV9 : Value}
    {oc10 dc10 pm10 cd10 ct10 : Value} {od10 an10 : Option Addr} {sl10 : Array (Option Value)} {f10 : Addr} {kV10 : Value}
    {oc11 dc11 pm11 cd11 ct11 : Value} {od11 an11 : Option Addr} {sl11 : Array (Option Value)} {f11 : Addr} {kV11 : Value}
    {oc12 dc12 pm12 cd12 ct12 : Value} {od12 an12 : Option Addr} {sl12 : Array (Option Value)} {f12 : Addr} {kV12 : Value}
    {oc13 dc13 pm13 cd13 ct13 : Value} {od13 an13 : Option Addr} {sl13 : Array (Option Value)} {f13 : Addr} {kV13 : Value}
    {oc14 dc14 pm14 cd14 ct14 : Value} {od14 an14 : Option Addr} {sl14 : Array (Option Value)} {f14 : Addr} {kV14 : Value}
    {oc15 dc15 pm15 cd15 ct15 : Value} {od15 an15 : Option Addr} {sl15 : Array (Option Value)} {f15 : Addr} {kV15 : Value}
    {oc16 dc16 pm16 cd16 ct16 : Value} {od16 an16 : Option Addr} {sl16 : Array (Option Value)} {f16 : Addr} {kV16 : Value}
    {oc17 dc17 pm17 cd17 ct17 : Value} {od17 an17 : Option Addr} {sl17 : Array (Option Value)} {f17 : Addr} {kV17 : Value}
    {oc18 dc18 pm18 cd18 ct18 : Value} {od18 an18 : Option Addr} {sl18 : Array (Option Value)} {f18 : Addr} {kV18 : Value}
    {oc19 dc19 pm19 cd19 ct19 : Value} {od19 an19 : Option Addr} {sl19 : Array (Option Value)} {f19 : Addr} {kV19 : Value}
    {oc20 dc20 pm20 cd20 ct20 : Value} {od20 an20 : Option Addr} {sl20 : Array (Option Value)} {f20 : Addr} {kV20 : Value}
    {oc21 dc21 pm21 cd21 ct21 : Value} {od21 an21 : Option Addr} {sl21 : Array (Option Value)} {f21 : Addr} {kV21 : Value}
    {oc22 dc22 pm22 cd22 ct22 : Value} {od22 an22 : Option Addr} {sl22 : Array (Option Value)} {f22 : Addr} {kV22 : Value}
    {CThing CRole CTable CFunction cGv cCl : Addr} {kDR kDB kDF aTup : Addr} {tO : Tok}
    {ocTI dcTI pmTI cdTI ctTI : Value} {odTI anTI : Option Addr} {slTI : Array (Option Value)} {fTI : Addr} {kVTI : Value}
    {ocTH dcTH pmTH cdTH ctTH : Value} {odTH anTH : Option Addr} {slTH : Array (Option Value)} {fTH : Addr} {kVTH : Value}
    {pAu : Addr} {restAu : List Value}
    {ocTA dcTA pmTA cdTA ctTA : Value} {odTA anTA : Option Addr} {slTA : Array (Option Value)} {fTA : Addr} {kVTA : Value}
    {ocTR dcTR pmTR cdTR ctTR : Value} {odTR anTR : Option Addr} {slTR : Array (Option Value)} {fTR : Addr} {kVTR : Value}
    {ocTD dcTD pmTD cdTD ctTD : Value} {odTD anTD : Option Addr} {slTD : Array (Option Value)} {fTD : Addr} {kVTD : Value}
    {ocRI dcRI pmRI cdRI ctRI : Value} {odRI anRI : Option Addr} {slRI : Array (Option Value)} {fRI : Addr}
    {ocRE dcRE pmRE cdRE ctRE : Value} {odRE anRE : Option Addr} {slRE : Array (Option Value)} {fRE : Addr} {kVRE : Value}
    {ocBI dcBI pmBI cdBI ctBI : Value} {odBI anBI : Option Addr} {slBI : Array (Option Value)} {fBI : Addr}
    {ocBE dcBE pmBE cdBE ctBE : Value} {odBE anBE : Option Addr} {slBE : Array (Option Value)} {fBE : Addr} {kVBE : Value}
    {ocFI dcFI pmFI cdFI ctFI : Value} {odFI anFI : Option Addr} {slFI : Array (Option Value)} {fFI : Addr}
    {ocFE dcFE pmFE cdFE ctFE : Value} {odFE anFE : Option Addr} {slFE : Array (Option Value)} {fFE : Addr} {kVFE : Value}
    {ocRU kVRU dcRU pmRU ctRU : Value} {odRU anRU : Option Addr} {slRU : Array (Option Value)} {fRU ccRU caRU : Addr}
    {cclRU : Value} {cddRU : Option Addr} {vsRU : Array Value} {ccsRU : Array (Option Value)} {fileRU : Str} {tfRU : Tok} {clRU : Value} {cldRU : Option Addr} {cslRU : Array (Option Value)}
    {ocRV kVRV dcRV pmRV ctRV : Value} {odRV anRV : Option Addr} {slRV : Array (Option Value)} {fRV ccRV caRV : Addr}
    {cclRV : Value} {cddRV : Option Addr} {vsRV : Array Value} {ccsRV : Array (Option Value)} {fileRV : Str} {tfRV : Tok} {clRV : Value} {cldRV : Option Addr} {cslRV : Array (Option Value)}
    {ocBU kVBU dcBU pmBU ctBU : Value} {odBU anBU : Option Addr} {slBU : Array (Option Value)} {fBU ccBU caBU : Addr}
    {cclBU : Value} {cddBU : Option Addr} {vsBU : Array Value} {ccsBU : Array (Option Value)} {fileBU : Str} {tfBU : Tok} {clBU : Value} {cldBU : Option Addr} {cslBU : Array (Option Value)}
    {ocBV kVBV dcBV pmBV ctBV : Value} {odBV anBV : Option Addr} {slBV : Array (Option Value)} {fBV ccBV caBV : Addr}
    {cclBV : Value} {cddBV : Option Addr} {vsBV : Array Value} {ccsBV : Array (Option Value)} {fileBV : Str} {tfBV : Tok} {clBV : Value} {cldBV : Option Addr} {cslBV : Array (Option Value)}
    {ocFU kVFU dcFU pmFU ctFU : Value} {odFU anFU : Option Addr} {slFU : Array (Option Value)} {fFU ccFU caFU : Addr}
    {cclFU : Value} {cddFU : Option Addr} {vsFU : Array Value} {ccsFU : Array (Option Value)} {fileFU : Str} {tfFU : Tok} {clFU : Value} {cldFU : Option Addr} {cslFU : Array (Option Value)}
    {ocFV kVFV dcFV pmFV ctFV : Value} {odFV anFV : Option Addr} {slFV : Array (Option Value)} {fFV ccFV caFV : Addr}
    {cclFV : Value} {cddFV : Option Addr} {vsFV : Array Value} {ccsFV : Array (Option Value)} {fileFV : Str} {tfFV : Tok} {clFV : Value} {cldFV : Option Addr} {cslFV : Array (Option Value)}
    {cd_R : ClassData}
    {cd_B : ClassData}
    {cd_F : ClassData}
    {oyT : Option Addr} {syT : Array (Option Value)} {nnT : Nat}
    {tL tB tA t1 t2 t3 t4 : Tok} {aRs aMs dK : Addr} {oy1 oy2 : Option Addr} {sy1 sy2 : Array (Option Value)} {nn1 nn2 nnK : Nat} {h1 h2 h3 : Int} {ta tb tc q1 q2 q3 q4 q5 : Tok} {aK1 aK2 aK3 : Addr} {ok1 ok2 ok3 : Option Addr} {sk1 sk2 sk3 : Array (Option Value)} {nk1 nk2 nk3 : Nat}
    (a0 : PySem.W.nsIn K mainGlobals "is_name" = some (some (.ref f0)))
    (l0 : K.lookup f0 = some ⟨oc0, od0, .func (PySem.W.fnOf "is_name" "is_name" (defArgs s_is_name) (defBody s_is_name) (defScope s_is_name) .none kV0 dc0 pm0 an0 cd0 ct0), sl0⟩)
    (c0 : PySem.W.codeIn K cd0 "is_name" = true)
    (k0 : PySem.W.keepIn K (.ref f0) = true)
    (a1 : PySem.W.nsIn K mainGlobals "is_taker" = some (some (.ref f1)))
    (l1 : K.lookup f1 = some ⟨oc1, od1, .func (PySem.W.fnOf "is_taker" "is_taker" (defArgs s_is_taker) (defBody s_is_taker) (defScope s_is_taker) .none kV1 dc1 pm1 an1 cd1 ct1), sl1⟩)
    (c1 : PySem.W.codeIn K cd1 "is_taker" = true)
    (k1 : PySem.W.keepIn K (.ref f1) = true)
    (a2 : PySem.W.nsIn K mainGlobals "is_list" = some (some (.ref f2)))
    (l2 : K.lookup f2 = some ⟨oc2, od2, .func (PySem.W.fnOf "is_list" "is_list" (defArgs s_is_list) (defBody s_is_list) (defScope s_is_list) .none kV2 dc2 pm2 an2 cd2 ct2), sl2⟩)
    (c2 : PySem.W.codeIn K cd2 "is_list" = true)
    (k2 : PySem.W.keepIn K (.ref f2) = true)
    (a3 : PySem.W.nsIn K mainGlobals "is_names" = some (some (.ref f3)))
    (l3 : K.lookup f3 = some ⟨oc3, od3, .func (PySem.W.fnOf "is_names" "is_names" (defArgs s_is_names) (defBody s_is_names) (defScope s_is_names) .none kV3 dc3 pm3 an3 cd3 ct3), sl3⟩)
    (c3 : PySem.W.codeIn K cd3 "is_names" = true)
    (k3 : PySem.W.keepIn K (.ref f3) = true)
    (a4 : PySem.W.nsIn K mainGlobals "check_name" = some (some (.ref f4)))
    (l4 : K.lookup f4 = some ⟨oc4, od4, .func (PySem.W.fnOf "check_name" "check_name" (defArgs s_check_name) (defBody s_check_name) (defScope s_check_name) .none kV4 dc4 pm4 an4 cd4 ct4), sl4⟩)
    (c4 : PySem.W.codeIn K cd4 "check_name" = true)
    (k4 : PySem.W.keepIn K (.ref f4) = true)
    (a5 : PySem.W.nsIn K mainGlobals "check_taker" = some (some (.ref f5)))
    (l5 : K.lookup f5 = some ⟨oc5, od5, .func (PySem.W.fnOf "check_taker" "check_taker" (defArgs s_check_taker) (defBody s_check_taker) (defScope s_check_taker) .none kV5 dc5 pm5 an5 cd5 ct5), sl5⟩)
    (c5 : PySem.W.codeIn K cd5 "check_taker" = true)
    (k5 : PySem.W.keepIn K (.ref f5) = true)
    (a6 : PySem.W.nsIn K mainGlobals "is_kind" = some (some (.ref f6)))
    (l6 : K.lookup f6 = some ⟨oc6, od6, .func (PySem.W.fnOf "is_kind" "is_kind" (defArgs s_is_kind) (defBody s_is_kind) (defScope s_is_kind) .none kV6 dc6 pm6 an6 cd6 ct6), sl6⟩)
    (c6 : PySem.W.codeIn K cd6 "is_kind" = true)
    (k6 : PySem.W.keepIn K (.ref f6) = true)
    (a7 : PySem.W.nsIn K mainGlobals "rights_of" = some (some (.ref f7)))
    (l7 : K.lookup f7 = some ⟨oc7, od7, .func (PySem.W.fnOf "rights_of" "rights_of" (defArgs s_rights_of) (defBody s_rights_of) (defScope s_rights_of) .none kV7 dc7 pm7 an7 cd7 ct7), sl7⟩)
    (c7 : PySem.W.codeIn K cd7 "rights_of" = true)
    (k7 : PySem.W.keepIn K (.ref f7) = true)
    (a8 : PySem.W.nsIn K mainGlobals "is_body" = some (some (.ref f8)))
    (l8 : K.lookup f8 = some ⟨oc8, od8, .func (PySem.W.fnOf "is_body" "is_body" (defArgs s_is_body) (defBody s_is_body) (defScope s_is_body) .none kV8 dc8 pm8 an8 cd8 ct8), sl8⟩)
    (c8 : PySem.W.codeIn K cd8 "is_body" = true)
    (k8 : PySem.W.keepIn K (.ref f8) = true)
    (a9 : PySem.W.nsIn K mainGlobals "_law_cell" = some (some (.ref f9)))
    (l9 : K.lookup f9 = some ⟨oc9, od9, .func (PySem.W.fnOf "_law_cell" "_law_cell" (defArgs s__law_cell) (defBody s__law_cell) (defScope s__law_cell) .none kV9 dc9 pm9 an9 cd9 ct9), sl9⟩)
    (c9 : PySem.W.codeIn K cd9 "_law_cell" = true)
    (k9 : PySem.W.keepIn K (.ref f9) = true)
    (a10 : PySem.W.nsIn K mainGlobals "_law_box" = some (some (.ref f10)))
    (l10 : K.lookup f10 = some ⟨oc10, od10, .func (PySem.W.fnOf "_law_box" "_law_box" (defArgs s__law_box) (defBody s__law_box) (defScope s__law_box) .none kV10 dc10 pm10 an10 cd10 ct10), sl10⟩)
    (c10 : PySem.W.codeIn K cd10 "_law_box" = true)
    (k10 : PySem.W.keepIn K (.ref f10) = true)
    (a11 : PySem.W.nsIn K mainGlobals "_law_take" = some (some (.ref f11)))
    (l11 : K.lookup f11 = some ⟨oc11, od11, .func (PySem.W.fnOf "_law_take" "_law_take" (defArgs s__law_take) (defBody s__law_take) (defScope s__law_take) .none kV11 dc11 pm11 an11 cd11 ct11), sl11⟩)
    (c11 : PySem.W.codeIn K cd11 "_law_take" = true)
    (k11 : PySem.W.keepIn K (.ref f11) = true)
    (a12 : PySem.W.nsIn K mainGlobals "_law_names" = some (some (.ref f12)))
    (l12 : K.lookup f12 = some ⟨oc12, od12, .func (PySem.W.fnOf "_law_names" "_law_names" (defArgs s__law_names) (defBody s__law_names) (defScope s__law_names) .none kV12 dc12 pm12 an12 cd12 ct12), sl12⟩)
    (c12 : PySem.W.codeIn K cd12 "_law_names" = true)
    (k12 : PySem.W.keepIn K (.ref f12) = true)
    (a13 : PySem.W.nsIn K mainGlobals "_law_mixed" = some (some (.ref f13)))
    (l13 : K.lookup f13 = some ⟨oc13, od13, .func (PySem.W.fnOf "_law_mixed" "_law_mixed" (defArgs s__law_mixed) (defBody s__law_mixed) (defScope s__law_mixed) .none kV13 dc13 pm13 an13 cd13 ct13), sl13⟩)
    (c13 : PySem.W.codeIn K cd13 "_law_mixed" = true)
    (k13 : PySem.W.keepIn K (.ref f13) = true)
    (a14 : PySem.W.nsIn K mainGlobals "_law_rights" = some (some (.ref f14)))
    (l14 : K.lookup f14 = some ⟨oc14, od14, .func (PySem.W.fnOf "_law_rights" "_law_rights" (defArgs s__law_rights) (defBody s__law_rights) (defScope s__law_rights) .none kV14 dc14 pm14 an14 cd14 ct14), sl14⟩)
    (c14 : PySem.W.codeIn K cd14 "_law_rights" = true)
    (k14 : PySem.W.keepIn K (.ref f14) = true)
    (a15 : PySem.W.nsIn K mainGlobals "_law_made" = some (some (.ref f15)))
    (l15 : K.lookup f15 = some ⟨oc15, od15, .func (PySem.W.fnOf "_law_made" "_law_made" (defArgs s__law_made) (defBody s__law_made) (defScope s__law_made) .none kV15 dc15 pm15 an15 cd15 ct15), sl15⟩)
    (c15 : PySem.W.codeIn K cd15 "_law_made" = true)
    (k15 : PySem.W.keepIn K (.ref f15) = true)
    (a16 : PySem.W.nsIn K mainGlobals "_law_row" = some (some (.ref f16)))
    (l16 : K.lookup f16 = some ⟨oc16, od16, .func (PySem.W.fnOf "_law_row" "_law_row" (defArgs s__law_row) (defBody s__law_row) (defScope s__law_row) .none kV16 dc16 pm16 an16 cd16 ct16), sl16⟩)
    (c16 : PySem.W.codeIn K cd16 "_law_row" = true)
    (k16 : PySem.W.keepIn K (.ref f16) = true)
    (a17 : PySem.W.nsIn K mainGlobals "_law_lets" = some (some (.ref f17)))
    (l17 : K.lookup f17 = some ⟨oc17, od17, .func (PySem.W.fnOf "_law_lets" "_law_lets" (defArgs s__law_lets) (defBody s__law_lets) (defScope s__law_lets) .none kV17 dc17 pm17 an17 cd17 ct17), sl17⟩)
    (c17 : PySem.W.codeIn K cd17 "_law_lets" = true)
    (k17 : PySem.W.keepIn K (.ref f17) = true)
    (a18 : PySem.W.nsIn K mainGlobals "_law_told_right" = some (some (.ref f18)))
    (l18 : K.lookup f18 = some ⟨oc18, od18, .func (PySem.W.fnOf "_law_told_right" "_law_told_right" (defArgs s__law_told_right) (defBody s__law_told_right) (defScope s__law_told_right) .none kV18 dc18 pm18 an18 cd18 ct18), sl18⟩)
    (c18 : PySem.W.codeIn K cd18 "_law_told_right" = true)
    (k18 : PySem.W.keepIn K (.ref f18) = true)
    (a19 : PySem.W.nsIn K mainGlobals "_law_otherwise" = some (some (.ref f19)))
    (l19 : K.lookup f19 = some ⟨oc19, od19, .func (PySem.W.fnOf "_law_otherwise" "_law_otherwise" (defArgs s__law_otherwise) (defBody s__law_otherwise) (defScope s__law_otherwise) .none kV19 dc19 pm19 an19 cd19 ct19), sl19⟩)
    (c19 : PySem.W.codeIn K cd19 "_law_otherwise" = true)
    (k19 : PySem.W.keepIn K (.ref f19) = true)
    (a20 : PySem.W.nsIn K mainGlobals "_law_like" = some (some (.ref f20)))
    (l20 : K.lookup f20 = some ⟨oc20, od20, .func (PySem.W.fnOf "_law_like" "_law_like" (defArgs s__law_like) (defBody s__law_like) (defScope s__law_like) .none kV20 dc20 pm20 an20 cd20 ct20), sl20⟩)
    (c20 : PySem.W.codeIn K cd20 "_law_like" = true)
    (k20 : PySem.W.keepIn K (.ref f20) = true)
    (a21 : PySem.W.nsIn K mainGlobals "_law_right" = some (some (.ref f21)))
    (l21 : K.lookup f21 = some ⟨oc21, od21, .func (PySem.W.fnOf "_law_right" "_law_right" (defArgs s__law_right) (defBody s__law_right) (defScope s__law_right) .none kV21 dc21 pm21 an21 cd21 ct21), sl21⟩)
    (c21 : PySem.W.codeIn K cd21 "_law_right" = true)
    (k21 : PySem.W.keepIn K (.ref f21) = true)
    (a22 : PySem.W.nsIn K mainGlobals "law" = some (some (.ref f22)))
    (l22 : K.lookup f22 = some ⟨oc22, od22, .func (PySem.W.fnOf "law" "law" (defArgs s_law) (defBody s_law) (defScope s_law) .none kV22 dc22 pm22 an22 cd22 ct22), sl22⟩)
    (c22 : PySem.W.codeIn K cd22 "law" = true)
    (k22 : PySem.W.keepIn K (.ref f22) = true)
    (aThing : PySem.W.nsIn K mainGlobals "Thing" = some (some (.ref CThing)))
    (aRole : PySem.W.nsIn K mainGlobals "Role" = some (some (.ref CRole)))
    (aTable : PySem.W.nsIn K mainGlobals "Table" = some (some (.ref CTable)))
    (aFunction : PySem.W.nsIn K mainGlobals "Function" = some (some (.ref CFunction)))
    (aGv : PySem.W.nsIn K mainGlobals "Give" = some (some (.ref cGv)))
    (aCl : PySem.W.nsIn K mainGlobals "Call" = some (some (.ref cCl)))
    (rdT : PySem.W.readsIn K CThing (.type "type") = true)
    (gaT : PySem.W.specialIn K (.ref CThing) "__getattribute__" = some (some (.builtin "type.__getattribute__")))
    (inT : PySem.W.findCls K (.ref CThing) (.type "type") "__init__" = some (.val (.ref fTI)))
    (lTI : K.lookup fTI = some ⟨ocTI, odTI, .func (PySem.W.fnOf "__init__" "Thing.__init__" (defArgs s_Thing_init) (defBody s_Thing_init) (defScope s_Thing_init) .none kVTI dcTI pmTI anTI cdTI ctTI), slTI⟩)
    (cTI : PySem.W.codeIn K cdTI "Thing.__init__" = true)
    (kTI : PySem.W.keepIn K (.ref fTI) = true)
    (iTHR : PySem.W.findIn K (.ref CRole) "same_head" = some (some (.ref fTH)))
    (iTHB : PySem.W.findIn K (.ref CTable) "same_head" = some (some (.ref fTH)))
    (iTHF : PySem.W.findIn K (.ref CFunction) "same_head" = some (some (.ref fTH)))
    (fnTH : PySem.W.isFn K (.ref fTH) = true)
    (lTH : K.lookup fTH = some ⟨ocTH, odTH, .func (PySem.W.fnOf "same_head" "Thing.same_head" (defArgs s_Thing_same_head) (defBody s_Thing_same_head) (defScope s_Thing_same_head) .none kVTH dcTH pmTH anTH cdTH ctTH), slTH⟩)
    (cTH : PySem.W.codeIn K cdTH "Thing.same_head" = true)
    (kTH : PySem.W.keepIn K (.ref fTH) = true)
    (iAuR : PySem.W.findIn K (.ref CRole) "audience" = some (some (.ref pAu)))
    (iAuB : PySem.W.findIn K (.ref CTable) "audience" = some (some (.ref pAu)))
    (iAuF : PySem.W.findIn K (.ref CFunction) "audience" = some (some (.ref pAu)))
    (gAu : PySem.W.specialIn K (.ref pAu) "__get__" = some (some (.builtin "property.__get__")))
    (tAu : PySem.W.takesIn K (.ref pAu) = some true)
    (rAu : PySem.W.recIn K pAu "property" = some (.ref fTA :: restAu))
    (lTA : K.lookup fTA = some ⟨ocTA, odTA, .func (PySem.W.fnOf "audience" "Thing.audience" (defArgs s_Thing_audience) (defBody s_Thing_audience) (defScope s_Thing_audience) .none kVTA dcTA pmTA anTA cdTA ctTA), slTA⟩)
    (cTA : PySem.W.codeIn K cdTA "Thing.audience" = true)
    (kTA : PySem.W.keepIn K (.ref fTA) = true)
    (uRR : PySem.W.ks_superIn K CRole CRole "rights" = some (some (.ref fTR)))
    (uRB : PySem.W.ks_superIn K CTable CTable "rights" = some (some (.ref fTR)))
    (uRF : PySem.W.ks_superIn K CFunction CFunction "rights" = some (some (.ref fTR)))
    (fiTR : PySem.W.fnIn K fTR = true)
    (tyTR : PySem.W.typeIn K (.ref fTR) = some (.type "function"))
    (lTR : K.lookup fTR = some ⟨ocTR, odTR, .func (PySem.W.fnOf "rights" "Thing.rights" (defArgs s_Thing_rights) (defBody s_Thing_rights) (defScope s_Thing_rights) .none kVTR dcTR pmTR anTR cdTR ctTR), slTR⟩)
    (cTR : PySem.W.codeIn K cdTR "Thing.rights" = true)
    (kTR : PySem.W.keepIn K (.ref fTR) = true)
    (uAR : PySem.W.ks_superIn K CRole CRole "admits" = some (some (.ref fTD)))
    (uAB : PySem.W.ks_superIn K CTable CTable "admits" = some (some (.ref fTD)))
    (uAF : PySem.W.ks_superIn K CFunction CFunction "admits" = some (some (.ref fTD)))
    (fiTD : PySem.W.fnIn K fTD = true)
    (tyTD : PySem.W.typeIn K (.ref fTD) = some (.type "function"))
    (lTD : K.lookup fTD = some ⟨ocTD, odTD, .func (PySem.W.fnOf "admits" "Thing.admits" (defArgs s_Thing_admits) (defBody s_Thing_admits) (defScope s_Thing_admits) .none kVTD dcTD pmTD anTD cdTD ctTD), slTD⟩)
    (cTD : PySem.W.codeIn K cdTD "Thing.admits" = true)
    (kTD : PySem.W.keepIn K (.ref fTD) = true)
    (iRI : PySem.W.findIn K (.ref CRole) "__init__" = some (some (.ref fRI)))
    (fnRI : PySem.W.isFn K (.ref fRI) = true)
    (lRI : K.lookup fRI = some ⟨ocRI, odRI, .func (PySem.W.fnOf "__init__" "Role.__init__" (defArgs s_Role_init) (defBody s_Role_init) (defScope s_Role_init) .none (.ref kDR) dcRI pmRI anRI cdRI ctRI), slRI⟩)
    (cRI : PySem.W.codeIn K cdRI "Role.__init__" = true)
    (kRI : PySem.W.keepIn K (.ref fRI) = true)
    (iRE : PySem.W.findIn K (.ref CRole) "__eq__" = some (some (.ref fRE)))
    (fnRE : PySem.W.isFn K (.ref fRE) = true)
    (lRE : K.lookup fRE = some ⟨ocRE, odRE, .func (PySem.W.fnOf "__eq__" "Role.__eq__" (defArgs s_Role_eq) (defBody s_Role_eq) (defScope s_Role_eq) .none kVRE dcRE pmRE anRE cdRE ctRE), slRE⟩)
    (cRE : PySem.W.codeIn K cdRE "Role.__eq__" = true)
    (kRE : PySem.W.keepIn K (.ref fRE) = true)
    (iBI : PySem.W.findIn K (.ref CTable) "__init__" = some (some (.ref fBI)))
    (fnBI : PySem.W.isFn K (.ref fBI) = true)
    (lBI : K.lookup fBI = some ⟨ocBI, odBI, .func (PySem.W.fnOf "__init__" "Table.__init__" (defArgs s_Table_init) (defBody s_Table_init) (defScope s_Table_init) .none (.ref kDB) dcBI pmBI anBI cdBI ctBI), slBI⟩)
    (cBI : PySem.W.codeIn K cdBI "Table.__init__" = true)
    (kBI : PySem.W.keepIn K (.ref fBI) = true)
    (iBE : PySem.W.findIn K (.ref CTable) "__eq__" = some (some (.ref fBE)))
    (fnBE : PySem.W.isFn K (.ref fBE) = true)
    (lBE : K.lookup fBE = some ⟨ocBE, odBE, .func (PySem.W.fnOf "__eq__" "Table.__eq__" (defArgs s_Table_eq) (defBody s_Table_eq) (defScope s_Table_eq) .none kVBE dcBE pmBE anBE cdBE ctBE), slBE⟩)
    (cBE : PySem.W.codeIn K cdBE "Table.__eq__" = true)
    (kBE : PySem.W.keepIn K (.ref fBE) = true)
    (iFI : PySem.W.findIn K (.ref CFunction) "__init__" = some (some (.ref fFI)))
    (fnFI : PySem.W.isFn K (.ref fFI) = true)
    (lFI : K.lookup fFI = some ⟨ocFI, odFI, .func (PySem.W.fnOf "__init__" "Function.__init__" (defArgs s_Function_init) (defBody s_Function_init) (defScope s_Function_init) .none (.ref kDF) dcFI pmFI anFI cdFI ctFI), slFI⟩)
    (cFI : PySem.W.codeIn K cdFI "Function.__init__" = true)
    (kFI : PySem.W.keepIn K (.ref fFI) = true)
    (iFE : PySem.W.findIn K (.ref CFunction) "__eq__" = some (some (.ref fFE)))
    (fnFE : PySem.W.isFn K (.ref fFE) = true)
    (lFE : K.lookup fFE = some ⟨ocFE, odFE, .func (PySem.W.fnOf "__eq__" "Function.__eq__" (defArgs s_Function_eq) (defBody s_Function_eq) (defScope s_Function_eq) .none kVFE dcFE pmFE anFE cdFE ctFE), slFE⟩)
    (cFE : PySem.W.codeIn K cdFE "Function.__eq__" = true)
    (kFE : PySem.W.keepIn K (.ref fFE) = true)
    (iRU : PySem.W.findIn K (.ref CRole) "rights" = some (some (.ref fRU)))
    (fnRU : PySem.W.isFn K (.ref fRU) = true)
    (lRU : K.lookup fRU = some ⟨ocRU, odRU, .func (nfd s_Role_rights "rights" "Role.rights" ccRU caRU .none kVRU dcRU pmRU ctRU anRU), slRU⟩)
    (cRU : PySem.W.codeIn K (.ref caRU) "Role.rights" = true)
    (kRU : PySem.W.keepIn K (.ref fRU) = true)
    (faRU : K.lookup caRU = some ⟨cclRU, cddRU, .fields vsRU, ccsRU⟩)
    (fbRU : vsRU[2]? = some (.str fileRU tfRU))
    (fcRU : ((l.prog.main.file : Str) == fileRU) = true)
    (ceRU : K.lookup ccRU = some ⟨clRU, cldRU, .cell (some (.ref CRole)), cslRU⟩)
    (iRV : PySem.W.findIn K (.ref CRole) "admits" = some (some (.ref fRV)))
    (fnRV : PySem.W.isFn K (.ref fRV) = true)
    (lRV : K.lookup fRV = some ⟨ocRV, odRV, .func (nfd s_Role_admits "admits" "Role.admits" ccRV caRV .none kVRV dcRV pmRV ctRV anRV), slRV⟩)
    (cRV : PySem.W.codeIn K (.ref caRV) "Role.admits" = true)
    (kRV : PySem.W.keepIn K (.ref fRV) = true)
    (faRV : K.lookup caRV = some ⟨cclRV, cddRV, .fields vsRV, ccsRV⟩)
    (fbRV : vsRV[2]? = some (.str fileRV tfRV))
    (fcRV : ((l.prog.main.file : Str) == fileRV) = true)
    (ceRV : K.lookup ccRV = some ⟨clRV, cldRV, .cell (some (.ref CRole)), cslRV⟩)
    (iBU : PySem.W.findIn K (.ref CTable) "rights" = some (some (.ref fBU)))
    (fnBU : PySem.W.isFn K (.ref fBU) = true)
    (lBU : K.lookup fBU = some ⟨ocBU, odBU, .func (nfd s_Table_rights "rights" "Table.rights" ccBU caBU .none kVBU dcBU pmBU ctBU anBU), slBU⟩)
    (cBU : PySem.W.codeIn K (.ref caBU) "Table.rights" = true)
    (kBU : PySem.W.keepIn K (.ref fBU) = true)
    (faBU : K.lookup caBU = some ⟨cclBU, cddBU, .fields vsBU, ccsBU⟩)
    (fbBU : vsBU[2]? = some (.str fileBU tfBU))
    (fcBU : ((l.prog.main.file : Str) == fileBU) = true)
    (ceBU : K.lookup ccBU = some ⟨clBU, cldBU, .cell (some (.ref CTable)), cslBU⟩)
    (iBV : PySem.W.findIn K (.ref CTable) "admits" = some (some (.ref fBV)))
    (fnBV : PySem.W.isFn K (.ref fBV) = true)
    (lBV : K.lookup fBV = some ⟨ocBV, odBV, .func (nfd s_Table_admits "admits" "Table.admits" ccBV caBV .none kVBV dcBV pmBV ctBV anBV), slBV⟩)
    (cBV : PySem.W.codeIn K (.ref caBV) "Table.admits" = true)
    (kBV : PySem.W.keepIn K (.ref fBV) = true)
    (faBV : K.lookup caBV = some ⟨cclBV, cddBV, .fields vsBV, ccsBV⟩)
    (fbBV : vsBV[2]? = some (.str fileBV tfBV))
    (fcBV : ((l.prog.main.file : Str) == fileBV) = true)
    (ceBV : K.lookup ccBV = some ⟨clBV, cldBV, .cell (some (.ref CTable)), cslBV⟩)
    (iFU : PySem.W.findIn K (.ref CFunction) "rights" = some (some (.ref fFU)))
    (fnFU : PySem.W.isFn K (.ref fFU) = true)
    (lFU : K.lookup fFU = some ⟨ocFU, odFU, .func (nfd s_Function_rights "rights" "Function.rights" ccFU caFU .none kVFU dcFU pmFU ctFU anFU), slFU⟩)
    (cFU : PySem.W.codeIn K (.ref caFU) "Function.rights" = true)
    (kFU : PySem.W.keepIn K (.ref fFU) = true)
    (faFU : K.lookup caFU = some ⟨cclFU, cddFU, .fields vsFU, ccsFU⟩)
    (fbFU : vsFU[2]? = some (.str fileFU tfFU))
    (fcFU : ((l.prog.main.file : Str) == fileFU) = true)
    (ceFU : K.lookup ccFU = some ⟨clFU, cldFU, .cell (some (.ref CFunction)), cslFU⟩)
    (iFV : PySem.W.findIn K (.ref CFunction) "admits" = some (some (.ref fFV)))
    (fnFV : PySem.W.isFn K (.ref fFV) = true)
    (lFV : K.lookup fFV = some ⟨ocFV, odFV, .func (nfd s_Function_admits "admits" "Function.admits" ccFV caFV .none kVFV dcFV pmFV ctFV anFV), slFV⟩)
    (cFV : PySem.W.codeIn K (.ref caFV) "Function.admits" = true)
    (kFV : PySem.W.keepIn K (.ref fFV) = true)
    (faFV : K.lookup caFV = some ⟨cclFV, cddFV, .fields vsFV, ccsFV⟩)
    (fbFV : vsFV[2]? = some (.str fileFV tfFV))
    (fcFV : ((l.prog.main.file : Str) == fileFV) = true)
    (ceFV : K.lookup ccFV = some ⟨clFV, cldFV, .cell (some (.ref CFunction)), cslFV⟩)
    (opq : PySem.W.nsIn K cStatics "thirdparty.any" = some none)
    (topS : (l.prog.main.scope.names.lookup ("super" : Str)).isSome = false)
    (isCR : PySem.W.clsIn K CRole = some cd_R)
    (subR : PySem.W.mroIn K CRole (.ref CRole) = some true)
    (isCB : PySem.W.clsIn K CTable = some cd_B)
    (subB : PySem.W.mroIn K CTable (.ref CTable) = some true)
    (isCF : PySem.W.clsIn K CFunction = some cd_F)
    (subF : PySem.W.mroIn K CFunction (.ref CFunction) = some true)
    (dR1 : PySem.W.nsIn K kDR "audience" = some (some .none))
    (dB1 : PySem.W.nsIn K kDB "audience" = some (some .none))
    (dF1 : PySem.W.nsIn K kDF "audience" = some (some .none))
    (dF2 : PySem.W.nsIn K kDF "mode" = some (some (.str tOwn tO)))
    (dF3 : PySem.W.nsIn K kDF "body" = some (some (.ref aTup)))
    (lTup : K.lookup aTup = some ⟨.type "tuple", oyT, .seq #[] nnT, syT⟩)
    (mkR : PySem.W.makesIn K CRole = true)
    (kCR : PySem.W.keepIn K (.ref CRole) = true)
    (pgR : PySem.W.plainGet K CRole Str.empty = true)
    (hdR : PySem.W.hasDictIn K CRole = true)
    (poR : PySem.W.plainOver K CRole = true)
    (saR : PySem.W.findIn K (.ref CRole) "__setattr__" = some (some (.builtin "object.__setattr__")))
    (haR : PySem.W.findIn K (.ref CRole) "__class__" = some (some (.builtin "object.__class__")))
    (hmR : PySem.W.mroIn K CRole (.type "object") = some true)
    (neR : PySem.W.findIn K (.ref CRole) "__ne__" = some (some (.builtin "object.__ne__")))
    (nRkind : PySem.W.findIn K (.ref CRole) "kind" = some none)
    (nRname : PySem.W.findIn K (.ref CRole) "name" = some none)
    (nRowner : PySem.W.findIn K (.ref CRole) "owner" = some none)
    (nR_audience : PySem.W.findIn K (.ref CRole) "_audience" = some none)
    (mkB : PySem.W.makesIn K CTable = true)
    (kCB : PySem.W.keepIn K (.ref CTable) = true)
    (pgB : PySem.W.plainGet K CTable Str.empty = true)
    (hdB : PySem.W.hasDictIn K CTable = true)
    (poB : PySem.W.plainOver K CTable = true)
    (saB : PySem.W.findIn K (.ref CTable) "__setattr__" = some (some (.builtin "object.__setattr__")))
    (haB : PySem.W.findIn K (.ref CTable) "__class__" = some (some (.builtin "object.__class__")))
    (hmB : PySem.W.mroIn K CTable (.type "object") = some true)
    (neB : PySem.W.findIn K (.ref CTable) "__ne__" = some (some (.builtin "object.__ne__")))
    (nBkind : PySem.W.findIn K (.ref CTable) "kind" = some none)
    (nBname : PySem.W.findIn K (.ref CTable) "name" = some none)
    (nBowner : PySem.W.findIn K (.ref CTable) "owner" = some none)
    (nB_audience : PySem.W.findIn K (.ref CTable) "_audience" = some none)
    (mkF : PySem.W.makesIn K CFunction = true)
    (kCF : PySem.W.keepIn K (.ref CFunction) = true)
    (pgF : PySem.W.plainGet K CFunction Str.empty = true)
    (hdF : PySem.W.hasDictIn K CFunction = true)
    (poF : PySem.W.plainOver K CFunction = true)
    (saF : PySem.W.findIn K (.ref CFunction) "__setattr__" = some (some (.builtin "object.__setattr__")))
    (haF : PySem.W.findIn K (.ref CFunction) "__class__" = some (some (.builtin "object.__class__")))
    (hmF : PySem.W.mroIn K CFunction (.type "object") = some true)
    (neF : PySem.W.findIn K (.ref CFunction) "__ne__" = some (some (.builtin "object.__ne__")))
    (nFkind : PySem.W.findIn K (.ref CFunction) "kind" = some none)
    (nFname : PySem.W.findIn K (.ref CFunction) "name" = some none)
    (nFowner : PySem.W.findIn K (.ref CFunction) "owner" = some none)
    (nF_audience : PySem.W.findIn K (.ref CFunction) "_audience" = some none)
    (nFmode : PySem.W.findIn K (.ref CFunction) "mode" = some none)
    (nF_body : PySem.W.findIn K (.ref CFunction) "_body" = some none)
    (hn : PySem.W.specialIn K (.builtin "object.__class__") "__get__" = some (some (.builtin "getset_descriptor.__get__")))
    (ht : PySem.W.takesIn K (.builtin "object.__class__") = some true)
    (oRR : PySem.W.kitOne K (.ref CRole) (.ref CRole) = some true)
    (nfRR : PySem.W.notFirst K CRole (.ref CRole) = true)
    (oRB : PySem.W.kitOne K (.ref CTable) (.ref CRole) = some false)
    (nfRB : PySem.W.notFirst K CRole (.ref CTable) = true)
    (oRF : PySem.W.kitOne K (.ref CFunction) (.ref CRole) = some false)
    (nfRF : PySem.W.notFirst K CRole (.ref CFunction) = true)
    (nfSR : PySem.W.notFirst K CRole (.type "str") = true)
    (nfLR : PySem.W.notFirst K CRole (.type "list") = true)
    (oSR : PySem.W.kitOne K (.type "str") (.ref CRole) = some false)
    (oLR : PySem.W.kitOne K (.type "list") (.ref CRole) = some false)
    (oBR : PySem.W.kitOne K (.ref CRole) (.ref CTable) = some false)
    (nfBR : PySem.W.notFirst K CTable (.ref CRole) = true)
    (oBB : PySem.W.kitOne K (.ref CTable) (.ref CTable) = some true)
    (nfBB : PySem.W.notFirst K CTable (.ref CTable) = true)
    (oBF : PySem.W.kitOne K (.ref CFunction) (.ref CTable) = some false)
    (nfBF : PySem.W.notFirst K CTable (.ref CFunction) = true)
    (nfSB : PySem.W.notFirst K CTable (.type "str") = true)
    (nfLB : PySem.W.notFirst K CTable (.type "list") = true)
    (oSB : PySem.W.kitOne K (.type "str") (.ref CTable) = some false)
    (oLB : PySem.W.kitOne K (.type "list") (.ref CTable) = some false)
    (oFR : PySem.W.kitOne K (.ref CRole) (.ref CFunction) = some false)
    (nfFR : PySem.W.notFirst K CFunction (.ref CRole) = true)
    (oFB : PySem.W.kitOne K (.ref CTable) (.ref CFunction) = some false)
    (nfFB : PySem.W.notFirst K CFunction (.ref CTable) = true)
    (oFF : PySem.W.kitOne K (.ref CFunction) (.ref CFunction) = some true)
    (nfFF : PySem.W.notFirst K CFunction (.ref CFunction) = true)
    (nfSF : PySem.W.notFirst K CFunction (.type "str") = true)
    (nfLF : PySem.W.notFirst K CFunction (.type "list") = true)
    (oSF : PySem.W.kitOne K (.type "str") (.ref CFunction) = some false)
    (oLF : PySem.W.kitOne K (.type "list") (.ref CFunction) = some false)
    (aL : PySem.W.nsIn K mainGlobals "LONGEST_NAME" = some (some (.int 8 tL)))
    (aMB : PySem.W.nsIn K mainGlobals "MOST_IN_BODY" = some (some (.int 4 tB)))
    (aMA : PySem.W.nsIn K mainGlobals "MOST_IN_AUDIENCE" = some (some (.int 8 tA)))
    (gRs : PySem.W.nsIn K mainGlobals "RESERVED" = some (some (.ref aRs)))
    (lRs : K.lookup aRs = some ⟨.type "tuple", oy1, .seq #[.str tPub t1, .str tCal t2] nn1, sy1⟩)
    (gMs : PySem.W.nsIn K mainGlobals "MODES" = some (some (.ref aMs)))
    (lMs : K.lookup aMs = some ⟨.type "tuple", oy2, .seq #[.str (Str.ofString "owner") t3, .str (Str.ofString "caller") t4] nn2, sy2⟩)
    (gK : PySem.W.nsIn K mainGlobals "RIGHTS_BY_KIND" = some (some (.ref dK)))
    (lK : K.lookup dK = some ⟨.type "dict", none, .dict #[⟨h1, .str tRol ta, .ref aK1⟩, ⟨h2, .str tTab tb, .ref aK2⟩, ⟨h3, .str tFun tc, .ref aK3⟩] nnK, #[]⟩)
    (hK : PySem.W.KeysLit w.params [⟨h1, .str tRol ta, .ref aK1⟩, ⟨h2, .str tTab tb, .ref aK2⟩, ⟨h3, .str tFun tc, .ref aK3⟩])
    (loK : (dK == sysModules) = false)
    (lK1 : K.lookup aK1 = some ⟨.type "tuple", ok1, .seq #[.str (Str.ofString "inherit") q1, .str (Str.ofString "act") q2] nk1, sk1⟩)
    (lK2 : K.lookup aK2 = some ⟨.type "tuple", ok2, .seq #[.str (Str.ofString "read") q3, .str (Str.ofString "write") q4] nk2, sk2⟩)
    (lK3 : K.lookup aK3 = some ⟨.type "tuple", ok3, .seq #[.str (Str.ofString "call") q5] nk3, sk3⟩)
    (zisinstance : PySem.W.nsIn K mainGlobals "isinstance" = some none)
    (zstr : PySem.W.nsIn K mainGlobals "str" = some none)
    (zlen : PySem.W.nsIn K mainGlobals "len" = some none)
    (zrange : PySem.W.nsIn K mainGlobals "range" = some none)
    (zmax : PySem.W.nsIn K mainGlobals "max" = some none)
    (zmin : PySem.W.nsIn K mainGlobals "min" = some none)
    (zlist : PySem.W.nsIn K mainGlobals "list" = some none)
    (ztuple : PySem.W.nsIn K mainGlobals "tuple" = some none)
    (zall : PySem.W.nsIn K mainGlobals "all" = some none)
    (zset : PySem.W.nsIn K mainGlobals "set" = some none)
    (zsorted : PySem.W.nsIn K mainGlobals "sorted" = some none)
    (zrepr : PySem.W.nsIn K mainGlobals "repr" = some none)
    (zsuper : PySem.W.nsIn K mainGlobals "super" = some none) :
    ∃ fd : FuncData, (∀ (s : Shared) (v : Value), BindsTo s fd ⟨[v], []⟩ [("_law_script", v)]) ∧ ∀ base : Heap, K.In base → base.Ns mainGlobals mg → FnG l.prog w K mg base CX0 9 fa fd ["_law_script"] (spLaw K) := by
  have e := hfa.symm.trans (PySem.W.mg_of X G a22)
  cases e
  have F0 := fun_mk (st := s_is_name) l0 c0 k0
  have b0 := F0.binds (ps := ["value"]) fun _ _ _ _ _ _ us hl => match us, hl with | [_], _ => rfl
  have g0 := PySem.W.mg_of X G a0
  have F1 := fun_mk (st := s_is_taker) l1 c1 k1
  have b1 := F1.binds (ps := ["value"]) fun _ _ _ _ _ _ us hl => match us, hl with | [_], _ => rfl
  have g1 := PySem.W.mg_of X G a1
  have F2 := fun_mk (st := s_is_list) l2 c2 k2
  have b2 := F2.binds (ps := ["value"]) fun _ _ _ _ _ _ us hl => match us, hl with | [_], _ => rfl
  have g2 := PySem.W.mg_of X G a2
  have F3 := fun_mk (st := s_is_names) l3 c3 k3
  have b3 := F3.binds (ps := ["value", "most"]) fun _ _ _ _ _ _ us hl => match us, hl with | [_, _], _ => rfl
  have g3 := PySem.W.mg_of X G a3
  have F4 := fun_mk (st := s_check_name) l4 c4 k4
  have b4 := F4.binds (ps := ["value"]) fun _ _ _ _ _ _ us hl => match us, hl with | [_], _ => rfl
  have g4 := PySem.W.mg_of X G a4
  have F5 := fun_mk (st := s_check_taker) l5 c5 k5
  have b5 := F5.binds (ps := ["value"]) fun _ _ _ _ _ _ us hl => match us, hl with | [_], _ => rfl
  have g5 := PySem.W.mg_of X G a5
  have F6 := fun_mk (st := s_is_kind) l6 c6 k6
  have b6 := F6.binds (ps := ["value"]) fun _ _ _ _ _ _ us hl => match us, hl with | [_], _ => rfl
  have g6 := PySem.W.mg_of X G a6
  have F7 := fun_mk (st := s_rights_of) l7 c7 k7
  have b7 := F7.binds (ps := ["kind"]) fun _ _ _ _ _ _ us hl => match us, hl with | [_], _ => rfl
  have g7 := PySem.W.mg_of X G a7
  have F8 := fun_mk (st := s_is_body) l8 c8 k8
  have b8 := F8.binds (ps := ["value"]) fun _ _ _ _ _ _ us hl => match us, hl with | [_], _ => rfl
  have g8 := PySem.W.mg_of X G a8
  have F9 := fun_mk (st := s__law_cell) l9 c9 k9
  have b9 := F9.binds (ps := ["_law_script", "_law_k"]) fun _ _ _ _ _ _ us hl => match us, hl with | [_, _], _ => rfl
  have g9 := PySem.W.mg_of X G a9
  have F10 := fun_mk (st := s__law_box) l10 c10 k10
  have b10 := F10.binds (ps := ["_law_cell_here"]) fun _ _ _ _ _ _ us hl => match us, hl with | [_], _ => rfl
  have g10 := PySem.W.mg_of X G a10
  have F11 := fun_mk (st := s__law_take) l11 c11 k11
  have b11 := F11.binds (ps := ["_law_box_here", "_law_many"]) fun _ _ _ _ _ _ us hl => match us, hl with | [_, _], _ => rfl
  have g11 := PySem.W.mg_of X G a11
  have F12 := fun_mk (st := s__law_names) l12 c12 k12
  have b12 := F12.binds (ps := ["_law_box_here", "_law_many"]) fun _ _ _ _ _ _ us hl => match us, hl with | [_, _], _ => rfl
  have g12 := PySem.W.mg_of X G a12
  have F13 := fun_mk (st := s__law_mixed) l13 c13 k13
  have b13 := F13.binds (ps := ["_law_box_here", "_law_some"]) fun _ _ _ _ _ _ us hl => match us, hl with | [_, _], _ => rfl
  have g13 := PySem.W.mg_of X G a13
  have F14 := fun_mk (st := s__law_rights) l14 c14 k14
  have b14 := F14.binds (ps := ["_law_kind"]) fun _ _ _ _ _ _ us hl => match us, hl with | [_], _ => rfl
  have g14 := PySem.W.mg_of X G a14
  have F15 := fun_mk (st := s__law_made) l15 c15 k15
  have b15 := F15.binds (ps := ["_law_row_here", "_law_admitted"]) fun _ _ _ _ _ _ us hl => match us, hl with | [_, _], _ => rfl
  have g15 := PySem.W.mg_of X G a15
  have F16 := fun_mk (st := s__law_row) l16 c16 k16
  have b16 := F16.binds (ps := ["_law_box_here"]) fun _ _ _ _ _ _ us hl => match us, hl with | [_], _ => rfl
  have g16 := PySem.W.mg_of X G a16
  have F17 := fun_mk (st := s__law_lets) l17 c17 k17
  have b17 := F17.binds (ps := ["_law_row_here", "_law_taker"]) fun _ _ _ _ _ _ us hl => match us, hl with | [_, _], _ => rfl
  have g17 := PySem.W.mg_of X G a17
  have F18 := fun_mk (st := s__law_told_right) l18 c18 k18
  have b18 := F18.binds (ps := ["_law_row_here", "_law_thing"]) fun _ _ _ _ _ _ us hl => match us, hl with | [_, _], _ => rfl
  have g18 := PySem.W.mg_of X G a18
  have F19 := fun_mk (st := s__law_otherwise) l19 c19 k19
  have b19 := F19.binds (ps := ["_law_box_here", "_law_row_here"]) fun _ _ _ _ _ _ us hl => match us, hl with | [_, _], _ => rfl
  have g19 := PySem.W.mg_of X G a19
  have F20 := fun_mk (st := s__law_like) l20 c20 k20
  have b20 := F20.binds (ps := ["_law_one", "_law_other"]) fun _ _ _ _ _ _ us hl => match us, hl with | [_, _], _ => rfl
  have g20 := PySem.W.mg_of X G a20
  have F21 := fun_mk (st := s__law_right) l21 c21 k21
  have b21 := F21.binds (ps := ["_law_box_here", "_law_row_here"]) fun _ _ _ _ _ _ us hl => match us, hl with | [_, _], _ => rfl
  have g21 := PySem.W.mg_of X G a21
  have F22 := fun_mk (st := s_law) l22 c22 k22
  have b22 := F22.binds (ps := ["_law_script"]) fun _ _ _ _ _ _ us hl => match us, hl with | [_], _ => rfl
  have g22 := PySem.W.mg_of X G a22
  have FTI := fun_mk (st := s_Thing_init) lTI cTI kTI
  have bTI := FTI.binds (ps := ["self", "kind", "name", "owner", "audience"]) fun _ _ _ _ _ _ us hl => match us, hl with | [_, _, _, _, _], _ => rfl
  have FTH := fun_mk (st := s_Thing_same_head) lTH cTH kTH
  have bTH := FTH.binds (ps := ["self", "other"]) fun _ _ _ _ _ _ us hl => match us, hl with | [_, _], _ => rfl
  have FTA := fun_mk (st := s_Thing_audience) lTA cTA kTA
  have bTA := FTA.binds (ps := ["self"]) fun _ _ _ _ _ _ us hl => match us, hl with | [_], _ => rfl
  have FTR := fun_mk (st := s_Thing_rights) lTR cTR kTR
  have bTR := FTR.binds (ps := ["self"]) fun _ _ _ _ _ _ us hl => match us, hl with | [_], _ => rfl
  have FTD := fun_mk (st := s_Thing_admits) lTD cTD kTD
  have bTD := FTD.binds (ps := ["self", "taker"]) fun _ _ _ _ _ _ us hl => match us, hl with | [_, _], _ => rfl
  have FRE := fun_mk (st := s_Role_eq) lRE cRE kRE
  have bRE := FRE.binds (ps := ["self", "other"]) fun _ _ _ _ _ _ us hl => match us, hl with | [_, _], _ => rfl
  have FBE := fun_mk (st := s_Table_eq) lBE cBE kBE
  have bBE := FBE.binds (ps := ["self", "other"]) fun _ _ _ _ _ _ us hl => match us, hl with | [_, _], _ => rfl
  have FFE := fun_mk (st := s_Function_eq) lFE cFE kFE
  have bFE := FFE.binds (ps := ["self", "other"]) fun _ _ _ _ _ _ us hl => match us, hl with | [_, _], _ => rfl
  have misinstance := PySem.W.mg_none_of X G zisinstance
  have mstr := PySem.W.mg_none_of X G zstr
  have mlen := PySem.W.mg_none_of X G zlen
  have mrange := PySem.W.mg_none_of X G zrange
  have mmax := PySem.W.mg_none_of X G zmax
  have mmin := PySem.W.mg_none_of X G zmin
  have mlist := PySem.W.mg_none_of X G zlist
  have mtuple := PySem.W.mg_none_of X G ztuple
  have mall := PySem.W.mg_none_of X G zall
  have mset := PySem.W.mg_none_of X G zset
  have msorted := PySem.W.mg_none_of X G zsorted
  have mrepr := PySem.W.mg_none_of X G zrepr
  have msuper := PySem.W.mg_none_of X G zsuper
  have mL := PySem.W.mg_of X G aL
  have mMB := PySem.W.mg_of X G aMB
  have mMA := PySem.W.mg_of X G aMA
  have mR := PySem.W.mg_of X G gRs
  have hR := kt_mk lRs
  have mM := PySem.W.mg_of X G gMs
  have hM := kt_mk lMs
  have mK := PySem.W.mg_of X G gK
  have hKk := kk_mk lK hK loK lK1 lK2 lK3
  have gThing := PySem.W.mg_of X G aThing
  have gRole := PySem.W.mg_of X G aRole
  have gTable := PySem.W.mg_of X G aTable
  have gFunction := PySem.W.mg_of X G aFunction
  have gGv := PySem.W.mg_of X G aGv
  have gCl := PySem.W.mg_of X G aCl
  have MR : Mk K CRole fRI := ⟨mkR, iRI, fnRI, kCR⟩
  have c0R : Cls K CRole := ⟨pgR, hdR, poR, saR⟩
  have TyR : TyC K CRole := ⟨c0R, haR, hn, ht, hmR⟩
  have tfR : TF K CRole := ⟨c0R, nRkind, nRname, nRowner, nR_audience⟩
  have mHR : Meth K CRole "same_head" fTH := ⟨iTHR, fnTH, kTH⟩
  have pAR : PropOf K CRole "audience" pAu fTA := ⟨iAuR, gAu, tAu, restAu, rAu⟩
  have mUR : Meth K CRole "rights" fRU := ⟨iRU, fnRU, kRU⟩
  have mVR : Meth K CRole "admits" fRV := ⟨iRV, fnRV, kRV⟩
  have MB : Mk K CTable fBI := ⟨mkB, iBI, fnBI, kCB⟩
  have c0B : Cls K CTable := ⟨pgB, hdB, poB, saB⟩
  have TyB : TyC K CTable := ⟨c0B, haB, hn, ht, hmB⟩
  have tfB : TF K CTable := ⟨c0B, nBkind, nBname, nBowner, nB_audience⟩
  have mHB : Meth K CTable "same_head" fTH := ⟨iTHB, fnTH, kTH⟩
  have pAB : PropOf K CTable "audience" pAu fTA := ⟨iAuB, gAu, tAu, restAu, rAu⟩
  have mUB : Meth K CTable "rights" fBU := ⟨iBU, fnBU, kBU⟩
  have mVB : Meth K CTable "admits" fBV := ⟨iBV, fnBV, kBV⟩
  have MF : Mk K CFunction fFI := ⟨mkF, iFI, fnFI, kCF⟩
  have c0F : Cls K CFunction := ⟨pgF, hdF, poF, saF⟩
  have TyF : TyC K CFunction := ⟨c0F, haF, hn, ht, hmF⟩
  have tfF : TF K CFunction := ⟨c0F, nFkind, nFname, nFowner, nF_audience⟩
  have mHF : Meth K CFunction "same_head" fTH := ⟨iTHF, fnTH, kTH⟩
  have pAF : PropOf K CFunction "audience" pAu fTA := ⟨iAuF, gAu, tAu, restAu, rAu⟩
  have mUF : Meth K CFunction "rights" fFU := ⟨iFU, fnFU, kFU⟩
  have mVF : Meth K CFunction "admits" fFV := ⟨iFV, fnFV, kFV⟩
  have hTup : KTup K aTup [] := ⟨_, _, _, lTup, rfl, rfl, by show 0 ≤ sizeLine; decide, .nil⟩
  have ffF : FF K CFunction := ⟨tfF, nFmode, nF_body⟩
  have cdef : CDef K mg "Thing" CThing (.type "type") "__init__" fTI := ⟨gThing, rdT, gaT, inT, kTI⟩
  have FXR : FunD K "__init__" "Role.__init__" (defArgs s_Role_init) (defBody s_Role_init) (defScope s_Role_init) [] [("audience", .non)] fRI _ := ⟨⟨ocRI, odRI, .none, .ref kDR, dcRI, pmRI, anRI, cdRI, ctRI, slRI, rfl, lRI, cRI, .inl ⟨rfl, rfl⟩, .inr ⟨kDR, rfl, fun q hq => by
    have e := List.mem_singleton.mp hq
    subst e
    exact ⟨_, dR1, rfl⟩⟩⟩, kRI⟩
  obtain ⟨dsR, vR, b0R⟩ := FXR.binds0 (ps := psR) 3 (by simp) rfl fun D doc pm an cdv ct us ks h1 h2 => match us, ks, h1, h2 with
    | [_, _, _], [k], _, _ => ⟨_, _, _, _, _, _, rfl, rfl, rfl⟩
  obtain ⟨mvR, b1R⟩ := FXR.kbinds0 (ps := psR) 3 ["audience"] [] (fun us mv ws => us ++ ws) (by simp) (fun q hq => nomatch hq) (fun r1 r2 r3 => r1.append r3) fun D doc pm an cdv ct us mv ws h1 h2 h3 => match us, mv, ws, h1, h2, h3 with
    | [_, _, _], [], [_], _, _, _ => rfl
  have FXB : FunD K "__init__" "Table.__init__" (defArgs s_Table_init) (defBody s_Table_init) (defScope s_Table_init) [] [("audience", .non)] fBI _ := ⟨⟨ocBI, odBI, .none, .ref kDB, dcBI, pmBI, anBI, cdBI, ctBI, slBI, rfl, lBI, cBI, .inl ⟨rfl, rfl⟩, .inr ⟨kDB, rfl, fun q hq => by
    have e := List.mem_singleton.mp hq
    subst e
    exact ⟨_, dB1, rfl⟩⟩⟩, kBI⟩
  obtain ⟨dsB, vB, b0B⟩ := FXB.binds0 (ps := psR) 3 (by simp) rfl fun D doc pm an cdv ct us ks h1 h2 => match us, ks, h1, h2 with
    | [_, _, _], [k], _, _ => ⟨_, _, _, _, _, _, rfl, rfl, rfl⟩
  obtain ⟨mvB, b1B⟩ := FXB.kbinds0 (ps := psR) 3 ["audience"] [] (fun us mv ws => us ++ ws) (by simp) (fun q hq => nomatch hq) (fun r1 r2 r3 => r1.append r3) fun D doc pm an cdv ct us mv ws h1 h2 h3 => match us, mv, ws, h1, h2, h3 with
    | [_, _, _], [], [_], _, _, _ => rfl
  have FXF : FunD K "__init__" "Function.__init__" (defArgs s_Function_init) (defBody s_Function_init) (defScope s_Function_init) [] [("audience", .non), ("mode", .str tOwn), ("body", .ref aTup)] fFI _ := ⟨⟨ocFI, odFI, .none, .ref kDF, dcFI, pmFI, anFI, cdFI, ctFI, slFI, rfl, lFI, cFI, .inl ⟨rfl, rfl⟩, .inr ⟨kDF, rfl, fun q hq => by
    rcases List.mem_cons.mp hq with e | hq
    · subst e; exact ⟨_, dF1, rfl⟩
    rcases List.mem_cons.mp hq with e | hq
    · subst e; exact ⟨_, dF2, ⟨tO, rfl⟩⟩
    · have e := List.mem_singleton.mp hq
      subst e; exact ⟨_, dF3, rfl⟩⟩⟩, kFI⟩
  obtain ⟨mvF, b1F⟩ := FXF.kbinds0 (ps := psF) 3 ["audience"] [("mode", .str tOwn), ("body", .ref aTup)] (fun us mv ws => us ++ (ws ++ mv)) (by simp) (fun q hq => List.mem_cons_of_mem _ hq) (fun r1 r2 r3 => r1.append (r3.append r2)) fun D doc pm an cdv ct us mv ws h1 h2 h3 => match us, mv, ws, h1, h2, h3 with
    | [_, _, _], [k1, k2], [_], _, _, _ => ⟨_, _, _, _, _, _, rfl, rfl, _, _, _, _, _, _, rfl, rfl, rfl⟩
  refine ⟨PySem.W.fnOf "law" "law" (defArgs s_law) (defBody s_law) (defScope s_law) .none kV22 dc22 pm22 an22 cd22 ct22, fun s v => .of_eq rfl, fun base _ _ => ?_⟩
  have oN : FnOk l.prog w K mg base CX0 1 f0 _ ["value"] (spP K isName) := ok_is_name F0 misinstance mstr mlen mL mR hR
  have oT : FnOk l.prog w K mg base CX0 2 f1 _ ["value"] (spP K isTaker) := ok_is_taker F1 oN b0 k0 g0
  have dN := df_mk (oN) b0 k0 g0
  have dT_ := df_mk (oT) b1 k1 g1
  have dcN := df_mk (ok_check_name F4 dN) b4 k4 g4
  have dcT := df_mk (ok_check_taker F5 dT_) b5 k5 g5
  have dLi := df_mk (ok_is_list (P := l.prog) (w := w) (base := base) F2 misinstance mlist mtuple) b2 k2 g2
  have dNs := df_mk (ok_is_names F3 dLi dN mlen mall mset) b3 k3 g3
  have dKi := df_mk (ok_is_kind (P := l.prog) (w := w) (base := base) F6 misinstance mstr mK hKk) b6 k6 g6
  have dRo := df_mk (ok_rights_of F7 dKi mlist mK hKk) b7 k7 g7
  have dBo := df_mk (ok_is_body F8 dLi mlen mall mMB misinstance gGv gCl) b8 k8 g8
  have oTI := ok_Thing FTI dcN dNs mMA msorted mstr
  have oRI := ok_Role FXR cdef oTI bTI tfR
  have oBI := ok_Table FXB cdef oTI bTI tfB
  have oFI := ok_Function FXF cdef oTI bTI dBo ffF mM hM mlist
  have oTH := ok_head (P := l.prog) (w := w) (mg := mg) (base := base) FTH
  have oTA := ok_audience (P := l.prog) (w := w) (base := base) FTA mlist
  have oTR := ok_rights FTR dRo
  have oTD := ok_admits FTD dcT
  have mkR : MkR l.prog w K mg base "Role" tRol CRole fRI _ _ := ⟨MR, oRI, gRole, ⟨dsR, b0R, vR⟩, b1R⟩
  have mkB : MkR l.prog w K mg base "Table" tTab CTable fBI _ _ := ⟨MB, oBI, gTable, ⟨dsB, b0B, vB⟩, b1B⟩
  have mkF : MkFn l.prog w K mg base CFunction fFI aTup _ _ := ⟨MF, oFI, gFunction, hTup, b1F⟩
  have oRE := ok_RoleE FRE tfR gRole misinstance mHR oTH bTH
  have oBE := ok_TableE FBE tfB gTable misinstance mHB oTH bTH
  have oFE := ok_FunctionE FFE ffF gFunction misinstance mHF oTH bTH
  have sUR : SU.SupD l.prog K mg fRU fTR ccRU caRU CRole CRole (nf s_Role_rights "rights" "Role.rights" ccRU caRU) N_Role_rights [("self" : Str)] "self" "rights" :=
    ⟨cRU, rfl, rfl, sc_Role_rights, ⟨_, rfl⟩, ⟨_, rfl, rfl⟩, ⟨_, _, _, _, _, _, faRU, fbRU, fcRU⟩, ⟨_, _, _, ceRU⟩, ⟨_, isCR⟩, subR, msuper, rfl, topS, by decide +kernel, opq, uRR, fiTR, tyTR⟩
  have sVR : SU.SupD l.prog K mg fRV fTD ccRV caRV CRole CRole (nf s_Role_admits "admits" "Role.admits" ccRV caRV) N_Role_admits [("self" : Str), "taker"] "self" "admits" :=
    ⟨cRV, rfl, rfl, sc_Role_admits, ⟨_, rfl⟩, ⟨_, rfl, rfl⟩, ⟨_, _, _, _, _, _, faRV, fbRV, fcRV⟩, ⟨_, _, _, ceRV⟩, ⟨_, isCR⟩, subR, msuper, rfl, topS, by decide +kernel, opq, uAR, fiTD, tyTD⟩
  have oUR := ok_supR sUR rfl lRU sb_Role_rights oTR bTR
  have oVR := ok_supA sVR rfl lRV sb_Role_admits oTD bTD
  have bUR : Binds K (nfd s_Role_rights "rights" "Role.rights" ccRU caRU .none kVRU dcRU pmRU ctRU anRU) ["self"] [] := fun s us _ hl => match us, hl with | [_], _ => .of_eq rfl
  have bVR : Binds K (nfd s_Role_admits "admits" "Role.admits" ccRV caRV .none kVRV dcRV pmRV ctRV anRV) ["self", "taker"] [] := fun s us _ hl => match us, hl with | [_, _], _ => .of_eq rfl
  have ckR : ClOk l.prog w K mg base CRole := ⟨tfR, ⟨pAu, fTA, _, pAR, oTA, bTA⟩, ⟨fRU, _, mUR, oUR, bUR⟩, ⟨fRV, _, mVR, oVR, bVR⟩⟩
  have sUB : SU.SupD l.prog K mg fBU fTR ccBU caBU CTable CTable (nf s_Table_rights "rights" "Table.rights" ccBU caBU) N_Table_rights [("self" : Str)] "self" "rights" :=
    ⟨cBU, rfl, rfl, sc_Table_rights, ⟨_, rfl⟩, ⟨_, rfl, rfl⟩, ⟨_, _, _, _, _, _, faBU, fbBU, fcBU⟩, ⟨_, _, _, ceBU⟩, ⟨_, isCB⟩, subB, msuper, rfl, topS, by decide +kernel, opq, uRB, fiTR, tyTR⟩
  have sVB : SU.SupD l.prog K mg fBV fTD ccBV caBV CTable CTable (nf s_Table_admits "admits" "Table.admits" ccBV caBV) N_Table_admits [("self" : Str), "taker"] "self" "admits" :=
    ⟨cBV, rfl, rfl, sc_Table_admits, ⟨_, rfl⟩, ⟨_, rfl, rfl⟩, ⟨_, _, _, _, _, _, faBV, fbBV, fcBV⟩, ⟨_, _, _, ceBV⟩, ⟨_, isCB⟩, subB, msuper, rfl, topS, by decide +kernel, opq, uAB, fiTD, tyTD⟩
  have oUB := ok_supR sUB rfl lBU sb_Table_rights oTR bTR
  have oVB := ok_supA sVB rfl lBV sb_Table_admits oTD bTD
  have bUB : Binds K (nfd s_Table_rights "rights" "Table.rights" ccBU caBU .none kVBU dcBU pmBU ctBU anBU) ["self"] [] := fun s us _ hl => match us, hl with | [_], _ => .of_eq rfl
  have bVB : Binds K (nfd s_Table_admits "admits" "Table.admits" ccBV caBV .none kVBV dcBV pmBV ctBV anBV) ["self", "taker"] [] := fun s us _ hl => match us, hl with | [_, _], _ => .of_eq rfl
  have ckB : ClOk l.prog w K mg base CTable := ⟨tfB, ⟨pAu, fTA, _, pAB, oTA, bTA⟩, ⟨fBU, _, mUB, oUB, bUB⟩, ⟨fBV, _, mVB, oVB, bVB⟩⟩
  have sUF : SU.SupD l.prog K mg fFU fTR ccFU caFU CFunction CFunction (nf s_Function_rights "rights" "Function.rights" ccFU caFU) N_Function_rights [("self" : Str)] "self" "rights" :=
    ⟨cFU, rfl, rfl, sc_Function_rights, ⟨_, rfl⟩, ⟨_, rfl, rfl⟩, ⟨_, _, _, _, _, _, faFU, fbFU, fcFU⟩, ⟨_, _, _, ceFU⟩, ⟨_, isCF⟩, subF, msuper, rfl, topS, by decide +kernel, opq, uRF, fiTR, tyTR⟩
  have sVF : SU.SupD l.prog K mg fFV fTD ccFV caFV CFunction CFunction (nf s_Function_admits "admits" "Function.admits" ccFV caFV) N_Function_admits [("self" : Str), "taker"] "self" "admits" :=
    ⟨cFV, rfl, rfl, sc_Function_admits, ⟨_, rfl⟩, ⟨_, rfl, rfl⟩, ⟨_, _, _, _, _, _, faFV, fbFV, fcFV⟩, ⟨_, _, _, ceFV⟩, ⟨_, isCF⟩, subF, msuper, rfl, topS, by decide +kernel, opq, uAF, fiTD, tyTD⟩
  have oUF := ok_supR sUF rfl lFU sb_Function_rights oTR bTR
  have oVF := ok_supA sVF rfl lFV sb_Function_admits oTD bTD
  have bUF : Binds K (nfd s_Function_rights "rights" "Function.rights" ccFU caFU .none kVFU dcFU pmFU ctFU anFU) ["self"] [] := fun s us _ hl => match us, hl with | [_], _ => .of_eq rfl
  have bVF : Binds K (nfd s_Function_admits "admits" "Function.admits" ccFV caFV .none kVFV dcFV pmFV ctFV anFV) ["self", "taker"] [] := fun s us _ hl => match us, hl with | [_, _], _ => .of_eq rfl
  have ckF : ClOk l.prog w K mg base CFunction := ⟨tfF, ⟨pAu, fTA, _, pAF, oTA, bTA⟩, ⟨fFU, _, mUF, oUF, bUF⟩, ⟨fFV, _, mVF, oVF, bVF⟩⟩
  have HC : ∀ k, isKd k → ClOk l.prog w K mg base (clsK ⟨CRole, CTable, CFunction⟩ k) := fun k hk => by
    rcases hk with rfl | rfl | rfl
    · rw [cls_rol]; exact ckR
    · rw [cls_tab]; exact ckB
    · rw [cls_fun]; exact ckF
  have eqo : EqOk l.prog w K mg base ⟨CRole, CTable, CFunction⟩ := eqok_mk TyR TyB TyF ⟨fRE, _, oRE, iRE, fnRE, bRE⟩ ⟨fBE, _, oBE, iBE, fnBE, bBE⟩ ⟨fFE, _, oFE, iFE, fnFE, bFE⟩ neR neB neF nfRR nfRB nfRF nfBR nfBB nfBF nfFR nfFB nfFF oRR oRB oRF oBR oBB oBF oFR oFB oFF nfSR nfSB nfSF nfLR nfLB nfLF oSR oSB oSF oLR oLB oLF
  have dC := df_mk (ok_cell (P := l.prog) (w := w) (base := base) F9 mlen) b9 k9 g9
  have dB := df_mk (ok_box (P := l.prog) (w := w) (base := base) F10 mmax) b10 k10 g10
  have dTk := df_mk (ok_take (P := l.prog) (w := w) (mg := mg) (base := base) F11) b11 k11 g11
  have dNm := df_mk (ok_names F12 dTk mrange) b12 k12 g12
  have dMx := df_mk (ok_mixed F13 dTk mrange mlen mlist) b13 k13 g13
  have dLr := df_mk (ok_law_rights (P := l.prog) (w := w) (mg := mg) (base := base) F14) b14 k14 g14
  have dMa := df_mk (ok_made (c := ⟨CRole, CTable, CFunction⟩) F15 mkR mkB mkF) b15 k15 g15
  have dRw := df_mk (ok_row F16 dTk dNm dMx) b16 k16 g16
  have dLe := df_mk (ok_lets (P := l.prog) (w := w) (mg := mg) (base := base) F17) b17 k17 g17
  have dTo := dfg_mk (ok_told F18 HC dLr mrange misinstance mlist mrepr msorted mstr) b18 k18 g18
  have dOt := df_mk (ok_other F19 dTk mlen mlist) b19 k19 g19
  have dLk := df_mk (ok_like (P := l.prog) (w := w) (base := base) F20 msorted mstr) b20 k20 g20
  have dRi := dfg_mk (ok_right F21 eqo HC dTk dMa dTo dLe dMx dOt dLk mrange misinstance mlist mtuple) b21 k21 g21
  exact ok_law F22 dC dB dRw dRi mrange mlen mmax mmin
end K08
open PySem PySem.W PyProof.Rows
set_option maxHeartbeats 0 in
theorem PySem.Challenge.cw_rolereach_k08_things_made_holds : PySem.Challenge.rw_rolereach_k08_things_made.Holds := by
  w_on; o_law; k_head; (case hw => w_witness2)
  k_fill
  refine RG.walk_ofG (l := PySem.Challenge.rw_rolereach_k08_things_made) (n := 63) (k := 9) (x := "_law_script") (CX := fun _ => L2.CX0) (sp := fun w => K08.spLaw _) rfl (by decide) rfl ⟨rfl, by decide, by decide⟩ (fun w h Y => PySem.W.kIn_of Y) ?F (fun _ _ a ns hl hO hS => ⟨a, ns, rfl, hS, hl, hO, fun _ => rfl⟩) (fun _ _ _ _ _ h => h)
  case F =>
    intro w mg fa h KX G hmg
    refine' K08.all_mk KX G hmg ?a0 ?l0 ?c0 ?k0 ?a1 ?l1 ?c1 ?k1 ?a2 ?l2 ?c2 ?k2 ?a3 ?l3 ?c3 ?k3 ?a4 ?l4 ?c4 ?k4 ?a5 ?l5 ?c5 ?k5 ?a6 ?l6 ?c6 ?k6 ?a7 ?l7 ?c7 ?k7 ?a8 ?l8 ?c8 ?k8 ?a9 ?l9 ?c9 ?k9 ?a10 ?l10 ?c10 ?k10 ?a11 ?l11 ?c11 ?k11 ?a12 ?l12 ?c12 ?k12 ?a13 ?l13 ?c13 ?k13 ?a14 ?l14 ?c14 ?k14 ?a15 ?l15 ?c15 ?k15 ?a16 ?l16 ?c16 ?k16 ?a17 ?l17 ?c17 ?k17 ?a18 ?l18 ?c18 ?k18 ?a19 ?l19 ?c19 ?k19 ?a20 ?l20 ?c20 ?k20 ?a21 ?l21 ?c21 ?k21 ?a22 ?l22 ?c22 ?k22 ?aThing ?aRole ?aTable ?aFunction ?aGv ?aCl ?rdT ?gaT ?inT ?lTI ?cTI ?kTI ?iTHR ?iTHB ?iTHF ?fnTH ?lTH ?cTH ?kTH ?iAuR ?iAuB ?iAuF ?gAu ?tAu ?rAu ?lTA ?cTA ?kTA ?uRR ?uRB ?uRF ?fiTR ?tyTR ?lTR ?cTR ?kTR ?uAR ?uAB ?uAF ?fiTD ?tyTD ?lTD ?cTD ?kTD ?iRI ?fnRI ?lRI ?cRI ?kRI ?iRE ?fnRE ?lRE ?cRE ?kRE ?iBI ?fnBI ?lBI ?cBI ?kBI ?iBE ?fnBE ?lBE ?cBE ?kBE ?iFI ?fnFI ?lFI ?cFI ?kFI ?iFE ?fnFE ?lFE ?cFE ?kFE ?iRU ?fnRU ?lRU ?cRU ?kRU ?faRU ?fbRU ?fcRU ?ceRU ?iRV ?fnRV ?lRV ?cRV ?kRV ?faRV ?fbRV ?fcRV ?ceRV ?iBU ?fnBU ?lBU ?cBU ?kBU ?faBU ?fbBU ?fcBU ?ceBU ?iBV ?fnBV ?lBV ?cBV ?kBV ?faBV ?fbBV ?fcBV ?ceBV ?iFU ?fnFU ?lFU ?cFU ?kFU ?faFU ?fbFU ?fcFU ?ceFU ?iFV ?fnFV ?lFV ?cFV ?kFV ?faFV ?fbFV ?fcFV ?ceFV ?opq ?topS ?isCR ?subR ?isCB ?subB ?isCF ?subF ?dR1 ?dB1 ?dF1 ?dF2 ?dF3 ?lTup ?mkR ?kCR ?pgR ?hdR ?poR ?saR ?haR ?hmR ?neR ?nRkind ?nRname ?nRowner ?nR_audience ?mkB ?kCB ?pgB ?hdB ?poB ?saB ?haB ?hmB ?neB ?nBkind ?nBname ?nBowner ?nB_audience ?mkF ?kCF ?pgF ?hdF ?poF ?saF ?haF ?hmF ?neF ?nFkind ?nFname ?nFowner ?nF_audience ?nFmode ?nF_body ?hn ?ht ?oRR ?nfRR ?oRB ?nfRB ?oRF ?nfRF ?nfSR ?nfLR ?oSR ?oLR ?oBR ?nfBR ?oBB ?nfBB ?oBF ?nfBF ?nfSB ?nfLB ?oSB ?oLB ?oFR ?nfFR ?oFB ?nfFB ?oFF ?nfFF ?nfSF ?nfLF ?oSF ?oLF ?aL ?aMB ?aMA ?gRs ?lRs ?gMs ?lMs ?gK ?lK ?hK ?loK ?lK1 ?lK2 ?lK3 ?zisinstance ?zstr ?zlen ?zrange ?zmax ?zmin ?zlist ?ztuple ?zall ?zset ?zsorted ?zrepr ?zsuper
    (case a0 => k_is)
    (case l0 => k_is)
    (case c0 => k_is)
    (case k0 => k_is)
    (case a1 => k_is)
    (case l1 => k_is)
    (case c1 => k_is)
    (case k1 => k_is)
    (case a2 => k_is)
    (case l2 => k_is)
    (case c2 => k_is)
    (case k2 => k_is)
    (case a3 => k_is)
    (case l3 => k_is)
    (case c3 => k_is)
    (case k3 => k_is)
    (case a4 => k_is)
    (case l4 => k_is)
    (case c4 => k_is)
    (case k4 => k_is)
    (case a5 => k_is)
    (case l5 => k_is)
    (case c5 => k_is)
    (case k5 => k_is)
    (case a6 => k_is)
    (case l6 => k_is)
    (case c6 => k_is)
    (case k6 => k_is)
    (case a7 => k_is)
    (case l7 => k_is)
    (case c7 => k_is)
    (case k7 => k_is)
    (case a8 => k_is)
    (case l8 => k_is)
    (case c8 => k_is)
    (case k8 => k_is)
    (case a9 => k_is)
    (case l9 => k_is)
    (case c9 => k_is)
    (case k9 => k_is)
    (case a10 => k_is)
    (case l10 => k_is)
    (case c10 => k_is)
    (case k10 => k_is)
    (case a11 => k_is)
    (case l11 => k_is)
    (case c11 => k_is)
    (case k11 => k_is)
    (case a12 => k_is)
    (case l12 => k_is)
    (case c12 => k_is)
    (case k12 => k_is)
    (case a13 => k_is)
    (case l13 => k_is)
    (case c13 => k_is)
    (case k13 => k_is)
    (case a14 => k_is)
    (case l14 => k_is)
    (case c14 => k_is)
    (case k14 => k_is)
    (case a15 => k_is)
    (case l15 => k_is)
    (case c15 => k_is)
    (case k15 => k_is)
    (case a16 => k_is)
    (case l16 => k_is)
    (case c16 => k_is)
    (case k16 => k_is)
    (case a17 => k_is)
    (case l17 => k_is)
    (case c17 => k_is)
    (case k17 => k_is)
    (case a18 => k_is)
    (case l18 => k_is)
    (case c18 => k_is)
    (case k18 => k_is)
    (case a19 => k_is)
    (case l19 => k_is)
    (case c19 => k_is)
    (case k19 => k_is)
    (case a20 => k_is)
    (case l20 => k_is)
    (case c20 => k_is)
    (case k20 => k_is)
    (case a21 => k_is)
    (case l21 => k_is)
    (case c21 => k_is)
    (case k21 => k_is)
    (case a22 => k_is)
    (case l22 => k_is)
    (case c22 => k_is)
    (case k22 => k_is)
    (case aThing => k_is)
    (case aRole => k_is)
    (case aTable => k_is)
    (case aFunction => k_is)
    (case aGv => k_is)
    (case aCl => k_is)
    (case rdT => k_is)
    (case gaT => k_is)
    (case inT => k_is)
    (case lTI => k_is)
    (case cTI => k_is)
    (case kTI => k_is)
    (case iTHR => k_is)
    (case iTHB => k_is)
    (case iTHF => k_is)
    (case fnTH => k_is)
    (case lTH => k_is)
    (case cTH => k_is)
    (case kTH => k_is)
    (case iAuR => k_is)
    (case iAuB => k_is)
    (case iAuF => k_is)
    (case gAu => k_is)
    (case tAu => k_is)
    (case rAu => k_is)
    (case lTA => k_is)
    (case cTA => k_is)
    (case kTA => k_is)
    (case uRR => ks_is)
    (case uRB => ks_is)
    (case uRF => ks_is)
    (case fiTR => k_is)
    (case tyTR => k_is)
    (case lTR => k_is)
    (case cTR => k_is)
    (case kTR => k_is)
    (case uAR => ks_is)
    (case uAB => ks_is)
    (case uAF => ks_is)
    (case fiTD => k_is)
    (case tyTD => k_is)
    (case lTD => k_is)
    (case cTD => k_is)
    (case kTD => k_is)
    (case iRI => k_is)
    (case fnRI => k_is)
    (case lRI => k_is)
    (case cRI => k_is)
    (case kRI => k_is)
    (case iRE => k_is)
    (case fnRE => k_is)
    (case lRE => k_is)
    (case cRE => k_is)
    (case kRE => k_is)
    (case iBI => k_is)
    (case fnBI => k_is)
    (case lBI => k_is)
    (case cBI => k_is)
    (case kBI => k_is)
    (case iBE => k_is)
    (case fnBE => k_is)
    (case lBE => k_is)
    (case cBE => k_is)
    (case kBE => k_is)
    (case iFI => k_is)
    (case fnFI => k_is)
    (case lFI => k_is)
    (case cFI => k_is)
    (case kFI => k_is)
    (case iFE => k_is)
    (case fnFE => k_is)
    (case lFE => k_is)
    (case cFE => k_is)
    (case kFE => k_is)
    (case iRU => k_is)
    (case fnRU => k_is)
    (case lRU => k_is)
    (case cRU => k_is)
    (case kRU => k_is)
    (case faRU => k_is)
    (case fbRU => first | rfl | decide | k_is)
    (case fcRU => first | rfl | decide | k_is)
    (case ceRU => k_is)
    (case iRV => k_is)
    (case fnRV => k_is)
    (case lRV => k_is)
    (case cRV => k_is)
    (case kRV => k_is)
    (case faRV => k_is)
    (case fbRV => first | rfl | decide | k_is)
    (case fcRV => first | rfl | decide | k_is)
    (case ceRV => k_is)
    (case iBU => k_is)
    (case fnBU => k_is)
    (case lBU => k_is)
    (case cBU => k_is)
    (case kBU => k_is)
    (case faBU => k_is)
    (case fbBU => first | rfl | decide | k_is)
    (case fcBU => first | rfl | decide | k_is)
    (case ceBU => k_is)
    (case iBV => k_is)
    (case fnBV => k_is)
    (case lBV => k_is)
    (case cBV => k_is)
    (case kBV => k_is)
    (case faBV => k_is)
    (case fbBV => first | rfl | decide | k_is)
    (case fcBV => first | rfl | decide | k_is)
    (case ceBV => k_is)
    (case iFU => k_is)
    (case fnFU => k_is)
    (case lFU => k_is)
    (case cFU => k_is)
    (case kFU => k_is)
    (case faFU => k_is)
    (case fbFU => first | rfl | decide | k_is)
    (case fcFU => first | rfl | decide | k_is)
    (case ceFU => k_is)
    (case iFV => k_is)
    (case fnFV => k_is)
    (case lFV => k_is)
    (case cFV => k_is)
    (case kFV => k_is)
    (case faFV => k_is)
    (case fbFV => first | rfl | decide | k_is)
    (case fcFV => first | rfl | decide | k_is)
    (case ceFV => k_is)
    (case opq => first | k_is | rfl | decide)
    (case topS => first | rfl | decide | k_is)
    (case isCR => k_is)
    (case subR => k_is)
    (case isCB => k_is)
    (case subB => k_is)
    (case isCF => k_is)
    (case subF => k_is)
    (case dR1 => k_is)
    (case dB1 => k_is)
    (case dF1 => k_is)
    (case dF2 => k_is)
    (case dF3 => k_is)
    (case lTup => k_is)
    (case mkR => k_is)
    (case kCR => k_is)
    (case pgR => k_is)
    (case hdR => k_is)
    (case poR => k_is)
    (case saR => k_is)
    (case haR => k_is)
    (case hmR => k_is)
    (case neR => k_is)
    (case nRkind => k_is)
    (case nRname => k_is)
    (case nRowner => k_is)
    (case nR_audience => k_is)
    (case mkB => k_is)
    (case kCB => k_is)
    (case pgB => k_is)
    (case hdB => k_is)
    (case poB => k_is)
    (case saB => k_is)
    (case haB => k_is)
    (case hmB => k_is)
    (case neB => k_is)
    (case nBkind => k_is)
    (case nBname => k_is)
    (case nBowner => k_is)
    (case nB_audience => k_is)
    (case mkF => k_is)
    (case kCF => k_is)
    (case pgF => k_is)
    (case hdF => k_is)
    (case poF => k_is)
    (case saF => k_is)
    (case haF => k_is)
    (case hmF => k_is)
    (case neF => k_is)
    (case nFkind => k_is)
    (case nFname => k_is)
    (case nFowner => k_is)
    (case nF_audience => k_is)
    (case nFmode => k_is)
    (case nF_body => k_is)
    (case hn => k_is)
    (case ht => k_is)
    (case oRR => first | k_is | rfl | decide)
    (case nfRR => first | k_is | rfl | decide)
    (case oRB => first | k_is | rfl | decide)
    (case nfRB => first | k_is | rfl | decide)
    (case oRF => first | k_is | rfl | decide)
    (case nfRF => first | k_is | rfl | decide)
    (case nfSR => first | k_is | rfl | decide)
    (case nfLR => first | k_is | rfl | decide)
    (case oSR => first | k_is | rfl | decide)
    (case oLR => first | k_is | rfl | decide)
    (case oBR => first | k_is | rfl | decide)
    (case nfBR => first | k_is | rfl | decide)
    (case oBB => first | k_is | rfl | decide)
    (case nfBB => first | k_is | rfl | decide)
    (case oBF => first | k_is | rfl | decide)
    (case nfBF => first | k_is | rfl | decide)
    (case nfSB => first | k_is | rfl | decide)
    (case nfLB => first | k_is | rfl | decide)
    (case oSB => first | k_is | rfl | decide)
    (case oLB => first | k_is | rfl | decide)
    (case oFR => first | k_is | rfl | decide)
    (case nfFR => first | k_is | rfl | decide)
    (case oFB => first | k_is | rfl | decide)
    (case nfFB => first | k_is | rfl | decide)
    (case oFF => first | k_is | rfl | decide)
    (case nfFF => first | k_is | rfl | decide)
    (case nfSF => first | k_is | rfl | decide)
    (case nfLF => first | k_is | rfl | decide)
    (case oSF => first | k_is | rfl | decide)
    (case oLF => first | k_is | rfl | decide)
    (case aL => k_is)
    (case aMB => k_is)
    (case aMA => k_is)
    (case gRs => k_is)
    (case lRs => k_is)
    (case gMs => k_is)
    (case lMs => k_is)
    (case gK => k_is)
    (case lK => k_is)
    (case hK => exact ⟨⟨_, _, rfl, rfl⟩, ⟨_, _, rfl, rfl⟩, ⟨_, _, rfl, rfl⟩, trivial⟩)
    (case loK => first | rfl | decide | k_is)
    (case lK1 => k_is)
    (case lK2 => k_is)
    (case lK3 => k_is)
    (case zisinstance => k_is)
    (case zstr => k_is)
    (case zlen => k_is)
    (case zrange => k_is)
    (case zmax => k_is)
    (case zmin => k_is)
    (case zlist => k_is)
    (case ztuple => k_is)
    (case zall => k_is)
    (case zset => k_is)
    (case zsorted => k_is)
    (case zrepr => k_is)
    (case zsuper => k_is)
