import PyProof.Rows.All
import Wide.All
import OpenK.AllK
import Wide.FinOn
import HandS.ForMost
import HandS.Walk
import HandS.Wide
import HandS.Defaults
import HandS.IsInst
import HandS.Zip
import HandS.Ends
import KE.KExcPX
import HandS.ForExc
import HandS.ExcInit
import HandS.ExcField
import HandS.TryMany
import HandS.ClsMeth
import PyProof.EqAt
import PyProof.EqKinds
import PyProof.NeData
import HandS.StrMore
import HandS.MakeKwOnly
import HandS.Style
import HandS.WrittenGet
import HandS.More
import HandS.DeepEq
import HandS.Dict
import HandS.WordsDict
import PySem.Challenge.RW_rolereach_k07_deeds_refused
set_option Elab.async false
set_option linter.all false
set_option maxRecDepth 100000
set_option maxHeartbeats 4000000
namespace RL
open PySem PySem.Spec PyProof.Rows L2
/-! ### rules of my own: enumerate of a text, a text times a number, a call by keywords alone -/
def YEnumS (x : Str) : It :=
  ⟨fun i _ => i < x.cps.size, fun i H v H' => ∃ T c, v = .ref T ∧ H T = none ∧ H' = upd H T (.tup [.int (i : Nat), .str ⟨#[c]⟩]) ∧ x.cps[i]? = some c, fun i _ => i = x.cps.size⟩
theorem turn_enumS {P : Program} {w : World} {K : PySem.W.Frag} {elts : List Expr} {kk : Nat} {tpos : Pos} (e it : Addr) (x : Str) (t : Tok) (ty : String) (hty : ty = "str_ascii_iterator" ∨ ty = "str_iterator") :
    Turn P w K (.Tuple elts kk tpos) (YEnumS x) [e, it] e (fun i h => (∃ old, IsEnum h e it ((i : Nat) : Int) old) ∧ h.IsStrIter it ty x t i ∧ e ≠ it) where
  mem := by simp
  obj := fun i h st b hb => by
    obtain ⟨⟨old, he⟩, ⟨o, ho, hc, hd⟩, _⟩ := st
    have e' : b = e ∨ b = it := by simpa using hb
    rcases e' with z | z
    · rw [z]; exact ⟨_, he, fun v q => nomatch q⟩
    · rw [z]; exact ⟨o, ho, fun v q => by rw [hd] at q; cases q⟩
  keep := fun i h h' st k => by
    obtain ⟨⟨old, he⟩, ⟨o, ho, r⟩, hne⟩ := st
    exact ⟨⟨old, k e (by simp) _ he⟩, ⟨o, k it (by simp) o ho, r⟩, hne⟩
  item := by
    intro X hP hw hK hc i pins s σ H E I hf st hg
    subst hP hw hK
    obtain ⟨⟨old, he⟩, hit, hne⟩ := st
    have hel : e < s.heap.objs.size := Heap.lt_size he
    have hil : it < s.heap.objs.size := by obtain ⟨_, q, _⟩ := hit; exact Heap.lt_size q
    have D : Draws X.prog X.w X.A.in1 it [it] x.cps.size (fun i v => ∃ c u, x.cps[i]? = some c ∧ v = .str ⟨#[c]⟩ u) (fun i h => h.IsStrIter it ty x t i) := by
      rcases hty with z | z
      · rw [z]; exact Draws.strAscii (A := X.A.in1) (I.ok.hd hc) it x t
      · rw [z]; exact Draws.strWide (A := X.A.in1) (I.ok.hd hc) it x t
    refine wpAny_pyNext_enum_itemD D he hit hg hne (fun z => hne (by simpa using z)) fun u h' tk hu ho hit' hT hsz hk => ?_
    obtain ⟨c, u', hcx, rfl⟩ := hu
    refine ⟨_, rfl, wpAny_letOwnedTupleGo_enum (s := { s with heap := h', toks := tk + 1 }) ho fun h'' he' sb => ?_⟩
    have hT2 : h''.get? s.heap.objs.size = some { cls := .type "tuple", data := .seq #[.int i tk, .str ⟨#[c]⟩ u'] } := (sb.2 _ (Nat.ne_of_gt hel)).trans hT
    have new : ObjOk X.prog X.w (upd H s.heap.objs.size (.tup [.int (i : Nat), .str ⟨#[c]⟩])) h'' s.heap.objs.size (.tup [.int (i : Nat), .str ⟨#[c]⟩]) :=
      ⟨by show 2 ≤ sizeLine; decide, [.int i tk, .str ⟨#[c]⟩ u'], .cons ⟨_, rfl⟩ (.cons ⟨_, rfl⟩ .nil), ⟨_, hT2, rfl, _, rfl⟩⟩
    have I1 : Inv X pins σ (upd H s.heap.objs.size (.tup [.int (i : Nat), .str ⟨#[c]⟩])) { s with heap := h'', toks := tk + 1 } :=
      I.turnedNew (ch := [e, it]) (fun b ob hb q => (sb.2 b (fun z => hb (by simp [z]))).trans (hk b ob (fun z => hb (by simp [z])) (fun z => hb (by simp [z])) q)) hf (Nat.le_refl _) new
    have hit2 : h''.IsStrIter it ty x t (i + 1) := by
      obtain ⟨o, ho, r⟩ := hit'
      exact ⟨o, (sb.2 it (Ne.symm hne)).trans ho, r⟩
    refine ⟨.ref s.heap.objs.size, _, I1, rfl, ⟨_, c, rfl, I.hok.fresh (Nat.le_refl _), rfl, hcx⟩, ⟨⟨.str ⟨#[c]⟩ u', ?_⟩, hit2, hne⟩, fun b hb => ?_⟩
    · have e1 : ((i + 1 : Nat) : Int) = (i : Int) + 1 := by omega
      rw [e1]; exact he'
    · have hb' : b < s.heap.objs.size := by
        have e' : b = e ∨ b = it := by simpa using hb
        rcases e' with z | z
        · rw [z]; exact hel
        · rw [z]; exact hil
      rw [upd_ne (Nat.ne_of_lt hb')]
      exact (hf b hb).1
  done := by
    intro X hP hw hK hc i pins s σ H E I hf st hg
    subst hP hw hK
    obtain ⟨⟨old, he⟩, hit, hne⟩ := st
    obtain ⟨f0, f1, f2, f3, f4, f5⟩ := hf it (by simp)
    have hg : i = x.cps.size := hg
    subst hg
    have D : Draws X.prog X.w X.A.in1 it [it] x.cps.size (fun i v => ∃ c u, x.cps[i]? = some c ∧ v = .str ⟨#[c]⟩ u) (fun i h => h.IsStrIter it ty x t i) := by
      rcases hty with z | z
      · rw [z]; exact Draws.strAscii (A := X.A.in1) (I.ok.hd hc) it x t
      · rw [z]; exact Draws.strWide (A := X.A.in1) (I.ok.hd hc) it x t
    exact wpAny_pyNext_enum_endD D he hit fun h' eb => ⟨rfl, I.turned (t' := s.toks) (fun b o hb q => eb b o hb q) f0 f1 f3 f4 f5⟩
  self := fun A i s Q E st h => let ⟨⟨_, he⟩, _⟩ := st; wpAny_pyIter_enum he h
def iEnumS (ta : TA) : TI := fun σ H R => ta σ H fun vs H1 => ∃ x, vs = [.str x] ∧ R (YEnumS x) H1
theorem pi_enumS {X : Cx} {e : Expr} {ta : TA} {p pos tpos : Pos} {elts : List Expr} {kk : Nat} (hg : Gl X "enumerate") (hm : X.mg "enumerate" = none) (ha : PA X [e] ta) (hs : starEach [e] X.env = [(false, eval e X.env)] := by rfl) :
    PI X (.Tuple elts kk tpos) (.Call (.Name "enumerate" p) [e] [] pos) (iEnumS ta) := by
  refine ⟨fun pins s σ H R I h => ?_⟩
  refine Call_ (ld_blt I hg hm boot_enumerate (PyProof.Rows.callWith_type1 (thn (ha.run pos pins s σ H _ I h) fun us s1 ⟨vs, H1, I1, r1, q1⟩ => ?_) hs rfl))
  obtain ⟨x, ex, q⟩ := q1
  subst ex
  cases r1 with
  | cons r rr =>
    cases rr
    obtain ⟨t, rfl⟩ := r
    refine call_enumerate_str fun h' he hit hsz hk => wpAny_pyIter_enum he ?_
    have I2 : Inv X pins σ H1 { s1 with heap := h' } := I1.kept (t' := s1.toks) hk
    have hty : strIterType x = "str_ascii_iterator" ∨ strIterType x = "str_iterator" := by
      unfold strIterType
      split
      · exact .inl rfl
      · exact .inr rfl
    refine ⟨s1.heap.objs.size + 1, [s1.heap.objs.size + 1, s1.heap.objs.size], _, _, H1, rfl, I2, turn_enumS (s1.heap.objs.size + 1) s1.heap.objs.size x t (strIterType x) hty, ⟨⟨.none, he⟩, hit, Nat.succ_ne_self _⟩, fun b hb => ?_, q⟩
    have e' : b = s1.heap.objs.size + 1 ∨ b = s1.heap.objs.size := by simpa using hb
    have hle : s1.heap.objs.size ≤ b := by
      rcases e' with z | z
      · rw [z]; exact Nat.le_add_right _ _
      · rw [z]; exact Nat.le_refl _
    exact I1.fpOk hle (I1.hok.fresh hle)
theorem walk_enumS {x : Str} : Walk (YEnumS x) x.cps.size (fun _ => True) (YPair (fun i => some (.int (i : Nat))) (fun i => x.cps[i]?.map fun c => .str ⟨#[c]⟩)) := by
  refine ⟨fun _ _ hi _ => hi, fun _ _ => rfl, fun i H v H' _ _ y => ?_⟩
  obtain ⟨T, c, h1, h2, h3, h4⟩ := y
  exact ⟨T, .int (i : Nat), .str ⟨#[c]⟩, h1, h2, h3, rfl, by show (x.cps[i]?).map _ = _; rw [h4]; rfl⟩
/-- a text n times, its length said -/
def repS (x : Str) (n : Nat) : Str := ⟨((List.replicate n x.cps.toList).flatten).toArray⟩
theorem foldl_app (x : Array Nat) : ∀ (n : Nat) (acc : Array Nat), ((List.replicate n x).foldl (· ++ ·) acc).toList = acc.toList ++ (List.replicate n x.toList).flatten
  | 0, acc => by simp
  | n + 1, acc => by
    rw [List.replicate_succ, List.foldl_cons, foldl_app x n, List.replicate_succ, List.flatten_cons, Array.toList_append, List.append_assoc]
theorem repS_len (x : Str) (n : Nat) : (repS x n).length = n * x.length := by
  show ((List.replicate n x.cps.toList).flatten).toArray.size = _
  rw [List.size_toArray]
  induction n with
  | zero => simp
  | succ n ih =>
    rw [List.replicate_succ, List.flatten_cons, List.length_append, ih, Nat.succ_mul]
    show x.cps.size + _ = _
    rw [Nat.add_comm]
    rfl
theorem op_mul_str {X : Cx} : OpR X (binaryOp .Mult) (fun x y H Q => ∃ (a : Str) (k : Int), x = .str a ∧ y = .int k ∧ 1 ≤ k ∧ k < 1000000000 ∧ a.length * k.toNat ≤ 16000000 ∧ Q (.str (repS a k.toNat)) H) := by
  intro pins s σ H x y v u Q I rx ry h
  obtain ⟨a, k, rfl, rfl, h1, h2, h3, q⟩ := h
  obtain ⟨t, rfl⟩ := rx
  obtain ⟨t', rfl⟩ := ry
  have hn : ¬ k < 1 := by omega
  refine PySem.P.mul_str ?_ ?_ ?_ ?_
  · have e1 : ¬ k < -(2 ^ 63 : Int) := by omega
    have e2 : ¬ k ≥ 2 ^ 63 := by omega
    rw [decide_eq_false e1, decide_eq_false e2]; rfl
  · intro _ _ z
    have z2 : ((a.length : Int) * k) ≤ 16000000 := by
      have : ((a.length * k.toNat : Nat) : Int) ≤ 16000000 := by omega
      rw [Int.natCast_mul, Int.toNat_of_nonneg (by omega)] at this
      exact this
    have z3 : (a.length : Int) ≤ (2 ^ 63 - 1) / k := Int.le_ediv_of_mul_le (by omega) (by omega)
    omega
  · intro _ _
    unfold PySem.Builtin.Str.tooLong
    exact decide_eq_false (by show ¬ _ > 2 ^ 24; omega)
  · rw [if_neg hn]
    by_cases hc : (k == 1 || a.length == 0) = true
    · rw [if_pos hc]
      have e : repS a k.toNat = a := by
        unfold repS
        rw [Bool.or_eq_true, beq_iff_eq, beq_iff_eq] at hc
        rcases hc with hc | hc
        · rw [hc]
          show (⟨((List.replicate 1 a.cps.toList).flatten).toArray⟩ : Str) = a
          simp
        · have z : a.cps.toList = [] := List.eq_nil_of_length_eq_zero (by rw [Array.length_toList]; exact hc)
          have z2 : a = ⟨#[]⟩ := by
            cases a with
            | mk c =>
              congr 1
              apply Array.ext'
              exact z
          rw [z]
          rw [z2]
          congr 1
          apply Array.ext'
          simp
      rw [e] at q
      exact ⟨.str a, H, I, ⟨_, rfl⟩, q⟩
    · rw [if_neg hc]
      have e : (⟨(List.replicate k.toNat a.cps).foldl (· ++ ·) #[]⟩ : Str) = repS a k.toNat := by
        unfold repS
        congr 1
        apply Array.ext'
        rw [foldl_app]
        simp
      rw [e]
      refine ⟨?_, .str (repS a k.toNat), H, I.tok _, ⟨_, rfl⟩, q⟩
      rw [repS_len]
      show _ ≤ 2 ^ 24
      rw [Nat.mul_comm]
      omega
section
variable {X : Cx} {CX : CXT} {k n : Nat} {f : Addr} {fd : FuncData} {ps ks : List Str} {sp : Sp} {E : XK} {x : Str} {p pos : Pos} {kws : List Keyword} {tk : TA} {g : List Value → List Value → List Value} {gV : List V → List V → List V}
def tCallN0 (m : Nat) (sp : Sp) (gV : List V → List V → List V) (E : XK) (tk : TA) : TE := fun σ H Q => tk σ H fun zs H2 => zs.length = m ∧ sp (gV [] zs) H2 Q E
/-- f(k = v, ..) -/
theorem pe_callN0 (F : FnOk X.prog X.w X.K X.mg X.base CX k f fd ps sp) (hr : Room k X.A) (hg : Gl X x) (hm : X.mg x = some (.ref f)) (hk : PySem.W.keepIn X.K (.ref f) = true) (hb : KBn X.K fd ps 0 ks g gV) (hx : Passes CX X E)
    (hkw : PK X kws tk) (hall : (backToKw pos (keywordEach kws X.env)).all (·.1.isSome) = true := by rfl) (hks : (backToKw pos (keywordEach kws X.env)).filterMap (·.1) = ks := by rfl)
    (hdb : (x == ("__debug__" : Str)) = false := by decide)
    (hpl : ((backTo pos (starEach [] X.env)).any (·.1) || (backToKw pos (keywordEach kws X.env)).any (·.1.isNone)) = false := by rfl) :
    PE X (.Call (.Name x p) [] kws pos) (tCallN0 ks.length sp gV E tk) := by
  refine ⟨fun pins s σ H Q I h => ?_⟩
  refine wpAny_Call_Name_kw (ld_glob I hg hm ?_ hdb)
  refine PySem.W.callWith_KW0 (h₀ := X.base) I.ok.mod.kin hk hall ?_ hpl
  refine thn (hkw.run pos pins s σ H _ I h) fun ws s2 ⟨zs, H2, I2, rz, l2, q2⟩ => ⟨I2.kIn, ?_⟩
  rw [hks]
  exact run_fnN (n := 0) F hr hb hx I2 .nil rz rfl l2 q2
end
/-! ### heaps -/
theorem same_upd {H : Hp} {p : Addr} {o : HO} (h : H p = none) : Same H (upd H p o) := fun b x e => by
  rw [upd_ne (ne_of_none e h)]
  exact e
/-- all but b stands as it stood -/
def Keep (b : Addr) (H H' : Hp) : Prop := ∀ a o, a ≠ b → H a = some o → H' a = some o
theorem Keep.refl {b : Addr} {H : Hp} : Keep b H H := fun _ _ _ e => e
theorem Keep.trans {b : Addr} {H H1 H2 : Hp} (k1 : Keep b H H1) (k2 : Keep b H1 H2) : Keep b H H2 := fun a o n e => k2 a o n (k1 a o n e)
theorem Keep.upd {b : Addr} {H : Hp} {o : HO} : Keep b H (upd H b o) := fun a x n e => by
  rw [upd_ne n]
  exact e
theorem Keep.new {b p : Addr} {H : Hp} {o : HO} (h : H p = none) : Keep b H (L2.upd H p o) := fun a x n e => same_upd h a x e
theorem Keep.of {b : Addr} {H H1 : Hp} (s : Same H H1) : Keep b H H1 := fun a o _ e => s a o e
end RL
set_option maxHeartbeats 4000000
/-! ### defs that may ask for a repr: promises where nothing is being shown -/
namespace RG
open PySem PySem.Spec PyProof.Rows L2
section
variable {CX : CXT} {P : Program} {w : World} {K : PySem.W.Frag} {mg : Str → Option Value} {base : Heap} {k : Nat} {f : Addr} {fd : FuncData} {ps : List Str} {sp : Sp}
/-- nothing is being shown -/
abbrev Quiet (A : Around) : Prop := A.guards = some []
/-- as FnOk, where nothing is being shown -/
structure FnG (P : Program) (w : World) (K : PySem.W.Frag) (mg : Str → Option Value) (base : Heap) (CX : CXT) (k : Nat) (f : Addr) (fd : FuncData) (ps : List Str) (sp : Sp) : Prop where
  args : ∀ {vs H Q E}, sp vs H Q E → vs.length = ps.length
  go : ∀ {A : Around} {fr : List Env} {s : Shared} {H : Hp} {ar : Args} {us : List Value} {vs : List V} {Q : VK} {E : XK}, Quiet A → Room k A → Env0 P w K mg base A fr s H → BindsTo s fd ar (ps.zip us) → Vals vs us → sp vs H Q E →
    codeAny (model P w) A (.call (.ref f) ar) (CR CX fr P w H s Q E) s
theorem FnG.of (F : FnOk P w K mg base CX k f fd ps sp) : FnG P w K mg base CX k f fd ps sp where
  args h := F.len _ _ _ _ h
  go _ hr e0 hb r h := F.run _ _ _ _ _ _ _ _ _ hr e0 hb r h
theorem FnG.mono {j : Nat} (F : FnG P w K mg base CX j f fd ps sp) (h : j ≤ k) : FnG P w K mg base CX k f fd ps sp where
  args := F.args
  go q hr := F.go q (hr.mono h)
/-- what a body's end hands on -/
theorem body_end {N : List Str} {qual : Str} {scope : Scope} {cdv : Value} {A : Around} {fr : List Env} {s s2 : Shared} {H : Hp} {Q : VK} {E : XK} {fl : Flow}
    (h : SP (cxOf CX P w K mg base N qual scope f cdv A fr s H E) [] { nx := fun _ H' => Q .non H', rt := Q } fl s2) : CR CX fr P w H s Q E (.ok (match fl with | .next => .ret .none | z => z)) s2 := by
  cases fl with
  | ret u => exact let ⟨v, _, H', J, rv, q⟩ := h; ⟨v, H', J.os, J.bare, J.base, J.hok, rv, q⟩
  | next => exact let ⟨_, H', J, q⟩ := h; ⟨.non, H', J.os, J.bare, J.base, J.hok, rfl, q⟩
  | brk => exact let ⟨_, _, _, q⟩ := h; q.elim
  | cont => exact let ⟨_, _, _, q⟩ := h; q.elim
theorem FnG.mk' {name qual : Str} {params : Arguments} {body : List Stmt} {scope : Scope} {dV kV doc pm cdv ct oc : Value} {an od : Option Addr} {osl : Array (Option Value)} {N : List Str}
    (lk : K.lookup f = some ⟨oc, od, .func (PySem.W.fnOf name qual params body scope dV kV doc pm an cdv ct), osl⟩) (hcd : PySem.W.codeIn K cdv qual = true) (S : FnScope N ps scope) (len : ∀ {vs H Q E}, sp vs H Q E → vs.length = ps.length)
    (hbody : ∀ {A : Around} {fr : List Env} {s : Shared} {H : Hp} {vs : List V} {Q : VK} {E : XK}, Quiet A → Room k (A.deeper (envOfC qual scope s.heap.objs.size f cdv)) → sp vs H Q E →
      ∃ t, PSs (cxOf CX P w K mg base N qual scope f cdv A fr s H E) body t ∧ t { nx := fun _ H' => Q .non H', rt := Q } (start N vs) H) :
    FnG P w K mg base CX (k + 1) f (PySem.W.fnOf name qual params body scope dV kV doc pm an cdv ct) ps sp where
  args := len
  go {A fr s H ar us vs Q E} qt hr e0 hb r h := by
    have old : ∀ {b o}, base.get? b = some o → s.heap.get? b = some o := fun e => (e0.bs _ _ e).1
    refine codeAny_call_function hr.depth (e0.mod.kin.keeps (fun _ _ e => old e) _ _ lk) rfl S.co S.gen rfl (PySem.W.codeRec_of (e0.mod.kin.keeps fun _ _ e => old e) hcd) (hb _ _ _ _ ?_)
    refine wpAny_newFunctionEnv_cells S.kind (fun y hy => (S.par y.1 (List.of_mem_zip hy).1).imp id fun q => ⟨q, PySem.W.cellsFrom_some _ _ _ (.inl q)⟩) fun env he s1 x => ?_
    subst he
    obtain ⟨t, ht, hq⟩ := hbody (fr := fr) qt (hr.deeper _) h
    refine ⟨(e0.mod.nolimit.keeps fun _ _ e => old e).keeps x.toInCall.keep, codeAny_func (wpAny_mono (ht.run [] s1 (start N vs) H _ (inv_start S hr.hd e0 (len h) r x) hq) (fun fl s' hs => ?_) fun _ _ z => z)⟩
    have z := body_end hs
    cases fl with
    | ret u => exact z
    | next => exact z
    | brk => exact (show False from z).elim
    | cont => exact (show False from z).elim
end
section
variable {X : Cx} {CX : CXT} {k : Nat} {f : Addr} {fd : FuncData} {ps : List Str} {sp : Sp} {E : XK} {ds : List Value} {dvs : List V} {x : Str} {p pos : Pos} {e : Expr} {es : List Expr} {t : TA}
/-- f(e, ..) of such a def -/
theorem pe_callG (F : FnG X.prog X.w X.K X.mg X.base CX k f fd ps sp) (qt : Quiet X.A) (hr : Room k X.A) (hg : Gl X x) (hm : X.mg x = some (.ref f)) (hk : PySem.W.keepIn X.K (.ref f) = true) (hb : Binds X.K fd ps ds) (hd : Vals dvs ds) (hx : Passes CX X E)
    (ha : PA X (e :: es) t) (hdb : (x == ("__debug__" : Str)) = false := by decide) (he : starEach (e :: es) X.env = (false, eval e X.env) :: starEach es X.env := by rfl) (hpl : (backTo pos (starEach es X.env)).any (·.1) = false := by rfl) :
    PE X (.Call (.Name x p) (e :: es) [] pos) (tCall sp dvs E t) := ⟨fun pins s σ H Q I h => by
  refine wpAny_Call_Name_kw (ld_glob I hg hm (PySem.W.callWith_K (h₀ := X.base) I.ok.mod.kin hk (thn (ha.run pos pins s σ H _ I h) fun us s1 ⟨vs, H1, I1, r, q⟩ => ⟨I1.kIn, ?_⟩) he hpl) hdb)
  have r2 := r.append hd
  refine wpAny_call (codeAny_mono (F.go qt hr I1.env0 (hb s1 us I1.kIn (r2.length.symm.trans (F.args q))) r2 q) fun rs s2 z => ?_)
  match rs, z with
  | .error er, z => exact hx pins σ H1 s1 er s2 I1 z
  | .ok (.ret u), z => exact I1.after z⟩
end
/-! ### the repr of a list -/
/-- what an item may be: data without a dict; an empty dict; a dict of one text -/
inductive Sd (K : PySem.W.Frag) (H : Hp) : V → PyData → Prop
  | dp {v : V} {d : PyData} : Dp K H v d → Sd K H v d
  | dic0 {a : Addr} : H a = some (.dK []) → Sd K H (.ref a) (.dict [])
  | dic1 {a : Addr} {i : Int} {z : Str} : H a = some (.dK [(.inl i, .str z)]) → Sd K H (.ref a) (.dict [(.int i, .str z)])
/-- items of a list that is shown: plain ones ahead, anything as the last one; or none with a dict -/
inductive SdAll (K : PySem.W.Frag) (H : Hp) : List V → List PyData → Prop
  | last {v : V} {d : PyData} : Sd K H v d → SdAll K H [v] [d]
  | txt {z : Str} {vs : List V} {ds : List PyData} : SdAll K H vs ds → SdAll K H (.str z :: vs) (.str z :: ds)
  | all {vs : List V} {ds : List PyData} : DpAll K H vs ds → SdAll K H vs ds
section
variable {X : Cx} {pins : List (Addr × Obj)} {σ : L2.St} {H : Hp} {s : Shared}
mutual
theorem dp_nodict {K : PySem.W.Frag} {H : Hp} : ∀ {v : V} {d : PyData}, Dp K H v d → d.hasDict = false
  | _, _, .non => by simp [PyData.hasDict]
  | _, _, .bl _ => by simp [PyData.hasDict]
  | _, _, .int _ => by simp [PyData.hasDict]
  | _, _, .str _ => by simp [PyData.hasDict]
  | _, _, .lst _ h => by simp only [PyData.hasDict]; exact dpAll_nodict h
  | _, _, .tup _ h => by simp only [PyData.hasDict]; exact dpAll_nodict h
theorem dpAll_nodict {K : PySem.W.Frag} {H : Hp} : ∀ {vs : List V} {ds : List PyData}, DpAll K H vs ds → PyData.hasDictAll ds = false
  | _, _, .nil => by simp [PyData.hasDictAll]
  | _, _, .cons h t => by simp only [PyData.hasDictAll, dp_nodict h, dpAll_nodict t, Bool.or_self]
end
theorem sd_reads (I : Inv X pins σ H s) {v : V} {d : PyData} {u : Value} (h : Sd X.K H v d) (r : RelV v u) : ∃ as, Reads s.heap u d as ∧ (d.hasDict = true → sysModules ∉ as) := by
  cases h with
  | dp h =>
    obtain ⟨as, q⟩ := Dp.reads I d v u h r
    exact ⟨as, q, fun z => by rw [dp_nodict h] at z; cases z⟩
  | dic0 e =>
    cases r
    obtain ⟨_, hs, vs, kv, o, es, ep, h1, h2, h3, _, hp, _⟩ := (show ObjOk X.prog X.w H s.heap _ (.dK []) from I.hok _ _ e)
    cases kv
    have ee : es.toList = [] := by
      cases hh : es.toList with
      | nil => rfl
      | cons a b => rw [hh] at hp; cases hp
    refine ⟨_, Reads.dict (kvs := []) (as := []) (bs := []) h1 h2.1 h3 (by rw [ee]; exact .nil) (by rw [ee]; exact .nil), fun _ hm => ?_⟩
    have := beq_eq_false_iff_ne.mp hs
    rcases List.mem_cons.mp hm with z | z
    · exact this z.symm
    · simp at z
  | dic1 e =>
    cases r
    rename_i a i z
    obtain ⟨_, hs, vs, kv, o, es, ep, h1, h2, h3, _, hp, _⟩ := (show ObjOk X.prog X.w H s.heap _ (.dK [(.inl i, .str z)]) from I.hok _ _ e)
    cases kv with
    | cons q1 q2 =>
      cases q2
      obtain ⟨q0, q1⟩ := q1
      rename_i kv0 _
      obtain ⟨k0, v0⟩ := kv0
      have q0 : (Sum.inl i : L2.Key) = k0 := q0
      subst q0
      obtain ⟨t, q1⟩ := (show ∃ t, v0 = Value.str z t from q1)
      subst q1
      cases hh : es.toList with
      | nil => rw [hh] at hp; cases hp
      | cons e1 e2 =>
        rw [hh] at hp
        cases hp with
        | cons p1 p2 p3 =>
          cases p3
          have p1 : keyIs (.inl i) e1.key = true := p1
          rcases keyIs_shape p1 with ⟨j, u, hj, hk⟩ | ⟨x, u, hj, hk⟩
          · have ej : i = j := Sum.inl.inj hj
            subst ej
            refine ⟨_, Reads.dict (kvs := [(.int i, .str z)]) (as := [] ++ []) (bs := [] ++ []) h1 h2.1 h3 ?_ ?_, fun _ hm => ?_⟩
            · rw [hh]
              show ReadsAll s.heap [e1.key] [.int i] _
              rw [hk]
              exact .cons (.int _ _) .nil
            · rw [hh]
              show ReadsAll s.heap [e1.val] [.str z] _
              rw [p2]
              exact .cons (.str _ _) .nil
            · have := beq_eq_false_iff_ne.mp hs
              rcases List.mem_cons.mp hm with z | z
              · exact this z.symm
              · simp at z
          · cases hj
theorem sd_readsAll (I : Inv X pins σ H s) : ∀ {vs : List V} {ds : List PyData} {us : List Value}, SdAll X.K H vs ds → Vals vs us → ∃ as, ReadsAll s.heap us ds as ∧ (PyData.hasDictAll ds = true → sysModules ∉ as)
  | _, _, _, .last h, .cons r .nil => by
    obtain ⟨as, q, n⟩ := sd_reads I h r
    refine ⟨_, .cons q .nil, fun z hm => n ?_ (by simpa using hm)⟩
    simpa [PyData.hasDictAll] using z
  | _, _, _, .txt h, .cons r rr => by
    obtain ⟨t, rfl⟩ := r
    obtain ⟨bs, q2, n2⟩ := sd_readsAll I h rr
    exact ⟨_, .cons (.str _ t) q2, fun z hm => n2 (by simpa [PyData.hasDictAll, PyData.hasDict] using z) (by simpa using hm)⟩
  | _, _, _, .all h, r => by
    obtain ⟨as, q⟩ := Dp.readsAll I _ _ _ h r
    exact ⟨as, q, fun z => by rw [dpAll_nodict h] at z; cases z⟩
/-- repr(x), x a list -/
def rRepr (K : PySem.W.Frag) : List V → Hp → VK → Prop := fun vs H Q => ∃ (a : Addr) (xs : List V) (ds : List PyData), vs = [.ref a] ∧ SqL K H a xs ∧ SdAll K H xs ds ∧ PyData.showable (.list ds) = true ∧ (PyData.shown (.list ds)).length ≤ sizeLine ∧ PyData.depth (.list ds) ≤ 60 ∧ Q (.str (PyData.shown (.list ds))) H
theorem call_reprL {k : Nat} (qt : Quiet X.A) (hr : Room k X.A) : CallR X (.builtin "repr") (rRepr X.K) := by
  intro pins s σ H vs us Q I r h
  obtain ⟨a, xs, ds, rfl, hq, hd, hs, hz, hdp, q⟩ := h
  cases r with
  | cons r rr =>
    cases rr
    cases r
    obtain ⟨its, rv, ⟨o, n, ho, hc, _, hdt⟩, _⟩ := I.list hq
    obtain ⟨as, ra, hsm⟩ := sd_readsAll I hd rv
    have hu := hr.units
    have hs' : PyData.showableAll ds = true := by simpa [PyData.showable] using hs
    have hz' : (listText (PyData.shownAll ds)).length ≤ sizeLine := by simpa only [PyData.shown] using hz
    have fin : ∀ (h' : Heap) (u tk : Tok), (∀ b o, s.heap.get? b = some o → h'.get? b = some o) → EP X pins σ Q (.str (PyData.shown (.list ds)) u) { s with heap := h', toks := tk } :=
      fun h' u tk kp => ⟨.str _, H, I.kept kp, ⟨u, rfl⟩, q⟩
    obtain ⟨bs, hb, hk⟩ := ReprAllK.of_readsAll (prog := X.prog) (w := X.w) ra hs' hsm (fun t ht => Nat.le_trans (listText_mem_le ht) hz')
    have hna : a ∉ bs := not_mem_of_deeper (.list (vs := its.toArray) ho hc hdt (by simpa using ra)) (by simp only [PyData.depth]; omega) hb
    have hdp' : PyData.depthAll ds + 1 ≤ 60 := by simpa only [PyData.depth] using hdp
    refine call_repr_slot (by omega) ⟨o, ho, hc⟩ F.slot_list_repr.toG ?_
    cases its with
    | nil =>
      cases ra
      simp only [PyData.shown, PyData.shownAll, listText_nil] at fin
      exact call_list_repr_empty ⟨o, ho, hc⟩ ho hdt ⟨_, _, rfl, fin s.heap _ _ fun _ _ e => e⟩
    | cons x l =>
      refine call_list_reprK ho hc hdt hna (by simpa using hk.length_eq) (fun i y e => hk.item i y (by simpa using e)) (g := []) qt (fun b _ => Clear.nil b) (by show X.A.units + 1 + _ < _; omega) (fun _ _ e => e) (fun h' u tk kp => ⟨_, _, rfl, ?_⟩) hz'
      have := fin h' u tk kp
      simpa only [PyData.shown] using this
end
end RG
set_option maxHeartbeats 4000000
/-! ### the head, where nothing is being shown -/
namespace RG
open PySem PySem.Spec PyProof.Rows L2
section
variable {P : Program} {w : World} {K : PySem.W.Frag} {mg mb : Str → Option Value} {CX : CXT} {k : Nat} {fa a : Addr} {fd : FuncData} {x : Str} {sp : Sp} {s1 : Shared} {vs : List Value} {ns : List Int}
/-- what the law's call is to come to -/
abbrev Won (s1 : Shared) : Result → Shared → Prop := fun r s' => r = .ok (.ret (.bool true)) ∧ OldK s1.heap s'.heap ∧ s'.os = s1.os ∧ AllBare s'.gens
/-- from a tracked heap that holds the script at most -/
theorem won_from {H : Hp} (KX : K.In s1.heap) (hns : s1.heap.Ns mainGlobals mg) (hb : s1.heap.Ns builtinsNs mb) (hbb : ∀ x : Str, x ≠ "__name__" → mb x = bootBuiltins x) (hlim : s1.heap.NoLimit) (hg : s1.gens = #[])
    (hl : ∀ b, H b ≠ none → ∃ o xs, H b = some (.frz o (.lst xs)) ∧ K.lookup b = none) (hdt : ∀ b o es n, s1.heap.get? b = some o → o.data = .dict es n → H b = none) (hok : HOk P w H s1.heap)
    (hr : Room k callerA) (F : ∀ base : Heap, K.In base → base.Ns mainGlobals mg → FnG P w K mg base CX k fa fd [x] sp) (hbind : ∀ (s : Shared) (u : Value), BindsTo s fd ⟨[u], []⟩ [(x, u)])
    (hsp : sp [.ref a] H (fun v _ => v = .bl true) fun _ _ _ => False) (hCX : ∀ e s', CX [] H s1 (fun _ _ _ => False) e s' → False) :
    codeAny (model P w) callerA (.call (.ref fa) ⟨[.ref a], []⟩) (Won s1) s1 := by
  -- the part of the heap that nothing tracks
  have un : ∀ {b : Addr} {m : Str → Option Value}, s1.heap.Ns b m → (hidT s1.heap H).Ns b m := fun ⟨o, es, ep, e, d, r⟩ => ⟨o, es, ep, hidT_get e (hdt _ _ _ _ e d), d, r⟩
  have kin : K.In (hidT s1.heap H) := fun b o e => by
    refine hidT_get (KX b o e) ?_
    cases q : H b with
    | none => rfl
    | some u =>
      obtain ⟨_, _, _, z⟩ := hl b (by rw [q]; exact fun z => nomatch z)
      rw [z] at e
      cases e
  obtain ⟨mc, l1, l2⟩ := hlim
  have env : Env0 P w K mg (hidT s1.heap H) callerA [] s1 H :=
    { frames := rfl, mod := ⟨kin, un hns, ⟨mb, un hb, hbb⟩, mc, un l1, l2⟩, bs := fun _ _ e => of_hidT e, bsz := Nat.le_of_eq (hidT_size _ _), funs := trivial, frf := fun _ z => (nomatch z), hok := hok, bare := .of_eq hg }
  refine codeAny_mono ((F _ kin (un hns)).go (us := [.ref a]) (vs := [.ref a]) rfl hr env (hbind s1 (.ref a)) (.cons rfl .nil) hsp) fun r s2 h => ?_
  match r, h with
  | .error e, h => exact (hCX e s2 h).elim
  | .ok (.ret u), ⟨v, H2, os, bare, U, ok2, rv, ev⟩ =>
    have ev : v = .bl true := ev
    subst ev
    have rv : u = Value.bool true := rv
    subst rv
    refine ⟨rfl, OldK.of_keep fun b o e => ?_, os, bare⟩
    cases q : H b with
    | none => exact U.keep b o e q (fun z => nomatch z) (fun z => nomatch z)
    | some u =>
      obtain ⟨ob, xs, z, _⟩ := hl b (by rw [q]; exact fun z => nomatch z)
      have e1 := (hok b _ z).1
      have e2 := (ok2 b _ (U.frzs b ob _ z)).1
      rw [e1] at e
      cases e
      exact e2
theorem law_callG (KX : K.In s1.heap) (hns : s1.heap.Ns mainGlobals mg) (hb : s1.heap.Ns builtinsNs mb) (hbb : ∀ x : Str, x ≠ "__name__" → mb x = bootBuiltins x) (hlim : s1.heap.NoLimit) (hg : s1.gens = #[])
    (ha : s1.heap.get? a = some { cls := .type "list", data := .seq vs.toArray }) (hi : IntsAre vs ns) (hl : ns.length ≤ sizeLine) (hr : Room k callerA)
    (F : ∀ base : Heap, K.In base → base.Ns mainGlobals mg → FnG P w K mg base CX k fa fd [x] sp) (hbind : ∀ (s : Shared) (u : Value), BindsTo s fd ⟨[u], []⟩ [(x, u)])
    (hsp : ∀ H : Hp, Only H → SqL K H a (ns.map V.int) → sp [.ref a] H (fun v _ => v = .bl true) fun _ _ _ => False) (hCX : ∀ H e s', CX [] H s1 (fun _ _ _ => False) e s' → False) :
    codeAny (model P w) callerA (.call (.ref fa) ⟨[.ref a], []⟩) (Won s1) s1 := by
  have rv := vals_ints hi
  have lenV := hi.length
  cases hk : K.lookup a with
  | some o =>
    have e := (KX a o hk).symm.trans ha
    cases e
    have hS : SqL K (fun _ => none) a (ns.map V.int) := .inr ⟨_, vs.toArray, _, hk, rfl, rfl, rfl, by rw [List.size_toArray, lenV]; exact hl, rv⟩
    exact won_from KX hns hb hbb hlim hg (H := fun _ => none) (fun _ z => absurd rfl z) (fun _ _ _ _ _ _ => rfl) (fun _ _ z => nomatch z) hr F hbind (hsp _ (fun _ => .inl rfl) hS) (hCX _)
  | none =>
    -- the script is tracked, locked
    let H : Hp := upd (fun _ => none) a (.frz { cls := .type "list", data := .seq vs.toArray } (.lst (ns.map V.int)))
    have at_ : H a = some (.frz { cls := .type "list", data := .seq vs.toArray } (.lst (ns.map V.int))) := upd_same
    have off : ∀ {b}, b ≠ a → H b = none := fun n => upd_ne n
    refine won_from KX hns hb hbb hlim hg (H := H) (fun b z => ?_) (fun b o es n e d => ?_) (fun b u z => ?_) hr F hbind (hsp H (fun b => ?_) (.inl (.inr ⟨_, at_⟩))) (hCX _)
    · by_cases q : b = a
      · subst q
        exact ⟨_, _, at_, hk⟩
      · exact absurd (off q) z
    · by_cases q : b = a
      · subst q
        rw [ha] at e
        cases e
        cases d
      · exact off q
    · by_cases q : b = a
      · subst q
        have z2 := Option.some.inj (z.symm.trans at_)
        subst z2
        exact ⟨ha, by rw [List.length_map]; exact hl, vs, _, rv, ha⟩
      · rw [off q] at z
        cases z
    · by_cases q : b = a
      · subst q
        exact .inr ⟨_, _, at_⟩
      · exact .inl (off q)
end
theorem walk_ofG {l : PySem.W.OpenLaw} {n k : Nat} {q : Program} {loose : List Str} {XP : (Str → Option Value) → Heap → Prop} {YP : World → Heap → Prop} {d : DefRec} {K : Params → PySem.W.Frag} {CX : World → CXT} {sp : World → Sp} {x : Str}
    (hn : l.most = some n) (hn2 : n ≤ sizeLine) (hdf : d.params.defaults = []) (hr : Room k callerA) (hY : ∀ (w : World) (h : Heap), YP w h → (K w.params).In h)
    (F : ∀ (w : World) (mg : Str → Option Value) (fa : Addr) (h : Heap), (K w.params).In h → h.Ns mainGlobals mg → mg d.name = some (.ref fa) →
      ∃ fd : FuncData, (∀ (s : Shared) (u : Value), BindsTo s fd ⟨[u], []⟩ [(x, u)]) ∧ ∀ base : Heap, (K w.params).In base → base.Ns mainGlobals mg → FnG l.prog w (K w.params) mg base (CX w) k fa fd [x] (sp w))
    (hsp : ∀ (w : World) (H : Hp) (a : Addr) (ns : List Int), ns.length ≤ n → Only H → SqL (K w.params) H a (ns.map V.int) → sp w [.ref a] H (fun v _ => v = .bl true) fun _ _ _ => False)
    (hCX : ∀ (w : World) (H : Hp) (s : Shared) (e : Value) (s' : Shared), CX w [] H s (fun _ _ _ => False) e s' → False) : PySem.W.WalkO q loose XP YP l.row.toRowW d [] (fun f vs => PySem.call f vs) :=
  Att.attach_call hn hdf fun w s0 s1 mg mb fa o pm cd doc a vs ns G Y _ _ _ hmg hobj hints hlen hg =>
    let ⟨_, hb, hF⟩ := F w mg fa _ (hY w _ Y) G.T.g hmg
    law_callG (hY w _ Y) G.T.g G.T.b G.T.builtins G.T.nolimit hg hobj hints (Nat.le_trans hlen hn2) hr hF hb (fun H hO hS => hsp w H a ns hlen hO hS) fun H e s' => hCX w H s1 e s'
end RG
set_option maxHeartbeats 4000000
/-! ### a try with several clauses that bind the error -/
namespace RX
open PySem PySem.Spec PyProof.Rows L2
/-- a clause: its class, the slot of its name, its suite's reading -/
structure Cl where
  c : Value
  i : Nat
  ts : Addr → Value → Option Addr → TS
/-- behind a suite the slot is empty again -/
def Ends.wipe (D : Ends) (i : Nat) : Ends := { nx := fun σ H => D.nx (σ.set i none) H, rt := D.rt, bk := fun σ H => D.bk (σ.set i none) H, ct := fun σ H => D.ct (σ.set i none) H }
/-- what is wanted of an error: the first clause that takes it; one must -/
def wCl (K : PySem.W.Frag) (D : Ends) : List Cl → WX
  | [] => fun _ _ _ _ => False
  | q :: r => fun cls d σ H => ∃ b, PySem.W.exmOne K cls q.c = some b ∧ (b = true → ∀ a, H a = none → q.ts a cls d (Ends.wipe D q.i) (σ.set q.i (some (.ref a))) H) ∧ (b = false → wCl K D r cls d σ H)
/-- the clauses, from the first; those behind the last of l are never asked -/
inductive Cls' (X : Cx) : List ExceptHandler → List Cl → Prop
  | rest {hs : List ExceptHandler} : Cls' X hs []
  | cons {x n : Str} {q : Cl} {b0 : Stmt} {su : List Stmt} {np ps : Pos} {hs : List ExceptHandler} {l : List Cl} (hi : X.N[q.i]? = some n) (hl : X.env.kindOf n = some .local) (hc : Names X x q.c)
      (hsu : ∀ (a : Addr) (oe : Obj) (cls : Value) (d : Option Addr) (pn : List (Addr × Obj)), Zc cls d oe → (∃ vs, oe.data = .fields vs) → PSs (X.suite a ((a, oe) :: pn)) (b0 :: su) (q.ts a cls d)) (r : Cls' X hs l) :
      Cls' X (.ExceptHandler (some (.Name x np)) (some n) (b0 :: su) ps :: hs) (q :: l)
section
variable {X : Cx} {body : List Stmt} {h0 : ExceptHandler} {hs : List ExceptHandler} {l : List Cl} {pos : Pos} {tb : WX → TS}
theorem ps_tryC (hst : X.stack = X.env :: X.outer) (hf : X.env.frame = some X.env.locals) (hN : X.N.Nodup)
    (hb : ∀ (W : WX) (pn : List (Addr × Obj)) (xe : Value → Shared → Prop), Takes (X.tr pn xe) W → PassesOwn (model X.prog X.w) X.A X.env xe → PSs (X.tr pn xe) body (tb W))
    (hh : Cls' X (h0 :: hs) l) : PS X (.Try body (h0 :: hs) [] [] pos) (fun D σ H => tb (wCl X.K D l) D σ H) := ⟨fun pins s σ H D I h => by
  have ok := I.ok
  refine wpAny_Try_except ?_
  -- the error's way: noted, set in flight, then to the clauses
  let away : Value → Shared → Prop := fun e s1 => wpAny (model X.prog X.w) X.A (noteFrame e X.env) (fun _ s2 => wpAny (model X.prog X.w) X.A (setFlight e none) (fun _ s3 => wpAny (model X.prog X.w) X.A (handleBy e X.env (h0 :: hs)) (SP X pins D) X.xe s3) X.xe s2) X.xe s1
  have take : Takes (X.tr (X.pn ++ pins) away) (wCl X.K D l) := fun u s' xx => by
    obtain ⟨a, B, sI, pins', σ1, H1, cls, d, rfl, J0, nb, up, sky, na, os, ag, w⟩ := xx
    have J : Inv X pins σ1 H1 sI := J0.ofTry ok
    have hfr : X.A.frames = some (X.env :: X.outer) := ok.frames.trans (congrArg some hst)
    have sky1 : Sky B (X.env :: X.outer) a (Zc cls d) X.env.locals s'.heap := hst ▸ sky
    refine Sky.land Zc.steady hfr hf sky1 fun h3 fl up3 => ?_
    have J3 : Inv X pins σ1 H1 { s' with heap := h3 } := J.landed nb fl.1 (up.trans up3) os ag
    obtain ⟨oe, vs, he, hz, hd⟩ := fl.there
    have apart : ∀ {e : Env}, e ∈ X.env :: X.outer → ∀ {z : Addr}, e.frame = some z → z ≠ a := fun {e} he' {z} ez q => by
      subst q
      obtain ⟨_, o', e', hnf⟩ := fl.2.2.1.mem (List.mem_filterMap.mpr ⟨e, he', ez⟩)
      exact hnf _ (by rw [he] at e'; cases e'; exact hd)
    have nL : a ≠ X.env.locals := fun z => apart List.mem_cons_self hf z.symm
    have nF : a ∉ X.fs := fun hm => by
      obtain ⟨e, he', q⟩ := List.mem_filterMap.mp hm
      exact apart (List.mem_cons_of_mem _ he') q rfl
    have S3 := J3.suite he hd na nL nF
    have go : ∀ {hs' : List ExceptHandler} {l' : List Cl}, Cls' X hs' l' → wCl X.K D l' cls d σ1 H1 → wpAny (model X.prog X.w) X.A (handleBy (.ref a) X.env hs') (SP X pins D) X.xe { s' with heap := h3 } := by
      intro hs' l' hk
      induction hk with
      | rest => exact fun w => w.elim
      | @cons x n q b0 su np ps hs2 l2 hi hl hc hsu r ih =>
        rintro ⟨b, hb1, yes, no⟩
        have test : ∀ {Q' : Value → Shared → Prop} {E' : Value → Shared → Prop}, Q' q.c { s' with heap := h3 } → wpAny (model X.prog X.w) (X.A.mark (some (.ref a))) (eval (.Name x np) X.env) Q' E' { s' with heap := h3 } := fun {Q' E'} hq => by
          obtain ⟨g1, g2, m | ⟨m, v, nn⟩⟩ := hc
          · exact ld_glob (X := X.suite a ((a, oe) :: (X.pn ++ pins))) S3 g1 m hq g2
          · exact ld_blt (X := X.suite a ((a, oe) :: (X.pn ++ pins))) S3 g1 m v hq nn g2
        cases b with
        | false => exact PySem.PX.clause_passZ J3.kIn (fun o z => z.1) fl hb1 test (ih (no rfl))
        | true =>
          refine PySem.PX.clause_asZ J3.kIn (fun o z => z.1) fl hb1 test fun h4 fl4 up4 => ?_
          obtain ⟨oe4, vs4, he4, hz4, hd4⟩ := fl4.there
          have S4 := (J.landed nb fl4.1 ((up.trans up3).trans up4) os ag : Inv X pins σ1 H1 { s' with heap := h4 }).suite he4 hd4 na nL nF
          refine store_ok (X := X.suite a ((a, oe4) :: (X.pn ++ pins))) (v := .ref a) S4 hN hi (.inl hl) rfl (fun s5 S5 => ?_) (.inr hl)
          refine wpAny_mono ((hsu a oe4 cls d (X.pn ++ pins) hz4 ⟨_, hd4⟩).run [] s5 _ H1 _ S5 (yes rfl a na)) (fun f s6 hsp => ?_) fun _ _ z => z.elim
          match f, hsp with
          | .next, ⟨_, _, S6, q6⟩ => exact gone_ok (S6.unsuite ok) hN hi hl fun s7 J7 => ⟨_, _, J7, q6⟩
          | .brk, ⟨_, _, S6, q6⟩ => exact gone_ok (S6.unsuite ok) hN hi hl fun s7 J7 => ⟨_, _, J7, q6⟩
          | .cont, ⟨_, _, S6, q6⟩ => exact gone_ok (S6.unsuite ok) hN hi hl fun s7 J7 => ⟨_, _, J7, q6⟩
          | .ret u, ⟨_, _, _, S6, r6, q6⟩ => exact gone_ok (S6.unsuite ok) hN hi hl fun s7 J7 => ⟨_, _, _, J7, r6, q6⟩
    exact go hh w
  refine wpAny_mono ((hb (wCl X.K D l) (X.pn ++ pins) away take PassesOwn.looking).run [] s σ H D (I.toTry _) h) (fun f s1 hsp => ?_) fun e s1 he => he
  match f, hsp with
  | .next, ⟨_, _, J, q⟩ => exact wpAny_execs_nil ⟨_, _, J.ofTry ok, q⟩
  | .brk, ⟨_, _, J, q⟩ => exact ⟨_, _, J.ofTry ok, q⟩
  | .cont, ⟨_, _, J, q⟩ => exact ⟨_, _, J.ofTry ok, q⟩
  | .ret u, ⟨_, _, _, J, r, q⟩ => exact ⟨_, _, _, J.ofTry ok, r, q⟩⟩
end
end RX
set_option maxHeartbeats 4000000
/-! ### an own error whose __init__ calls that of its base by the base's name, then keeps its fields -/
namespace RX
open PySem PySem.Spec PyProof.Rows L2
section
variable {X : Cx} {x : Str} {CR : Addr} {mc : Value} {e : Expr} {es : List Expr} {ta : TA} {p1 p2 pos : Pos}
/-- what of the base's class is read -/
structure BaseI (K : PySem.W.Frag) (mg : Str → Option Value) (x : Str) (CR : Addr) (mc : Value) : Prop where
  gl : mg x = some (.ref CR)
  rd : PySem.W.readsIn K CR mc = true
  ga : PySem.W.specialIn K (.ref CR) "__getattribute__" = some (some (.builtin "type.__getattribute__"))
  ini : PySem.W.findCls K (.ref CR) mc "__init__" = some (.val (.builtin "ValueError.__init__"))
theorem pe_cinit {pl : Sem Bool} (B : BaseI X.K X.mg x CR mc) (hg : Gl X x) (ha : PA X (e :: es) ta) (hdb : (x == ("__debug__" : Str)) = false := by decide)
    (hc : eval (.Call (.Attribute (.Name x p1) "__init__" p2) (e :: es) [] pos) X.env = (do
      let ov ← eval (.Name x p1) X.env
      standAt p2.atName
      let (f, first) ← holding [ov] (getMethod ov "__init__" pl)
      callWith pos f first (backTo pos (starEach (e :: es) X.env)) (backToKw pos (keywordEach [] X.env))) := by rfl)
    (he : starEach (e :: es) X.env = (false, eval e X.env) :: starEach es X.env := by rfl) (hpl : (backTo pos (starEach es X.env)).any (·.1) = false := by rfl) :
    PE X (.Call (.Attribute (.Name x p1) "__init__" p2) (e :: es) [] pos) (tVeI X.K ta) := ⟨fun pins s σ H Q I h => by
  refine PySem.W.methodCall_KW (ld_glob I hg B.gl ?_ hdb) hc
  refine PySem.W.method_cls I.kIn B.ga (PySem.W.cls_value I.kIn B.rd B.ini (by rfl) ?_)
  show wpAny _ _ (callWith pos (Value.builtin "ValueError.__init__") [] (backTo pos (starEach (e :: es) X.env)) []) _ _ _
  refine PyProof.Rows.callWith_method1 (thn (ha.run pos pins _ σ H _ (I.tok _) h) fun us s1 ⟨vs, H1, I1, r1, a, C, ws, ev, hl, T, ea, q⟩ => ?_) he hpl
  subst ev
  match us, r1 with
  | u0 :: ur, .cons ra rw' =>
    cases (show u0 = Value.ref a from ra)
    exact oinit_ok T I1 ea (by rw [← Paired.length rw', sizeLine_eq]; omega) fun s' J => ⟨.non, H1, J, rfl, q⟩⟩
end
end RX
set_option maxHeartbeats 4000000
namespace RM
open PySem PySem.Spec PyProof.Rows L2 TL
/-! ### the words between the places of a sign are what split tells -/
def sp (c : Nat) : List Nat → List (List Nat)
  | [] => [[]]
  | x :: r => if x = c then [] :: sp c r else (x :: (sp c r).headD []) :: (sp c r).tail
theorem sp_ne (c : Nat) : ∀ l, sp c l ≠ []
  | [] => by simp [sp]
  | x :: r => by
    unfold sp
    split <;> simp
/-- the places -/
def pos (c : Nat) : List Nat → Int → List Int
  | [], _ => []
  | x :: r, k => if x = c then k :: pos c r (k + 1) else pos c r (k + 1)
def sl (l : List Nat) (i j : Int) : List Nat := (l.drop i.toNat).take (j.toNat - i.toNat)
def G (l : List Nat) : Int → List Int → List (List Nat)
  | _, [] => []
  | a, b :: bs => sl l (a + 1) b :: G l b bs
theorem G_shift (x : Nat) (r : List Nat) : ∀ (bs : List Int) (a : Int), -1 ≤ a → (∀ b ∈ bs, 0 ≤ b) → G (x :: r) (a + 1) (bs.map (· + 1)) = G r a bs
  | [], _, _, _ => rfl
  | b :: bs, a, ha, hb => by
    have h0 : 0 ≤ b := hb b (List.mem_cons_self ..)
    show sl (x :: r) (a + 1 + 1) (b + 1) :: G (x :: r) (b + 1) (bs.map (· + 1)) = sl r (a + 1) b :: G r b bs
    rw [G_shift x r bs b (by omega) (fun z hz => hb z (List.mem_cons_of_mem _ hz))]
    congr 1
    unfold sl
    have e1 : (a + 1 + 1).toNat = (a + 1).toNat + 1 := by omega
    have e2 : (b + 1).toNat = b.toNat + 1 := by omega
    rw [e1, e2, List.drop_succ_cons]
    congr 1
    omega
theorem pos_shift (c : Nat) : ∀ (l : List Nat) (k : Int), pos c l (k + 1) = (pos c l k).map (· + 1)
  | [], _ => rfl
  | x :: r, k => by
    unfold pos
    rw [pos_shift c r (k + 1)]
    split <;> simp
theorem pos_nonneg (c : Nat) : ∀ (l : List Nat) (k : Int), 0 ≤ k → ∀ b ∈ pos c l k, 0 ≤ b
  | [], _, _, b, h => by cases h
  | x :: r, k, hk, b, h => by
    unfold pos at h
    split at h
    · rcases List.mem_cons.mp h with e | h
      · omega
      · exact pos_nonneg c r (k + 1) (by omega) b h
    · exact pos_nonneg c r (k + 1) (by omega) b h
theorem G_sp (c : Nat) : ∀ l : List Nat, G l (-1) (pos c l 0 ++ [(l.length : Int)]) = sp c l
  | [] => rfl
  | x :: r => by
    have ih := G_sp c r
    have hn : ∀ b ∈ pos c r 0 ++ [(r.length : Int)], 0 ≤ b := fun b hb => by
      rcases List.mem_append.mp hb with h | h
      · exact pos_nonneg c r 0 (by omega) b h
      · rw [List.mem_singleton.mp h]; omega
    have em : (pos c r 1 ++ [((x :: r).length : Int)]) = (pos c r 0 ++ [(r.length : Int)]).map (· + 1) := by
      rw [List.map_append, ← pos_shift c r 0]
      rfl
    unfold pos sp
    show G (x :: r) (-1) ((if x = c then (0 : Int) :: pos c r (0 + 1) else pos c r (0 + 1)) ++ _) = _
    rw [show (0 : Int) + 1 = 1 from rfl]
    by_cases hx : x = c
    · rw [if_pos hx, if_pos hx, List.cons_append, em]
      show sl (x :: r) 0 0 :: G (x :: r) (-1 + 1) _ = _
      rw [G_shift x r _ (-1) (by omega) hn, ih]
      rfl
    · rw [if_neg hx, if_neg hx, em]
      cases e : pos c r 0 ++ [(r.length : Int)] with
      | nil => simp at e
      | cons b bs =>
        rw [e] at ih hn
        have h0 : 0 ≤ b := hn b (List.mem_cons_self ..)
        rw [List.map_cons]
        show sl (x :: r) 0 (b + 1) :: G (x :: r) (b + 1) (bs.map (· + 1)) = _
        rw [G_shift x r bs b (by omega) (fun z hz => hn z (List.mem_cons_of_mem _ hz)), ← ih]
        show _ = (x :: sl r 0 b) :: G r b bs
        congr 1
        unfold sl
        have e2 : (b + 1).toNat - (0 : Int).toNat = b.toNat + 1 := by
          show (b + 1).toNat - 0 = _
          omega
        rw [e2]
        rfl
theorem sp_hit {c : Nat} (r : List Nat) : sp c (c :: r) = [] :: sp c r := if_pos rfl
theorem sp_miss {c x : Nat} (r : List Nat) (h : x ≠ c) : sp c (x :: r) = (x :: (sp c r).headD []) :: (sp c r).tail := if_neg h
theorem hd_tl {l : List (List Nat)} (h : l ≠ []) : l.headD [] :: l.tail = l := by
  cases l with
  | nil => exact absurd rfl h
  | cons a b => rfl
theorem spl_sp (c : Nat) : ∀ (l acc : List Nat), spl [c] 0 acc l = (acc ++ (sp c l).headD []) :: (sp c l).tail
  | [], acc => by
    rw [spl_nil]
    show [acc] = [acc ++ []]
    rw [List.append_nil]
  | x :: r, acc => by
    by_cases hx : x = c
    · subst hx
      have := spl_part1 (s := x) (S := []) (p := []) (rest := r) (acc := acc) (by simp)
      rw [List.nil_append] at this
      have e : ([x] ++ r) = x :: r := rfl
      rw [e] at this
      rw [this, spl_sp x r [], sp_hit, List.append_nil, List.nil_append, hd_tl (sp_ne x r)]
      show _ = (acc ++ []) :: sp x r
      rw [List.append_nil]
    · have e : spl [c] 0 acc (x :: r) = spl [c] 0 (acc ++ [x]) r := spl_miss (pre_of_head [] r hx)
      rw [e, spl_sp c r (acc ++ [x]), sp_miss r hx, List.append_assoc]
      rfl
/-- what is due of a line: none, or its words -/
def due (c : Nat) (l : List Nat) : Option (List (List Nat)) := if 10 ∈ l then none else if [] ∈ sp c l then none else some (sp c l)
theorem split_eq (x : Str) {c : Nat} (hc : c < 256) : (Txt.split x ⟨#[c]⟩).map tl = sp c (tl x) := by
  have h := split_spl x ⟨#[c]⟩ (by show [c] ≠ []; simp) (kind_ok (by simp [hc]))
  rw [h]
  show spl [c] 0 [] (tl x) = _
  rw [spl_sp, List.nil_append]
  have := sp_ne c (tl x)
  cases h : sp c (tl x) with
  | nil => exact absurd h this
  | cons a b => rfl
/-- texts of lists of codes -/
def tx (l : List Nat) : Str := ⟨l.toArray⟩
theorem tx_tl (x : Str) : tx (tl x) = x := by
  unfold tx tl
  cases x
  simp
theorem split_tx (x : Str) {c : Nat} (hc : c < 256) : Txt.split x ⟨#[c]⟩ = (sp c (tl x)).map tx := by
  rw [← split_eq x hc, List.map_map]
  have : (tx ∘ tl) = id := by
    funext z
    exact tx_tl z
  rw [this, List.map_id]
theorem sp_nil (c : Nat) : sp c [] = [[]] := rfl
theorem due_nil (c : Nat) : due c [] = none := by
  unfold due
  rw [if_neg (by simp), if_pos (by rw [sp_nil]; simp)]
theorem sp_len (c : Nat) : ∀ l, (sp c l).length ≤ l.length + 1
  | [] => Nat.le_refl _
  | x :: r => by
    have := sp_len c r
    unfold sp
    split
    · simp only [List.length_cons]; omega
    · simp only [List.length_cons, List.length_tail]; omega
end RM
set_option maxHeartbeats 4000000
/-! ### a dict beside a text -/
namespace RE
open PySem PySem.SeqAt PySem.Spec PyProof.Rows
open AutoSeq1 (wpAny_loadPart')
open MeetsSeq
theorem dict_eq_txt (a : Addr) (o : Obj) (hc : o.cls = .type "dict") (b : Str) (u : Tok) :
    Meets (Builtin.«dict.__eq__» ⟨[.ref a, .str b u], []⟩) (fun _ R s => s.heap.get? a = some o ∧ R (.ok (.ret .notImplemented)) s) :=
  .of_wp fun prog w A R s h => by
    obtain ⟨hp, g, d, tk, os⟩ := s
    obtain ⟨hl, h⟩ := h
    have f1 := F.sub_str_dict
    wp_walk using wpAny_loadPart' hl, wpAny_load hl
    exact ⟨_, rfl, h⟩
theorem dict_ne_txt (a : Addr) (o : Obj) (hc : o.cls = .type "dict") (b : Str) (u : Tok) :
    Meets (Builtin.«dict.__ne__» ⟨[.ref a, .str b u], []⟩) (fun _ R s => s.heap.get? a = some o ∧ R (.ok (.ret .notImplemented)) s) :=
  .of_wp fun prog w A R s h => by
    obtain ⟨hp, g, d, tk, os⟩ := s
    obtain ⟨hl, h⟩ := h
    have f1 := F.sub_str_dict
    wp_walk using wpAny_loadPart' hl, wpAny_load hl
    exact ⟨_, rfl, h⟩
theorem txt_eq_dict (a : Addr) (o : Obj) (es) (n) (hd : o.data = .dict es n) (b : Str) (u : Tok) :
    Meets (Builtin.«str.__eq__» ⟨[.str b u, .ref a], []⟩) (fun _ R s => s.heap.get? a = some o ∧ R (.ok (.ret .notImplemented)) s) :=
  .of_wp fun prog w A R s h => by
    obtain ⟨hp, g, d, tk, os⟩ := s
    obtain ⟨hl, h⟩ := h
    obtain ⟨cls, dd, data, sl⟩ := o
    simp only at hd
    subst hd
    wp_walk using wpAny_loadPart' hl, wpAny_load hl
    exact ⟨_, rfl, h⟩
theorem txt_ne_dict (a : Addr) (o : Obj) (es) (n) (hd : o.data = .dict es n) (b : Str) (u : Tok) :
    Meets (Builtin.«str.__ne__» ⟨[.str b u, .ref a], []⟩) (fun _ R s => s.heap.get? a = some o ∧ R (.ok (.ret .notImplemented)) s) :=
  .of_wp fun prog w A R s h => by
    obtain ⟨hp, g, d, tk, os⟩ := s
    obtain ⟨hl, h⟩ := h
    obtain ⟨cls, dd, data, sl⟩ := o
    simp only at hd
    subst hd
    wp_walk using wpAny_loadPart' hl, wpAny_load hl
    exact ⟨_, rfl, h⟩
section
variable {A : Around} {s : Shared}
theorem rc_dict_str {a : Addr} {o : Obj} (ho : s.heap.get? a = some o) (hc : o.cls = .type "dict") {es} {n} (hd : o.data = .dict es n) (b : Str) (u : Tok) (hu : A.units < cLine) : RcAt A s (.ref a) (.str b u) false := fun prog w E Q h =>
  rc_eq_decline_or (k := false) ⟨_, ho, hc⟩ (typeIs_str s b u) (by decide) F.sub_str_dict F.slot_dict_eq F.slot_str_eq_refl
    (fun _ hq => call_meets F.slot_dict_eq ⟨_, ho, hc⟩ F.entry_dict_eq (F.args_dict_eq_2 _ _) (dict_eq_txt a o hc b u) ⟨ho, hq⟩)
    (fun _ hq => call_meets F.slot_str_eq_refl (typeIs_str s b u) F.entry_str_eq (F.args_str_eq_2 _ _) (txt_eq_dict a o _ _ hd b u) ⟨ho, hq⟩)
    (fun _ hq => wpAny_of_eq (rfl : isSame (.ref a) (.str b u) = pure false) hq) (.inr hu) h
theorem rc_str_dict {a : Addr} {o : Obj} (ho : s.heap.get? a = some o) (hc : o.cls = .type "dict") {es} {n} (hd : o.data = .dict es n) (b : Str) (u : Tok) (hu : A.units < cLine) : RcAt A s (.str b u) (.ref a) false := fun prog w E Q h =>
  rc_eq_decline_or (k := false) (typeIs_str s b u) ⟨_, ho, hc⟩ (by decide) F.sub_dict_str F.slot_str_eq F.slot_dict_eq_refl
    (fun _ hq => call_meets F.slot_str_eq (typeIs_str s b u) F.entry_str_eq (F.args_str_eq_2 _ _) (txt_eq_dict a o _ _ hd b u) ⟨ho, hq⟩)
    (fun _ hq => call_meets F.slot_dict_eq_refl ⟨_, ho, hc⟩ F.entry_dict_eq (F.args_dict_eq_2 _ _) (dict_eq_txt a o hc b u) ⟨ho, hq⟩)
    (fun _ hq => wpAny_of_eq (rfl : isSame (.str b u) (.ref a) = pure false) hq) (.inr hu) h
theorem rn_dict_str {a : Addr} {o : Obj} (ho : s.heap.get? a = some o) (hc : o.cls = .type "dict") {es} {n} (hd : o.data = .dict es n) (b : Str) (u : Tok) (hu : A.units < cLine) : RcNeAt A s (.ref a) (.str b u) true := fun prog w E Q h =>
  rc_ne_decline_or (k := false) ⟨_, ho, hc⟩ (typeIs_str s b u) (by decide) F.sub_str_dict F.slot_dict_ne F.slot_str_ne_refl
    (fun _ hq => call_meets F.slot_dict_ne ⟨_, ho, hc⟩ F.entry_dict_ne (F.args_dict_ne_2 _ _) (dict_ne_txt a o hc b u) ⟨ho, hq⟩)
    (fun _ hq => call_meets F.slot_str_ne_refl (typeIs_str s b u) F.entry_str_ne (F.args_str_ne_2 _ _) (txt_ne_dict a o _ _ hd b u) ⟨ho, hq⟩)
    (fun _ hq => wpAny_of_eq (rfl : isSame (.ref a) (.str b u) = pure false) hq) (.inr hu) h
theorem eq_str_dict {a : Addr} {o : Obj} (ho : s.heap.get? a = some o) (hc : o.cls = .type "dict") {es} {n} (hd : o.data = .dict es n) (b : Str) (u : Tok) (hu : A.units < cLine) : EqAt A s (.str b u) (.ref a) false := fun prog w E Q h => by
  unfold eqBool
  refine wpAny_holding ?_
  refine wpAny_ite_split (fun hab => absurd (eq_of_beq hab) nofun) (fun _ => ?_)
  exact wpAny_bind (rc_str_dict ho hc hd b u hu prog w E _ (wpAny_truthy_bool h))
end
end RE
namespace RE
open PySem PySem.Spec PyProof.Rows L2
/-- a value of these kinds: flat, a list, a tuple, a dict -/
inductive OdV (K : PySem.W.Frag) (H : Hp) : V → Prop
  | flat {v : V} : flatV v = true → OdV K H v
  | lst {p : Addr} {xs : List V} : SqL K H p xs → OdV K H (.ref p)
  | tup {p : Addr} {xs : List V} : SqT K H p xs → OdV K H (.ref p)
  | dic {p : Addr} {kvs : List (Key × V)} : H p = some (.dK kvs) → OdV K H (.ref p)
def isT (z : Str) : V → Bool
  | .str x => x == z
  | _ => false
theorem isT_dec (z : Str) (v : V) : decide (v = .str z) = isT z v := by
  cases v with
  | str x =>
    show _ = (x == z)
    rw [Bool.eq_iff_iff]
    simp
  | _ => exact decide_eq_false (fun e => nomatch e)
section
variable {X : Cx}
/-- v == text -/
def rOdEq (K : PySem.W.Frag) : R2 := fun x y H Q => ∃ z, y = .str z ∧ OdV K H x ∧ Q (.bl (isT z x)) H
def rOdNe (K : PySem.W.Frag) : R2 := fun x y H Q => ∃ z, y = .str z ∧ OdV K H x ∧ Q (.bl (!isT z x)) H
theorem op_odEq (hu : X.A.units < cLine) : OpR X (compareOp .Eq) (rOdEq X.K) := by
  intro pins s σ H x y v u Q I rx ry h
  obtain ⟨z, rfl, ho, q⟩ := h
  have ryr := ry
  obtain ⟨t, rfl⟩ := ry
  cases ho with
  | flat f =>
    have q2 := q
    rw [← isT_dec] at q2
    refine op_eq pins s σ H x (.str z) v (.str z t) Q I rx ryr ⟨?_, q2⟩
    cases x <;> first | rfl | exact absurd (show false = true from f) Bool.false_ne_true
  | lst hl =>
    cases rx
    obtain ⟨its, rv, pl, hz⟩ := I.list hl
    exact SeqAt.RcAt.list_str z t pl.isList hu X.prog X.w _ _ ⟨.bl false, H, I, rfl, q⟩
  | tup hl =>
    cases rx
    obtain ⟨its, rv, pl, hz⟩ := I.tuple hl
    exact SeqAt.RcAt.tuple_str z t pl hu X.prog X.w _ _ ⟨.bl false, H, I, rfl, q⟩
  | dic e =>
    cases rx
    obtain ⟨_, hs, vs, kv, o, es, ep, h1, h2, h3, _, hp, _⟩ := (show ObjOk X.prog X.w H s.heap _ (.dK _) from I.hok _ _ e)
    exact rc_dict_str h1 h2.1 h3 z t hu X.prog X.w _ _ ⟨.bl false, H, I, rfl, q⟩
theorem op_odNe (hu : X.A.units < cLine) : OpR X (compareOp .NotEq) (rOdNe X.K) := by
  intro pins s σ H x y v u Q I rx ry h
  obtain ⟨z, rfl, ho, q⟩ := h
  have ryr := ry
  obtain ⟨t, rfl⟩ := ry
  cases ho with
  | flat f =>
    have q2 := q
    rw [← isT_dec] at q2
    refine op_ne pins s σ H x (.str z) v (.str z t) Q I rx ryr ⟨?_, q2⟩
    cases x <;> first | rfl | exact absurd (show false = true from f) Bool.false_ne_true
  | lst hl =>
    cases rx
    obtain ⟨its, rv, pl, hz⟩ := I.list hl
    exact SeqAt.RcNeAt.list_str z t pl.isList hu X.prog X.w _ _ ⟨.bl true, H, I, rfl, q⟩
  | tup hl =>
    cases rx
    obtain ⟨its, rv, pl, hz⟩ := I.tuple hl
    exact SeqAt.RcNeAt.tuple_str z t pl hu X.prog X.w _ _ ⟨.bl true, H, I, rfl, q⟩
  | dic e =>
    cases rx
    obtain ⟨_, hs, vs, kv, o, es, ep, h1, h2, h3, _, hp, _⟩ := (show ObjOk X.prog X.w H s.heap _ (.dK _) from I.hok _ _ e)
    exact rn_dict_str h1 h2.1 h3 z t hu X.prog X.w _ _ ⟨.bl true, H, I, rfl, q⟩
/-! ### v in a tuple or list of texts -/
def inT (x : V) (zs : List Str) : Bool := zs.any fun z => isT z x
theorem odEqAt {A : Around} {pins : List (Addr × Obj)} {σ : L2.St} {H : Hp} {s : Shared} (I : Inv X pins σ H s) (hu : A.units < cLine) {x : V} {v : Value} (rx : RelV x v) (ho : OdV X.K H x) (z : Str) (t : Tok) : SeqAt.EqAt A s (.str z t) v (isT z x) := by
  cases ho with
  | flat f =>
    have h := eqAt_V (A := A) (s := s) (y := .str z) (u := .str z t) ⟨t, rfl⟩ rx rfl f
    have e : eqV (.str z) x = isT z x := by
      cases x <;> first | rfl | exact Bool.eq_iff_iff.mpr ⟨fun e => beq_iff_eq.mpr (beq_iff_eq.mp e).symm, fun e => beq_iff_eq.mpr (beq_iff_eq.mp e).symm⟩
    rw [e] at h
    exact h
  | lst hl =>
    cases rx
    obtain ⟨its, rv, pl, hz⟩ := I.list hl
    exact SeqAt.EqAt.str_list z t pl.isList hu
  | tup hl =>
    cases rx
    obtain ⟨its, rv, pl, hz⟩ := I.tuple hl
    exact SeqAt.EqAt.str_tuple z t pl hu
  | dic e =>
    cases rx
    obtain ⟨_, hs, vs, kv, o, es, ep, h1, h2, h3, _, hp, _⟩ := (show ObjOk X.prog X.w H s.heap _ (.dK _) from I.hok _ _ e)
    exact eq_str_dict h1 h2.1 h3 z t hu
def inU (x : V) : Value → Bool
  | .str z _ => isT z x
  | _ => false
theorem any_inU {x : V} : ∀ {zs : List Str} {us : List Value}, Vals (zs.map V.str) us → us.any (inU x) = inT x zs
  | [], _, .nil => rfl
  | z :: zs, _, .cons r t => by
    obtain ⟨tk, rfl⟩ := r
    rw [List.any_cons, any_inU t]
    rfl
theorem mem_inU {A : Around} {pins : List (Addr × Obj)} {σ : L2.St} {H : Hp} {s : Shared} (I : Inv X pins σ H s) (hu : A.units < cLine) {x : V} {v : Value} (rx : RelV x v) (ho : OdV X.K H x) : ∀ {zs : List Str} {us : List Value}, Vals (zs.map V.str) us → ∀ u ∈ us, SeqAt.EqAt A s u v (inU x u)
  | [], _, .nil => fun u hu => by cases hu
  | z :: zs, _, .cons r t => fun u' hm => by
    rcases List.mem_cons.mp hm with rfl | hm
    · obtain ⟨tk, rfl⟩ := r
      exact odEqAt I hu rx ho z tk
    · exact mem_inU I hu rx ho t u' hm
def rOdIn (K : PySem.W.Frag) (neg : Bool) : R2 := fun x y H Q => ∃ p zs, y = .ref p ∧ (SqL K H p (zs.map V.str) ∨ SqT K H p (zs.map V.str)) ∧ OdV K H x ∧ Q (.bl (if neg then !inT x zs else inT x zs)) H
theorem op_odIn (hu : X.A.units + 1 < cLine) : OpR X (compareOp .In) (rOdIn X.K false) := by
  intro pins s σ H x y v u Q I rx ry h
  obtain ⟨p, zs, rfl, hq, ho, q⟩ := h
  cases ry
  have hu1 : X.A.in1.units < cLine := hu
  rcases hq with hq | hq
  · obtain ⟨its, r, pl, hz⟩ := I.list hq
    refine SeqAt.in_listAt (inU x) pl.isList (fun w hw => mem_inU I hu1 rx ho r w (by simpa using hw)) ⟨.bl _, H, I, rfl, ?_⟩
    rw [show its.toArray.any (inU x) = its.any (inU x) by simp, any_inU r]
    exact q
  · obtain ⟨its, r, pl, hz⟩ := I.tuple hq
    refine SeqAt.in_tupleAt (inU x) pl (fun w hw => mem_inU I hu1 rx ho r w (by simpa using hw)) ⟨.bl _, H, I, rfl, ?_⟩
    rw [show its.toArray.any (inU x) = its.any (inU x) by simp, any_inU r]
    exact q
/-- v is True, v is False -/
theorem op_isB : OpR X (compareOp .Is) (fun x y H Q => ∃ b, y = .bl b ∧ OdV X.K H x ∧ Q (.bl (decide (x = .bl b))) H) := by
  intro pins s σ H x y v u Q I rx ry h
  obtain ⟨b, rfl, ho, q⟩ := h
  cases (show u = Value.bool b from ry)
  have no : ∀ {a : Addr}, x = .ref a → EP X pins σ Q (.bool false) s := fun e => ⟨.bl false, H, I, rfl, by rw [decide_eq_false (by rw [e]; exact fun z => nomatch z)] at q; exact q⟩
  cases ho with
  | flat f =>
    cases x with
    | bl c =>
      cases (show v = Value.bool c from rx)
      by_cases e : c = b
      · subst e
        exact wpAny_is_self rfl ⟨.bl true, H, I, rfl, by simpa using q⟩
      · exact wpAny_is_other rfl (fun z => e (Value.bool.inj z)) ⟨.bl false, H, I, rfl, by simpa [e] using q⟩
    | non =>
      cases (show v = Value.none from rx)
      exact wpAny_is_other rfl (fun z => nomatch z) ⟨.bl false, H, I, rfl, q⟩
    | int i =>
      obtain ⟨t, rfl⟩ := rx
      exact wpAny_is_other rfl (fun z => nomatch z) ⟨.bl false, H, I, rfl, q⟩
    | str z =>
      obtain ⟨t, rfl⟩ := rx
      exact wpAny_is_other rfl (fun z => nomatch z) ⟨.bl false, H, I, rfl, q⟩
    | _ => exact absurd (show false = true from f) Bool.false_ne_true
  | lst hl =>
    cases rx
    exact wpAny_is_other rfl (fun z => nomatch z) (no rfl)
  | tup hl =>
    cases rx
    exact wpAny_is_other rfl (fun z => nomatch z) (no rfl)
  | dic e =>
    cases rx
    exact wpAny_is_other rfl (fun z => nomatch z) (no rfl)
end
end RE
set_option maxHeartbeats 4000000
/-! ### names, rights, takers, flags, read off a value -/
namespace RN
open PySem PySem.Spec PyProof.Rows L2 TL RE
def lowC (c : Nat) : Bool := decide (97 ≤ c) && decide (c ≤ 122)
def upC (c : Nat) : Bool := decide (65 ≤ c) && decide (c ≤ 90)
theorem tab : ∀ c, c < 128 → Unicode.isAlpha c = (upC c || lowC c) ∧ Unicode.isLower c = lowC c ∧ (Unicode.isUpper c || Unicode.isTitle c) = upC c := by decide +kernel
theorem low_eq (z : Str) : (Txt.isascii z && (Txt.isalpha z && Txt.islower z)) = (decide (0 < z.length) && (tl z).all lowC) := by
  have e1 : Txt.isascii z = (tl z).all (fun c => decide (c < 128)) := by
    show z.cps.all _ = _
    rw [← Array.all_toList]
  have e2 : Txt.isalpha z = (decide (0 < z.length) && (tl z).all Unicode.isAlpha) := by
    show (decide (z.length > 0) && z.cps.all _) = _
    rw [← Array.all_toList]
  have e3 : Txt.islower z = ((tl z).any Unicode.isLower && !(tl z).any fun c => Unicode.isUpper c || Unicode.isTitle c) := by
    show (z.cps.any _ && !z.cps.any _) = _
    rw [← Array.any_toList, ← Array.any_toList]
  have hl : z.length = (tl z).length := len_tl z
  rw [e1, e2, e3, hl]
  generalize tl z = l
  clear e1 e2 e3 hl z
  rw [Bool.eq_iff_iff]
  simp only [Bool.and_eq_true, List.all_eq_true, decide_eq_true_eq, Bool.not_eq_true', List.any_eq_true, List.any_eq_false]
  constructor
  · rintro ⟨h1, ⟨h2, h3⟩, h4, h5⟩
    refine ⟨h2, fun c hc => ?_⟩
    have t := tab c (h1 c hc)
    have a := h3 c hc
    have u := h5 c hc
    rw [t.1] at a
    rw [t.2.2] at u
    cases hu : upC c with
    | true => exact absurd hu u
    | false => rw [hu, Bool.false_or] at a; exact a
  · rintro ⟨h2, h3⟩
    have lt : ∀ c ∈ l, c < 128 := fun c hc => by
      have := h3 c hc
      simp only [lowC, Bool.and_eq_true, decide_eq_true_eq] at this
      omega
    refine ⟨lt, ⟨h2, fun c hc => ?_⟩, ?_, fun c hc => ?_⟩
    · rw [(tab c (lt c hc)).1, h3 c hc, Bool.or_true]
    · cases l with
      | nil => exact absurd h2 (Nat.lt_irrefl 0)
      | cons c r => exact ⟨c, List.mem_cons_self .., by rw [(tab c (lt c (List.mem_cons_self ..))).2.1]; exact h3 c (List.mem_cons_self ..)⟩
    · rw [(tab c (lt c hc)).2.2]
      have := h3 c hc
      simp only [lowC, upC, Bool.and_eq_true, decide_eq_true_eq] at this ⊢
      omega
def isS : V → Bool
  | .str _ => true
  | _ => false
def isFlag : V → Bool
  | .bl _ => true
  | _ => false
abbrev tPub : Str := Str.ofString "public"
abbrev tCal : Str := Str.ofString "caller"
def nameT (z : Str) : Bool := decide (1 ≤ z.length) && decide (z.length ≤ 8) && (tl z).all lowC && !(z == tPub) && !(z == tCal)
def isName : V → Bool
  | .str z => nameT z
  | _ => false
def isTaker (v : V) : Bool := isName v || isT tPub v
def rightsT : List Str := [Str.ofString "inherit", Str.ofString "act", Str.ofString "read", Str.ofString "write", Str.ofString "call"]
def kindT (z : Str) : Option Str :=
  if z = Str.ofString "inherit" then some (Str.ofString "role") else if z = Str.ofString "act" then some (Str.ofString "role") else if z = Str.ofString "read" then some (Str.ofString "table") else
  if z = Str.ofString "write" then some (Str.ofString "table") else if z = Str.ofString "call" then some (Str.ofString "function") else none
def isRight : V → Bool
  | .str z => (kindT z).isSome
  | _ => false
def isMade (v : V) : Bool := isT (Str.ofString "table") v || isT (Str.ofString "function") v
theorem k_NoneType_str : kitB "NoneType" "str" = some false := by decide +kernel
theorem k_NoneType_bool : kitB "NoneType" "bool" = some false := by decide +kernel
theorem k_NoneType_list : kitB "NoneType" "list" = some false := by decide +kernel
theorem k_NoneType_dict : kitB "NoneType" "dict" = some false := by decide +kernel
theorem k_bool_str : kitB "bool" "str" = some false := by decide +kernel
theorem k_bool_bool : kitB "bool" "bool" = some true := by decide +kernel
theorem k_bool_list : kitB "bool" "list" = some false := by decide +kernel
theorem k_bool_dict : kitB "bool" "dict" = some false := by decide +kernel
theorem k_int_str : kitB "int" "str" = some false := by decide +kernel
theorem k_int_bool : kitB "int" "bool" = some false := by decide +kernel
theorem k_int_list : kitB "int" "list" = some false := by decide +kernel
theorem k_int_dict : kitB "int" "dict" = some false := by decide +kernel
theorem k_str_str : kitB "str" "str" = some true := by decide +kernel
theorem k_str_bool : kitB "str" "bool" = some false := by decide +kernel
theorem k_str_list : kitB "str" "list" = some false := by decide +kernel
theorem k_str_dict : kitB "str" "dict" = some false := by decide +kernel
theorem k_list_str : kitB "list" "str" = some false := by decide +kernel
theorem k_list_bool : kitB "list" "bool" = some false := by decide +kernel
theorem k_list_list : kitB "list" "list" = some true := by decide +kernel
theorem k_list_dict : kitB "list" "dict" = some false := by decide +kernel
theorem k_tuple_str : kitB "tuple" "str" = some false := by decide +kernel
theorem k_tuple_bool : kitB "tuple" "bool" = some false := by decide +kernel
theorem k_tuple_list : kitB "tuple" "list" = some false := by decide +kernel
theorem k_tuple_dict : kitB "tuple" "dict" = some false := by decide +kernel
theorem k_dict_str : kitB "dict" "str" = some false := by decide +kernel
theorem k_dict_bool : kitB "dict" "bool" = some false := by decide +kernel
theorem k_dict_list : kitB "dict" "list" = some false := by decide +kernel
theorem k_dict_dict : kitB "dict" "dict" = some true := by decide +kernel
theorem od_ty {K : PySem.W.Frag} {H : Hp} {x : V} (h : OdV K H x) : ∃ t, TyX K H x t ∧ PySem.W.kitOne K t (.type "str") = some (isS x) ∧ PySem.W.kitOne K t (.type "bool") = some (isFlag x) := by
  cases h with
  | flat f =>
    cases x with
    | non => exact ⟨_, .base .non, kit_ty k_NoneType_str, kit_ty k_NoneType_bool⟩
    | bl b => exact ⟨_, .base (.bl b), kit_ty k_bool_str, kit_ty k_bool_bool⟩
    | int i => exact ⟨_, .base (.int i), kit_ty k_int_str, kit_ty k_int_bool⟩
    | str z => exact ⟨_, .base (.str z), kit_ty k_str_str, kit_ty k_str_bool⟩
    | _ => exact absurd (show false = true from f) Bool.false_ne_true
  | lst h =>
    rcases h with h | ⟨o, its, n, h, c, _⟩
    · rcases h with h | ⟨o, h⟩
      · exact ⟨_, .base (.lst h), kit_ty k_list_str, kit_ty k_list_bool⟩
      · exact ⟨_, .base (.frz h), kit_ty k_list_str, kit_ty k_list_bool⟩
    · exact ⟨_, .kList h c, kit_ty k_list_str, kit_ty k_list_bool⟩
  | tup h =>
    rcases h with h | ⟨o, its, n, h, c, _⟩
    · rcases h with h | ⟨o, h⟩
      · exact ⟨_, .base (.tup h), kit_ty k_tuple_str, kit_ty k_tuple_bool⟩
      · exact ⟨_, .fTuple h, kit_ty k_tuple_str, kit_ty k_tuple_bool⟩
    · exact ⟨_, .kTuple h c, kit_ty k_tuple_str, kit_ty k_tuple_bool⟩
  | dic h => exact ⟨_, .base (.dK h), kit_ty k_dict_str, kit_ty k_dict_bool⟩
theorem isS_str {x : V} (h : isS x = true) : ∃ z, x = .str z := by
  cases x with
  | str z => exact ⟨z, rfl⟩
  | _ => exact absurd (show false = true from h) Bool.false_ne_true
theorem notS_name {x : V} (h : isS x = false) : isName x = false := by
  cases x with
  | str z => exact absurd (show false = true from (show true = false from h).symm) Bool.false_ne_true
  | _ => rfl
end RN
set_option maxHeartbeats 4000000
namespace K07
open PySem PySem.Spec PyProof.Rows L2
/-! ### the text -/
def topS (i : Nat) : Stmt := PySem.Challenge.pw_rolereach_k07_deeds_refused.main.body.getD i (.Pass ⟨0, 0, 0, 0⟩)
abbrev s_InvalidName_init : Stmt := inClass (topS 4) 0
abbrev N_InvalidName_init : List Str := ["self", "value"]
theorem sc_InvalidName_init : FnScope N_InvalidName_init ["self", "value"] (defScope s_InvalidName_init) := ⟨rfl, rfl, rfl, by decide +kernel, rfl, by decide +kernel, by decide +kernel⟩
abbrev s_InvalidTaker_init : Stmt := inClass (topS 5) 0
abbrev N_InvalidTaker_init : List Str := ["self", "value"]
theorem sc_InvalidTaker_init : FnScope N_InvalidTaker_init ["self", "value"] (defScope s_InvalidTaker_init) := ⟨rfl, rfl, rfl, by decide +kernel, rfl, by decide +kernel, by decide +kernel⟩
abbrev s_InvalidRight_init : Stmt := inClass (topS 6) 0
abbrev N_InvalidRight_init : List Str := ["self", "value"]
theorem sc_InvalidRight_init : FnScope N_InvalidRight_init ["self", "value"] (defScope s_InvalidRight_init) := ⟨rfl, rfl, rfl, by decide +kernel, rfl, by decide +kernel, by decide +kernel⟩
abbrev s_InvalidKind_init : Stmt := inClass (topS 7) 0
abbrev N_InvalidKind_init : List Str := ["self", "value"]
theorem sc_InvalidKind_init : FnScope N_InvalidKind_init ["self", "value"] (defScope s_InvalidKind_init) := ⟨rfl, rfl, rfl, by decide +kernel, rfl, by decide +kernel, by decide +kernel⟩
abbrev s_InvalidFlag_init : Stmt := inClass (topS 8) 0
abbrev N_InvalidFlag_init : List Str := ["self", "value"]
theorem sc_InvalidFlag_init : FnScope N_InvalidFlag_init ["self", "value"] (defScope s_InvalidFlag_init) := ⟨rfl, rfl, rfl, by decide +kernel, rfl, by decide +kernel, by decide +kernel⟩
abbrev s_is_name : Stmt := topS 14
abbrev N_is_name : List Str := ["value"]
theorem sc_is_name : FnScope N_is_name ["value"] (defScope s_is_name) := ⟨rfl, rfl, rfl, by decide +kernel, rfl, by decide +kernel, by decide +kernel⟩
abbrev s_is_taker : Stmt := topS 15
abbrev N_is_taker : List Str := ["value"]
theorem sc_is_taker : FnScope N_is_taker ["value"] (defScope s_is_taker) := ⟨rfl, rfl, rfl, by decide +kernel, rfl, by decide +kernel, by decide +kernel⟩
abbrev s_is_right : Stmt := topS 16
abbrev N_is_right : List Str := ["value"]
theorem sc_is_right : FnScope N_is_right ["value"] (defScope s_is_right) := ⟨rfl, rfl, rfl, by decide +kernel, rfl, by decide +kernel, by decide +kernel⟩
abbrev s_is_made_kind : Stmt := topS 17
abbrev N_is_made_kind : List Str := ["value"]
theorem sc_is_made_kind : FnScope N_is_made_kind ["value"] (defScope s_is_made_kind) := ⟨rfl, rfl, rfl, by decide +kernel, rfl, by decide +kernel, by decide +kernel⟩
abbrev s_is_flag : Stmt := topS 18
abbrev N_is_flag : List Str := ["value"]
theorem sc_is_flag : FnScope N_is_flag ["value"] (defScope s_is_flag) := ⟨rfl, rfl, rfl, by decide +kernel, rfl, by decide +kernel, by decide +kernel⟩
abbrev s_kind_of : Stmt := topS 19
abbrev N_kind_of : List Str := ["right"]
theorem sc_kind_of : FnScope N_kind_of ["right"] (defScope s_kind_of) := ⟨rfl, rfl, rfl, by decide +kernel, rfl, by decide +kernel, by decide +kernel⟩
abbrev s_check_name : Stmt := topS 21
abbrev N_check_name : List Str := ["value"]
theorem sc_check_name : FnScope N_check_name ["value"] (defScope s_check_name) := ⟨rfl, rfl, rfl, by decide +kernel, rfl, by decide +kernel, by decide +kernel⟩
abbrev s_check_taker : Stmt := topS 22
abbrev N_check_taker : List Str := ["value"]
theorem sc_check_taker : FnScope N_check_taker ["value"] (defScope s_check_taker) := ⟨rfl, rfl, rfl, by decide +kernel, rfl, by decide +kernel, by decide +kernel⟩
abbrev s_check_right : Stmt := topS 23
abbrev N_check_right : List Str := ["value"]
theorem sc_check_right : FnScope N_check_right ["value"] (defScope s_check_right) := ⟨rfl, rfl, rfl, by decide +kernel, rfl, by decide +kernel, by decide +kernel⟩
abbrev s_check_right_on : Stmt := topS 24
abbrev N_check_right_on : List Str := ["kind", "value"]
theorem sc_check_right_on : FnScope N_check_right_on ["kind", "value"] (defScope s_check_right_on) := ⟨rfl, rfl, rfl, by decide +kernel, rfl, by decide +kernel, by decide +kernel⟩
abbrev s_check_made_kind : Stmt := topS 25
abbrev N_check_made_kind : List Str := ["value"]
theorem sc_check_made_kind : FnScope N_check_made_kind ["value"] (defScope s_check_made_kind) := ⟨rfl, rfl, rfl, by decide +kernel, rfl, by decide +kernel, by decide +kernel⟩
abbrev s_check_flag : Stmt := topS 26
abbrev N_check_flag : List Str := ["value"]
theorem sc_check_flag : FnScope N_check_flag ["value"] (defScope s_check_flag) := ⟨rfl, rfl, rfl, by decide +kernel, rfl, by decide +kernel, by decide +kernel⟩
abbrev s_check_option : Stmt := topS 27
abbrev N_check_option : List Str := ["value", "taker"]
theorem sc_check_option : FnScope N_check_option ["value", "taker"] (defScope s_check_option) := ⟨rfl, rfl, rfl, by decide +kernel, rfl, by decide +kernel, by decide +kernel⟩
abbrev s_Give_init : Stmt := inClass (topS 30) 0
abbrev N_Give_init : List Str := ["self", "right", "thing", "taker", "option"]
theorem sc_Give_init : FnScope N_Give_init ["self", "right", "thing", "taker", "option"] (defScope s_Give_init) := ⟨rfl, rfl, rfl, by decide +kernel, rfl, by decide +kernel, by decide +kernel⟩
abbrev s_Take_init : Stmt := inClass (topS 31) 0
abbrev N_Take_init : List Str := ["self", "right", "thing", "taker", "giver", "only_option", "cascade"]
theorem sc_Take_init : FnScope N_Take_init ["self", "right", "thing", "taker", "giver", "only_option", "cascade"] (defScope s_Take_init) := ⟨rfl, rfl, rfl, by decide +kernel, rfl, by decide +kernel, by decide +kernel⟩
abbrev s_Call_init : Stmt := inClass (topS 32) 0
abbrev N_Call_init : List Str := ["self", "function"]
theorem sc_Call_init : FnScope N_Call_init ["self", "function"] (defScope s_Call_init) := ⟨rfl, rfl, rfl, by decide +kernel, rfl, by decide +kernel, by decide +kernel⟩
abbrev s_Preset_init : Stmt := inClass (topS 33) 0
abbrev N_Preset_init : List Str := ["self", "kind", "right", "taker", "option"]
theorem sc_Preset_init : FnScope N_Preset_init ["self", "kind", "right", "taker", "option"] (defScope s_Preset_init) := ⟨rfl, rfl, rfl, by decide +kernel, rfl, by decide +kernel, by decide +kernel⟩
abbrev s_Use_init : Stmt := inClass (topS 34) 0
abbrev N_Use_init : List Str := ["self", "right", "thing"]
theorem sc_Use_init : FnScope N_Use_init ["self", "right", "thing"] (defScope s_Use_init) := ⟨rfl, rfl, rfl, by decide +kernel, rfl, by decide +kernel, by decide +kernel⟩
abbrev s__law_cell : Stmt := topS 36
abbrev N__law_cell : List Str := ["_law_script", "_law_k"]
theorem sc__law_cell : FnScope N__law_cell ["_law_script", "_law_k"] (defScope s__law_cell) := ⟨rfl, rfl, rfl, by decide +kernel, rfl, by decide +kernel, by decide +kernel⟩
abbrev s__law_box : Stmt := topS 37
abbrev N__law_box : List Str := ["_law_cell_here"]
theorem sc__law_box : FnScope N__law_box ["_law_cell_here"] (defScope s__law_box) := ⟨rfl, rfl, rfl, by decide +kernel, rfl, by decide +kernel, by decide +kernel⟩
abbrev s__law_take : Stmt := topS 38
abbrev N__law_take : List Str := ["_law_box_here", "_law_many", "_law_digit", "_law_number"]
theorem sc__law_take : FnScope N__law_take ["_law_box_here", "_law_many"] (defScope s__law_take) := ⟨rfl, rfl, rfl, by decide +kernel, rfl, by decide +kernel, by decide +kernel⟩
abbrev s__law_names : Stmt := topS 39
abbrev N__law_names : List Str := ["_law_box_here", "_law_many", "_law_letters", "_law_stems", "_law_way", "_law_first", "_law_at", "_law_stem", "_law_found_here", "_law_letter", "_law_group", "_law_k"]
theorem sc__law_names : FnScope N__law_names ["_law_box_here", "_law_many"] (defScope s__law_names) := ⟨rfl, rfl, rfl, by decide +kernel, rfl, by decide +kernel, by decide +kernel⟩
abbrev s__law_odd : Stmt := topS 40
abbrev N__law_odd : List Str := ["_law_box_here", "_law_some"]
theorem sc__law_odd : FnScope N__law_odd ["_law_box_here"] (defScope s__law_odd) := ⟨rfl, rfl, rfl, by decide +kernel, rfl, by decide +kernel, by decide +kernel⟩
abbrev s__law_parts : Stmt := topS 41
abbrev N__law_parts : List Str := ["_law_box_here", "_law_names_here", "_law_way", "_law_flags", "_law_word", "_law_rows", "_law_preset", "_law_found_here", "_law_turn"]
theorem sc__law_parts : FnScope N__law_parts ["_law_box_here"] (defScope s__law_parts) := ⟨rfl, rfl, rfl, by decide +kernel, rfl, by decide +kernel, by decide +kernel⟩
abbrev s__law_is_name : Stmt := topS 42
abbrev N__law_is_name : List Str := ["_law_value", "_law_sign"]
theorem sc__law_is_name : FnScope N__law_is_name ["_law_value"] (defScope s__law_is_name) := ⟨rfl, rfl, rfl, by decide +kernel, rfl, by decide +kernel, by decide +kernel⟩
abbrev s__law_is_right : Stmt := topS 43
abbrev N__law_is_right : List Str := ["_law_value"]
theorem sc__law_is_right : FnScope N__law_is_right ["_law_value"] (defScope s__law_is_right) := ⟨rfl, rfl, rfl, by decide +kernel, rfl, by decide +kernel, by decide +kernel⟩
abbrev s__law_is_taker : Stmt := topS 44
abbrev N__law_is_taker : List Str := ["_law_value"]
theorem sc__law_is_taker : FnScope N__law_is_taker ["_law_value"] (defScope s__law_is_taker) := ⟨rfl, rfl, rfl, by decide +kernel, rfl, by decide +kernel, by decide +kernel⟩
abbrev s__law_flag_due : Stmt := topS 45
abbrev N__law_flag_due : List Str := ["_law_value", "_law_taker"]
theorem sc__law_flag_due : FnScope N__law_flag_due ["_law_value", "_law_taker"] (defScope s__law_flag_due) := ⟨rfl, rfl, rfl, by decide +kernel, rfl, by decide +kernel, by decide +kernel⟩
abbrev s__law_take_due : Stmt := topS 46
abbrev N__law_take_due : List Str := ["_law_row", "_law_value"]
theorem sc__law_take_due : FnScope N__law_take_due ["_law_row"] (defScope s__law_take_due) := ⟨rfl, rfl, rfl, by decide +kernel, rfl, by decide +kernel, by decide +kernel⟩
abbrev s__law_preset_due : Stmt := topS 47
abbrev N__law_preset_due : List Str := ["_law_row", "_law_rights"]
theorem sc__law_preset_due : FnScope N__law_preset_due ["_law_row"] (defScope s__law_preset_due) := ⟨rfl, rfl, rfl, by decide +kernel, rfl, by decide +kernel, by decide +kernel⟩
abbrev s__law_due : Stmt := topS 48
abbrev N__law_due : List Str := ["_law_row"]
theorem sc__law_due : FnScope N__law_due ["_law_row"] (defScope s__law_due) := ⟨rfl, rfl, rfl, by decide +kernel, rfl, by decide +kernel, by decide +kernel⟩
abbrev s__law_made : Stmt := topS 49
abbrev N__law_made : List Str := ["_law_row"]
theorem sc__law_made : FnScope N__law_made ["_law_row"] (defScope s__law_made) := ⟨rfl, rfl, rfl, by decide +kernel, rfl, by decide +kernel, by decide +kernel⟩
abbrev s__law_found : Stmt := topS 50
abbrev N__law_found : List Str := ["_law_row", "e"]
theorem sc__law_found : FnScope N__law_found ["_law_row"] (defScope s__law_found) := ⟨rfl, rfl, rfl, by decide +kernel, rfl, by decide +kernel, by decide +kernel⟩
abbrev s_law : Stmt := topS 51
abbrev N_law : List Str := ["_law_script", "_law_k", "_law_box_here", "_law_turn", "_law_row", "_law_found_here", "_law_due_here"]
theorem sc_law : FnScope N_law ["_law_script"] (defScope s_law) := ⟨rfl, rfl, rfl, by decide +kernel, rfl, by decide +kernel, by decide +kernel⟩
end K07
set_option maxHeartbeats 4000000
namespace K07
open PySem PySem.Spec PyProof.Rows L2 RL RE RN TL
/-- a tuple or list of the module with these texts -/
def KTup (K : PySem.W.Frag) (a : Addr) (zs : List Str) : Prop :=
  ∃ (o : Obj) (its : Array Value) (n : Nat), K.lookup a = some o ∧ o.cls = .type "tuple" ∧ o.data = .seq its n ∧ its.size ≤ sizeLine ∧ Vals (zs.map V.str) its.toList
theorem KTup.sq {K : PySem.W.Frag} {a : Addr} {zs : List Str} {H : Hp} (h : KTup K a zs) : SqT K H a (zs.map V.str) := .inr h
/-- KIND_BY_RIGHT -/
structure KRight (K : PySem.W.Frag) (w : World) (d : Addr) : Prop where
  dict : ∃ es n, KDict K w d es n
  get : ∀ z, ∃ r, PySem.W.nsIn K d z = some r ∧ r.isSome = (kindT z).isSome ∧ ∀ k, kindT z = some k → ∃ t, r = some (.str k t)
/-- a value of a row -/
def Od (K : PySem.W.Frag) (H : Hp) (v : V) : Prop := OdV K H v ∧ ∀ z, v = .str z → z.length ≤ 1000 ∧ ∀ x ∈ tl z, x < 256
theorem le_ite {z : Str} {n : Nat} (h : z.length ≤ 1000) (hn : 1000 ≤ n) : z.length ≤ n := Nat.le_trans h hn
theorem nameT_no1 {z : Str} (h : ¬ 1 ≤ z.length) : nameT z = false := by
  unfold nameT
  rw [decide_eq_false h]
  simp
theorem nameT_no8 {z : Str} (h : ¬ z.length ≤ 8) : nameT z = false := by
  unfold nameT
  rw [decide_eq_false h]
  simp
theorem inV2 (z a b : Str) : inV (.str z) [.str a, .str b] = (z == a || z == b) := by
  show ((a == z) || ((b == z) || false)) = _
  rw [Bool.or_false, BEq.comm (a := a), BEq.comm (a := b)]
theorem nameT_eq {z : Str} (h1 : 1 ≤ z.length) (h8 : z.length ≤ 8) : nameT z = (Txt.isascii z && (Txt.isalpha z && (Txt.islower z && !(inV (.str z) [.str tPub, .str tCal])))) := by
  have e := low_eq z
  have h0 : decide (0 < z.length) = true := decide_eq_true (by omega)
  rw [h0, Bool.true_and] at e
  unfold nameT
  rw [decide_eq_true h1, decide_eq_true h8, ← e, inV2]
  cases Txt.isascii z <;> cases Txt.isalpha z <;> cases Txt.islower z <;> cases (z == tPub) <;> cases (z == tCal) <;> rfl
section
variable {P : Program} {w : World} {K : PySem.W.Frag} {mg : Str → Option Value} {base : Heap} {f : Addr} {fd : FuncData}
def spP (K : PySem.W.Frag) (p : V → Bool) : Sp := fun vs H Q _ => ∃ v, vs = [v] ∧ Od K H v ∧ Q (.bl (p v)) H
theorem spP_len {p : V → Bool} : ∀ vs H Q E, spP K p vs H Q E → vs.length = 1 := fun vs H Q E h => by
  obtain ⟨v, rfl, _⟩ := h
  rfl
theorem ok_is_name {aR : Addr} {tL : Tok} (F : Fun K "is_name" "is_name" s_is_name f fd) (mi : mg "isinstance" = none) (ms : mg "str" = none) (ml : mg "len" = none) (mL : mg "LONGEST_NAME" = some (.int 8 tL)) (mR : mg "RESERVED" = some (.ref aR)) (hR : KTup K aR [tPub, tCal]) :
    FnOk P w K mg base CX0 1 f fd ["value"] (spP K isName) := by
  refine F.ok sc_is_name spP_len (fun cdv A outer s H vs Q E hr h => ?_)
  obtain ⟨v, rfl, hv, q⟩ := h
  refine ⟨_, PSs.nox (pss_cons (ps_if (PW.pt (pw_or (pt_not (pt_val (pe_callB call_isi (by rfl) mi boot_isinstance (pa_cons (pv 0) (pa_cons (pe_bltn (v := .ty "str") (by rfl) ms PyProof.Rows.boot_str rfl) pa_nil)))))
      (pw_or1 (pt_not (pt_chain op_le op_le pe_int (pe_callB call_len_str (by rfl) ml PySem.boot_len (pa_cons (pv 0) pa_nil)) (pe_glob (v := .int 8) (by rfl) mL ⟨_, rfl⟩)))))) (pss_one (ps_ret pe_bl)) pss_nil)
    (pss_one (ps_ret (pe_and (pe_m0 PySem.F.slot_str_isascii PySem.F.type_str_isascii mt_isascii (pv 0)) (pe_and (pe_m0 PySem.F.slot_str_isalpha PySem.F.type_str_isalpha mt_isalpha (pv 0)) (pe_and (pe_m0 PySem.F.slot_str_islower PySem.F.type_str_islower mt_islower (pv 0))
      (pe_one (pe_cmpR op_notIn_seq (pv 0) (pe_glob (v := .ref aR) (by rfl) mR rfl) (by rfl))))))))), ?_⟩
  obtain ⟨t, ht, hs, hb⟩ := od_ty hv.1
  refine ⟨_, rfl, v, .ty "str", t, .type "str", _, rfl, .ty _, ht, hs, _, rfl, ?_⟩
  cases hS : isS v with
  | false =>
    rw [notS_name hS] at q
    exact iteT q
  | true =>
    obtain ⟨z, rfl⟩ := isS_str hS
    have hz := (hv.2 z rfl).1
    refine iteF ?_
    refine ⟨_, rfl, z, rfl, Nat.le_trans hz (by decide), 1, z.length, rfl, rfl, _, rfl, ?_⟩
    by_cases h1 : 1 ≤ z.length
    · have e1 : decide ((1 : Int) ≤ (z.length : Nat)) = true := decide_eq_true (by omega)
      rw [e1]
      refine iteT ⟨z.length, 8, rfl, rfl, _, rfl, ?_⟩
      by_cases h8 : z.length ≤ 8
      · have e2 : decide (((z.length : Nat) : Int) ≤ 8) = true := decide_eq_true (by omega)
        rw [e2]
        refine iteF ?_
        have e := nameT_eq h1 h8
        have q : Q (.bl (nameT z)) H := q
        rw [e] at q
        refine ⟨_, rfl, ⟨z, rfl⟩, z, rfl, rfl, trivial, _, rfl, ?_⟩
        cases hA : Txt.isascii z with
        | false => rw [hA] at q; exact iteF q
        | true =>
          rw [hA] at q
          refine iteT ⟨_, rfl, ⟨z, rfl⟩, z, rfl, rfl, trivial, _, rfl, ?_⟩
          cases hB : Txt.isalpha z with
          | false => rw [hB] at q; exact iteF q
          | true =>
            rw [hB] at q
            refine iteT ⟨_, rfl, ⟨z, rfl⟩, z, rfl, rfl, trivial, _, rfl, ?_⟩
            cases hC : Txt.islower z with
            | false => rw [hC] at q; exact iteF q
            | true =>
              rw [hC] at q
              exact iteT ⟨_, rfl, aR, _, rfl, .inr hR.sq, rfl, rfl, q⟩
      · have e2 : decide (((z.length : Nat) : Int) ≤ 8) = false := decide_eq_false (by omega)
        rw [e2]
        have q : Q (.bl (nameT z)) H := q
        rw [nameT_no8 h8] at q
        exact iteT q
    · have e1 : decide ((1 : Int) ≤ (z.length : Nat)) = false := decide_eq_false (by omega)
      rw [e1]
      have q : Q (.bl (nameT z)) H := q
      rw [nameT_no1 h1] at q
      exact ⟨_, rfl, iteT q⟩
end
end K07
set_option maxHeartbeats 4000000
namespace K07
open PySem PySem.Spec PyProof.Rows L2 RL RE RN TL
section
variable {P : Program} {w : World} {K : PySem.W.Frag} {mg : Str → Option Value} {base : Heap} {f : Addr} {fd : FuncData}
theorem ok_is_taker {fN : Addr} {fdN : FuncData} (F : Fun K "is_taker" "is_taker" s_is_taker f fd) (N : FnOk P w K mg base CX0 1 fN fdN ["value"] (spP K isName)) (bN : Binds K fdN ["value"] []) (kN : PySem.W.keepIn K (.ref fN) = true) (gN : mg "is_name" = some (.ref fN)) :
    FnOk P w K mg base CX0 2 f fd ["value"] (spP K isTaker) := by
  refine F.ok sc_is_taker spP_len (fun cdv A outer s H vs Q E hr h => ?_)
  obtain ⟨v, rfl, hv, q⟩ := h
  refine ⟨_, PSs.nox (pss_one (ps_ret (pe_or (pe_call N hr (by rfl) gN kN bN .nil pass0 (pa_cons (pv 0) pa_nil)) (pe_one (pe_cmpR (op_odEq (Nat.lt_of_succ_lt (hu_of hr))) (pv 0) pe_str (nomark _)))))), ?_⟩
  refine ⟨_, rfl, v, rfl, hv, _, rfl, ?_⟩
  have q : Q (.bl (isName v || isT tPub v)) H := q
  cases hN : isName v with
  | true => rw [hN] at q; exact iteT q
  | false => rw [hN] at q; exact iteF ⟨_, rfl, _, rfl, hv.1, q⟩
theorem ok_is_right {d : Addr} (F : Fun K "is_right" "is_right" s_is_right f fd) (mi : mg "isinstance" = none) (ms : mg "str" = none) (mD : mg "KIND_BY_RIGHT" = some (.ref d)) (hD : KRight K w d) :
    FnOk P w K mg base CX0 1 f fd ["value"] (spP K isRight) := by
  obtain ⟨es, n, kd⟩ := hD.dict
  refine F.ok sc_is_right spP_len (fun cdv A outer s H vs Q E hr h => ?_)
  obtain ⟨v, rfl, hv, q⟩ := h
  refine ⟨_, PSs.nox (pss_one (ps_ret (pe_and (pe_callB call_isi (by rfl) mi boot_isinstance (pa_cons (pv 0) (pa_cons (pe_bltn (v := .ty "str") (by rfl) ms PyProof.Rows.boot_str rfl) pa_nil)))
    (pe_one (pe_cmpR (op_in_kd (d := d) (es := es) (n := n) kd) (pv 0) (pe_glob (v := .ref d) (by rfl) mD rfl) (by rfl)))))), ?_⟩
  obtain ⟨t, ht, hs, hb⟩ := od_ty hv.1
  refine ⟨_, rfl, v, .ty "str", t, .type "str", _, rfl, .ty _, ht, hs, _, rfl, ?_⟩
  cases hS : isS v with
  | false =>
    have e : isRight v = false := by
      cases v with
      | str z => exact absurd (show false = true from (show true = false from hS).symm) Bool.false_ne_true
      | _ => rfl
    rw [e] at q
    exact iteF q
  | true =>
    obtain ⟨z, rfl⟩ := isS_str hS
    obtain ⟨r, h1, h2, h3⟩ := hD.get z
    have q : Q (.bl (kindT z).isSome) H := q
    rw [← h2] at q
    exact iteT ⟨_, rfl, z, r, rfl, rfl, h1, q⟩
theorem ok_is_made {aM : Addr} (F : Fun K "is_made_kind" "is_made_kind" s_is_made_kind f fd) (mM : mg "MADE_KINDS" = some (.ref aM)) (hM : KTup K aM [Str.ofString "table", Str.ofString "function"]) :
    FnOk P w K mg base CX0 1 f fd ["value"] (spP K isMade) := by
  refine F.ok sc_is_made_kind spP_len (fun cdv A outer s H vs Q E hr h => ?_)
  obtain ⟨v, rfl, hv, q⟩ := h
  refine ⟨_, PSs.nox (pss_one (ps_ret (pe_cmpR (op_odIn (hu_of hr)) (pv 0) (pe_glob (v := .ref aM) (by rfl) mM rfl) (by rfl)))), ?_⟩
  refine ⟨_, rfl, aM, _, rfl, .inr hM.sq, hv.1, ?_⟩
  have e : inT v [Str.ofString "table", Str.ofString "function"] = isMade v := by
    show (isT _ v || (isT _ v || false)) = _
    rw [Bool.or_false]
    rfl
  show Q (.bl (inT v _)) H
  rw [e]
  exact q
theorem ok_is_flag (F : Fun K "is_flag" "is_flag" s_is_flag f fd) : FnOk P w K mg base CX0 1 f fd ["value"] (spP K isFlag) := by
  refine F.ok sc_is_flag spP_len (fun cdv A outer s H vs Q E hr h => ?_)
  obtain ⟨v, rfl, hv, q⟩ := h
  refine ⟨_, PSs.nox (pss_one (ps_ret (pe_or (pe_cmpR op_isB (pv 0) pe_bl (by rfl)) (pe_one (pe_cmpR op_isB (pv 0) pe_bl (by rfl)))))), ?_⟩
  refine ⟨_, rfl, _, rfl, hv.1, _, rfl, ?_⟩
  by_cases h1 : v = .bl true
  · rw [decide_eq_true h1]
    rw [h1] at q
    exact iteT q
  · rw [decide_eq_false h1]
    refine iteF ⟨_, rfl, _, rfl, hv.1, ?_⟩
    have e : isFlag v = decide (v = .bl false) := by
      cases v with
      | bl b =>
        cases b with
        | true => exact absurd rfl h1
        | false => rfl
      | _ => exact (decide_eq_false (fun e => nomatch e)).symm
    rw [e] at q
    exact q
end
end K07
set_option maxHeartbeats 4000000
namespace K07
open PySem PySem.Spec PyProof.Rows L2 RL RE RN TL RX
section
variable {P : Program} {w : World} {K : PySem.W.Frag} {mg : Str → Option Value} {base : Heap} {f : Addr} {fd : FuncData}
/-! ### the errors -/
def spEI (K : PySem.W.Frag) : Sp := fun vs H Q _ => ∃ (a C : Addr) (v : V), vs = [.ref a, v] ∧ OexC K C ∧ PySem.W.findIn K (.ref C) "value" = some none ∧ H a = some (exo a C none) ∧ ∀ dx, H dx = none → dx ≠ a → Q .non (upd (upd H dx (exd dx [("value", v)])) a (exo a C (some dx)))
theorem spEI_len : ∀ vs H Q E, spEI K vs H Q E → vs.length = 2 := fun vs H Q E h => by
  obtain ⟨a, C, v, rfl, _⟩ := h
  rfl
theorem ok_InvalidName {CR : Addr} {mc : Value} (F : Fun K "__init__" "InvalidName.__init__" s_InvalidName_init f fd) (B : BaseI K mg "RoleError" CR mc) : FnOk P w K mg base CX0 1 f fd ["self", "value"] (spEI K) := by
  refine F.ok sc_InvalidName_init spEI_len (fun cdv A outer s H vs Q E hr h => ?_)
  obtain ⟨a, C, v, rfl, T, hn, ea, q⟩ := h
  refine ⟨_, PSs.nox (pss_cons (ps_expr (RX.pe_cinit B (by rfl) (pa_cons (pv 0) (pa_cons pe_str pa_nil)))) (pss_one (ps_ost (pv 0) (pv 1)))), ?_⟩
  refine ⟨_, rfl, a, C, _, rfl, by show 1 ≤ 1000; decide, T, ea, ?_⟩
  exact ⟨_, rfl, _, rfl, a, C, rfl, T, hn, .inl ⟨ea, q⟩⟩
theorem ok_InvalidTaker {CR : Addr} {mc : Value} (F : Fun K "__init__" "InvalidTaker.__init__" s_InvalidTaker_init f fd) (B : BaseI K mg "RoleError" CR mc) : FnOk P w K mg base CX0 1 f fd ["self", "value"] (spEI K) := by
  refine F.ok sc_InvalidTaker_init spEI_len (fun cdv A outer s H vs Q E hr h => ?_)
  obtain ⟨a, C, v, rfl, T, hn, ea, q⟩ := h
  refine ⟨_, PSs.nox (pss_cons (ps_expr (RX.pe_cinit B (by rfl) (pa_cons (pv 0) (pa_cons pe_str pa_nil)))) (pss_one (ps_ost (pv 0) (pv 1)))), ?_⟩
  refine ⟨_, rfl, a, C, _, rfl, by show 1 ≤ 1000; decide, T, ea, ?_⟩
  exact ⟨_, rfl, _, rfl, a, C, rfl, T, hn, .inl ⟨ea, q⟩⟩
theorem ok_InvalidRight {CR : Addr} {mc : Value} (F : Fun K "__init__" "InvalidRight.__init__" s_InvalidRight_init f fd) (B : BaseI K mg "RoleError" CR mc) : FnOk P w K mg base CX0 1 f fd ["self", "value"] (spEI K) := by
  refine F.ok sc_InvalidRight_init spEI_len (fun cdv A outer s H vs Q E hr h => ?_)
  obtain ⟨a, C, v, rfl, T, hn, ea, q⟩ := h
  refine ⟨_, PSs.nox (pss_cons (ps_expr (RX.pe_cinit B (by rfl) (pa_cons (pv 0) (pa_cons pe_str pa_nil)))) (pss_one (ps_ost (pv 0) (pv 1)))), ?_⟩
  refine ⟨_, rfl, a, C, _, rfl, by show 1 ≤ 1000; decide, T, ea, ?_⟩
  exact ⟨_, rfl, _, rfl, a, C, rfl, T, hn, .inl ⟨ea, q⟩⟩
theorem ok_InvalidKind {CR : Addr} {mc : Value} (F : Fun K "__init__" "InvalidKind.__init__" s_InvalidKind_init f fd) (B : BaseI K mg "RoleError" CR mc) : FnOk P w K mg base CX0 1 f fd ["self", "value"] (spEI K) := by
  refine F.ok sc_InvalidKind_init spEI_len (fun cdv A outer s H vs Q E hr h => ?_)
  obtain ⟨a, C, v, rfl, T, hn, ea, q⟩ := h
  refine ⟨_, PSs.nox (pss_cons (ps_expr (RX.pe_cinit B (by rfl) (pa_cons (pv 0) (pa_cons pe_str pa_nil)))) (pss_one (ps_ost (pv 0) (pv 1)))), ?_⟩
  refine ⟨_, rfl, a, C, _, rfl, by show 1 ≤ 1000; decide, T, ea, ?_⟩
  exact ⟨_, rfl, _, rfl, a, C, rfl, T, hn, .inl ⟨ea, q⟩⟩
theorem ok_InvalidFlag {CR : Addr} {mc : Value} (F : Fun K "__init__" "InvalidFlag.__init__" s_InvalidFlag_init f fd) (B : BaseI K mg "RoleError" CR mc) : FnOk P w K mg base CX0 1 f fd ["self", "value"] (spEI K) := by
  refine F.ok sc_InvalidFlag_init spEI_len (fun cdv A outer s H vs Q E hr h => ?_)
  obtain ⟨a, C, v, rfl, T, hn, ea, q⟩ := h
  refine ⟨_, PSs.nox (pss_cons (ps_expr (RX.pe_cinit B (by rfl) (pa_cons (pv 0) (pa_cons pe_str pa_nil)))) (pss_one (ps_ost (pv 0) (pv 1)))), ?_⟩
  refine ⟨_, rfl, a, C, _, rfl, by show 1 ≤ 1000; decide, T, ea, ?_⟩
  exact ⟨_, rfl, _, rfl, a, C, rfl, T, hn, .inl ⟨ea, q⟩⟩
end
/-- what of an error's class is there -/
structure Err (P : Program) (w : World) (K : PySem.W.Frag) (mg : Str → Option Value) (base : Heap) (x : Str) (C : Addr) : Prop where
  gC : mg x = some (.ref C)
  T : OexC K C
  hn : PySem.W.findIn K (.ref C) "value" = some none
  te : PySem.W.exmOne K (.ref C) (.ref C) = some true
  ini : ∃ (fI : Addr) (fd : FuncData), PySem.W.findIn K (.ref C) "__init__" = some (some (.ref fI)) ∧ PySem.W.typeIn K (.ref fI) = some (.type "function") ∧ FnOk P w K mg base CX0 1 fI fd ["self", "value"] (spEI K) ∧ Binds K fd ["self", "value"] []
theorem del_upd {H : Hp} {a dx : Addr} {o1 o2 o3 o4 : HO} (na : H a = none) (h : dx ≠ a) : upd (del (upd (upd (upd H a o1) dx o2) a o3) a) dx o4 = upd H dx o4 := by
  funext b
  by_cases e : b = dx
  · subst e
    rw [upd_same, upd_same]
  · rw [upd_ne e, upd_ne e]
    by_cases e2 : b = a
    · subst e2
      rw [del_same, na]
    · rw [del_ne e2, upd_ne e2, upd_ne e, upd_ne e2]
/-- the way out: a new error of C that holds v -/
def Out (C : Addr) (v : V) (H : Hp) (E : XK) : Prop := ∀ d, H d = none → E (.ref C) (some d) (upd H d (.xd [("value", v)]))
theorem rs_of {K : PySem.W.Frag} {C : Addr} {v : V} {H1 : Hp} {Q : XK} (T : OexC K C) (hn : PySem.W.findIn K (.ref C) "value" = some none) (q : Out C v H1 Q) :
    [v].length ≤ 1000 ∧ ∀ a, H1 a = none → spEI K (.ref a :: ([v] ++ [])) (upd H1 a (exo a C none))
      (fun u H2 => u = .non ∧ ∃ (d : Addr) (fs : List (Str × V)), H2 a = some (exo a C (some d)) ∧ H2 d = some (exd d fs) ∧ H1 d = none ∧ Q (.ref C) (some d) (upd (del H2 a) d (.xd fs))) (fun _ _ _ => False) := by
  refine ⟨by show 1 ≤ 1000; decide, fun a na => ⟨a, C, v, rfl, T, hn, upd_same, fun dx nd ne => ⟨rfl, dx, [("value", v)], upd_same, ?_, ?_, ?_⟩⟩⟩
  · rw [upd_ne ne, upd_same]
  · rw [upd_ne ne] at nd
    exact nd
  · rw [upd_ne ne] at nd
    rw [del_upd na ne]
    exact q dx nd
section
variable {X : Cx} {x : Str} {C : Addr} {e : Expr} {ta : TA} {p pos cpos : Pos} {W : WX}
/-- raise C(e) -/
theorem ps_rs (hc : X.calm = true) (tk : Takes X W) (R : Err X.prog X.w X.K X.mg X.base x C) (hr : Room 2 X.A) (hg : Gl X x) (ha : PA X [e] ta) (hdb : (x == ("__debug__" : Str)) = false := by decide)
    (hst : starEach [e] X.env = (false, eval e X.env) :: starEach [] X.env := by rfl) : PS X (.Raise (some (.Call (.Name x p) [e] [] cpos)) none pos) (fun _ σ H => tMkO C (spEI X.K) [] ta σ H fun cls d H' => W cls d σ H') := by
  obtain ⟨fI, fd, h1, h2, F, b⟩ := R.ini
  exact ps_raise (W := W) (pos := pos) hc tk (pmk_oex (p := p) (pos := cpos) R.T h1 h2 F hr b .nil pass0 hg R.gC ha hdb hst (by rfl))
end
/-! ### the checks -/
section
variable {P : Program} {w : World} {K : PySem.W.Frag} {mg : Str → Option Value} {base : Heap} {f : Addr} {fd : FuncData}
/-- nothing, if v is such a value; else an error of C with v -/
def spC (K : PySem.W.Frag) (p : V → Bool) (C : Addr) : Sp := fun vs H Q E => ∃ v, vs = [v] ∧ Od K H v ∧ (p v = true → Q .non H) ∧ (p v = false → Out C v H E)
theorem spC_len {p : V → Bool} {C : Addr} : ∀ vs H Q E, spC K p C vs H Q E → vs.length = 1 := fun vs H Q E h => by
  obtain ⟨v, rfl, _⟩ := h
  rfl
theorem ok_check_name {C fN : Addr} {fdN : FuncData} (F : Fun K "check_name" "check_name" s_check_name f fd) (R : Err P w K mg base "InvalidName" C) (N : FnOk P w K mg base CX0 1 fN fdN ["value"] (spP K isName)) (bN : Binds K fdN ["value"] []) (kN : PySem.W.keepIn K (.ref fN) = true) (gN : mg "is_name" = some (.ref fN)) :
    FnOk P w K mg base (L2.CX P w) 3 f fd ["value"] (spC K isName C) := by
  refine F.okX sc_check_name spC_len (fun cdv A outer s H vs Q E hr h => ?_)
  obtain ⟨v, rfl, hv, q1, q2⟩ := h
  refine ⟨_, pss_one (ps_if (pt_not (pt_val (pe_call N (hr.mono (by decide)) (by rfl) gN kN bN .nil pass0 (pa_cons (pv 0) pa_nil)))) (pss_one (ps_rs rfl (takes_of rfl rfl rfl rfl) R hr (by rfl) (pa_cons (pv 0) pa_nil))) pss_nil), ?_⟩
  refine ⟨_, rfl, v, rfl, hv, _, rfl, ?_⟩
  cases e : isName v with
  | true => exact iteF (q1 e)
  | false => exact iteT ⟨_, rfl, rs_of R.T R.hn (q2 e)⟩
end
end K07
set_option maxHeartbeats 4000000
namespace K07
open PySem PySem.Spec PyProof.Rows L2 RL RE RN TL RX
section
variable {P : Program} {w : World} {K : PySem.W.Frag} {mg : Str → Option Value} {base : Heap} {f : Addr} {fd : FuncData}
theorem ok_check_taker {C fN : Addr} {fdN : FuncData} (F : Fun K "check_taker" "check_taker" s_check_taker f fd) (R : Err P w K mg base "InvalidTaker" C) (N : FnOk P w K mg base CX0 2 fN fdN ["value"] (spP K isTaker)) (bN : Binds K fdN ["value"] []) (kN : PySem.W.keepIn K (.ref fN) = true) (gN : mg "is_taker" = some (.ref fN)) :
    FnOk P w K mg base (L2.CX P w) 3 f fd ["value"] (spC K isTaker C) := by
  refine F.okX sc_check_taker spC_len (fun cdv A outer s H vs Q E hr h => ?_)
  obtain ⟨v, rfl, hv, q1, q2⟩ := h
  refine ⟨_, pss_one (ps_if (pt_not (pt_val (pe_call N (hr.mono (by decide)) (by rfl) gN kN bN .nil pass0 (pa_cons (pv 0) pa_nil)))) (pss_one (ps_rs rfl (takes_of rfl rfl rfl rfl) R hr (by rfl) (pa_cons (pv 0) pa_nil))) pss_nil), ?_⟩
  refine ⟨_, rfl, v, rfl, hv, _, rfl, ?_⟩
  cases e : isTaker v with
  | true => exact iteF (q1 e)
  | false => exact iteT ⟨_, rfl, rs_of R.T R.hn (q2 e)⟩
theorem ok_check_right {C fN : Addr} {fdN : FuncData} (F : Fun K "check_right" "check_right" s_check_right f fd) (R : Err P w K mg base "InvalidRight" C) (N : FnOk P w K mg base CX0 1 fN fdN ["value"] (spP K isRight)) (bN : Binds K fdN ["value"] []) (kN : PySem.W.keepIn K (.ref fN) = true) (gN : mg "is_right" = some (.ref fN)) :
    FnOk P w K mg base (L2.CX P w) 3 f fd ["value"] (spC K isRight C) := by
  refine F.okX sc_check_right spC_len (fun cdv A outer s H vs Q E hr h => ?_)
  obtain ⟨v, rfl, hv, q1, q2⟩ := h
  refine ⟨_, pss_one (ps_if (pt_not (pt_val (pe_call N (hr.mono (by decide)) (by rfl) gN kN bN .nil pass0 (pa_cons (pv 0) pa_nil)))) (pss_one (ps_rs rfl (takes_of rfl rfl rfl rfl) R hr (by rfl) (pa_cons (pv 0) pa_nil))) pss_nil), ?_⟩
  refine ⟨_, rfl, v, rfl, hv, _, rfl, ?_⟩
  cases e : isRight v with
  | true => exact iteF (q1 e)
  | false => exact iteT ⟨_, rfl, rs_of R.T R.hn (q2 e)⟩
theorem ok_check_made_kind {C fN : Addr} {fdN : FuncData} (F : Fun K "check_made_kind" "check_made_kind" s_check_made_kind f fd) (R : Err P w K mg base "InvalidKind" C) (N : FnOk P w K mg base CX0 1 fN fdN ["value"] (spP K isMade)) (bN : Binds K fdN ["value"] []) (kN : PySem.W.keepIn K (.ref fN) = true) (gN : mg "is_made_kind" = some (.ref fN)) :
    FnOk P w K mg base (L2.CX P w) 3 f fd ["value"] (spC K isMade C) := by
  refine F.okX sc_check_made_kind spC_len (fun cdv A outer s H vs Q E hr h => ?_)
  obtain ⟨v, rfl, hv, q1, q2⟩ := h
  refine ⟨_, pss_one (ps_if (pt_not (pt_val (pe_call N (hr.mono (by decide)) (by rfl) gN kN bN .nil pass0 (pa_cons (pv 0) pa_nil)))) (pss_one (ps_rs rfl (takes_of rfl rfl rfl rfl) R hr (by rfl) (pa_cons (pv 0) pa_nil))) pss_nil), ?_⟩
  refine ⟨_, rfl, v, rfl, hv, _, rfl, ?_⟩
  cases e : isMade v with
  | true => exact iteF (q1 e)
  | false => exact iteT ⟨_, rfl, rs_of R.T R.hn (q2 e)⟩
theorem ok_check_flag {C fN : Addr} {fdN : FuncData} (F : Fun K "check_flag" "check_flag" s_check_flag f fd) (R : Err P w K mg base "InvalidFlag" C) (N : FnOk P w K mg base CX0 1 fN fdN ["value"] (spP K isFlag)) (bN : Binds K fdN ["value"] []) (kN : PySem.W.keepIn K (.ref fN) = true) (gN : mg "is_flag" = some (.ref fN)) :
    FnOk P w K mg base (L2.CX P w) 3 f fd ["value"] (spC K isFlag C) := by
  refine F.okX sc_check_flag spC_len (fun cdv A outer s H vs Q E hr h => ?_)
  obtain ⟨v, rfl, hv, q1, q2⟩ := h
  refine ⟨_, pss_one (ps_if (pt_not (pt_val (pe_call N (hr.mono (by decide)) (by rfl) gN kN bN .nil pass0 (pa_cons (pv 0) pa_nil)))) (pss_one (ps_rs rfl (takes_of rfl rfl rfl rfl) R hr (by rfl) (pa_cons (pv 0) pa_nil))) pss_nil), ?_⟩
  refine ⟨_, rfl, v, rfl, hv, _, rfl, ?_⟩
  cases e : isFlag v with
  | true => exact iteF (q1 e)
  | false => exact iteT ⟨_, rfl, rs_of R.T R.hn (q2 e)⟩
/-- kind_of -/
def spKind (K : PySem.W.Frag) (C : Addr) : Sp := fun vs H Q E => ∃ v, vs = [v] ∧ Od K H v ∧ (∀ z k, v = .str z → kindT z = some k → Q (.str k) H) ∧ (isRight v = false → Out C v H E)
theorem ok_kind_of {C fN d : Addr} {fdN : FuncData} (F : Fun K "kind_of" "kind_of" s_kind_of f fd) (R : Err P w K mg base "InvalidRight" C) (N : FnOk P w K mg base CX0 1 fN fdN ["value"] (spP K isRight)) (bN : Binds K fdN ["value"] []) (kN : PySem.W.keepIn K (.ref fN) = true) (gN : mg "is_right" = some (.ref fN)) (mD : mg "KIND_BY_RIGHT" = some (.ref d)) (hD : KRight K w d) :
    FnOk P w K mg base (L2.CX P w) 3 f fd ["right"] (spKind K C) := by
  refine F.okX sc_kind_of (fun vs H Q E h => by obtain ⟨v, rfl, _⟩ := h; rfl) (fun cdv A outer s H vs Q E hr h => ?_)
  obtain ⟨v, rfl, hv, q1, q2⟩ := h
  refine ⟨_, pss_cons (ps_if (pt_not (pt_val (pe_call N (hr.mono (by decide)) (by rfl) gN kN bN .nil pass0 (pa_cons (pv 0) pa_nil)))) (pss_one (ps_rs rfl (takes_of rfl rfl rfl rfl) R hr (by rfl) (pa_cons (pv 0) pa_nil))) pss_nil)
    (pss_one (ps_ret (pe_ix ix_kdict (pe_glob (v := .ref d) (by rfl) mD rfl) (pv 0) (fun _ _ => rfl)))), ?_⟩
  refine ⟨_, rfl, v, rfl, hv, _, rfl, ?_⟩
  cases e : isRight v with
  | false => exact iteT ⟨_, rfl, rs_of R.T R.hn (q2 e)⟩
  | true =>
    refine iteF ?_
    cases v with
    | str z =>
      have e : (kindT z).isSome = true := e
      cases hk : kindT z with
      | none => rw [hk] at e; cases e
      | some k =>
        obtain ⟨r, h1, h2, h3⟩ := hD.get z
        obtain ⟨t, rfl⟩ := h3 k hk
        obtain ⟨es, n, kd⟩ := hD.dict
        refine ⟨_, rfl, d, z, .str k, rfl, rfl, ?_, q1 z k rfl hk⟩
        exact ⟨es, n, _, kd.at_, kd.lit, h1, ⟨_, rfl⟩⟩
    | _ => exact absurd (show false = true from e) Bool.false_ne_true
/-- check_right_on: the kind is a text -/
def isRightOn (z : Str) : V → Bool
  | .str r => decide (kindT r = some z)
  | _ => false
def spOn (K : PySem.W.Frag) (C : Addr) : Sp := fun vs H Q E => ∃ (z : Str) (v : V), vs = [.str z, v] ∧ Od K H v ∧ (isRightOn z v = true → Q .non H) ∧ (isRightOn z v = false → Out C v H E)
theorem ok_check_right_on {C fN : Addr} {fdN : FuncData} (F : Fun K "check_right_on" "check_right_on" s_check_right_on f fd) (R : Err P w K mg base "InvalidRight" C) (N : FnOk P w K mg base (L2.CX P w) 3 fN fdN ["right"] (spKind K C)) (bN : Binds K fdN ["right"] []) (kN : PySem.W.keepIn K (.ref fN) = true) (gN : mg "kind_of" = some (.ref fN)) :
    FnOk P w K mg base (L2.CX P w) 4 f fd ["kind", "value"] (spOn K C) := by
  refine F.okX sc_check_right_on (fun vs H Q E h => by obtain ⟨z, v, rfl, _⟩ := h; rfl) (fun cdv A outer s H vs Q E hr h => ?_)
  obtain ⟨z, v, rfl, hv, q1, q2⟩ := h
  have tk := takes_of (X := cxOf (L2.CX P w) P w K mg base N_check_right_on "check_right_on" (defScope s_check_right_on) f cdv A outer s H E) rfl rfl rfl rfl
  refine ⟨_, pss_one (ps_if (pt_cmpR op_ne (pe_callS N hr (by rfl) gN kN bN (fun σ => passAt tk σ) (pa_cons (pv 1) pa_nil)) (pv 0) (nomark _)) (pss_one (ps_rs rfl tk R (hr.mono (by decide)) (by rfl) (pa_cons (pv 1) pa_nil))) pss_nil), ?_⟩
  refine ⟨_, rfl, v, rfl, hv, fun r k e hk => ?_, fun hno => ?_⟩
  · subst e
    refine ⟨_, rfl, rfl, _, rfl, ?_⟩
    by_cases e : k = z
    · subst e
      rw [decide_eq_true rfl]
      exact iteF (q1 (decide_eq_true hk))
    · rw [decide_eq_false (fun q => e (V.str.inj q))]
      exact iteT ⟨_, rfl, rs_of R.T R.hn (q2 (decide_eq_false fun q => e (Option.some.inj (hk.symm.trans q))))⟩
  · refine q2 ?_
    cases v with
    | str r =>
      have hno : (kindT r).isSome = false := hno
      refine decide_eq_false fun q => ?_
      rw [q] at hno
      cases hno
    | _ => rfl
/-- check_option -/
def isOpt (v t : V) : Bool := isFlag v && !(decide (v = .bl true) && isT tPub t)
def spOpt (K : PySem.W.Frag) (C : Addr) : Sp := fun vs H Q E => ∃ v t, vs = [v, t] ∧ Od K H v ∧ Od K H t ∧ (isOpt v t = true → Q .non H) ∧ (isOpt v t = false → Out C v H E)
theorem ok_check_option {C fN : Addr} {fdN : FuncData} (F : Fun K "check_option" "check_option" s_check_option f fd) (R : Err P w K mg base "InvalidFlag" C) (N : FnOk P w K mg base CX0 1 fN fdN ["value"] (spP K isFlag)) (bN : Binds K fdN ["value"] []) (kN : PySem.W.keepIn K (.ref fN) = true) (gN : mg "is_flag" = some (.ref fN)) :
    FnOk P w K mg base (L2.CX P w) 3 f fd ["value", "taker"] (spOpt K C) := by
  refine F.okX sc_check_option (fun vs H Q E h => by obtain ⟨v, t, rfl, _⟩ := h; rfl) (fun cdv A outer s H vs Q E hr h => ?_)
  obtain ⟨v, t, rfl, hv, ht, q1, q2⟩ := h
  refine ⟨_, pss_one (ps_if (PW.pt (pw_or (pt_not (pt_val (pe_call N (hr.mono (by decide)) (by rfl) gN kN bN .nil pass0 (pa_cons (pv 0) pa_nil)))) (pw_or1 (PW.pt (pw_and (pt_val (pv 0)) (pw_and1 (pt_cmpR (op_odEq (Nat.lt_of_succ_lt (hu_of hr))) (pv 1) pe_str (nomark _)))))))) (pss_one (ps_rs rfl (takes_of rfl rfl rfl rfl) R hr (by rfl) (pa_cons (pv 0) pa_nil))) pss_nil), ?_⟩
  refine ⟨_, rfl, v, rfl, hv, _, rfl, ?_⟩
  cases e : isFlag v with
  | false => exact iteT (iteT ⟨_, rfl, rs_of R.T R.hn (q2 (by unfold isOpt; rw [e]; rfl))⟩)
  | true =>
    cases v with
    | bl b =>
      refine iteF ⟨_, rfl, _, rfl, ?_⟩
      cases b with
      | false => exact iteF (iteF (q1 rfl))
      | true =>
        refine iteT ⟨_, rfl, _, rfl, ht.1, _, rfl, ?_⟩
        have eo : isOpt (.bl true) t = !isT tPub t := by
          show (true && !(decide (V.bl true = V.bl true) && isT tPub t)) = _
          rw [decide_eq_true rfl, Bool.true_and, Bool.true_and]
        rw [eo] at q1 q2
        show if isT tPub t = true then _ else _
        cases ep : isT tPub t with
        | true => exact iteT ⟨_, rfl, rs_of R.T R.hn (q2 (by rw [ep]; rfl))⟩
        | false => exact iteF (q1 (by rw [ep]; rfl))
    | _ => exact absurd (show false = true from e) Bool.false_ne_true
end
end K07
set_option maxHeartbeats 4000000
namespace K07
open PySem PySem.Spec PyProof.Rows L2 RL RE RN TL RX
/-! ### a def that is there, in short -/
def Df (P : Program) (w : World) (K : PySem.W.Frag) (mg : Str → Option Value) (base : Heap) (CX : CXT) (k : Nat) (x : Str) (ps : List Str) (sp : Sp) : Prop :=
  ∃ (f : Addr) (fd : FuncData), FnOk P w K mg base CX k f fd ps sp ∧ Binds K fd ps [] ∧ PySem.W.keepIn K (.ref f) = true ∧ mg x = some (.ref f)
section
variable {X : Cx} {k : Nat} {x : Str} {ps : List Str} {sp : Sp} {t : TA} {e : Expr} {es : List Expr} {p pos : Pos}
theorem pe_df0 (D : Df X.prog X.w X.K X.mg X.base CX0 k x ps sp) (hr : Room k X.A) (hg : Gl X x) (ha : PA X (e :: es) t) (hdb : (x == ("__debug__" : Str)) = false := by decide)
    (he : starEach (e :: es) X.env = (false, eval e X.env) :: starEach es X.env := by rfl) (hpl : (backTo pos (starEach es X.env)).any (·.1) = false := by rfl) : PE X (.Call (.Name x p) (e :: es) [] pos) (tCall sp [] (fun _ _ _ => False) t) := by
  obtain ⟨f, fd, F, b, kp, g⟩ := D
  exact pe_call F hr hg g kp b .nil pass0 ha hdb he hpl
theorem pe_dfX {W : WX} (D : Df X.prog X.w X.K X.mg X.base (L2.CX X.prog X.w) k x ps sp) (tk : Takes X W) (hr : Room k X.A) (hg : Gl X x) (ha : PA X (e :: es) t) (hdb : (x == ("__debug__" : Str)) = false := by decide)
    (he : starEach (e :: es) X.env = (false, eval e X.env) :: starEach es X.env := by rfl) (hpl : (backTo pos (starEach es X.env)).any (·.1) = false := by rfl) : PE X (.Call (.Name x p) (e :: es) [] pos) (tCallS sp (WE W) t) := by
  obtain ⟨f, fd, F, b, kp, g⟩ := D
  exact pe_callS F hr hg g kp b (fun σ => passAt tk σ) ha hdb he hpl
end
/-! ### what is due -/
inductive Wd
  | name | right | taker | flag | kind
  deriving DecidableEq
def giveDue : List V → Option (Wd × V)
  | [r, t, k, o] => if isRight r then if isName t then if isT tCal k || isTaker k then if isOpt o k then none else some (.flag, o) else some (.taker, k) else some (.name, t) else some (.right, r)
  | _ => none
def takeDue : List V → Option (Wd × V)
  | [r, t, k, g, o, c] => if isRight r then if isName t then if isTaker k then if decide (g = .non) || isName g then if isFlag o then if isFlag c then none else some (.flag, c) else some (.flag, o) else some (.name, g) else some (.taker, k) else some (.name, t) else some (.right, r)
  | _ => none
def callDue : List V → Option (Wd × V)
  | [f] => if isName f then none else some (.name, f)
  | _ => none
def onV : V → V → Bool
  | .str z, r => isRightOn z r
  | _, _ => false
def presetDue : List V → Option (Wd × V)
  | [kd, r, k, o] => if isMade kd then if onV kd r then if isTaker k then if isOpt o k then none else some (.flag, o) else some (.taker, k) else some (.right, r) else some (.kind, kd)
  | _ => none
def useDue : List V → Option (Wd × V)
  | [r, t] => if isRight r then if isName t then none else some (.name, t) else some (.right, r)
  | _ => none
def Off (a : Addr) (H H' : Hp) : Prop := ∀ b, b ≠ a → H' b = H b
theorem Off.refl {a : Addr} {H : Hp} : Off a H H := fun _ _ => rfl
theorem Off.upd {a : Addr} {H H' : Hp} {o : HO} (h : Off a H H') : Off a H (L2.upd H' a o) := fun b n => by
  rw [upd_ne n]
  exact h b n
/-- __init__ of a deed -/
def spIni (K : PySem.W.Frag) (C : Addr) (cl : Wd → Addr) (n : Nat) (due : List V → Option (Wd × V)) : Sp := fun vs H Q E => ∃ (a dx : Addr) (xs : List V), vs = .ref a :: xs ∧ xs.length = n ∧ H a = some (.ins C dx []) ∧ (∀ x ∈ xs, Od K H x) ∧
  (due xs = none → ∀ H', Off a H H' → Q .non H') ∧ (∀ w v, due xs = some (w, v) → Out (cl w) v H E)
theorem spIni_len {K : PySem.W.Frag} {C : Addr} {cl : Wd → Addr} {n : Nat} {due : List V → Option (Wd × V)} : ∀ vs H Q E, spIni K C cl n due vs H Q E → vs.length = n + 1 := fun vs H Q E h => by
  obtain ⟨a, dx, xs, rfl, hl, _⟩ := h
  rw [List.length_cons, hl]
/-- the checks -/
structure Chk (P : Program) (w : World) (K : PySem.W.Frag) (mg : Str → Option Value) (base : Heap) (cl : Wd → Addr) : Prop where
  name : Df P w K mg base (L2.CX P w) 3 "check_name" ["value"] (spC K isName (cl .name))
  taker : Df P w K mg base (L2.CX P w) 3 "check_taker" ["value"] (spC K isTaker (cl .taker))
  right : Df P w K mg base (L2.CX P w) 3 "check_right" ["value"] (spC K isRight (cl .right))
  made : Df P w K mg base (L2.CX P w) 3 "check_made_kind" ["value"] (spC K isMade (cl .kind))
  flag : Df P w K mg base (L2.CX P w) 3 "check_flag" ["value"] (spC K isFlag (cl .flag))
  on : Df P w K mg base (L2.CX P w) 4 "check_right_on" ["kind", "value"] (spOn K (cl .right))
  opt : Df P w K mg base (L2.CX P w) 3 "check_option" ["value", "taker"] (spOpt K (cl .flag))
section
variable {P : Program} {w : World} {K : PySem.W.Frag} {mg : Str → Option Value} {base : Heap} {f : Addr} {fd : FuncData}
theorem ok_Use {C : Addr} {cl : Wd → Addr} (F : Fun K "__init__" "Use.__init__" s_Use_init f fd) (G : Chk P w K mg base cl) (c : Cls K C) (n1 : NoAttr K C "right") (n2 : NoAttr K C "thing") :
    FnOk P w K mg base (L2.CX P w) 5 f fd ["self", "right", "thing"] (spIni K C cl 2 useDue) := by
  refine F.okX sc_Use_init spIni_len (fun cdv A outer s H vs Q E hr h => ?_)
  obtain ⟨a, dx, xs, rfl, hl, ea, ho, q1, q2⟩ := h
  match xs, hl, ho, q1, q2 with
  | [r, t], _, ho, q1, q2 =>
  have tk := takes_of (X := cxOf (L2.CX P w) P w K mg base N_Use_init "Use.__init__" (defScope s_Use_init) f cdv A outer s H E) rfl rfl rfl rfl
  refine ⟨_, pss_cons (ps_expr (pe_dfX G.right tk (hr.mono (by decide)) (by rfl) (pa_cons (pv 1) pa_nil)))
    (pss_cons (ps_expr (pe_dfX G.name tk (hr.mono (by decide)) (by rfl) (pa_cons (pv 2) pa_nil)))
    (pss_cons (ps_fld (pv 0) (pv 1) rfl) (pss_one (ps_fld (pv 0) (pv 2) rfl)))), ?_⟩
  refine ⟨_, rfl, r, rfl, ho r (by simp), fun h1 => ?_, fun h1 => q2 .right r (by simp [useDue, h1])⟩
  refine ⟨_, rfl, t, rfl, ho t (by simp), fun h2 => ?_, fun h2 => q2 .name t (by simp [useDue, h1, h2])⟩
  refine ⟨_, rfl, _, rfl, a, C, dx, _, rfl, ea, c, n1, by decide, ?_⟩
  refine ⟨_, rfl, _, rfl, a, C, dx, _, rfl, upd_same, c, n2, by show 1 < 1000; decide, ?_⟩
  exact q1 (by simp [useDue, h1, h2]) _ Off.refl.upd.upd
theorem ok_Call {C : Addr} {cl : Wd → Addr} (F : Fun K "__init__" "Call.__init__" s_Call_init f fd) (G : Chk P w K mg base cl) (c : Cls K C) (n1 : NoAttr K C "function") :
    FnOk P w K mg base (L2.CX P w) 5 f fd ["self", "function"] (spIni K C cl 1 callDue) := by
  refine F.okX sc_Call_init spIni_len (fun cdv A outer s H vs Q E hr h => ?_)
  obtain ⟨a, dx, xs, rfl, hl, ea, ho, q1, q2⟩ := h
  match xs, hl, ho, q1, q2 with
  | [t], _, ho, q1, q2 =>
  have tk := takes_of (X := cxOf (L2.CX P w) P w K mg base N_Call_init "Call.__init__" (defScope s_Call_init) f cdv A outer s H E) rfl rfl rfl rfl
  refine ⟨_, pss_cons (ps_expr (pe_dfX G.name tk (hr.mono (by decide)) (by rfl) (pa_cons (pv 1) pa_nil)))
    (pss_one (ps_fld (pv 0) (pv 1) rfl)), ?_⟩
  refine ⟨_, rfl, t, rfl, ho t (by simp), fun h1 => ?_, fun h1 => q2 .name t (by simp [callDue, h1])⟩
  refine ⟨_, rfl, _, rfl, a, C, dx, _, rfl, ea, c, n1, by decide, ?_⟩
  exact q1 (by simp [callDue, h1]) _ Off.refl.upd
theorem ok_Give {C : Addr} {cl : Wd → Addr} {dvs : List V} {kws : List (Str × V)} (F : FunD K "__init__" "Give.__init__" (defArgs s_Give_init) (defBody s_Give_init) (defScope s_Give_init) dvs kws f fd) (G : Chk P w K mg base cl) (c : Cls K C) (n1 : NoAttr K C "right") (n2 : NoAttr K C "thing") (n3 : NoAttr K C "taker") (n4 : NoAttr K C "option") :
    FnOk P w K mg base (L2.CX P w) 5 f fd ["self", "right", "thing", "taker", "option"] (spIni K C cl 4 giveDue) := by
  refine F.ok sc_Give_init spIni_len (fun cdv A outer s H vs Q E hr h => ?_)
  obtain ⟨a, dx, xs, rfl, hl, ea, ho, q1, q2⟩ := h
  match xs, hl, ho, q1, q2 with
  | [r, t, k, o], _, ho, q1, q2 =>
  have tk := takes_of (X := cxOf (L2.CX P w) P w K mg base N_Give_init "Give.__init__" (defScope s_Give_init) f cdv A outer s H E) rfl rfl rfl rfl
  refine ⟨_, pss_cons (ps_expr (pe_dfX G.right tk (hr.mono (by decide)) (by rfl) (pa_cons (pv 1) pa_nil)))
    (pss_cons (ps_expr (pe_dfX G.name tk (hr.mono (by decide)) (by rfl) (pa_cons (pv 2) pa_nil)))
    (pss_cons (ps_if (pt_cmpR (op_odNe (Nat.lt_of_succ_lt (hu_of hr))) (pv 3) pe_str (nomark _)) (pss_one (ps_expr (pe_dfX G.taker tk (hr.mono (by decide)) (by rfl) (pa_cons (pv 3) pa_nil)))) pss_nil)
    (pss_cons (ps_expr (pe_dfX G.opt tk (hr.mono (by decide)) (by rfl) (pa_cons (pv 4) (pa_cons (pv 3) pa_nil))))
    (pss_cons (ps_fld (pv 0) (pv 1) rfl) (pss_cons (ps_fld (pv 0) (pv 2) rfl) (pss_cons (ps_fld (pv 0) (pv 3) rfl) (pss_one (ps_fld (pv 0) (pv 4) rfl)))))))), ?_⟩
  refine ⟨_, rfl, r, rfl, ho r (by simp), fun h1 => ?_, fun h1 => q2 .right r (by simp [giveDue, h1])⟩
  refine ⟨_, rfl, t, rfl, ho t (by simp), fun h2 => ?_, fun h2 => q2 .name t (by simp [giveDue, h1, h2])⟩
  have hk := ho k (by simp)
  have hoo := ho o (by simp)
  refine ⟨_, rfl, _, rfl, hk.1, _, rfl, ?_⟩
  cases h3 : isT tCal k with
  | true =>
    refine iteF ?_
    have h34 : (isT tCal k || isTaker k) = true := by rw [h3]; rfl
    refine ⟨_, rfl, _, rfl, o, k, rfl, hoo, hk, fun h5 => ?_, fun h5 => q2 .flag o (by simp [giveDue, h1, h2, h34, h5])⟩
    refine ⟨_, rfl, _, rfl, a, C, dx, _, rfl, ea, c, n1, by decide, ?_⟩
    refine ⟨_, rfl, _, rfl, a, C, dx, _, rfl, upd_same, c, n2, by show 1 < 1000; decide, ?_⟩
    refine ⟨_, rfl, _, rfl, a, C, dx, _, rfl, upd_same, c, n3, by show 2 < 1000; decide, ?_⟩
    refine ⟨_, rfl, _, rfl, a, C, dx, _, rfl, upd_same, c, n4, by show 3 < 1000; decide, ?_⟩
    exact q1 (by simp [giveDue, h1, h2, h34, h5]) _ Off.refl.upd.upd.upd.upd
  | false =>
    refine iteT ⟨_, rfl, k, rfl, hk, fun h4 => ?_, fun h4 => q2 .taker k (by simp [giveDue, h1, h2, h3, h4])⟩
    have h34 : (isT tCal k || isTaker k) = true := by rw [h4, Bool.or_true]
    refine ⟨_, rfl, _, rfl, o, k, rfl, hoo, hk, fun h5 => ?_, fun h5 => q2 .flag o (by simp [giveDue, h1, h2, h34, h5])⟩
    refine ⟨_, rfl, _, rfl, a, C, dx, _, rfl, ea, c, n1, by decide, ?_⟩
    refine ⟨_, rfl, _, rfl, a, C, dx, _, rfl, upd_same, c, n2, by show 1 < 1000; decide, ?_⟩
    refine ⟨_, rfl, _, rfl, a, C, dx, _, rfl, upd_same, c, n3, by show 2 < 1000; decide, ?_⟩
    refine ⟨_, rfl, _, rfl, a, C, dx, _, rfl, upd_same, c, n4, by show 3 < 1000; decide, ?_⟩
    exact q1 (by simp [giveDue, h1, h2, h34, h5]) _ Off.refl.upd.upd.upd.upd
theorem ok_Preset {C : Addr} {cl : Wd → Addr} {dvs : List V} {kws : List (Str × V)} (F : FunD K "__init__" "Preset.__init__" (defArgs s_Preset_init) (defBody s_Preset_init) (defScope s_Preset_init) dvs kws f fd) (G : Chk P w K mg base cl) (c : Cls K C) (n1 : NoAttr K C "kind") (n2 : NoAttr K C "right") (n3 : NoAttr K C "taker") (n4 : NoAttr K C "option") :
    FnOk P w K mg base (L2.CX P w) 5 f fd ["self", "kind", "right", "taker", "option"] (spIni K C cl 4 presetDue) := by
  refine F.ok sc_Preset_init spIni_len (fun cdv A outer s H vs Q E hr h => ?_)
  obtain ⟨a, dx, xs, rfl, hl, ea, ho, q1, q2⟩ := h
  match xs, hl, ho, q1, q2 with
  | [kd, r, k, o], _, ho, q1, q2 =>
  have tk := takes_of (X := cxOf (L2.CX P w) P w K mg base N_Preset_init "Preset.__init__" (defScope s_Preset_init) f cdv A outer s H E) rfl rfl rfl rfl
  refine ⟨_, pss_cons (ps_expr (pe_dfX G.made tk (hr.mono (by decide)) (by rfl) (pa_cons (pv 1) pa_nil)))
    (pss_cons (ps_expr (pe_dfX G.on tk hr (by rfl) (pa_cons (pv 1) (pa_cons (pv 2) pa_nil))))
    (pss_cons (ps_expr (pe_dfX G.taker tk (hr.mono (by decide)) (by rfl) (pa_cons (pv 3) pa_nil)))
    (pss_cons (ps_expr (pe_dfX G.opt tk (hr.mono (by decide)) (by rfl) (pa_cons (pv 4) (pa_cons (pv 3) pa_nil))))
    (pss_cons (ps_fld (pv 0) (pv 1) rfl) (pss_cons (ps_fld (pv 0) (pv 2) rfl) (pss_cons (ps_fld (pv 0) (pv 3) rfl) (pss_one (ps_fld (pv 0) (pv 4) rfl)))))))), ?_⟩
  refine ⟨_, rfl, kd, rfl, ho kd (by simp), fun h1 => ?_, fun h1 => q2 .kind kd (by simp [presetDue, h1])⟩
  have hk := ho k (by simp)
  have hoo := ho o (by simp)
  have hz : ∃ z, kd = .str z := by
    cases kd with
    | str z => exact ⟨z, rfl⟩
    | _ => exact absurd (show false = true from h1) Bool.false_ne_true
  obtain ⟨z, rfl⟩ := hz
  refine ⟨_, rfl, _, rfl, z, r, rfl, ho r (by simp), fun h2 => ?_, fun h2 => q2 .right r (by simp [presetDue, h1, onV, h2])⟩
  refine ⟨_, rfl, k, rfl, hk, fun h3 => ?_, fun h3 => q2 .taker k (by simp [presetDue, h1, onV, h2, h3])⟩
  refine ⟨_, rfl, _, rfl, o, k, rfl, hoo, hk, fun h5 => ?_, fun h5 => q2 .flag o (by simp [presetDue, h1, onV, h2, h3, h5])⟩
  refine ⟨_, rfl, _, rfl, a, C, dx, _, rfl, ea, c, n1, by decide, ?_⟩
  refine ⟨_, rfl, _, rfl, a, C, dx, _, rfl, upd_same, c, n2, by show 1 < 1000; decide, ?_⟩
  refine ⟨_, rfl, _, rfl, a, C, dx, _, rfl, upd_same, c, n3, by show 2 < 1000; decide, ?_⟩
  refine ⟨_, rfl, _, rfl, a, C, dx, _, rfl, upd_same, c, n4, by show 3 < 1000; decide, ?_⟩
  exact q1 (by simp [presetDue, h1, onV, h2, h3, h5]) _ Off.refl.upd.upd.upd.upd
theorem ok_Take {C : Addr} {cl : Wd → Addr} {dvs : List V} {kws : List (Str × V)} (F : FunD K "__init__" "Take.__init__" (defArgs s_Take_init) (defBody s_Take_init) (defScope s_Take_init) dvs kws f fd) (G : Chk P w K mg base cl) (c : Cls K C) (n1 : NoAttr K C "right") (n2 : NoAttr K C "thing") (n3 : NoAttr K C "taker") (n4 : NoAttr K C "giver") (n5 : NoAttr K C "only_option") (n6 : NoAttr K C "cascade") :
    FnOk P w K mg base (L2.CX P w) 5 f fd ["self", "right", "thing", "taker", "giver", "only_option", "cascade"] (spIni K C cl 6 takeDue) := by
  refine F.ok sc_Take_init spIni_len (fun cdv A outer s H vs Q E hr h => ?_)
  obtain ⟨a, dx, xs, rfl, hl, ea, ho, q1, q2⟩ := h
  match xs, hl, ho, q1, q2 with
  | [r, t, k, g, o, cc], _, ho, q1, q2 =>
  have tk := takes_of (X := cxOf (L2.CX P w) P w K mg base N_Take_init "Take.__init__" (defScope s_Take_init) f cdv A outer s H E) rfl rfl rfl rfl
  refine ⟨_, pss_cons (ps_expr (pe_dfX G.right tk (hr.mono (by decide)) (by rfl) (pa_cons (pv 1) pa_nil)))
    (pss_cons (ps_expr (pe_dfX G.name tk (hr.mono (by decide)) (by rfl) (pa_cons (pv 2) pa_nil)))
    (pss_cons (ps_expr (pe_dfX G.taker tk (hr.mono (by decide)) (by rfl) (pa_cons (pv 3) pa_nil)))
    (pss_cons (ps_if (pt_cmpR op_notN (pv 4) pe_non (by rfl)) (pss_one (ps_expr (pe_dfX G.name tk (hr.mono (by decide)) (by rfl) (pa_cons (pv 4) pa_nil)))) pss_nil)
    (pss_cons (ps_expr (pe_dfX G.flag tk (hr.mono (by decide)) (by rfl) (pa_cons (pv 5) pa_nil)))
    (pss_cons (ps_expr (pe_dfX G.flag tk (hr.mono (by decide)) (by rfl) (pa_cons (pv 6) pa_nil)))
    (pss_cons (ps_fld (pv 0) (pv 1) rfl) (pss_cons (ps_fld (pv 0) (pv 2) rfl) (pss_cons (ps_fld (pv 0) (pv 3) rfl) (pss_cons (ps_fld (pv 0) (pv 4) rfl) (pss_cons (ps_fld (pv 0) (pv 5) rfl) (pss_one (ps_fld (pv 0) (pv 6) rfl)))))))))))), ?_⟩
  refine ⟨_, rfl, r, rfl, ho r (by simp), fun h1 => ?_, fun h1 => q2 .right r (by simp [takeDue, h1])⟩
  refine ⟨_, rfl, t, rfl, ho t (by simp), fun h2 => ?_, fun h2 => q2 .name t (by simp [takeDue, h1, h2])⟩
  refine ⟨_, rfl, k, rfl, ho k (by simp), fun h3 => ?_, fun h3 => q2 .taker k (by simp [takeDue, h1, h2, h3])⟩
  have hg := ho g (by simp)
  have hoo := ho o (by simp)
  have hcc := ho cc (by simp)
  refine ⟨_, rfl, rfl, _, rfl, ?_⟩
  by_cases h4 : g = .non
  · rw [decide_eq_true h4]
    refine iteF ?_
    have h34 : (decide (g = .non) || isName g) = true := by rw [decide_eq_true h4]; rfl
    refine ⟨_, rfl, o, rfl, hoo, fun h5 => ?_, fun h5 => q2 .flag o (by simp only [takeDue, h1, h2, h3, h34, h5]; rfl)⟩
    refine ⟨_, rfl, cc, rfl, hcc, fun h6 => ?_, fun h6 => q2 .flag cc (by simp only [takeDue, h1, h2, h3, h34, h5, h6]; rfl)⟩
    refine ⟨_, rfl, _, rfl, a, C, dx, _, rfl, ea, c, n1, by decide, ?_⟩
    refine ⟨_, rfl, _, rfl, a, C, dx, _, rfl, upd_same, c, n2, by show 1 < 1000; decide, ?_⟩
    refine ⟨_, rfl, _, rfl, a, C, dx, _, rfl, upd_same, c, n3, by show 2 < 1000; decide, ?_⟩
    refine ⟨_, rfl, _, rfl, a, C, dx, _, rfl, upd_same, c, n4, by show 3 < 1000; decide, ?_⟩
    refine ⟨_, rfl, _, rfl, a, C, dx, _, rfl, upd_same, c, n5, by show 4 < 1000; decide, ?_⟩
    refine ⟨_, rfl, _, rfl, a, C, dx, _, rfl, upd_same, c, n6, by show 5 < 1000; decide, ?_⟩
    exact q1 (by simp only [takeDue, h1, h2, h3, h34, h5, h6]; rfl) _ Off.refl.upd.upd.upd.upd.upd.upd
  · rw [decide_eq_false h4]
    refine iteT ⟨_, rfl, g, rfl, hg, fun h4' => ?_, fun h4' => q2 .name g (by simp [takeDue, h1, h2, h3, h4, h4'])⟩
    have h34 : (decide (g = .non) || isName g) = true := by rw [h4', Bool.or_true]
    refine ⟨_, rfl, o, rfl, hoo, fun h5 => ?_, fun h5 => q2 .flag o (by simp only [takeDue, h1, h2, h3, h34, h5]; rfl)⟩
    refine ⟨_, rfl, cc, rfl, hcc, fun h6 => ?_, fun h6 => q2 .flag cc (by simp only [takeDue, h1, h2, h3, h34, h5, h6]; rfl)⟩
    refine ⟨_, rfl, _, rfl, a, C, dx, _, rfl, ea, c, n1, by decide, ?_⟩
    refine ⟨_, rfl, _, rfl, a, C, dx, _, rfl, upd_same, c, n2, by show 1 < 1000; decide, ?_⟩
    refine ⟨_, rfl, _, rfl, a, C, dx, _, rfl, upd_same, c, n3, by show 2 < 1000; decide, ?_⟩
    refine ⟨_, rfl, _, rfl, a, C, dx, _, rfl, upd_same, c, n4, by show 3 < 1000; decide, ?_⟩
    refine ⟨_, rfl, _, rfl, a, C, dx, _, rfl, upd_same, c, n5, by show 4 < 1000; decide, ?_⟩
    refine ⟨_, rfl, _, rfl, a, C, dx, _, rfl, upd_same, c, n6, by show 5 < 1000; decide, ?_⟩
    exact q1 (by simp only [takeDue, h1, h2, h3, h34, h5, h6]; rfl) _ Off.refl.upd.upd.upd.upd.upd.upd
end
end K07
set_option maxHeartbeats 4000000
namespace K07
open PySem PySem.Spec PyProof.Rows L2 RL RE RN RM TL
section
variable {P : Program} {w : World} {K : PySem.W.Frag} {mg : Str → Option Value} {base : Heap}
/-! ### cells and boxes -/
def spCell (K : PySem.W.Frag) : Sp := fun vs H Q _ => ∃ (a : Addr) (ns : List Int) (k : Nat), vs = [.ref a, .int k] ∧ SqL K H a (ns.map V.int) ∧ k < 1000 ∧ ns.length < 1000 ∧ ∀ v : Int, Q (.int v) H
theorem ok_cell {f : Addr} {fd : FuncData} (F : Fun K "_law_cell" "_law_cell" s__law_cell f fd) (ml : mg "len" = none) : FnOk P w K mg base CX0 1 f fd ["_law_script", "_law_k"] (spCell K) := by
  refine F.ok sc__law_cell (fun vs H Q E h => ?_) (fun cdv A outer s H vs Q E hr h => ?_)
  · obtain ⟨a, ns, k, rfl, _⟩ := h
    rfl
  · obtain ⟨a, ns, k, rfl, hS, hk, hl, q⟩ := h
    refine ⟨_, pss_one (ps_ret (pe_ifExp (pt_cmpR op_lt (pv 1) (pe_callB call_len_seq (by rfl) ml PySem.boot_len (pa_cons (pv 0) pa_nil)) (nomark _)) (pe_ix ix_list (pv 0) (pv 1) (fun _ _ => rfl)) (pe_op op_add (pe_op op_mul pe_int (pv 1)) pe_int))), ?_⟩
    refine ⟨_, rfl, .ref a, rfl, a, ns.map V.int, rfl, .inl hS, (k : Int), _, rfl, rfl, _, rfl, ?_⟩
    refine ite2 (fun e => ?_) (fun e => ?_)
    · have h1 := of_decide_eq_true e
      rw [List.length_map] at h1
      have h2 : k < ns.length := by omega
      refine ⟨_, rfl, _, rfl, a, _, (k : Int), .int ns[k], rfl, rfl, hS, ?_, q _⟩
      exact atI_nat (by rw [List.getElem?_map, List.getElem?_eq_getElem h2]; rfl)
    · exact ⟨_, rfl, 6441, (k : Int), rfl, rfl, .inl ⟨by decide, by decide⟩, 6441 * (k : Int), 360, rfl, rfl, q _⟩
def Bx (H : Hp) (b : Addr) (n : Int) : Prop := ∃ g m k : Int, H b = some (.lst [.int g, .int m, .int k]) ∧ 0 ≤ g ∧ 0 ≤ m ∧ m < 2147483629 ∧ 0 ≤ k ∧ k ≤ n
theorem Bx.mono {H : Hp} {b : Addr} {n n' : Int} (h : Bx H b n) (hn : n ≤ n') : Bx H b n' := by
  obtain ⟨g, m, k, e, h1, h2, h3, h4, h5⟩ := h
  exact ⟨g, m, k, e, h1, h2, h3, h4, by omega⟩
theorem Bx.same {H H' : Hp} {b : Addr} {n : Int} (h : Bx H b n) (s : Same H H') : Bx H' b n := by
  obtain ⟨g, m, k, e, r⟩ := h
  exact ⟨g, m, k, s _ _ e, r⟩
def spBox : Sp := fun vs H Q _ => ∃ v : Int, vs = [.int v] ∧ ∀ p H', H p = none → Same H H' → Bx H' p 0 → Q (.ref p) H'
theorem ok_box {f : Addr} {fd : FuncData} (F : Fun K "_law_box" "_law_box" s__law_box f fd) (mm : mg "max" = none) : FnOk P w K mg base CX0 1 f fd ["_law_cell_here"] spBox := by
  refine F.ok sc__law_box (fun vs H Q E h => ?_) (fun cdv A outer s H vs Q E hr h => ?_)
  · obtain ⟨v, rfl, _⟩ := h
    rfl
  · obtain ⟨v, rfl, q⟩ := h
    refine ⟨_, pss_one (ps_ret (pe_lst (pa_cons (pe_callB (call_max2 rfl) (by rfl) mm PyProof.Rows.boot_max (pa_cons pe_int (pa_cons (pe_op op_sub (pv 0) (pe_op op_pow pe_int pe_int)) pa_nil))) (pa_cons (pe_op op_mod (pv 0) pe_int) (pa_cons pe_int pa_nil))))), ?_⟩
    refine ⟨_, rfl, 10, 18, rfl, rfl, ⟨by decide, by decide, by decide⟩, v, _, rfl, rfl, 0, _, rfl, ?_⟩
    refine ⟨_, rfl, v, 2147483629, rfl, rfl, by show (0 : Int) < 2147483629; decide, ?_⟩
    refine ⟨by show 3 ≤ sizeLine; decide, fun p np => ?_⟩
    refine q p _ np (same_upd np) ⟨_, _, 0, upd_same, ?_, Int.emod_nonneg _ (by decide), Int.emod_lt_of_pos _ (by decide), by decide, by decide⟩
    split <;> omega
/-! ### a draw -/
def spTake : Sp := fun vs H Q _ => ∃ (b : Addr) (q : Int) (n : Int), vs = [.ref b, .int q] ∧ 1 ≤ q ∧ q ≤ 1000000 ∧ 0 ≤ n ∧ n ≤ 100000 ∧ Bx H b n ∧ ∀ d H', 0 ≤ d → d < q → Keep b H H' → Bx H' b (n + 1) → Q (.int d) H'
theorem ok_take {f : Addr} {fd : FuncData} (F : Fun K "_law_take" "_law_take" s__law_take f fd) : FnOk P w K mg base CX0 1 f fd ["_law_box_here", "_law_many"] spTake := by
  refine F.ok sc__law_take (fun vs H Q E h => ?_) (fun cdv A outer s H vs Q E hr h => ?_)
  · obtain ⟨b, q, n, rfl, _⟩ := h
    rfl
  · obtain ⟨b, m, n, rfl, m1, m2, n1, n2, ⟨g, x, k, eb, g0, x0, x1, k0, k1⟩, q⟩ := h
    refine ⟨_, pss_cons (ps_if (pt_cmpR op_gt (pe_ix ix_list (pv 0) pe_int (fun _ _ => rfl)) pe_int (nomark _))
        (pss_cons (ps_set (i := 2) sc__law_take.nd rfl (.inl rfl) (pe_op op_mod (pe_ix ix_list (pv 0) pe_int (fun _ _ => rfl)) (pv 1)))
        (pss_cons (ps_asg (pe_op op_fdiv (pe_ix ix_list (pv 0) pe_int (fun _ _ => rfl)) (pv 1)) (pg_sub (pv 0) pe_int set_list))
        (pss_one (ps_ret (pv 2))))) pss_nil)
      (pss_cons (ps_asg (pe_op op_add (pe_ix ix_list (pv 0) pe_int (fun _ _ => rfl)) pe_int) (pg_sub (pv 0) pe_int set_list))
      (pss_cons (ps_set (i := 3) sc__law_take.nd rfl (.inl rfl) (pe_op op_mod (pe_op op_pow (pe_op op_add (pe_op op_add (pe_ix ix_list (pv 0) pe_int (fun _ _ => rfl)) (pe_op op_mul pe_int (pe_ix ix_list (pv 0) pe_int (fun _ _ => rfl)))) pe_int) pe_int) pe_int))
      (pss_cons (ps_set (i := 3) sc__law_take.nd rfl (.inl rfl) (pe_op op_mod (pe_op op_pow (pe_op op_add (pv 3) (pe_op op_mul pe_int (pe_ix ix_list (pv 0) pe_int (fun _ _ => rfl)))) pe_int) pe_int))
      (pss_one (ps_ret (pe_op op_mod (pe_op op_fdiv (pv 3) pe_int) (pv 1))))))), ?_⟩
    have L : SqL K H b [.int g, .int x, .int k] := SqL.of eb
    refine ⟨_, rfl, b, _, 0, .int g, rfl, rfl, L, atI_nat (j := 0) rfl, g, 0, rfl, rfl, _, rfl, ite2 (fun e => ?_) (fun e => ?_)⟩
    · have hg := of_decide_eq_true e
      refine ⟨_, rfl, b, _, 0, .int g, rfl, rfl, L, atI_nat (j := 0) rfl, _, rfl, g, m, rfl, rfl, by show 0 < m; omega, ?_⟩
      refine ⟨_, rfl, b, _, 0, .int g, rfl, rfl, L, atI_nat (j := 0) rfl, _, rfl, g, m, rfl, rfl, ⟨by omega, by omega⟩, ?_⟩
      refine ⟨_, rfl, b, _, _, 0, rfl, rfl, eb, rfl, ?_⟩
      refine ⟨_, rfl, q _ _ (Int.emod_nonneg _ (by omega)) (Int.emod_lt_of_pos _ (by omega)) Keep.upd ⟨g / m, x, k, upd_same, Int.ediv_nonneg (by omega) (by omega), x0, x1, k0, by omega⟩⟩
    · refine ⟨_, rfl, b, _, 2, .int k, rfl, rfl, L, atI_nat (j := 2) rfl, k, 1, rfl, rfl, ?_⟩
      refine ⟨_, rfl, b, _, _, 2, rfl, rfl, eb, rfl, ?_⟩
      have L2 : SqL K (upd H b (.lst [.int g, .int x, .int (k + 1)])) b [.int g, .int x, .int (k + 1)] := SqL.of upd_same
      refine ⟨_, rfl, b, _, 1, .int x, rfl, rfl, L2, atI_nat (j := 1) rfl, _, rfl, b, _, 2, .int (k + 1), rfl, rfl, L2, atI_nat (j := 2) rfl, 6247, k + 1, rfl, rfl, .inl ⟨by decide, by decide⟩, x, _, rfl, rfl, _, 478, rfl, rfl, _, 5, rfl, rfl, ⟨by decide, by decide, by omega⟩, _, 2147483647, rfl, rfl, by show (0 : Int) < 2147483647; decide, ?_⟩
      have b0 := Int.emod_nonneg ((x + 6247 * (k + 1) + 478) ^ (5 : Int).toNat) (show (2147483647 : Int) ≠ 0 by decide)
      have b1 := Int.emod_lt_of_pos ((x + 6247 * (k + 1) + 478) ^ (5 : Int).toNat) (show (0 : Int) < 2147483647 by decide)
      generalize hy : (x + 6247 * (k + 1) + 478) ^ (5 : Int).toNat % 2147483647 = y at b0 b1
      refine ⟨_, rfl, _, rfl, b, _, 2, .int (k + 1), rfl, rfl, L2, atI_nat (j := 2) rfl, 104729, k + 1, rfl, rfl, .inl ⟨by decide, by decide⟩, y, _, by show V.int (_ % _) = _; rw [hy], rfl, _, 3, rfl, rfl, ⟨by decide, by decide, by omega⟩, _, 2147483587, rfl, rfl, by show (0 : Int) < 2147483587; decide, ?_⟩
      refine ⟨_, rfl, _, 16, rfl, rfl, ⟨by decide, by decide⟩, _, rfl, _, m, rfl, rfl, by show 0 < m; omega, ?_⟩
      exact q _ _ (Int.emod_nonneg _ (by omega)) (Int.emod_lt_of_pos _ (by omega)) Keep.upd ⟨g, x, k + 1, upd_same, g0, x0, x1, by omega, by omega⟩
end
end K07
set_option maxHeartbeats 4000000
namespace K07
open PySem PySem.Spec PyProof.Rows L2 RL RE RN RM TL
def okS (z : Str) : Prop := ∀ x ∈ tl z, x < 256
theorem okS_one {c : Nat} (h : c < 256) : okS ⟨#[c]⟩ := fun x hx => by
  have : x = c := by simpa [tl] using hx
  omega
theorem okS_joinL {S : List Nat} (hS : ∀ x ∈ S, x < 256) : ∀ ps : List (List Nat), (∀ p ∈ ps, ∀ x ∈ p, x < 256) → ∀ x ∈ joinL S ps, x < 256
  | [], _, x, h => by cases h
  | [p], hp, x, h => hp p (List.mem_cons_self ..) x h
  | p :: q :: r, hp, x, h => by
    have h : x ∈ p ++ (S ++ joinL S (q :: r)) := h
    rcases List.mem_append.mp h with h | h
    · exact hp p (List.mem_cons_self ..) x h
    · rcases List.mem_append.mp h with h | h
      · exact hS x h
      · exact okS_joinL hS (q :: r) (fun z hz => hp z (List.mem_cons_of_mem _ hz)) x h
theorem okS_join {s : Str} {ys : List Str} (hs : okS s) (hy : ∀ y ∈ ys, okS y) : okS (Txt.join s ys) := by
  unfold okS
  rw [join_eq, tl_join]
  refine okS_joinL hs _ fun p hp => ?_
  obtain ⟨y, h, rfl⟩ := List.mem_map.mp hp
  exact hy y h
theorem okS_empty : okS (Str.ofString "") := fun x h => (by cases h)
theorem cut_len (z : Str) (a b : Option Int) : (cutS z a b).length ≤ z.length := by
  unfold cutS
  show (List.toArray _).size ≤ z.cps.size
  rw [List.size_toArray, List.length_take, List.length_drop]
  have : z.cps.toList.length = z.cps.size := Array.length_toList
  omega
theorem cut_ok {z : Str} (h : okS z) (a b : Option Int) : okS (cutS z a b) := by
  intro x hx
  unfold cutS tl at hx
  have hx : x ∈ List.take _ (List.drop _ z.cps.toList) := hx
  exact h x (List.mem_of_mem_drop (List.mem_of_mem_take hx))
theorem app_len (x y : Str) : (x ++ y).length = x.length + y.length := Array.size_append
theorem app_ok {x y : Str} (hx : okS x) (hy : okS y) : okS (x ++ y) := by
  intro c hc
  have hc : c ∈ (x.cps ++ y.cps).toList := hc
  rw [Array.toList_append] at hc
  exact (List.mem_append.mp hc).elim (hx c) (hy c)
theorem sz {n : Nat} (h : n ≤ 1000) : n ≤ sizeLine := Nat.le_trans h (by decide)
abbrev stems : Str := Str.ofString "abcdefghijkmnopqrstuvwxyz"
abbrev letters : Str := Str.ofString "abcdefghijklmnopqrstuvwxyz"
theorem stems_len : stems.cps.toList.length = 25 := by decide +kernel
theorem letters_len : letters.cps.toList.length = 26 := by decide +kernel
theorem stems_ok : ∀ x ∈ stems.cps.toList, x < 256 := by
  have h : (stems.cps.toList.all fun x => decide (x < 256)) = true := by decide +kernel
  exact fun x hx => of_decide_eq_true (List.all_eq_true.mp h x hx)
theorem letters_ok : ∀ x ∈ letters.cps.toList, x < 256 := by
  have h : (letters.cps.toList.all fun x => decide (x < 256)) = true := by decide +kernel
  exact fun x hx => of_decide_eq_true (List.all_eq_true.mp h x hx)
theorem sum1 {ys : List Str} (h1 : ∀ y ∈ ys, y.length = 1) : (ys.map (·.length)).sum = ys.length := by
  induction ys with
  | nil => rfl
  | cons a r ih =>
    rw [List.map_cons, List.sum_cons, h1 a (List.mem_cons_self ..), ih fun y hy => h1 y (List.mem_cons_of_mem _ hy), List.length_cons, Nat.add_comm]
theorem join0_len {ys : List Str} {n : Nat} (h1 : ∀ y ∈ ys, y.length = 1) (hn : ys.length ≤ n) : (Txt.join (Str.ofString "") ys).length ≤ n := by
  rw [join_eq]
  refine Nat.le_trans (StrLaws.join_length_le _ ys) ?_
  rw [sum1 h1]
  show ys.length + ys.length * 0 ≤ n
  omega
theorem atI_int {α : Type} {xs : List α} {i : Int} {v : α} (h0 : 0 ≤ i) (h : xs[i.toNat]? = some v) : atI xs i = some v := by
  have e : i = ((i.toNat : Nat) : Int) := by omega
  generalize i.toNat = j at e h
  subst e
  exact atI_nat h
section
variable {P : Program} {w : World} {K : PySem.W.Frag} {mg : Str → Option Value} {base : Heap} {f : Addr} {fd : FuncData}
def spNames : Sp := fun vs H Q _ => ∃ (b : Addr) (n : Int), vs = [.ref b, .int 3] ∧ 0 ≤ n ∧ n ≤ 90000 ∧ Bx H b n ∧ ∀ (p : Addr) (ys : List Str) H', ys.length = 3 → (∀ y ∈ ys, y.length ≤ 100 ∧ okS y) → H p = none → H' p = some (.lst (ys.map V.str)) → Keep b H H' → Bx H' b (n + 9) → Q (.ref p) H'
theorem ok_names (F : Fun K "_law_names" "_law_names" s__law_names f fd) (GT : Df P w K mg base CX0 1 "_law_take" ["_law_box_here", "_law_many"] spTake) (mr : mg "range" = none) : FnOk P w K mg base CX0 2 f fd ["_law_box_here", "_law_many"] spNames := by
  refine F.ok sc__law_names (fun vs H Q E h => by obtain ⟨b, n, rfl, _⟩ := h; rfl) (fun cdv A outer s H vs Q E hr h => ?_)
  obtain ⟨b, n, rfl, n0, n1, hb, q⟩ := h
  refine ⟨_, PSs.nox (pss_cons (ps_asg (pe_tup (pa_cons pe_str (pa_cons pe_str pa_nil))) (pg_tup (by rfl) (pgs_cons (pg_name (i := 2) sc__law_names.nd rfl (.inl rfl)) (pgs_cons (pg_name (i := 3) sc__law_names.nd rfl (.inr rfl)) pgs_nil))))
    (pss_cons (ps_par3 (i := 4) (j := 5) (l := 6) rfl sc__law_names.nd rfl rfl rfl (by decide) (by decide) (by decide) rfl rfl rfl (pa_cons (pe_df0 GT hr (by rfl) (pa_cons (pv 0) (pa_cons pe_int pa_nil))) (pa_cons (pe_df0 GT hr (by rfl) (pa_cons (pv 0) (pa_cons pe_int pa_nil))) (pa_cons (pe_df0 GT hr (by rfl) (pa_cons (pv 0) (pa_cons pe_int pa_nil))) pa_nil))) (by rfl))
    (pss_cons (ps_set (i := 7) sc__law_names.nd rfl (.inl rfl) (pe_join pe_str (pe_lc (own := [("_law_k", 11)]) (g := gName 11) (by rfl) sc__law_names.nd (pi_range1 (by rfl) mr (pa_cons pe_int pa_nil))
          (blkOk_by (own := [("_law_k", 11)]) (N := N__law_names) (sc := defScope s__law_names) (by decide +kernel)) (fun _ _ _ _ _ => pg_name (i := 11) sc__law_names.nd rfl (Or.inl rfl)) (fun _ _ _ _ _ => pts_nil)
          (fun _ _ _ _ _ => pe_ix ix_str (pv 3) (pe_df0 GT hr (by rfl) (pa_cons (pv 0) (pa_cons pe_int pa_nil))) (fun _ _ => rfl)))))
    (pss_cons (ps_set (i := 8) sc__law_names.nd rfl (.inl rfl) (pe_lst pa_nil))
    (pss_cons (ps_for PassesOwn.never rfl (pi_range1 (by rfl) mr (pa_cons (pv 1) pa_nil)) (pg_name (i := 11) sc__law_names.nd rfl (Or.inl rfl))
      (pss_cons (ps_set (i := 9) sc__law_names.nd rfl (.inl rfl) (pe_ix ix_str (pv 2) (pe_op op_mod (pe_op op_add (pv 5) (pe_op op_mul pe_int (pv 11))) pe_int) (fun _ _ => rfl)))
      (pss_cons (ps_set (i := 10) sc__law_names.nd rfl (.inl rfl) (pe_ix ix_str (pv 2) (pe_op op_mod (pe_op op_add (pv 5) (pe_op op_fdiv (pv 11) pe_int)) pe_int) (fun _ _ => rfl)))
      (pss_one (ps_expr (pe_bm PySem.F.plainAttrs_list PySem.F.slot_list_append PySem.F.type_list_append mt_append (pv 8)
        (pa_cons (pe_ix ix_list (pe_lst (pa_cons (pe_op op_add_str (pe_op op_add_str (pe_slice sl_str (pv 7) po_none (po_some (pv 6))) (pv 9)) (pe_slice sl_str (pv 7) (po_some (pv 6)) po_none))
          (pa_cons (pe_op op_add_str (pv 9) (pe_slice sl_str (pv 7) po_none (po_some (pe_op op_mod (pv 11) pe_int))))
          (pa_cons (pe_op op_add_str (pv 10) (pe_slice sl_str (pv 7) po_none (po_some (pe_op op_mod (pv 11) pe_int)))) pa_nil)))) (pv 4) (fun _ _ => rfl)) pa_nil)))))))
    (pss_one (ps_ret (pv 8)))))))), ?_⟩
  refine ⟨by show 2 ≤ sizeLine; decide, fun T nT => ?_⟩
  refine ⟨T, _, rfl, .inl (.inl upd_same), rfl, _, _, rfl, _, _, rfl, rfl, ?_⟩
  have hb := hb.same (same_upd (o := .tup [.str (Str.ofString "abcdefghijklmnopqrstuvwxyz"), .str (Str.ofString "abcdefghijkmnopqrstuvwxyz")]) nT)
  have s0 := same_upd (H := H) (o := .tup [.str (Str.ofString "abcdefghijklmnopqrstuvwxyz"), .str (Str.ofString "abcdefghijkmnopqrstuvwxyz")]) nT
  generalize upd H T (.tup [.str (Str.ofString "abcdefghijklmnopqrstuvwxyz"), .str (Str.ofString "abcdefghijkmnopqrstuvwxyz")]) = H0 at hb s0
  refine ⟨_, rfl, b, 3, n, rfl, by decide, by decide, n0, by omega, hb, fun way H1 w0 w1 k1 hb1 => ?_⟩
  refine ⟨_, rfl, b, 26, n + 1, rfl, by decide, by decide, by omega, by omega, hb1, fun first H2 f0 f1 k2 hb2 => ?_⟩
  refine ⟨_, rfl, b, 7, n + 1 + 1, rfl, by decide, by decide, by omega, by omega, hb2, fun at_ H3 a0 a1 k3 hb3 => ?_⟩
  refine ⟨_, _, _, rfl, ?_⟩
  refine ⟨⟨_, rfl⟩, 6, rfl, by decide, by decide, fun D nD => ?_⟩
  have nDb : D ≠ b := fun e => by
    obtain ⟨g0, m0, c0, eb1, hb1r⟩ := id hb3
    rw [e, eb1] at nD
    cases nD
  refine lc_range (lo := 0) (n := 6) (fun i H' => ∃ ys : List Str, H' D = some (.lst (ys.map V.str)) ∧ ys.length = i ∧ (∀ y ∈ ys, y.length = 1) ∧ (∀ y ∈ ys, okS y) ∧ Keep b H3 H' ∧ Bx H' b (n + 3 + (i : Int))) ?_ ?_ ?_
  · refine ⟨[], upd_same, rfl, (fun _ h => nomatch h), (fun _ h => nomatch h), Keep.new nD, ?_⟩
    exact (hb3.same (same_upd nD)).mono (by omega)
  · intro i H4 hi h2
    obtain ⟨ys, eD, el, e1, o1, k4, hb4⟩ := h2
    refine ⟨rfl, ?_⟩
    unfold tYes
    refine iteT ?_
    refine ⟨_, rfl, _, rfl, b, 25, n + 3 + (i : Int), rfl, by decide, by decide, by omega, by omega, hb4, fun d2 H5 d20 d21 k5 hb5 => ?_⟩
    have hlt : d2.toNat < stems.cps.toList.length := by rw [stems_len]; omega
    refine ⟨stems, d2, stems.cps.toList[d2.toNat], rfl, rfl, by decide +kernel, atI_int d20 (List.getElem?_eq_getElem hlt), ?_⟩
    refine ⟨ys.map V.str, k5 _ _ nDb eD, ?_, ys ++ [⟨#[stems.cps.toList[d2.toNat]]⟩], ?_, ?_, ?_, ?_, ?_, ?_⟩
    · rw [List.length_map]
      exact Nat.lt_of_lt_of_le (show ys.length < 1000 by omega) (by decide)
    · rw [upd_same, List.map_append]; rfl
    · rw [List.length_append, el]; rfl
    · intro y hy
      rcases List.mem_append.mp hy with h | h
      · exact e1 y h
      · rw [List.mem_singleton.mp h]; rfl
    · intro y hy
      rcases List.mem_append.mp hy with h | h
      · exact o1 y h
      · rw [List.mem_singleton.mp h]; exact okS_one (stems_ok _ (List.getElem_mem hlt))
    · intro a o na ea
      have haD : a ≠ D := fun z => by rw [z, nD] at ea; cases ea
      rw [upd_ne haD]
      exact k5 a o na (k4 a o na ea)
    · obtain ⟨g, m, k, e, r1, r2, r3, r4, r5⟩ := hb5
      exact ⟨g, m, k, by rw [upd_ne nDb.symm]; exact e, r1, r2, r3, r4, by omega⟩
  · intro H4 h2
    obtain ⟨ys, eD, el, e1, o1, k4, hb4⟩ := h2
    refine ⟨_, D, ys, rfl, rfl, .inl (SqL.of eD), ?_, ?_⟩
    · rw [sum1 e1, el]
      decide
    have hz : (Txt.join (Str.ofString "") ys).length ≤ 6 := join0_len e1 (by omega)
    have oz : okS (Txt.join (Str.ofString "") ys) := okS_join okS_empty o1
    generalize Txt.join (Str.ofString "") ys = stem at hz oz
    have kA : Keep b H0 H4 := ((k1.trans k2).trans k3).trans k4
    refine ⟨by show 0 ≤ sizeLine; decide, fun L nL => ?_⟩
    have nLb : L ≠ b := fun e => by
      obtain ⟨g0, m0, c0, eb1, hb1r⟩ := id hb4
      rw [e, eb1] at nL
      cases nL
    have hb5 := hb4.same (same_upd (o := .lst []) nL)
    have kB : Keep b H0 (upd H4 L (.lst [])) := kA.trans (Keep.new nL)
    have eL : (upd H4 L (.lst [])) L = some (.lst []) := upd_same
    have nHL : H L = none := by
      cases e : H L with
      | none => rfl
      | some o => rw [kA L o nLb (s0 _ _ e)] at nL; cases nL
    have nH0L : H0 L = none := by
      cases e : H0 L with
      | none => rfl
      | some o => rw [kA L o nLb e] at nL; cases nL
    generalize upd H4 L (.lst []) = H5 at hb5 kB eL
    refine ⟨_, rfl, 3, rfl, by decide, by decide, for_range (lo := 0) (n := 3) (fun i σ H' => ∃ y9 y10 y11, σ = [some (.ref b), some (.int 3), some (.str letters), some (.str stems), some (.int way), some (.int first), some (.int at_), some (.str stem), some (.ref L), y9, y10, y11] ∧
      ∃ zs : List Str, H' L = some (.lst (zs.map V.str)) ∧ zs.length = i ∧ (∀ z ∈ zs, z.length ≤ 100 ∧ okS z) ∧ Keep b H0 H' ∧ Bx H' b (n + 9)) ⟨_, _, _, rfl, [], eL, rfl, (fun _ h => nomatch h), kB, hb5.mono (by omega)⟩ ?_ ?_⟩
    · intro i σ H6 hi h
      obtain ⟨y9, y10, y11, rfl, zs, ez, el6, hz6, k6, hb6⟩ := h
      have letAt : ∀ e : Int, ∃ c, atI letters.cps.toList (e % 26) = some c ∧ c < 256 := fun e => by
        have b0 := Int.emod_nonneg e (show (26 : Int) ≠ 0 by decide)
        have b1 := Int.emod_lt_of_pos e (show (0 : Int) < 26 by decide)
        have hlt : (e % 26).toNat < letters.cps.toList.length := by rw [letters_len]; omega
        exact ⟨_, atI_int b0 (List.getElem?_eq_getElem hlt), letters_ok _ (List.getElem_mem hlt)⟩
      obtain ⟨c1, ec1, oc1⟩ := letAt (first + 7 * (0 + (i : Int)))
      obtain ⟨c2, ec2, oc2⟩ := letAt (first + (0 + (i : Int)) / 7)
      refine ⟨_, rfl, _, rfl, _, rfl, 7, _, rfl, rfl, .inl ⟨by decide, by decide⟩, _, _, rfl, rfl, _, 26, rfl, rfl, by show (0 : Int) < 26; decide, letters, _, c1, rfl, rfl, by decide +kernel, ec1, ?_⟩
      refine ⟨_, rfl, _, rfl, _, rfl, _, 7, rfl, rfl, ⟨by decide, by decide⟩, _, _, rfl, rfl, _, 26, rfl, rfl, by show (0 : Int) < 26; decide, letters, _, c2, rfl, rfl, by decide +kernel, ec2, ?_⟩
      have z6 : stem.length ≤ sizeLine := sz (by omega)
      have l1 := cut_len stem none (some at_)
      have l3 := cut_len stem (some at_) none
      have l4 := cut_len stem none (some ((0 + (i : Int)) % 7))
      have g1 : ∀ c : Nat, (⟨#[c]⟩ : Str).length = 1 := fun _ => rfl
      have p1 := cut_ok oz none (some at_)
      have p3 := cut_ok oz (some at_) none
      have p4 := cut_ok oz none (some ((0 + (i : Int)) % 7))
      refine ⟨_, rfl, .inl ⟨rfl, _, .inl (.inl ez)⟩, ?_⟩
      refine ⟨_, rfl, _, rfl, at_, rfl, stem, rfl, z6, _, rfl, _, _, rfl, rfl, sz (by rw [g1]; omega), ?_⟩
      refine ⟨_, rfl, _, rfl, at_, rfl, stem, rfl, z6, _, _, rfl, rfl, sz (by rw [app_len, g1]; omega), ?_⟩
      refine ⟨_, rfl, _, rfl, _, rfl, _, 7, rfl, rfl, by show (0 : Int) < 7; decide, _, rfl, stem, rfl, z6, _, _, rfl, rfl, sz (by rw [g1]; omega), ?_⟩
      refine ⟨_, rfl, _, rfl, _, rfl, _, 7, rfl, rfl, by show (0 : Int) < 7; decide, _, rfl, stem, rfl, z6, _, _, rfl, rfl, sz (by rw [g1]; omega), ?_⟩
      refine ⟨by show 3 ≤ sizeLine; decide, fun p np => ?_⟩
      have hx : ∃ x : Str, atI [V.str (cutS stem none (some at_) ++ ⟨#[c1]⟩ ++ cutS stem (some at_) none), .str (⟨#[c1]⟩ ++ cutS stem none (some ((0 + (i : Int)) % 7))), .str (⟨#[c2]⟩ ++ cutS stem none (some ((0 + (i : Int)) % 7)))] way = some (.str x) ∧ x.length ≤ 100 ∧ okS x := by
        have hw : way = 0 ∨ way = 1 ∨ way = 2 := by omega
        rcases hw with e | e | e
        · rw [e]; exact ⟨_, atI_nat (j := 0) rfl, by rw [app_len, app_len, g1]; omega, app_ok (app_ok p1 (okS_one oc1)) p3⟩
        · rw [e]; exact ⟨_, atI_nat (j := 1) rfl, by rw [app_len, g1]; omega, app_ok (okS_one oc1) p4⟩
        · rw [e]; exact ⟨_, atI_nat (j := 2) rfl, by rw [app_len, g1]; omega, app_ok (okS_one oc2) p4⟩
      obtain ⟨x, ex, lx, ox⟩ := hx
      refine ⟨_, rfl, p, _, way, .str x, rfl, rfl, SqL.of upd_same, ex, ?_⟩
      have nLp : L ≠ p := ne_of_none ez np
      refine ⟨L, zs.map V.str, .str x, rfl, rfl, by rw [upd_ne nLp]; exact ez, ?_, ?_⟩
      · rw [List.length_map]
        exact Nat.lt_of_lt_of_le (show zs.length < 1000 by omega) (by decide)
      · refine ⟨_, _, _, rfl, zs ++ [x], ?_, ?_, ?_, ?_, ?_⟩
        · rw [upd_same, List.map_append]; rfl
        · rw [List.length_append, el6]; rfl
        · intro z hz
          rcases List.mem_append.mp hz with h | h
          · exact hz6 z h
          · rw [List.mem_singleton.mp h]; exact ⟨lx, ox⟩
        · intro a o na ea
          have h6 := k6 a o na ea
          have haL : a ≠ L := fun z => by
            subst z
            rw [nH0L] at ea
            cases ea
          rw [upd_ne haL, upd_ne (ne_of_none h6 np)]
          exact h6
        · obtain ⟨g, m, k, e, r1, r2, r3, r4, r5⟩ := hb6
          exact ⟨g, m, k, by rw [upd_ne nLb.symm, upd_ne (ne_of_none e np)]; exact e, r1, r2, r3, r4, r5⟩
    · intro σ H6 h
      obtain ⟨y9, y10, y11, rfl, zs, ez, el6, hz6, k6, hb6⟩ := h
      exact ⟨_, rfl, q L zs H6 el6 hz6 nHL ez (fun a o na ea => k6 a o na (s0 _ _ ea)) hb6⟩
end
end K07
set_option maxHeartbeats 4000000
namespace K07
open PySem PySem.Spec PyProof.Rows L2 RL RE RN RM TL
abbrev tAnn : Str := Str.ofString "ann"
/-- a value of a row -/
inductive Vl (H : Hp) : V → Prop
  | str {z : Str} : z.length ≤ 100 → okS z → Vl H (.str z)
  | bl (b : Bool) : Vl H (.bl b)
  | non : Vl H .non
  | int {i : Int} : i.natAbs.log2 < 1920 → (PyData.shown (.int i)).length ≤ 100 → Vl H (.int i)
  | lst0 {p : Addr} : H p = some (.lst []) → Vl H (.ref p)
  | lst1 {p : Addr} : H p = some (.lst [.str tAnn]) → Vl H (.ref p)
  | tup {p : Addr} : H p = some (.tup [.str tAnn]) → Vl H (.ref p)
  | dic {p : Addr} : H p = some (.dK []) → Vl H (.ref p)
theorem Vl.od {K : PySem.W.Frag} {H : Hp} {v : V} (h : Vl H v) : Od K H v := by
  cases h with
  | str h o => exact ⟨.flat rfl, fun z e => by cases e; exact ⟨by omega, o⟩⟩
  | bl b => exact ⟨.flat rfl, fun z e => nomatch e⟩
  | non => exact ⟨.flat rfl, fun z e => nomatch e⟩
  | int h _ => exact ⟨.flat rfl, fun z e => nomatch e⟩
  | lst0 h => exact ⟨.lst (SqL.of h), fun z e => nomatch e⟩
  | lst1 h => exact ⟨.lst (SqL.of h), fun z e => nomatch e⟩
  | tup h => exact ⟨.tup (SqT.of h), fun z e => nomatch e⟩
  | dic h => exact ⟨.dic h, fun z e => nomatch e⟩
/-- what Vl asks of a heap -/
theorem Vl.imp {H H' : Hp} {v : V} (h : Vl H v) (k : ∀ p, v = .ref p → ∀ o, H p = some o → (o = .lst [] ∨ o = .lst [.str tAnn] ∨ o = .tup [.str tAnn] ∨ o = .dK []) → H' p = some o) : Vl H' v := by
  cases h with
  | str h o => exact .str h o
  | bl b => exact .bl b
  | non => exact .non
  | int h g => exact .int h g
  | lst0 h => exact .lst0 (k _ rfl _ h (.inl rfl))
  | lst1 h => exact .lst1 (k _ rfl _ h (.inr (.inl rfl)))
  | tup h => exact .tup (k _ rfl _ h (.inr (.inr (.inl rfl))))
  | dic h => exact .dic (k _ rfl _ h (.inr (.inr (.inr rfl))))
theorem Vl.same {H H' : Hp} {v : V} (h : Vl H v) (s : Same H H') : Vl H' v := h.imp fun p _ o e _ => s p o e
theorem Vl.keep {H H' : Hp} {v : V} {b : Addr} {n : Int} (h : Vl H v) (k : Keep b H H') (hb : Bx H b n) : Vl H' v := h.imp fun p _ o e ho => by
  refine k p o (fun z => ?_) e
  subst z
  obtain ⟨g, m, k, eb, _⟩ := hb
  rw [eb] at e
  cases Option.some.inj e
  rcases ho with h | h | h | h <;> cases h
theorem Vl.row {H : Hp} {v : V} {p : Addr} {x y : V} {r : List V} {o : HO} (h : Vl H v) (ep : H p = some (.lst (x :: y :: r))) : Vl (L2.upd H p o) v := h.imp fun a _ u e ho => by
  rw [upd_ne fun z => ?_]
  · exact e
  · subst z
    rw [ep] at e
    cases Option.some.inj e
    rcases ho with h | h | h | h <;> cases h
theorem all_nil {H : Hp} : ∀ y ∈ ([] : List V), Vl H y := fun _ h => nomatch h
theorem all_cons {H : Hp} {x : V} {xs : List V} (h : Vl H x) (t : ∀ y ∈ xs, Vl H y) : ∀ y ∈ x :: xs, Vl H y := fun y hy => (List.mem_cons.mp hy).elim (fun e => e ▸ h) (t y)
theorem okS_dec {z : Str} (h : ((tl z).all fun x => decide (x < 256)) = true) : okS z := fun x hx => of_decide_eq_true (List.all_eq_true.mp h x hx)
section
variable {P : Program} {w : World} {K : PySem.W.Frag} {mg : Str → Option Value} {base : Heap} {f : Addr} {fd : FuncData}
def spOdd : Sp := fun vs H Q _ => ∃ (b : Addr) (n : Int), vs = [.ref b] ∧ 0 ≤ n ∧ n ≤ 90000 ∧ Bx H b n ∧ ∀ v H', Vl H' v → Keep b H H' → Bx H' b (n + 1) → Q v H'
theorem ok_odd (F : Fun K "_law_odd" "_law_odd" s__law_odd f fd) (GT : Df P w K mg base CX0 1 "_law_take" ["_law_box_here", "_law_many"] spTake) : FnOk P w K mg base CX0 2 f fd ["_law_box_here"] spOdd := by
  refine F.ok sc__law_odd (fun vs H Q E h => by obtain ⟨b, n, rfl, _⟩ := h; rfl) (fun cdv A outer s H vs Q E hr h => ?_)
  obtain ⟨b, n, rfl, n0, n1, hb, q⟩ := h
  refine ⟨_, PSs.nox (pss_cons (ps_set (i := 1) sc__law_odd.nd rfl (.inl rfl) (pe_lst (pa_cons pe_non (pa_cons pe_bl (pa_cons pe_int (pa_cons pe_int (pa_cons pe_str (pa_cons pe_str (pa_cons pe_str (pa_cons pe_str (pa_cons pe_str (pa_cons pe_str (pa_cons pe_str (pa_cons pe_str
      (pa_cons (pe_lst pa_nil) (pa_cons (pe_lst (pa_cons pe_str pa_nil)) (pa_cons pe_dnewK pa_nil)))))))))))))))))
    (pss_cons (ps_set (i := 1) sc__law_odd.nd rfl (.inl rfl) (pe_op op_cat (pv 1) (pe_lst (pa_cons (pe_tup (pa_cons pe_str pa_nil)) (pa_cons pe_str (pa_cons pe_str (pa_cons pe_str (pa_cons pe_str (pa_cons pe_str (pa_cons (pe_op op_pow pe_int pe_int) (pa_cons pe_bl (pa_cons pe_str pa_nil))))))))))))
    (pss_one (ps_ret (pe_ix ix_list (pv 1) (pe_df0 GT hr (by rfl) (pa_cons (pv 0) (pa_cons pe_int pa_nil))) (fun _ _ => rfl)))))), ?_⟩
  refine ⟨by show 0 ≤ sizeLine; decide, fun p1 np1 => ?_⟩
  have e1 : (upd H p1 (.lst [])) p1 = some (.lst []) := upd_same
  have s1 := same_upd (o := .lst []) np1
  generalize upd H p1 (.lst []) = H1 at e1 s1 ⊢
  refine ⟨by show 1 ≤ sizeLine; decide, fun p2 np2 => ?_⟩
  have e2 : (upd H1 p2 (.lst [.str tAnn])) p2 = some (.lst [.str tAnn]) := upd_same
  have s2 := same_upd (o := .lst [.str tAnn]) np2
  generalize upd H1 p2 (.lst [.str tAnn]) = H2 at e2 s2 ⊢
  refine fun p3 np3 => ?_
  have e3 : (upd H2 p3 (.dK [])) p3 = some (.dK []) := upd_same
  have s3 := same_upd (o := .dK []) np3
  generalize upd H2 p3 (.dK []) = H3 at e3 s3 ⊢
  refine ⟨by show 15 ≤ sizeLine; decide, fun p4 np4 => ?_⟩
  refine ⟨_, rfl, ?_⟩
  have A0 : ∀ x ∈ [V.non, V.bl true, V.int 0, V.int 1, V.str (Str.ofString ""), V.str (Str.ofString "public"), V.str (Str.ofString "caller"), V.str (Str.ofString "Ann"), V.str (Str.ofString "a b"), V.str (Str.ofString "abcdefghi"), V.str (Str.ofString "reads"), V.str (Str.ofString "role"), V.ref p1, V.ref p2, V.ref p3], Vl H3 x :=
    all_cons .non (all_cons (.bl _) (all_cons (.int (by decide) (by decide +kernel)) (all_cons (.int (by decide) (by decide +kernel)) (all_cons (.str (by decide +kernel) (okS_dec (by decide +kernel))) (all_cons (.str (by decide +kernel) (okS_dec (by decide +kernel))) (all_cons (.str (by decide +kernel) (okS_dec (by decide +kernel)))
      (all_cons (.str (by decide +kernel) (okS_dec (by decide +kernel))) (all_cons (.str (by decide +kernel) (okS_dec (by decide +kernel))) (all_cons (.str (by decide +kernel) (okS_dec (by decide +kernel))) (all_cons (.str (by decide +kernel) (okS_dec (by decide +kernel))) (all_cons (.str (by decide +kernel) (okS_dec (by decide +kernel)))
      (all_cons (.lst0 (s3 _ _ (s2 _ _ e1))) (all_cons (.lst1 (s3 _ _ e2)) (all_cons (.dic e3) all_nil))))))))))))))
  have L0 : [V.non, V.bl true, V.int 0, V.int 1, V.str (Str.ofString ""), V.str (Str.ofString "public"), V.str (Str.ofString "caller"), V.str (Str.ofString "Ann"), V.str (Str.ofString "a b"), V.str (Str.ofString "abcdefghi"), V.str (Str.ofString "reads"), V.str (Str.ofString "role"), V.ref p1, V.ref p2, V.ref p3].length = 15 := rfl
  generalize [V.non, V.bl true, V.int 0, V.int 1, V.str (Str.ofString ""), V.str (Str.ofString "public"), V.str (Str.ofString "caller"), V.str (Str.ofString "Ann"), V.str (Str.ofString "a b"), V.str (Str.ofString "abcdefghi"), V.str (Str.ofString "reads"), V.str (Str.ofString "role"), V.ref p1, V.ref p2, V.ref p3] = xs at A0 L0 ⊢
  have e4 : (upd H3 p4 (.lst xs)) p4 = some (.lst xs) := upd_same
  have s4 := same_upd (o := .lst xs) np4
  generalize upd H3 p4 (.lst xs) = H4 at e4 s4 ⊢
  refine ⟨by show 1 ≤ sizeLine; decide, fun p5 np5 => ?_⟩
  have e5 : (upd H4 p5 (.tup [.str tAnn])) p5 = some (.tup [.str tAnn]) := upd_same
  have s5 := same_upd (o := .tup [.str tAnn]) np5
  generalize upd H4 p5 (.tup [.str tAnn]) = H5 at e5 s5 ⊢
  refine ⟨10, 29, rfl, rfl, ⟨by decide, by decide, by decide⟩, ?_⟩
  refine ⟨by show 9 ≤ sizeLine; decide, fun p6 np6 => ?_⟩
  have A1 : ∀ x ∈ [V.ref p5, V.str (Str.ofString "read"), V.str (Str.ofString "call"), V.str (Str.ofString "inherit"), V.str (Str.ofString "table"), V.str (Str.ofString "function"), V.int (10 ^ (29 : Int).toNat), V.bl false, V.str (Str.ofString "option")], Vl H5 x :=
    all_cons (.tup e5) (all_cons (.str (by decide +kernel) (okS_dec (by decide +kernel))) (all_cons (.str (by decide +kernel) (okS_dec (by decide +kernel))) (all_cons (.str (by decide +kernel) (okS_dec (by decide +kernel))) (all_cons (.str (by decide +kernel) (okS_dec (by decide +kernel))) (all_cons (.str (by decide +kernel) (okS_dec (by decide +kernel)))
      (all_cons (.int (by decide +kernel) (by decide +kernel)) (all_cons (.bl _) (all_cons (.str (by decide +kernel) (okS_dec (by decide +kernel))) all_nil))))))))
  show rCat (V.ref p4) (.ref p6) _ _
  have L1 : [V.ref p5, V.str (Str.ofString "read"), V.str (Str.ofString "call"), V.str (Str.ofString "inherit"), V.str (Str.ofString "table"), V.str (Str.ofString "function"), V.int (10 ^ (29 : Int).toNat), V.bl false, V.str (Str.ofString "option")].length = 9 := rfl
  show rCat (V.ref p4) (.ref p6) (upd H5 p6 (.lst [V.ref p5, V.str (Str.ofString "read"), V.str (Str.ofString "call"), V.str (Str.ofString "inherit"), V.str (Str.ofString "table"), V.str (Str.ofString "function"), V.int (10 ^ (29 : Int).toNat), V.bl false, V.str (Str.ofString "option")])) _
  generalize [V.ref p5, V.str (Str.ofString "read"), V.str (Str.ofString "call"), V.str (Str.ofString "inherit"), V.str (Str.ofString "table"), V.str (Str.ofString "function"), V.int (10 ^ (29 : Int).toNat), V.bl false, V.str (Str.ofString "option")] = zs at A1 L1 ⊢
  have e6 : (upd H5 p6 (.lst zs)) p6 = some (.lst zs) := upd_same
  have s6 := same_upd (o := .lst zs) np6
  generalize upd H5 p6 (.lst zs) = H6 at e6 s6 ⊢
  refine ⟨p4, p6, xs, zs, rfl, rfl, s6 _ _ (s5 _ _ e4), e6, by rw [L0, L1]; decide, fun p7 np7 => ?_⟩
  have all : ∀ x ∈ xs ++ zs, Vl H6 x := fun x hx => (List.mem_append.mp hx).elim (fun h => (A0 x h).same ((s4.trans s5).trans s6)) (fun h => (A1 x h).same s6)
  have len : (xs ++ zs).length = 24 := by rw [List.length_append, L0, L1]
  generalize xs ++ zs = ws at all len ⊢
  have e7 : (upd H6 p7 (.lst ws)) p7 = some (.lst ws) := upd_same
  have s7 := same_upd (o := .lst ws) np7
  have hb7 : Bx (upd H6 p7 (.lst ws)) b n := hb.same ((((((s1.trans s2).trans s3).trans s4).trans s5).trans s6).trans s7)
  have k7 : Keep b H (upd H6 p7 (.lst ws)) := Keep.of ((((((s1.trans s2).trans s3).trans s4).trans s5).trans s6).trans s7)
  generalize upd H6 p7 (.lst ws) = H7 at e7 s7 hb7 k7 ⊢
  refine ⟨_, rfl, _, rfl, b, 24, n, rfl, by decide, by decide, n0, by omega, hb7, fun d H8 d0 d1 k8 hb8 => ?_⟩
  have hlt : d.toNat < ws.length := by omega
  have n7 : p7 ≠ b := fun z => by
    obtain ⟨g, m, k, eb, _⟩ := hb7
    rw [← z, e7] at eb
    cases HO.lst.inj (Option.some.inj eb)
    cases len
  refine ⟨p7, ws, d, ws[d.toNat], rfl, rfl, SqL.of (k8 _ _ n7 e7), atI_int d0 (List.getElem?_eq_getElem hlt), ?_⟩
  exact q _ _ ((((all _ (List.getElem_mem hlt)).same s7).keep k8 hb7)) (k7.trans k8) hb8
end
end K07
set_option maxHeartbeats 8000000
namespace K07
open PySem PySem.Spec PyProof.Rows L2 RL RE RN RM TL
abbrev tGive : Str := Str.ofString "give"
abbrev tTake : Str := Str.ofString "take"
abbrev tCall : Str := Str.ofString "call"
abbrev tPreset : Str := Str.ofString "preset"
abbrev tUse : Str := Str.ofString "use"
/-- the kind of a row and how many parts it has -/
inductive Kd : Str → Nat → Prop
  | give : Kd tGive 4
  | take : Kd tTake 6
  | call : Kd tCall 1
  | preset : Kd tPreset 4
  | use : Kd tUse 2
theorem Kd.le {k : Str} {n : Nat} (h : Kd k n) : 1 ≤ n ∧ n ≤ 6 := by
  cases h <;> decide
def RowAt (H : Hp) (p : Addr) : Prop := ∃ (kd : Str) (xs : List V), H p = some (.lst (.str kd :: xs)) ∧ Kd kd xs.length ∧ ∀ x ∈ xs, Vl H x
theorem RowAt.same {H H' : Hp} {p : Addr} (h : RowAt H p) (s : Same H H') : RowAt H' p := by
  obtain ⟨kd, xs, e, k, a⟩ := h
  exact ⟨kd, xs, s _ _ e, k, fun x hx => (a x hx).same s⟩
theorem RowAt.ne {H : Hp} {p b : Addr} {n : Int} (h : RowAt H p) (hb : Bx H b n) : p ≠ b := fun z => by
  subst z
  obtain ⟨kd, xs, e, k, a⟩ := h
  obtain ⟨g, m, k, eb, _⟩ := hb
  rw [e] at eb
  cases (List.cons.inj (HO.lst.inj (Option.some.inj eb))).1
theorem RowAt.keep {H H' : Hp} {p b : Addr} {n : Int} (h : RowAt H p) (k : Keep b H H') (hb : Bx H b n) : RowAt H' p := by
  have ne := h.ne hb
  obtain ⟨kd, xs, e, kk, a⟩ := h
  exact ⟨kd, xs, k _ _ ne e, kk, fun x hx => (a x hx).keep k hb⟩
theorem RowAt.set {H : Hp} {p : Addr} {kd : Str} {xs : List V} {v : V} {j : Nat} (e : H p = some (.lst (.str kd :: xs))) (k : Kd kd xs.length) (a : ∀ x ∈ xs, Vl H x) (hv : Vl H v) (hj : 1 ≤ j) :
    RowAt (upd H p (.lst ((V.str kd :: xs).set j v))) p := by
  obtain ⟨i, rfl⟩ : ∃ i, j = i + 1 := ⟨j - 1, by omega⟩
  refine ⟨kd, xs.set i v, by rw [upd_same]; rfl, by rw [List.length_set]; exact k, fun x hx => ?_⟩
  have hx : x ∈ xs ∨ x = v := List.mem_or_eq_of_mem_set hx
  have kl := k.le
  cases xs with
  | nil => exact absurd kl.1 (by decide)
  | cons y r =>
    rcases hx with h | rfl
    · exact (a x h).row e
    · exact hv.row e
theorem RowAt.new {H : Hp} {p : Addr} {kd : Str} {xs : List V} (np : H p = none) (k : Kd kd xs.length) (a : ∀ x ∈ xs, Vl H x) : RowAt (upd H p (.lst (.str kd :: xs))) p := ⟨kd, xs, upd_same, k, fun x hx => (a x hx).same (same_upd np)⟩
theorem none_keep {H H' : Hp} {b p : Addr} (k : Keep b H H') (ne : p ≠ b) (n : H' p = none) : H p = none := by
  cases e : H p with
  | none => rfl
  | some o => rw [k p o ne e] at n; cases n
theorem ne_box {H : Hp} {b p : Addr} {n : Int} (hb : Bx H b n) (np : H p = none) : p ≠ b := fun z => by
  subst z
  obtain ⟨g, m, k, eb, _⟩ := hb
  rw [eb] at np
  cases np
section
variable {P : Program} {w : World} {K : PySem.W.Frag} {mg : Str → Option Value} {base : Heap} {f : Addr} {fd : FuncData}
def spParts : Sp := fun vs H Q _ => ∃ (b : Addr) (n : Int), vs = [.ref b] ∧ 0 ≤ n ∧ n ≤ 80000 ∧ Bx H b n ∧ ∀ p H', RowAt H' p → H p = none → Keep b H H' → Bx H' b (n + 20) → Q (.ref p) H'
theorem ok_parts (F : Fun K "_law_parts" "_law_parts" s__law_parts f fd) (GT : Df P w K mg base CX0 1 "_law_take" ["_law_box_here", "_law_many"] spTake) (GN : Df P w K mg base CX0 2 "_law_names" ["_law_box_here", "_law_many"] spNames) (GO : Df P w K mg base CX0 2 "_law_odd" ["_law_box_here"] spOdd) (mr : mg "range" = none) (ml : mg "len" = none) :
    FnOk P w K mg base CX0 3 f fd ["_law_box_here"] spParts := by
  refine F.ok sc__law_parts (fun vs H Q E h => by obtain ⟨b, n, rfl, _⟩ := h; rfl) (fun cdv A outer s H vs Q E hr h => ?_)
  obtain ⟨b, n, rfl, n0, n1, hb, q⟩ := h
  have hr1 := hr.mono (show 1 ≤ 2 by decide)
  refine ⟨_, PSs.nox (pss_cons (ps_set (i := 1) sc__law_parts.nd rfl (.inl rfl) (pe_df0 GN hr (by rfl) (pa_cons (pv 0) (pa_cons pe_int pa_nil))))
    (pss_cons (ps_set (i := 2) sc__law_parts.nd rfl (.inl rfl) (pe_df0 GT hr1 (by rfl) (pa_cons (pv 0) (pa_cons pe_int pa_nil))))
    (pss_cons (ps_set (i := 3) sc__law_parts.nd rfl (.inl rfl) (pe_lst (pa_cons (pe_cmpR op_eq (pe_df0 GT hr1 (by rfl) (pa_cons (pv 0) (pa_cons pe_int pa_nil))) pe_int (nomark _)) (pa_cons (pe_cmpR op_eq (pe_df0 GT hr1 (by rfl) (pa_cons (pv 0) (pa_cons pe_int pa_nil))) pe_int (nomark _)) pa_nil))))
    (pss_cons (ps_set (i := 4) sc__law_parts.nd rfl (.inl rfl) (pe_ix ix_list (pe_lst (pa_cons pe_str (pa_cons pe_str (pa_cons pe_str (pa_cons pe_str (pa_cons pe_str pa_nil)))))) (pe_df0 GT hr1 (by rfl) (pa_cons (pv 0) (pa_cons pe_int pa_nil))) (fun _ _ => rfl)))
    (pss_cons (ps_set (i := 5) sc__law_parts.nd rfl (.inl rfl) (pe_lst (pa_cons (pe_lst (pa_cons pe_str (pa_cons (pv 4) (pa_cons (pe_ix ix_list (pv 1) pe_int (fun _ _ => rfl)) (pa_cons (pe_ix ix_list (pv 1) pe_int (fun _ _ => rfl)) (pa_cons (pe_ix ix_list (pv 3) pe_int (fun _ _ => rfl)) pa_nil))))))
        (pa_cons (pe_op op_cat (pe_lst (pa_cons pe_str (pa_cons (pv 4) (pa_cons (pe_ix ix_list (pv 1) pe_int (fun _ _ => rfl)) (pa_cons (pe_ix ix_list (pv 1) pe_int (fun _ _ => rfl)) (pa_cons (pe_ix ix_list (pv 1) pe_int (fun _ _ => rfl)) pa_nil)))))) (pv 3)) pa_nil))))
    (pss_cons (ps_set (i := 6) sc__law_parts.nd rfl (.inl rfl) (pe_ix ix_list (pe_lst (pa_cons (pe_lst (pa_cons pe_str (pa_cons pe_str pa_nil))) (pa_cons (pe_lst (pa_cons pe_str (pa_cons pe_str pa_nil))) (pa_cons (pe_lst (pa_cons pe_str (pa_cons pe_str pa_nil))) pa_nil)))) (pe_df0 GT hr1 (by rfl) (pa_cons (pv 0) (pa_cons pe_int pa_nil))) (fun _ _ => rfl)))
    (pss_cons (ps_set (i := 5) sc__law_parts.nd rfl (.inl rfl) (pe_op op_cat (pv 5) (pe_lst (pa_cons (pe_lst (pa_cons pe_str (pa_cons (pe_ix ix_list (pv 1) pe_int (fun _ _ => rfl)) pa_nil)))
        (pa_cons (pe_op op_cat (pe_op op_cat (pe_lst (pa_cons pe_str pa_nil)) (pv 6)) (pe_lst (pa_cons (pe_ix ix_list (pv 1) pe_int (fun _ _ => rfl)) (pa_cons (pe_ix ix_list (pv 3) pe_int (fun _ _ => rfl)) pa_nil)))) pa_nil)))))
    (pss_cons (ps_set (i := 7) sc__law_parts.nd rfl (.inl rfl) (pe_ix ix_list (pe_op op_cat (pv 5) (pe_lst (pa_cons (pe_lst (pa_cons pe_str (pa_cons (pv 4) (pa_cons (pe_ix ix_list (pv 1) pe_int (fun _ _ => rfl)) pa_nil)))) pa_nil))) (pv 2) (fun _ _ => rfl)))
    (pss_cons (ps_for PassesOwn.never rfl (pi_range1 (by rfl) mr (pa_cons (pe_op op_add pe_int (pe_df0 GT hr1 (by rfl) (pa_cons (pv 0) (pa_cons pe_int pa_nil)))) pa_nil)) (pg_name (i := 8) sc__law_parts.nd rfl (Or.inl rfl))
      (pss_one (ps_asg (pe_df0 GO hr (by rfl) (pa_cons (pv 0) pa_nil)) (pg_sub (pv 7) (pe_op op_add pe_int (pe_df0 GT hr1 (by rfl) (pa_cons (pv 0) (pa_cons (pe_op op_sub (pe_callB call_len_seq (by rfl) ml PySem.boot_len (pa_cons (pv 7) pa_nil)) pe_int) pa_nil)))) set_list))))
    (pss_one (ps_ret (pv 7)))))))))))), ?_⟩
  refine ⟨_, rfl, b, n, rfl, n0, by omega, hb, fun pN ys H1 ly hys nN eN k1 hb1 => ?_⟩
  refine ⟨_, rfl, b, 5, n + 9, rfl, by decide, by decide, by omega, by omega, hb1, fun way H2 w0 w1 k2 hb2 => ?_⟩
  refine ⟨_, rfl, b, 2, n + 9 + 1, rfl, by decide, by decide, by omega, by omega, hb2, fun d1 H3 _ _ k3 hb3 => ?_⟩
  refine ⟨rfl, ?_⟩
  refine ⟨_, rfl, b, 2, n + 9 + 1 + 1, rfl, by decide, by decide, by omega, by omega, hb3, fun d2 H4 _ _ k4 hb4 => ?_⟩
  refine ⟨rfl, ?_⟩
  generalize decide (V.int d1 = V.int 0) = f0
  generalize decide (V.int d2 = V.int 0) = f1
  refine ⟨by show 2 ≤ sizeLine; decide, fun pF npF => ?_⟩
  match ys, ly, hys, eN with
  | [y0, y1, y2], _, hys, eN =>
  have v0 : ∀ {H : Hp}, Vl H (.str y0) := .str (hys y0 (by simp)).1 (hys y0 (by simp)).2
  have v1 : ∀ {H : Hp}, Vl H (.str y1) := .str (hys y1 (by simp)).1 (hys y1 (by simp)).2
  have v2 : ∀ {H : Hp}, Vl H (.str y2) := .str (hys y2 (by simp)).1 (hys y2 (by simp)).2
  have nNb : pN ≠ b := fun z => by subst z; obtain ⟨g, m, k, eb, _⟩ := hb; rw [eb] at nN; cases nN
  have eN := k4 _ _ nNb (k3 _ _ nNb (k2 _ _ nNb eN))
  have k4 := ((k1.trans k2).trans k3).trans k4
  have epF : (upd H4 pF (.lst [.bl f0, .bl f1])) pF = some (.lst [.bl f0, .bl f1]) := upd_same
  have s5 := same_upd (o := .lst [.bl f0, .bl f1]) npF
  generalize upd H4 pF (.lst [.bl f0, .bl f1]) = H5 at epF s5 ⊢
  have nFb : pF ≠ b := fun z => by subst z; obtain ⟨g, m, k, eb, _⟩ := hb4; rw [eb] at npF; cases npF
  have hb5 := hb4.same s5
  refine ⟨by show 5 ≤ sizeLine; decide, fun pW npW => ?_⟩
  have epW : (upd H5 pW (.lst [.str (Str.ofString "inherit"), .str (Str.ofString "act"), .str (Str.ofString "read"), .str (Str.ofString "write"), .str (Str.ofString "call")])) pW = some (.lst [.str (Str.ofString "inherit"), .str (Str.ofString "act"), .str (Str.ofString "read"), .str (Str.ofString "write"), .str (Str.ofString "call")]) := upd_same
  have s6 := same_upd (o := .lst [.str (Str.ofString "inherit"), .str (Str.ofString "act"), .str (Str.ofString "read"), .str (Str.ofString "write"), .str (Str.ofString "call")]) npW
  generalize upd H5 pW (.lst [.str (Str.ofString "inherit"), .str (Str.ofString "act"), .str (Str.ofString "read"), .str (Str.ofString "write"), .str (Str.ofString "call")]) = H6 at epW s6 ⊢
  have hb6 := hb5.same s6
  have nWb : pW ≠ b := fun z => by subst z; obtain ⟨g, m, k, eb, _⟩ := hb5; rw [eb] at npW; cases npW
  refine ⟨_, rfl, b, 5, n + 9 + 1 + 1 + 1, rfl, by decide, by decide, by omega, by omega, hb6, fun d3 H7 d30 d31 k7 hb7 => ?_⟩
  have hw : ∃ wd : Str, atI [V.str (Str.ofString "inherit"), .str (Str.ofString "act"), .str (Str.ofString "read"), .str (Str.ofString "write"), .str (Str.ofString "call")] d3 = some (.str wd) ∧ wd.length ≤ 100 ∧ okS wd := by
    have hw : d3 = 0 ∨ d3 = 1 ∨ d3 = 2 ∨ d3 = 3 ∨ d3 = 4 := by omega
    rcases hw with e | e | e | e | e
    · rw [e]; exact ⟨_, atI_nat (j := 0) rfl, by decide +kernel, okS_dec (by decide +kernel)⟩
    · rw [e]; exact ⟨_, atI_nat (j := 1) rfl, by decide +kernel, okS_dec (by decide +kernel)⟩
    · rw [e]; exact ⟨_, atI_nat (j := 2) rfl, by decide +kernel, okS_dec (by decide +kernel)⟩
    · rw [e]; exact ⟨_, atI_nat (j := 3) rfl, by decide +kernel, okS_dec (by decide +kernel)⟩
    · rw [e]; exact ⟨_, atI_nat (j := 4) rfl, by decide +kernel, okS_dec (by decide +kernel)⟩
  obtain ⟨wd, ewd, lwd, owd⟩ := hw
  have vw : ∀ {H : Hp}, Vl H (.str wd) := .str lwd owd
  refine ⟨pW, _, d3, .str wd, rfl, rfl, SqL.of (k7 _ _ nWb epW), ewd, ?_⟩
  have eN := k7 _ _ nNb (s6 _ _ (s5 _ _ eN))
  have eF := k7 _ _ nFb (s6 _ _ epF)
  have k7 := (k4.trans (Keep.of (s5.trans s6))).trans k7
  clear ewd epW npW s6 s5 epF
  refine ⟨_, rfl, _, rfl, pN, _, 0, .str y0, rfl, rfl, SqL.of eN, atI_nat (j := 0) rfl, ?_⟩
  refine ⟨_, rfl, pN, _, 1, .str y1, rfl, rfl, SqL.of eN, atI_nat (j := 1) rfl, _, rfl, pF, _, 0, .bl f0, rfl, rfl, SqL.of eF, atI_nat (j := 0) rfl, ?_⟩
  refine ⟨by show 5 ≤ sizeLine; decide, fun pG npG => ?_⟩
  have epG : (upd H7 pG (.lst [.str tGive, .str wd, .str y0, .str y1, .bl f0])) pG = some (.lst [.str tGive, .str wd, .str y0, .str y1, .bl f0]) := upd_same
  have s8 := same_upd (o := .lst [.str tGive, .str wd, .str y0, .str y1, .bl f0]) npG
  have rG : RowAt (upd H7 pG (.lst [.str tGive, .str wd, .str y0, .str y1, .bl f0])) pG := RowAt.new npG Kd.give (all_cons vw (all_cons v0 (all_cons v1 (all_cons (.bl _) all_nil))))
  generalize upd H7 pG (.lst [.str tGive, .str wd, .str y0, .str y1, .bl f0]) = H8 at epG s8 rG ⊢
  have zG := none_keep k7 (ne_box hb7 npG) npG
  have eN := s8 _ _ eN
  have eF := s8 _ _ eF
  refine ⟨_, rfl, _, rfl, pN, _, 0, .str y0, rfl, rfl, SqL.of eN, atI_nat (j := 0) rfl, ?_⟩
  refine ⟨_, rfl, pN, _, 1, .str y1, rfl, rfl, SqL.of eN, atI_nat (j := 1) rfl, _, rfl, pN, _, 2, .str y2, rfl, rfl, SqL.of eN, atI_nat (j := 2) rfl, ?_⟩
  refine ⟨by show 5 ≤ sizeLine; decide, fun pT0 npT0 => ?_⟩
  have epT0 : (upd H8 pT0 (.lst [.str tTake, .str wd, .str y0, .str y1, .str y2])) pT0 = some (.lst [.str tTake, .str wd, .str y0, .str y1, .str y2]) := upd_same
  have s9 := same_upd (o := .lst [.str tTake, .str wd, .str y0, .str y1, .str y2]) npT0
  generalize upd H8 pT0 (.lst [.str tTake, .str wd, .str y0, .str y1, .str y2]) = H9 at epT0 s9 ⊢
  have eN := s9 _ _ eN
  have eF := s9 _ _ eF
  refine ⟨_, rfl, pT0, pF, _, _, rfl, rfl, epT0, eF, by show 7 ≤ sizeLine; decide, fun pT npT => ?_⟩
  have epT : (upd H9 pT (.lst ([.str tTake, .str wd, .str y0, .str y1, .str y2] ++ [.bl f0, .bl f1]))) pT = some (.lst ([.str tTake, .str wd, .str y0, .str y1, .str y2] ++ [.bl f0, .bl f1])) := upd_same
  have s10 := same_upd (o := .lst ([.str tTake, .str wd, .str y0, .str y1, .str y2] ++ [.bl f0, .bl f1])) npT
  have rT : RowAt (upd H9 pT (.lst ([.str tTake, .str wd, .str y0, .str y1, .str y2] ++ [.bl f0, .bl f1]))) pT := RowAt.new (kd := tTake) (xs := [.str wd, .str y0, .str y1, .str y2, .bl f0, .bl f1]) npT Kd.take (all_cons vw (all_cons v0 (all_cons v1 (all_cons v2 (all_cons (.bl _) (all_cons (.bl _) all_nil))))))
  generalize upd H9 pT (.lst ([.str tTake, .str wd, .str y0, .str y1, .str y2] ++ [.bl f0, .bl f1])) = H10 at epT s10 rT ⊢
  have zT := none_keep (k7.trans (Keep.of (s8.trans s9))) (ne_box ((hb7.same s8).same s9) npT) npT
  refine ⟨by show 2 ≤ sizeLine; decide, fun pR1 npR1 => ?_⟩
  have epR1 : (upd H10 pR1 (.lst [.ref pG, .ref pT])) pR1 = some (.lst [.ref pG, .ref pT]) := upd_same
  have s11 := same_upd (o := .lst [.ref pG, .ref pT]) npR1
  generalize upd H10 pR1 (.lst [.ref pG, .ref pT]) = H11 at epR1 s11 ⊢
  have eN := s11 _ _ (s10 _ _ eN)
  have eF := s11 _ _ (s10 _ _ eF)
  have rG := (((rG.same s9).same s10).same s11)
  have rT := rT.same s11
  have hb11 : Bx H11 b (n + 9 + 1 + 1 + 1 + 1) := (((hb7.same s8).same s9).same s10).same s11
  have k11 := k7.trans (Keep.of (((s8.trans s9).trans s10).trans s11))
  clear s8 s9 s10 s11 epG epT0 epT npG npT0 npT npR1
  refine ⟨by show 2 ≤ sizeLine; decide, fun a1 na1 => ?_⟩
  have ea1 : (upd H11 a1 (.lst [.str (Str.ofString "table"), .str (Str.ofString "read")])) a1 = some (.lst [.str (Str.ofString "table"), .str (Str.ofString "read")]) := upd_same
  have s12 := same_upd (o := .lst [.str (Str.ofString "table"), .str (Str.ofString "read")]) na1
  generalize upd H11 a1 (.lst [.str (Str.ofString "table"), .str (Str.ofString "read")]) = H12 at ea1 s12 ⊢
  refine ⟨by show 2 ≤ sizeLine; decide, fun a2 na2 => ?_⟩
  have ea2 : (upd H12 a2 (.lst [.str (Str.ofString "table"), .str (Str.ofString "write")])) a2 = some (.lst [.str (Str.ofString "table"), .str (Str.ofString "write")]) := upd_same
  have s13 := same_upd (o := .lst [.str (Str.ofString "table"), .str (Str.ofString "write")]) na2
  generalize upd H12 a2 (.lst [.str (Str.ofString "table"), .str (Str.ofString "write")]) = H13 at ea2 s13 ⊢
  refine ⟨by show 2 ≤ sizeLine; decide, fun a3 na3 => ?_⟩
  have ea3 : (upd H13 a3 (.lst [.str (Str.ofString "function"), .str (Str.ofString "call")])) a3 = some (.lst [.str (Str.ofString "function"), .str (Str.ofString "call")]) := upd_same
  have s14 := same_upd (o := .lst [.str (Str.ofString "function"), .str (Str.ofString "call")]) na3
  generalize upd H13 a3 (.lst [.str (Str.ofString "function"), .str (Str.ofString "call")]) = H14 at ea3 s14 ⊢
  refine ⟨by show 3 ≤ sizeLine; decide, fun pL npL => ?_⟩
  have epL : (upd H14 pL (.lst [.ref a1, .ref a2, .ref a3])) pL = some (.lst [.ref a1, .ref a2, .ref a3]) := upd_same
  have s15 := same_upd (o := .lst [.ref a1, .ref a2, .ref a3]) npL
  generalize upd H14 pL (.lst [.ref a1, .ref a2, .ref a3]) = H15 at epL s15 ⊢
  have S15 := (((s12.trans s13).trans s14).trans s15)
  have ea1 := s15 _ _ (s14 _ _ (s13 _ _ ea1))
  have ea2 := s15 _ _ (s14 _ _ ea2)
  have ea3 := s15 _ _ ea3
  have hb15 := hb11.same S15
  have nLb : pL ≠ b := fun z => by subst z; obtain ⟨g, m, k, eb, _⟩ := hb15; rw [epL] at eb; cases (List.cons.inj (HO.lst.inj (Option.some.inj eb))).1
  have nR1b : pR1 ≠ b := fun z => by subst z; obtain ⟨g, m, k, eb, _⟩ := hb11; rw [epR1] at eb; cases (List.cons.inj (HO.lst.inj (Option.some.inj eb))).1
  refine ⟨_, rfl, b, 3, n + 9 + 1 + 1 + 1 + 1, rfl, by decide, by decide, by omega, by omega, hb15, fun d4 H16 d40 d41 k16 hb16 => ?_⟩
  have hp : ∃ (pp : Addr) (k r : Str), atI [V.ref a1, .ref a2, .ref a3] d4 = some (.ref pp) ∧ H15 pp = some (.lst [.str k, .str r]) ∧ (∀ {H : Hp}, Vl H (.str k)) ∧ ∀ {H : Hp}, Vl H (.str r) := by
    have hw : d4 = 0 ∨ d4 = 1 ∨ d4 = 2 := by omega
    rcases hw with e | e | e
    · rw [e]; exact ⟨_, _, _, atI_nat (j := 0) rfl, ea1, .str (by decide +kernel) (okS_dec (by decide +kernel)), .str (by decide +kernel) (okS_dec (by decide +kernel))⟩
    · rw [e]; exact ⟨_, _, _, atI_nat (j := 1) rfl, ea2, .str (by decide +kernel) (okS_dec (by decide +kernel)), .str (by decide +kernel) (okS_dec (by decide +kernel))⟩
    · rw [e]; exact ⟨_, _, _, atI_nat (j := 2) rfl, ea3, .str (by decide +kernel) (okS_dec (by decide +kernel)), .str (by decide +kernel) (okS_dec (by decide +kernel))⟩
  obtain ⟨pp, kk, rr, epp, eH, vk, vr⟩ := hp
  have nPb : pp ≠ b := fun z => by subst z; obtain ⟨g, m, k, eb, _⟩ := hb15; rw [eH] at eb; cases (List.cons.inj (HO.lst.inj (Option.some.inj eb))).1
  refine ⟨pL, _, d4, .ref pp, rfl, rfl, SqL.of (k16 _ _ nLb epL), epp, ?_⟩
  have eP := k16 _ _ nPb eH
  have eN := k16 _ _ nNb (S15 _ _ eN)
  have eF := k16 _ _ nFb (S15 _ _ eF)
  have eR1 := k16 _ _ nR1b (S15 _ _ epR1)
  have rG := (rG.same S15).keep k16 hb15
  have rT := (rT.same S15).keep k16 hb15
  have k16 := (k11.trans (Keep.of S15)).trans k16
  clear s12 s13 s14 s15 S15 ea1 ea2 ea3 epL na1 na2 na3 npL epp eH epR1
  refine ⟨_, rfl, ?_⟩
  refine ⟨_, rfl, pN, _, 0, .str y0, rfl, rfl, SqL.of eN, atI_nat (j := 0) rfl, ?_⟩
  refine ⟨by show 2 ≤ sizeLine; decide, fun pC npC => ?_⟩
  have epC : (upd H16 pC (.lst [.str tCall, .str y0])) pC = some (.lst [.str tCall, .str y0]) := upd_same
  have s17 := same_upd (o := .lst [.str tCall, .str y0]) npC
  have rC : RowAt (upd H16 pC (.lst [.str tCall, .str y0])) pC := RowAt.new npC Kd.call (all_cons v0 all_nil)
  generalize upd H16 pC (.lst [.str tCall, .str y0]) = H17 at epC s17 rC ⊢
  have zC := none_keep k16 (ne_box hb16 npC) npC
  refine ⟨by show 1 ≤ sizeLine; decide, fun pP0 npP0 => ?_⟩
  have epP0 : (upd H17 pP0 (.lst [.str tPreset])) pP0 = some (.lst [.str tPreset]) := upd_same
  have s18 := same_upd (o := .lst [.str tPreset]) npP0
  generalize upd H17 pP0 (.lst [.str tPreset]) = H18 at epP0 s18 ⊢
  have eP := s18 _ _ (s17 _ _ eP)
  refine ⟨_, rfl, pP0, pp, _, _, rfl, rfl, epP0, eP, by show 3 ≤ sizeLine; decide, fun pP1 npP1 => ?_⟩
  have epP1 : (upd H18 pP1 (.lst ([.str tPreset] ++ [.str kk, .str rr]))) pP1 = some (.lst ([.str tPreset] ++ [.str kk, .str rr])) := upd_same
  have s19 := same_upd (o := .lst ([.str tPreset] ++ [.str kk, .str rr])) npP1
  generalize upd H18 pP1 (.lst ([.str tPreset] ++ [.str kk, .str rr])) = H19 at epP1 s19 ⊢
  have eN := s19 _ _ (s18 _ _ (s17 _ _ eN))
  have eF := s19 _ _ (s18 _ _ (s17 _ _ eF))
  refine ⟨_, rfl, pN, _, 1, .str y1, rfl, rfl, SqL.of eN, atI_nat (j := 1) rfl, _, rfl, pF, _, 0, .bl f0, rfl, rfl, SqL.of eF, atI_nat (j := 0) rfl, ?_⟩
  refine ⟨by show 2 ≤ sizeLine; decide, fun pQ npQ => ?_⟩
  have epQ : (upd H19 pQ (.lst [.str y1, .bl f0])) pQ = some (.lst [.str y1, .bl f0]) := upd_same
  have s20 := same_upd (o := .lst [.str y1, .bl f0]) npQ
  generalize upd H19 pQ (.lst [.str y1, .bl f0]) = H20 at epQ s20 ⊢
  refine ⟨pP1, pQ, _, _, rfl, rfl, s20 _ _ epP1, epQ, by show 5 ≤ sizeLine; decide, fun pP npP => ?_⟩
  have epP : (upd H20 pP (.lst (([.str tPreset] ++ [.str kk, .str rr]) ++ [.str y1, .bl f0]))) pP = some (.lst (([.str tPreset] ++ [.str kk, .str rr]) ++ [.str y1, .bl f0])) := upd_same
  have s21 := same_upd (o := .lst (([.str tPreset] ++ [.str kk, .str rr]) ++ [.str y1, .bl f0])) npP
  have rP : RowAt (upd H20 pP (.lst (([.str tPreset] ++ [.str kk, .str rr]) ++ [.str y1, .bl f0]))) pP := RowAt.new (kd := tPreset) (xs := [.str kk, .str rr, .str y1, .bl f0]) npP Kd.preset (all_cons vk (all_cons vr (all_cons v1 (all_cons (.bl _) all_nil))))
  generalize upd H20 pP (.lst (([.str tPreset] ++ [.str kk, .str rr]) ++ [.str y1, .bl f0])) = H21 at epP s21 rP ⊢
  have zP := none_keep (k16.trans (Keep.of (((s17.trans s18).trans s19).trans s20))) (ne_box (hb16.same (((s17.trans s18).trans s19).trans s20)) npP) npP
  refine ⟨by show 2 ≤ sizeLine; decide, fun pR2 npR2 => ?_⟩
  have epR2 : (upd H21 pR2 (.lst [.ref pC, .ref pP])) pR2 = some (.lst [.ref pC, .ref pP]) := upd_same
  have s22 := same_upd (o := .lst [.ref pC, .ref pP]) npR2
  generalize upd H21 pR2 (.lst [.ref pC, .ref pP]) = H22 at epR2 s22 ⊢
  have S22 := ((((s17.trans s18).trans s19).trans s20).trans s21).trans s22
  refine ⟨pR1, pR2, _, _, rfl, rfl, S22 _ _ eR1, epR2, by show 4 ≤ sizeLine; decide, fun pR3 npR3 => ?_⟩
  have epR3 : (upd H22 pR3 (.lst ([.ref pG, .ref pT] ++ [.ref pC, .ref pP]))) pR3 = some (.lst ([.ref pG, .ref pT] ++ [.ref pC, .ref pP])) := upd_same
  have s23 := same_upd (o := .lst ([.ref pG, .ref pT] ++ [.ref pC, .ref pP])) npR3
  generalize upd H22 pR3 (.lst ([.ref pG, .ref pT] ++ [.ref pC, .ref pP])) = H23 at epR3 s23 ⊢
  have rC := ((((((rC.same s18).same s19).same s20).same s21).same s22).same s23)
  have rP := (rP.same s22).same s23
  have rG := (rG.same S22).same s23
  have rT := (rT.same S22).same s23
  have eN := s23 _ _ (s22 _ _ (s21 _ _ (s20 _ _ eN)))
  refine ⟨_, rfl, _, rfl, ?_⟩
  refine ⟨_, rfl, pN, _, 0, .str y0, rfl, rfl, SqL.of eN, atI_nat (j := 0) rfl, ?_⟩
  refine ⟨by show 3 ≤ sizeLine; decide, fun pU npU => ?_⟩
  have epU : (upd H23 pU (.lst [.str tUse, .str wd, .str y0])) pU = some (.lst [.str tUse, .str wd, .str y0]) := upd_same
  have s24 := same_upd (o := .lst [.str tUse, .str wd, .str y0]) npU
  have rU : RowAt (upd H23 pU (.lst [.str tUse, .str wd, .str y0])) pU := RowAt.new npU Kd.use (all_cons vw (all_cons v0 all_nil))
  generalize upd H23 pU (.lst [.str tUse, .str wd, .str y0]) = H24 at epU s24 rU ⊢
  have zU := none_keep (k16.trans (Keep.of (S22.trans s23))) (ne_box (hb16.same (S22.trans s23)) npU) npU
  refine ⟨by show 1 ≤ sizeLine; decide, fun pV npV => ?_⟩
  have epV : (upd H24 pV (.lst [.ref pU])) pV = some (.lst [.ref pU]) := upd_same
  have s25 := same_upd (o := .lst [.ref pU]) npV
  generalize upd H24 pV (.lst [.ref pU]) = H25 at epV s25 ⊢
  refine ⟨pR3, pV, _, _, rfl, rfl, s25 _ _ (s24 _ _ epR3), epV, by show 5 ≤ sizeLine; decide, fun pR4 npR4 => ?_⟩
  have epR4 : (upd H25 pR4 (.lst (([.ref pG, .ref pT] ++ [.ref pC, .ref pP]) ++ [.ref pU]))) pR4 = some (.lst (([.ref pG, .ref pT] ++ [.ref pC, .ref pP]) ++ [.ref pU])) := upd_same
  have s26 := same_upd (o := .lst (([.ref pG, .ref pT] ++ [.ref pC, .ref pP]) ++ [.ref pU])) npR4
  generalize upd H25 pR4 (.lst (([.ref pG, .ref pT] ++ [.ref pC, .ref pP]) ++ [.ref pU])) = H26 at epR4 s26 ⊢
  have S26 := (((S22.trans s23).trans s24).trans s25).trans s26
  have hb26 := hb16.same S26
  have k26 := k16.trans (Keep.of S26)
  have s456 := (s24.trans s25).trans s26
  have hrow : ∃ p : Addr, atI (([V.ref pG, .ref pT] ++ [V.ref pC, .ref pP]) ++ [V.ref pU]) way = some (.ref p) ∧ RowAt H26 p ∧ H p = none := by
    have hw : way = 0 ∨ way = 1 ∨ way = 2 ∨ way = 3 ∨ way = 4 := by omega
    rcases hw with e | e | e | e | e
    · rw [e]; exact ⟨_, atI_nat (j := 0) rfl, rG.same s456, zG⟩
    · rw [e]; exact ⟨_, atI_nat (j := 1) rfl, rT.same s456, zT⟩
    · rw [e]; exact ⟨_, atI_nat (j := 2) rfl, rC.same s456, zC⟩
    · rw [e]; exact ⟨_, atI_nat (j := 3) rfl, rP.same s456, zP⟩
    · rw [e]; exact ⟨_, atI_nat (j := 4) rfl, rU.same (s25.trans s26), zU⟩
  obtain ⟨p, ep, rp, zp⟩ := hrow
  refine ⟨_, rfl, pR4, _, way, .ref p, rfl, rfl, SqL.of epR4, ep, ?_⟩
  clear rG rT rC rP rU zG zT zC zP zU
  refine ⟨_, rfl, b, 2, n + 9 + 1 + 1 + 1 + 1 + 1, rfl, by decide, by decide, by omega, by omega, hb26, fun d5 H27 d50 d51 k27 hb27 => ?_⟩
  have rp := rp.keep k27 hb26
  have k27 := k26.trans k27
  refine ⟨1, d5, rfl, rfl, 1 + d5, rfl, by omega, by omega, for_range (lo := 0) (n := (1 + d5).toNat) (fun i σ H' => ∃ y8, σ = [some (.ref b), some (.ref pN), some (.int way), some (.ref pF), some (.str wd), some (.ref pR3), some (.ref pp), some (.ref p), y8] ∧ RowAt H' p ∧ Keep b H H' ∧ Bx H' b (n + 15 + 2 * (i : Int))) ⟨_, rfl, rp, k27, hb27.mono (by omega)⟩ ?_ ?_⟩
  · intro i σ H28 hi h
    obtain ⟨y8, rfl, rp, k28, hb28⟩ := h
    refine ⟨_, rfl, b, n + 15 + 2 * (i : Int), rfl, by omega, by omega, hb28, fun v H29 hv k29 hb29 => ?_⟩
    have rp29 := rp.keep k29 hb28
    have ne := rp29.ne hb29
    obtain ⟨kd, xs, ex, kl, av⟩ := rp29
    have kle := kl.le
    refine ⟨_, rfl, _, rfl, _, rfl, p, _, rfl, .inl (SqL.of ex), _, 1, rfl, rfl, b, _, n + 15 + 2 * (i : Int) + 1, rfl, ?_, ?_, by omega, by omega, hb29, fun d6 H30 d60 d61 k30 hb30 => ?_⟩
    · rw [List.length_cons]; omega
    · rw [List.length_cons]; omega
    rw [List.length_cons] at d61
    have ex30 := k30 _ _ ne ex
    refine ⟨1, d6, rfl, rfl, p, _, _, (1 + d6).toNat, rfl, rfl, ex30, ?_, ?_⟩
    · unfold ixN
      rw [if_pos (by omega), if_pos (by rw [List.length_cons]; omega)]
    · refine ⟨_, rfl, RowAt.set ex30 kl (fun x hx => (av x hx).keep k30 hb29) (hv.keep k30 hb29) (by omega), ?_, ?_⟩
      · intro a o na ea
        rw [upd_ne (fun z => by subst z; rw [zp] at ea; cases ea)]
        exact k30 a o na (k29 a o na (k28 a o na ea))
      · obtain ⟨g, m, k, e, r1, r2, r3, r4, r5⟩ := hb30
        exact ⟨g, m, k, by rw [upd_ne ne.symm]; exact e, r1, r2, r3, r4, by omega⟩
  · intro σ H28 h
    obtain ⟨y8, rfl, rp, k28, hb28⟩ := h
    exact ⟨_, rfl, q p H28 rp zp k28 (hb28.mono (by omega))⟩
end
end K07
set_option maxHeartbeats 4000000
namespace K07
open PySem PySem.Spec PyProof.Rows L2 RL RE RN RM TL
theorem hu64 {A : Around} {k : Nat} (hr : Room k A) : A.units + 64 < cLine := by
  have := hr.un
  omega
/-- the signs of a text that are no small letters -/
def badL (l : List Nat) : List Nat := l.filter fun c => !lowC c
theorem badL_nil (l : List Nat) : (badL l).isEmpty = l.all lowC := by
  induction l with
  | nil => rfl
  | cons a r ih =>
    unfold badL at ih ⊢
    rw [List.filter_cons, List.all_cons]
    cases h : lowC a with
    | true => simpa using ih
    | false => simp
theorem badL_app (l : List Nat) (c : Nat) : badL (l ++ [c]) = badL l ++ (if lowC c = true then [] else [c]) := by
  unfold badL
  rw [List.filter_append]
  cases h : lowC c <;> simp [h]
theorem badL_len (l : List Nat) : (badL l).length ≤ l.length := List.length_filter_le _ _
theorem bad_all {K : PySem.W.Frag} {H : Hp} : ∀ l : List Nat, DpAll K H (l.map fun c => V.str ⟨#[c]⟩) (l.map fun c => PyData.str ⟨#[c]⟩)
  | [] => .nil
  | _ :: r => .cons (.str _) (bad_all r)
theorem bad_lay : ∀ l : List Nat, (∀ c ∈ l, c < 256) → PyData.canLayAll0 (l.map fun c => PyData.str ⟨#[c]⟩) = true
  | [], _ => rfl
  | c :: r, h => by
    show (PyData.canLay0 _ && PyData.canLayAll0 _) = true
    rw [bad_lay r fun x hx => h x (List.mem_cons_of_mem _ hx)]
    have := h c (List.mem_cons_self ..)
    simp [PyData.canLay0, PyData.strOk]
    omega
theorem bad_depth : ∀ l : List Nat, PyData.depthAll (l.map fun c => PyData.str ⟨#[c]⟩) = 0
  | [] => rfl
  | _ :: r => by
    show max (PyData.depth _) (PyData.depthAll _) = 0
    rw [bad_depth r]; simp [PyData.depth]
theorem bad_shaped {z : Str} (oz : okS z) : SeqAt.shaped (.list ((badL (tl z)).map fun c => PyData.str ⟨#[c]⟩)) = true := by
  have h := bad_lay (badL (tl z)) fun c hc => oz c (List.mem_filter.mp hc).1
  simp [SeqAt.shaped, PyData.canLay0, PyData.depth, h, bad_depth]
theorem bad_eqv (l : List Nat) : PyData.eqv (.list (l.map fun c => PyData.str ⟨#[c]⟩)) (.list []) = l.isEmpty := by
  cases l with
  | nil => simp [PyData.eqv, PyData.eqvAll]
  | cons a r => simp [PyData.eqv, PyData.eqvAll]
theorem le_chars (c : Nat) : (!decide ([c] < [97])) = decide (97 ≤ c) := by
  rw [← decide_not]
  refine decide_eq_decide.mpr ?_
  rw [List.cons_lt_cons_iff]
  simp
theorem le_chars2 (c : Nat) : (!decide ([122] < [c])) = decide (c ≤ 122) := by
  rw [← decide_not]
  refine decide_eq_decide.mpr ?_
  rw [List.cons_lt_cons_iff]
  simp
section
variable {P : Program} {w : World} {K : PySem.W.Frag} {mg : Str → Option Value} {base : Heap} {f : Addr} {fd : FuncData}
def spS (K : PySem.W.Frag) (p : V → Bool) : Sp := fun vs H Q _ => ∃ v, vs = [v] ∧ Od K H v ∧ ∀ H', Same H H' → Q (.bl (p v)) H'
theorem spS_len {p : V → Bool} : ∀ vs H Q E, spS K p vs H Q E → vs.length = 1 := fun vs H Q E h => by
  obtain ⟨v, rfl, _⟩ := h
  rfl
theorem ok_lname (F : Fun K "_law_is_name" "_law_is_name" s__law_is_name f fd) (mi : mg "isinstance" = none) (ms : mg "str" = none) (ml : mg "len" = none) :
    FnOk P w K mg base CX0 1 f fd ["_law_value"] (spS K isName) := by
  refine F.ok sc__law_is_name spS_len (fun cdv A outer s H vs Q E hr h => ?_)
  obtain ⟨v, rfl, hv, q⟩ := h
  refine ⟨_, PSs.nox (pss_cons (ps_if (PW.pt (pw_or (pt_not (pt_val (pe_callB call_isi (by rfl) mi boot_isinstance (pa_cons (pv 0) (pa_cons (pe_bltn (v := .ty "str") (by rfl) ms PyProof.Rows.boot_str rfl) pa_nil)))))
      (pw_or (pt_not (pt_chain op_le op_le pe_int (pe_callB call_len_str (by rfl) ml PySem.boot_len (pa_cons (pv 0) pa_nil)) pe_int)) (pw_or1 (pt_cmpR op_in_seq (pv 0) (pe_lst (pa_cons pe_str (pa_cons pe_str pa_nil))) (by rfl)))))) (pss_one (ps_ret pe_bl)) pss_nil)
    (pss_one (ps_ret (pe_cmpR (op_eqD (hu64 hr)) (pe_lc (own := [("_law_sign", 1)]) (g := gName 1) (by rfl) sc__law_is_name.nd (pi_str (pv 0))
          (blkOk_by (own := [("_law_sign", 1)]) (N := N__law_is_name) (sc := defScope s__law_is_name) (by decide +kernel)) (fun _ _ _ _ _ => pg_name (i := 1) sc__law_is_name.nd rfl (Or.inl rfl)) (fun _ _ _ _ _ => pts_one (pt_not (pt_chain op_le_str op_le_str pe_str (pv 1) pe_str)))
          (fun _ _ _ _ _ => pv 1)) (pe_lst pa_nil) (by rfl))))), ?_⟩
  obtain ⟨t, ht, hs, hb⟩ := od_ty hv.1
  refine ⟨_, rfl, v, .ty "str", t, .type "str", _, rfl, .ty _, ht, hs, _, rfl, ?_⟩
  cases hS : isS v with
  | false =>
    rw [notS_name hS] at q
    exact iteT (q _ fun _ _ e => e)
  | true =>
    obtain ⟨z, rfl⟩ := isS_str hS
    have hz := (hv.2 z rfl).1
    have oz : okS z := (hv.2 z rfl).2
    refine iteF ?_
    refine ⟨_, rfl, z, rfl, Nat.le_trans hz (by decide), 1, z.length, rfl, rfl, _, rfl, ?_⟩
    by_cases h1 : 1 ≤ z.length
    case neg =>
      have e1 : decide ((1 : Int) ≤ (z.length : Nat)) = false := decide_eq_false (by omega)
      rw [e1]
      have q : ∀ H', Same H H' → Q (.bl (nameT z)) H' := q
      rw [nameT_no1 h1] at q
      exact ⟨_, rfl, iteT (q _ fun _ _ e => e)⟩
    have e1 : decide ((1 : Int) ≤ (z.length : Nat)) = true := decide_eq_true (by omega)
    rw [e1]
    refine iteT ⟨z.length, 8, rfl, rfl, _, rfl, ?_⟩
    by_cases h8 : z.length ≤ 8
    case neg =>
      have e2 : decide (((z.length : Nat) : Int) ≤ 8) = false := decide_eq_false (by omega)
      rw [e2]
      have q : ∀ H', Same H H' → Q (.bl (nameT z)) H' := q
      rw [nameT_no8 h8] at q
      exact iteT (q _ fun _ _ e => e)
    have e2 : decide (((z.length : Nat) : Int) ≤ 8) = true := decide_eq_true (by omega)
    rw [e2]
    refine iteF ⟨_, rfl, by show 2 ≤ sizeLine; decide, fun p np => ?_⟩
    refine ⟨p, [.str tPub, .str tCal], rfl, .inl (SqL.of upd_same), rfl, rfl, _, rfl, ?_⟩
    have s1 := same_upd (o := .lst [.str tPub, .str tCal]) np
    generalize upd H p (.lst [.str tPub, .str tCal]) = H1 at s1 ⊢
    have q : ∀ H', Same H H' → Q (.bl (nameT z)) H' := q
    show if (if false = true then _ else inV (.str z) [.str tPub, .str tCal]) = true then _ else _
    rw [if_neg Bool.false_ne_true]
    have en : nameT z = ((tl z).all lowC && !(inV (.str z) [.str tPub, .str tCal])) := by
      unfold nameT
      rw [decide_eq_true h1, decide_eq_true h8, inV2]
      cases (tl z).all lowC <;> cases (z == tPub) <;> cases (z == tCal) <;> rfl
    rw [en] at q
    cases hI : inV (.str z) [.str tPub, .str tCal] with
    | true =>
      rw [hI, Bool.not_true, Bool.and_false] at q
      exact iteT (q _ s1)
    | false =>
      rw [hI, Bool.not_false, Bool.and_true] at q
      refine iteF ⟨_, rfl, z, rfl, fun D nD => ?_⟩
      refine lc_it (walk_str (z := z)) (fun i H' => H' D = some (.lst ((badL ((tl z).take i)).map fun c => V.str ⟨#[c]⟩)) ∧ Same H1 H') ⟨by rw [upd_same, List.take_zero]; rfl, same_upd nD⟩ (fun _ _ _ _ => trivial) ?_ ?_
      · intro i x H3 H4 hi h3 hy
        obtain ⟨rfl, cc, hcc, rfl⟩ := hy
        obtain ⟨eD, s3⟩ := h3
        have hgt : (tl z)[i]? = some cc := by rw [← Array.getElem?_toList] at hcc; exact hcc
        have et : (tl z).take (i + 1) = (tl z).take i ++ [cc] := by rw [List.take_add_one, hgt]; rfl
        refine ⟨rfl, _, rfl, _, _, rfl, rfl, _, rfl, ?_⟩
        rw [show (!decide ((⟨#[cc]⟩ : Str).cps.toList < (Str.ofString "a").cps.toList)) = decide (97 ≤ cc) from le_chars cc]
        have put : lowC cc = false → ∃ acc, H4 D = some (.lst acc) ∧ acc.length < sizeLine ∧ (upd H4 D (.lst (acc ++ [V.str ⟨#[cc]⟩]))) D = some (.lst ((badL ((tl z).take (i + 1))).map fun c => V.str ⟨#[c]⟩)) ∧ Same H1 (upd H4 D (.lst (acc ++ [V.str ⟨#[cc]⟩]))) := fun hl => by
          refine ⟨_, eD, ?_, ?_, ?_⟩
          · rw [List.length_map]
            have := badL_len ((tl z).take i)
            rw [List.length_take] at this
            have hsz : (tl z).length = z.length := (len_tl z).symm
            exact Nat.lt_of_lt_of_le (show _ < 1000 by omega) (by decide)
          · rw [upd_same, et, badL_app, hl, List.map_append]; rfl
          · intro a o ea
            rw [upd_ne (fun q => by rw [q, nD] at ea; cases ea)]
            exact s3 a o ea
        have stay : lowC cc = true → H4 D = some (.lst ((badL ((tl z).take (i + 1))).map fun c => V.str ⟨#[c]⟩)) ∧ Same H1 H4 := fun hl => by
          refine ⟨?_, s3⟩
          rw [eD, et, badL_app, hl, if_pos rfl, List.append_nil]
        by_cases ha : 97 ≤ cc
        · rw [decide_eq_true ha]
          refine iteT ⟨_, _, rfl, rfl, _, rfl, ?_⟩
          rw [show (!decide ((Str.ofString "z").cps.toList < (⟨#[cc]⟩ : Str).cps.toList)) = decide (cc ≤ 122) from le_chars2 cc]
          by_cases hb : cc ≤ 122
          · rw [decide_eq_true hb]
            exact iteF (stay (by unfold lowC; rw [decide_eq_true ha, decide_eq_true hb]; rfl))
          · rw [decide_eq_false hb]
            exact iteT ⟨_, rfl, put (by unfold lowC; rw [decide_eq_false hb, Bool.and_false])⟩
        · rw [decide_eq_false ha]
          exact iteF ⟨_, rfl, iteT ⟨_, rfl, put (by unfold lowC; rw [decide_eq_false ha, Bool.false_and])⟩⟩
      · intro H3 h3
        obtain ⟨eD, s3⟩ := h3
        rw [List.take_of_length_le (by rw [← len_tl]; exact Nat.le_refl _)] at eD
        refine ⟨by show 0 ≤ sizeLine; decide, fun p2 np2 => ?_⟩
        have s4 := same_upd (o := .lst []) np2
        refine ⟨.list ((badL (tl z)).map fun c => .str ⟨#[c]⟩), .list [], .lst (SqL.of (s4 _ _ eD)) (bad_all _), .lst (SqL.of upd_same) .nil, bad_shaped oz, by decide, ?_⟩
        rw [bad_eqv, badL_nil]
        exact q _ ((s1.trans s3).trans s4)
end
end K07
set_option maxHeartbeats 4000000
namespace K07
open PySem PySem.Spec PyProof.Rows L2 RL RE RN RM TL
def wordT : Wd → Str
  | .name => Str.ofString "name" | .right => Str.ofString "right" | .taker => Str.ofString "taker" | .flag => Str.ofString "flag" | .kind => Str.ofString "kind"
/-- a word and a value -/
def res : Option (Wd × V) → List V
  | none => [.str (Str.ofString "told"), .non]
  | some (w, v) => [.str (wordT w), v]
/-- a new list of a word and a value -/
def Ends2 (d : Option (Wd × V)) (H : Hp) (Q : VK) : Prop := ∀ H' p, Same H H' → H p = none → H' p = some (.lst (res d)) → Q (.ref p) H'
theorem Ends2.at_ {d : Option (Wd × V)} {H H1 : Hp} {Q : VK} {p : Addr} {xs : List V} (q : Ends2 d H Q) (s : Same H H1) (np : H1 p = none) (e : xs = res d) : Q (.ref p) (upd H1 p (.lst xs)) := by
  subst e
  refine q _ p (s.trans (same_upd np)) ?_ upd_same
  cases e : H p with
  | none => rfl
  | some o => rw [s _ _ e] at np; cases np
theorem same_refl {H : Hp} : Same H H := fun _ _ e => e
theorem OdV.same {K : PySem.W.Frag} {H H' : Hp} {v : V} (h : OdV K H v) (s : Same H H') : OdV K H' v := by
  cases h with
  | flat f => exact .flat f
  | @lst p xs h =>
    refine .lst (xs := xs) ?_
    rcases h with h | h
    · exact .inl (h.imp (s _ _) fun ⟨o, e⟩ => ⟨o, s _ _ e⟩)
    · exact .inr h
  | @tup p xs h =>
    refine .tup (xs := xs) ?_
    rcases h with h | h
    · exact .inl (h.imp (s _ _) fun ⟨o, e⟩ => ⟨o, s _ _ e⟩)
    · exact .inr h
  | dic h => exact .dic (s _ _ h)
theorem Od.same {K : PySem.W.Frag} {H H' : Hp} {v : V} (h : Od K H v) (s : Same H H') : Od K H' v := ⟨OdV.same h.1 s, h.2⟩
theorem in5 (z : Str) : inV (.str z) [.str (Str.ofString "inherit"), .str (Str.ofString "act"), .str (Str.ofString "read"), .str (Str.ofString "write"), .str (Str.ofString "call")] = (kindT z).isSome := by
  show ((_ == z) || ((_ == z) || ((_ == z) || ((_ == z) || ((_ == z) || false))))) = _
  unfold kindT
  by_cases h1 : z = Str.ofString "inherit"
  · rw [if_pos h1, h1]; decide +kernel
  · rw [if_neg h1]
    by_cases h2 : z = Str.ofString "act"
    · rw [if_pos h2, h2]; decide +kernel
    · rw [if_neg h2]
      by_cases h3 : z = Str.ofString "read"
      · rw [if_pos h3, h3]; decide +kernel
      · rw [if_neg h3]
        by_cases h4 : z = Str.ofString "write"
        · rw [if_pos h4, h4]; decide +kernel
        · rw [if_neg h4]
          by_cases h5 : z = Str.ofString "call"
          · rw [if_pos h5, h5]; decide +kernel
          · rw [if_neg h5, beq_eq_false_iff_ne.mpr (Ne.symm h1), beq_eq_false_iff_ne.mpr (Ne.symm h2), beq_eq_false_iff_ne.mpr (Ne.symm h3), beq_eq_false_iff_ne.mpr (Ne.symm h4), beq_eq_false_iff_ne.mpr (Ne.symm h5)]
            rfl
section
variable {P : Program} {w : World} {K : PySem.W.Frag} {mg : Str → Option Value} {base : Heap} {f : Addr} {fd : FuncData}
theorem ok_lright (F : Fun K "_law_is_right" "_law_is_right" s__law_is_right f fd) (mi : mg "isinstance" = none) (ms : mg "str" = none) :
    FnOk P w K mg base CX0 1 f fd ["_law_value"] (spS K isRight) := by
  refine F.ok sc__law_is_right spS_len (fun cdv A outer s H vs Q E hr h => ?_)
  obtain ⟨v, rfl, hv, q⟩ := h
  refine ⟨_, PSs.nox (pss_one (ps_ret (pe_and (pe_callB call_isi (by rfl) mi boot_isinstance (pa_cons (pv 0) (pa_cons (pe_bltn (v := .ty "str") (by rfl) ms PyProof.Rows.boot_str rfl) pa_nil)))
    (pe_one (pe_cmpR op_in_seq (pv 0) (pe_lst (pa_cons pe_str (pa_cons pe_str (pa_cons pe_str (pa_cons pe_str (pa_cons pe_str pa_nil)))))) (by rfl)))))), ?_⟩
  obtain ⟨t, ht, hs, hb⟩ := od_ty hv.1
  refine ⟨_, rfl, v, .ty "str", t, .type "str", _, rfl, .ty _, ht, hs, _, rfl, ?_⟩
  cases hS : isS v with
  | false =>
    have e : isRight v = false := by
      cases v with
      | str z => exact absurd (show false = true from (show true = false from hS).symm) Bool.false_ne_true
      | _ => rfl
    rw [e] at q
    exact iteF (q _ same_refl)
  | true =>
    obtain ⟨z, rfl⟩ := isS_str hS
    refine iteT ⟨_, rfl, by show 5 ≤ sizeLine; decide, fun p np => ⟨p, _, rfl, .inl (SqL.of upd_same), rfl, rfl, ?_⟩⟩
    show Q (.bl (if false = true then _ else inV (.str z) _)) _
    rw [if_neg Bool.false_ne_true, in5]
    exact q _ (same_upd np)
theorem ok_ltaker (F : Fun K "_law_is_taker" "_law_is_taker" s__law_is_taker f fd) (N : Df P w K mg base CX0 1 "_law_is_name" ["_law_value"] (spS K isName)) :
    FnOk P w K mg base CX0 2 f fd ["_law_value"] (spS K isTaker) := by
  refine F.ok sc__law_is_taker spS_len (fun cdv A outer s H vs Q E hr h => ?_)
  obtain ⟨v, rfl, hv, q⟩ := h
  refine ⟨_, PSs.nox (pss_one (ps_ret (pe_or (pe_df0 N hr (by rfl) (pa_cons (pv 0) pa_nil)) (pe_one (pe_cmpR (op_odEq (Nat.lt_of_succ_lt (hu_of hr))) (pv 0) pe_str (nomark _)))))), ?_⟩
  refine ⟨_, rfl, v, rfl, hv, fun H1 s1 => ⟨_, rfl, ?_⟩⟩
  have q : ∀ H', Same H H' → Q (.bl (isName v || isT tPub v)) H' := q
  cases hN : isName v with
  | true => rw [hN] at q; exact iteT (q _ s1)
  | false => rw [hN] at q; exact iteF ⟨_, rfl, _, rfl, OdV.same hv.1 s1, q _ s1⟩
def flagDue (v t : V) : Option (Wd × V) := if isOpt v t then none else some (.flag, v)
def spFlag (K : PySem.W.Frag) : Sp := fun vs H Q _ => ∃ v t, vs = [v, t] ∧ Od K H v ∧ Od K H t ∧ Ends2 (flagDue v t) H Q
theorem ok_lflag (F : Fun K "_law_flag_due" "_law_flag_due" s__law_flag_due f fd) (mi : mg "isinstance" = none) (mb : mg "bool" = none) :
    FnOk P w K mg base CX0 1 f fd ["_law_value", "_law_taker"] (spFlag K) := by
  refine F.ok sc__law_flag_due (fun vs H Q E h => by obtain ⟨v, t, rfl, _⟩ := h; rfl) (fun cdv A outer s H vs Q E hr h => ?_)
  obtain ⟨v, t, rfl, hv, ht, q⟩ := h
  refine ⟨_, PSs.nox (pss_cons (ps_if (PW.pt (pw_or (pt_not (pt_val (pe_callB call_isi (by rfl) mi boot_isinstance (pa_cons (pv 0) (pa_cons (pe_bltn (v := .ty "bool") (by rfl) mb PyProof.Rows.boot_bool rfl) pa_nil)))))
      (pw_or1 (PW.pt (pw_and (pt_val (pv 0)) (pw_and1 (pt_cmpR (op_odEq (Nat.lt_of_succ_lt (hu_of hr))) (pv 1) pe_str (nomark _)))))))) (pss_one (ps_ret (pe_lst (pa_cons pe_str (pa_cons (pv 0) pa_nil))))) pss_nil)
    (pss_one (ps_ret (pe_lst (pa_cons pe_str (pa_cons pe_non pa_nil)))))), ?_⟩
  obtain ⟨ty, hty, hs, hb⟩ := od_ty hv.1
  refine ⟨_, rfl, v, .ty "bool", ty, .type "bool", _, rfl, .ty _, hty, hb, _, rfl, ?_⟩
  cases e : isFlag v with
  | false => exact iteT (iteT ⟨_, rfl, by show 2 ≤ sizeLine; decide, fun p np => q.at_ same_refl np (by unfold flagDue isOpt; rw [e]; rfl)⟩)
  | true =>
    cases v with
    | bl b =>
      refine iteF ⟨_, rfl, _, rfl, ?_⟩
      cases b with
      | false => exact iteF (iteF ⟨by show 2 ≤ sizeLine; decide, fun p np => q.at_ same_refl np rfl⟩)
      | true =>
        refine iteT ⟨_, rfl, _, rfl, ht.1, _, rfl, ?_⟩
        have eo : flagDue (.bl true) t = if isT tPub t then some (.flag, .bl true) else none := by
          unfold flagDue
          have : isOpt (.bl true) t = !isT tPub t := by
            show (true && !(decide (V.bl true = V.bl true) && isT tPub t)) = _
            rw [decide_eq_true rfl, Bool.true_and, Bool.true_and]
          rw [this]
          cases isT tPub t <;> rfl
        rw [eo] at q
        show if isT tPub t = true then _ else _
        cases ep : isT tPub t with
        | true => rw [ep] at q; exact iteT ⟨_, rfl, by show 2 ≤ sizeLine; decide, fun p np => q.at_ same_refl np rfl⟩
        | false => rw [ep] at q; exact iteF ⟨by show 2 ≤ sizeLine; decide, fun p np => q.at_ same_refl np rfl⟩
    | _ => exact absurd (show false = true from e) Bool.false_ne_true
end
end K07
set_option maxHeartbeats 4000000
namespace K07
open PySem PySem.Spec PyProof.Rows L2 RL RE RN RM TL
section
variable {P : Program} {w : World} {K : PySem.W.Frag} {mg : Str → Option Value} {base : Heap} {f : Addr} {fd : FuncData}
def takeTail (g o c : V) : Option (Wd × V) := if decide (g = .non) || isName g then if isFlag o then if isFlag c then none else some (.flag, c) else some (.flag, o) else some (.name, g)
def spTakeD (K : PySem.W.Frag) : Sp := fun vs H Q _ => ∃ (p : Addr) (x0 x1 x2 x3 g o c : V), vs = [.ref p] ∧ H p = some (.lst [x0, x1, x2, x3, g, o, c]) ∧ Od K H g ∧ Od K H o ∧ Od K H c ∧ Ends2 (takeTail g o c) H Q
theorem ok_ltake (F : Fun K "_law_take_due" "_law_take_due" s__law_take_due f fd) (N : Df P w K mg base CX0 1 "_law_is_name" ["_law_value"] (spS K isName)) (mi : mg "isinstance" = none) (mb : mg "bool" = none) :
    FnOk P w K mg base CX0 2 f fd ["_law_row"] (spTakeD K) := by
  refine F.ok sc__law_take_due (fun vs H Q E h => by obtain ⟨p, _, _, _, _, _, _, _, rfl, _⟩ := h; rfl) (fun cdv A outer s H vs Q E hr h => ?_)
  obtain ⟨p, x0, x1, x2, x3, g, o, c, rfl, ep, hg, ho, hc, q⟩ := h
  refine ⟨_, PSs.nox (pss_cons (ps_if (PW.pt (pw_and (pt_cmpR op_notN (pe_ix ix_list (pv 0) pe_int (fun _ _ => rfl)) pe_non (by rfl)) (pw_and1 (pt_not (pt_val (pe_df0 N hr (by rfl) (pa_cons (pe_ix ix_list (pv 0) pe_int (fun _ _ => rfl)) pa_nil)))))))
      (pss_one (ps_ret (pe_lst (pa_cons pe_str (pa_cons (pe_ix ix_list (pv 0) pe_int (fun _ _ => rfl)) pa_nil))))) pss_nil)
    (pss_cons (ps_for PassesOwn.never rfl (pi_list (pe_slice sl_list (pv 0) (po_some pe_int) po_none)) (pg_name (i := 1) sc__law_take_due.nd rfl (Or.inl rfl))
      (pss_one (ps_if (pt_not (pt_val (pe_callB call_isi (by rfl) mi boot_isinstance (pa_cons (pv 1) (pa_cons (pe_bltn (v := .ty "bool") (by rfl) mb PyProof.Rows.boot_bool rfl) pa_nil))))) (pss_one (ps_ret (pe_lst (pa_cons pe_str (pa_cons (pv 1) pa_nil))))) pss_nil)))
    (pss_one (ps_ret (pe_lst (pa_cons pe_str (pa_cons pe_non pa_nil))))))), ?_⟩
  refine ⟨_, rfl, p, _, 4, g, rfl, rfl, SqL.of ep, atI_nat (j := 4) rfl, rfl, _, rfl, ?_⟩
  by_cases hn : g = .non
  · rw [decide_eq_true hn]
    refine iteF ?_
    refine iteF ?_
    have h1 : (decide (g = .non) || isName g) = true := by rw [decide_eq_true hn]; rfl
    have s1 : Same H H := same_refl
    refine ⟨_, rfl, 5, rfl, p, _, rfl, SqL.of (s1 _ _ ep), fun pS npS => ?_⟩
    have ec : cutV [x0, x1, x2, x3, g, o, c] (some 5) none = [o, c] := rfl
    rw [ec]
    have eS : (upd H pS (.lst [o, c])) pS = some (.lst [o, c]) := upd_same
    have s2 := s1.trans (same_upd (o := .lst [o, c]) npS)
    generalize upd H pS (.lst [o, c]) = H2 at eS s2 ⊢
    refine ⟨pS, rfl, ⟨_, SqL.of eS⟩, for_list (K := K) (xs := [o, c]) (fun i σ H' => ∃ y, σ = [some (.ref p), y] ∧ Same H2 H' ∧ (1 ≤ i → isFlag o = true) ∧ (2 ≤ i → isFlag c = true)) ⟨_, rfl, same_refl, fun h => absurd h (by decide), fun h => absurd h (by decide)⟩
      (fun i σ H' _ h => by obtain ⟨_, _, sm, _⟩ := h; exact SqL.of (sm _ _ eS)) ?_ ?_⟩
    · intro i x σ H3 hx h
      obtain ⟨y, rfl, s3, i1, i2⟩ := h
      have ox : Od K H3 x := by
        rcases List.mem_cons.mp (List.mem_of_getElem? hx) with e | e
        · rw [e]; exact Od.same ho (s2.trans s3)
        · rw [List.mem_singleton.mp e]; exact Od.same hc (s2.trans s3)
      obtain ⟨ty, hty, hs, hb⟩ := od_ty ox.1
      refine ⟨_, rfl, x, .ty "bool", ty, .type "bool", _, rfl, .ty _, hty, hb, _, rfl, ?_⟩
      cases ex : isFlag x with
      | true =>
        refine iteF ⟨_, rfl, s3, fun h => ?_, fun h => ?_⟩
        · cases i with
          | zero => cases (Option.some.inj hx); exact ex
          | succ j => exact i1 (by omega)
        · cases i with
          | zero => exact absurd h (by decide)
          | succ j =>
            cases j with
            | zero => cases (Option.some.inj hx); exact ex
            | succ k => exact i2 (by omega)
      | false =>
        refine iteT ⟨_, rfl, by show 2 ≤ sizeLine; decide, fun p2 np2 => q.at_ (s2.trans s3) np2 ?_⟩
        unfold takeTail
        rw [h1]
        cases i with
        | zero => cases (Option.some.inj hx); rw [ex]; rfl
        | succ j =>
          cases j with
          | zero =>
            cases (Option.some.inj hx)
            rw [i1 (by omega), ex]
            rfl
          | succ k => cases hx
    · intro σ H3 h
      obtain ⟨y, rfl, s3, i1, i2⟩ := h
      refine ⟨by show 2 ≤ sizeLine; decide, fun p2 np2 => q.at_ (s2.trans s3) np2 ?_⟩
      unfold takeTail
      rw [h1, i1 (show 1 ≤ 2 by decide), i2 (show 2 ≤ 2 by decide)]
      rfl
  · rw [decide_eq_false hn]
    refine iteT ⟨_, rfl, p, _, 4, g, rfl, rfl, SqL.of ep, atI_nat (j := 4) rfl, g, rfl, hg, fun H1 s1 => ⟨_, rfl, ?_⟩⟩
    cases hN : isName g with
    | false =>
      refine iteT ⟨_, rfl, p, _, 4, g, rfl, rfl, SqL.of (s1 _ _ ep), atI_nat (j := 4) rfl, by show 2 ≤ sizeLine; decide, fun p2 np2 => q.at_ s1 np2 ?_⟩
      unfold takeTail
      rw [decide_eq_false hn, hN]
      rfl
    | true =>
    refine iteF ?_
    have h1 : (decide (g = .non) || isName g) = true := by rw [hN, Bool.or_true]
    refine ⟨_, rfl, 5, rfl, p, _, rfl, SqL.of (s1 _ _ ep), fun pS npS => ?_⟩
    have ec : cutV [x0, x1, x2, x3, g, o, c] (some 5) none = [o, c] := rfl
    rw [ec]
    have eS : (upd H1 pS (.lst [o, c])) pS = some (.lst [o, c]) := upd_same
    have s2 := s1.trans (same_upd (o := .lst [o, c]) npS)
    generalize upd H1 pS (.lst [o, c]) = H2 at eS s2 ⊢
    refine ⟨pS, rfl, ⟨_, SqL.of eS⟩, for_list (K := K) (xs := [o, c]) (fun i σ H' => ∃ y, σ = [some (.ref p), y] ∧ Same H2 H' ∧ (1 ≤ i → isFlag o = true) ∧ (2 ≤ i → isFlag c = true)) ⟨_, rfl, same_refl, fun h => absurd h (by decide), fun h => absurd h (by decide)⟩
      (fun i σ H' _ h => by obtain ⟨_, _, sm, _⟩ := h; exact SqL.of (sm _ _ eS)) ?_ ?_⟩
    · intro i x σ H3 hx h
      obtain ⟨y, rfl, s3, i1, i2⟩ := h
      have ox : Od K H3 x := by
        rcases List.mem_cons.mp (List.mem_of_getElem? hx) with e | e
        · rw [e]; exact Od.same ho (s2.trans s3)
        · rw [List.mem_singleton.mp e]; exact Od.same hc (s2.trans s3)
      obtain ⟨ty, hty, hs, hb⟩ := od_ty ox.1
      refine ⟨_, rfl, x, .ty "bool", ty, .type "bool", _, rfl, .ty _, hty, hb, _, rfl, ?_⟩
      cases ex : isFlag x with
      | true =>
        refine iteF ⟨_, rfl, s3, fun h => ?_, fun h => ?_⟩
        · cases i with
          | zero => cases (Option.some.inj hx); exact ex
          | succ j => exact i1 (by omega)
        · cases i with
          | zero => exact absurd h (by decide)
          | succ j =>
            cases j with
            | zero => cases (Option.some.inj hx); exact ex
            | succ k => exact i2 (by omega)
      | false =>
        refine iteT ⟨_, rfl, by show 2 ≤ sizeLine; decide, fun p2 np2 => q.at_ (s2.trans s3) np2 ?_⟩
        unfold takeTail
        rw [h1]
        cases i with
        | zero => cases (Option.some.inj hx); rw [ex]; rfl
        | succ j =>
          cases j with
          | zero =>
            cases (Option.some.inj hx)
            rw [i1 (by omega), ex]
            rfl
          | succ k => cases hx
    · intro σ H3 h
      obtain ⟨y, rfl, s3, i1, i2⟩ := h
      refine ⟨by show 2 ≤ sizeLine; decide, fun p2 np2 => q.at_ (s2.trans s3) np2 ?_⟩
      unfold takeTail
      rw [h1, i1 (show 1 ≤ 2 by decide), i2 (show 2 ≤ 2 by decide)]
      rfl
end
end K07
set_option maxHeartbeats 4000000
namespace K07
open PySem PySem.Spec PyProof.Rows L2 RL RE RN RM TL
abbrev tTab : Str := Str.ofString "table"
abbrev tFun : Str := Str.ofString "function"
theorem Ends2.mono {d : Option (Wd × V)} {H H1 : Hp} {Q : VK} (q : Ends2 d H Q) (s : Same H H1) : Ends2 d H1 Q := fun H' p s' np e => q H' p (s.trans s') (by
  cases e : H p with
  | none => rfl
  | some o => rw [s _ _ e] at np; cases np) e
theorem presetDue_eq (kd r k o : V) : presetDue [kd, r, k, o] = if isMade kd then if onV kd r then if isTaker k then if isOpt o k then none else some (.flag, o) else some (.taker, k) else some (.right, r) else some (.kind, kd) := rfl
theorem giveDue_eq (r t k o : V) : giveDue [r, t, k, o] = if isRight r then if isName t then if isT tCal k || isTaker k then if isOpt o k then none else some (.flag, o) else some (.taker, k) else some (.name, t) else some (.right, r) := rfl
theorem takeDue_eq (r t k g o c : V) : takeDue [r, t, k, g, o, c] = if isRight r then if isName t then if isTaker k then takeTail g o c else some (.taker, k) else some (.name, t) else some (.right, r) := rfl
theorem callDue_eq (f : V) : callDue [f] = if isName f then none else some (.name, f) := rfl
theorem useDue_eq (r t : V) : useDue [r, t] = if isRight r then if isName t then none else some (.name, t) else some (.right, r) := rfl
theorem in_tab (z : Str) : inV (.str z) [.str (Str.ofString "read"), .str (Str.ofString "write")] = decide (kindT z = some tTab) := by
  show ((_ == z) || ((_ == z) || false)) = _
  unfold kindT
  by_cases h1 : z = Str.ofString "inherit"
  · rw [if_pos h1, h1]; decide +kernel
  · rw [if_neg h1]
    by_cases h2 : z = Str.ofString "act"
    · rw [if_pos h2, h2]; decide +kernel
    · rw [if_neg h2]
      by_cases h3 : z = Str.ofString "read"
      · rw [if_pos h3, h3]; decide +kernel
      · rw [if_neg h3]
        by_cases h4 : z = Str.ofString "write"
        · rw [if_pos h4, h4]; decide +kernel
        · rw [if_neg h4, beq_eq_false_iff_ne.mpr (Ne.symm h3), beq_eq_false_iff_ne.mpr (Ne.symm h4)]
          by_cases h5 : z = Str.ofString "call"
          · rw [if_pos h5]; decide +kernel
          · rw [if_neg h5]; decide +kernel
theorem in_fun (z : Str) : inV (.str z) [.str (Str.ofString "call")] = decide (kindT z = some tFun) := by
  show ((_ == z) || false) = _
  unfold kindT
  by_cases h1 : z = Str.ofString "inherit"
  · rw [if_pos h1, h1]; decide +kernel
  · rw [if_neg h1]
    by_cases h2 : z = Str.ofString "act"
    · rw [if_pos h2, h2]; decide +kernel
    · rw [if_neg h2]
      by_cases h3 : z = Str.ofString "read"
      · rw [if_pos h3, h3]; decide +kernel
      · rw [if_neg h3]
        by_cases h4 : z = Str.ofString "write"
        · rw [if_pos h4, h4]; decide +kernel
        · rw [if_neg h4]
          by_cases h5 : z = Str.ofString "call"
          · rw [if_pos h5, h5]; decide +kernel
          · rw [if_neg h5, beq_eq_false_iff_ne.mpr (Ne.symm h5)]; decide +kernel
theorem notS_on {x : V} {z : Str} (h : isS x = false) : isRightOn z x = false := by
  cases x with
  | str z => exact absurd (show false = true from (show true = false from h).symm) Bool.false_ne_true
  | _ => rfl
section
variable {P : Program} {w : World} {K : PySem.W.Frag} {mg : Str → Option Value} {base : Heap} {f : Addr} {fd : FuncData}
def spPresetD (K : PySem.W.Frag) : Sp := fun vs H Q _ => ∃ (p : Addr) (x0 kd r k o : V), vs = [.ref p] ∧ H p = some (.lst [x0, kd, r, k, o]) ∧ Od K H kd ∧ Od K H r ∧ Od K H k ∧ Od K H o ∧ Ends2 (presetDue [kd, r, k, o]) H Q
theorem ok_lpreset (F : Fun K "_law_preset_due" "_law_preset_due" s__law_preset_due f fd) (N : Df P w K mg base CX0 2 "_law_is_taker" ["_law_value"] (spS K isTaker)) (D : Df P w K mg base CX0 1 "_law_flag_due" ["_law_value", "_law_taker"] (spFlag K)) (mi : mg "isinstance" = none) (ms : mg "str" = none) :
    FnOk P w K mg base CX0 3 f fd ["_law_row"] (spPresetD K) := by
  refine F.ok sc__law_preset_due (fun vs H Q E h => by obtain ⟨p, _, _, _, _, _, rfl, _⟩ := h; rfl) (fun cdv A outer s H vs Q E hr h => ?_)
  obtain ⟨p, x0, kd, r, k, o, rfl, ep, hkd, hrr, hk, ho, q⟩ := h
  refine ⟨_, PSs.nox (pss_cons (ps_set (i := 1) sc__law_preset_due.nd rfl (.inl rfl) (pe_disp (pps_cons pe_str (pe_lst (pa_cons pe_str (pa_cons pe_str pa_nil))) (pps_cons pe_str (pe_lst (pa_cons pe_str pa_nil)) pps_nil)) (by rfl) (by rfl) (fun z => by cases z) (by decide)))
    (pss_cons (ps_if (PW.pt (pw_or (pt_not (pt_val (pe_callB call_isi (by rfl) mi boot_isinstance (pa_cons (pe_ix ix_list (pv 0) pe_int (fun _ _ => rfl)) (pa_cons (pe_bltn (v := .ty "str") (by rfl) ms PyProof.Rows.boot_str rfl) pa_nil)))))
        (pw_or1 (pt_cmp (pc_dnotin (hu_of hr) (pe_ix ix_list (pv 0) pe_int (fun _ _ => rfl)) (pv 1)))))) (pss_one (ps_ret (pe_lst (pa_cons pe_str (pa_cons (pe_ix ix_list (pv 0) pe_int (fun _ _ => rfl)) pa_nil))))) pss_nil)
    (pss_cons (ps_if (PW.pt (pw_or (pt_not (pt_val (pe_callB call_isi (by rfl) mi boot_isinstance (pa_cons (pe_ix ix_list (pv 0) pe_int (fun _ _ => rfl)) (pa_cons (pe_bltn (v := .ty "str") (by rfl) ms PyProof.Rows.boot_str rfl) pa_nil)))))
        (pw_or1 (pt_cmpR op_notIn_seq (pe_ix ix_list (pv 0) pe_int (fun _ _ => rfl)) (pe_dget (hu_of hr) (pv 1) (pe_ix ix_list (pv 0) pe_int (fun _ _ => rfl)) (fun _ _ => rfl)) (by rfl))))) (pss_one (ps_ret (pe_lst (pa_cons pe_str (pa_cons (pe_ix ix_list (pv 0) pe_int (fun _ _ => rfl)) pa_nil))))) pss_nil)
    (pss_cons (ps_if (pt_not (pt_val (pe_df0 N hr (by rfl) (pa_cons (pe_ix ix_list (pv 0) pe_int (fun _ _ => rfl)) pa_nil)))) (pss_one (ps_ret (pe_lst (pa_cons pe_str (pa_cons (pe_ix ix_list (pv 0) pe_int (fun _ _ => rfl)) pa_nil))))) pss_nil)
    (pss_one (ps_ret (pe_df0 D (hr.mono (by decide)) (by rfl) (pa_cons (pe_ix ix_list (pv 0) pe_int (fun _ _ => rfl)) (pa_cons (pe_ix ix_list (pv 0) pe_int (fun _ _ => rfl)) pa_nil))))))))), ?_⟩
  refine fun pD npD => ?_
  refine ⟨by show 2 ≤ sizeLine; decide, fun l1 nl1 => ?_⟩
  refine ⟨by show 1 ≤ sizeLine; decide, fun l2 nl2 => ?_⟩
  have n1D : pD ≠ l1 := ne_of_none (upd_same : (upd H pD (.dK [])) pD = _) nl1
  have nH1 : H l1 = none := by rw [upd_ne n1D.symm] at nl1; exact nl1
  have eD0 : (upd (upd H pD (.dK [])) l1 (.lst [.str (Str.ofString "read"), .str (Str.ofString "write")])) pD = some (.dK []) := by rw [upd_ne n1D]; exact upd_same
  have n2D : pD ≠ l2 := ne_of_none eD0 nl2
  have n21 : l1 ≠ l2 := ne_of_none (upd_same : (upd (upd H pD (.dK [])) l1 (.lst [.str (Str.ofString "read"), .str (Str.ofString "write")])) l1 = _) nl2
  have nH2 : H l2 = none := by rw [upd_ne n21.symm, upd_ne n2D.symm] at nl2; exact nl2
  refine ⟨by rw [upd_ne n2D]; exact eD0, [(.inr tTab, .ref l1), (.inr tFun, .ref l2)], rfl, by show 2 ≤ 15; decide, ?_⟩
  have em : mergeK [] [((.inr tTab : Key), V.ref l1), (.inr tFun, .ref l2)] = [(.inr tTab, .ref l1), (.inr tFun, .ref l2)] := rfl
  rw [em]
  have S : Same H (upd (upd (upd (upd H pD (.dK [])) l1 (.lst [.str (Str.ofString "read"), .str (Str.ofString "write")])) l2 (.lst [.str (Str.ofString "call")])) pD (.dK [(.inr tTab, .ref l1), (.inr tFun, .ref l2)])) := fun a o ea => by
    rw [upd_ne (ne_of_none ea npD), upd_ne (ne_of_none ea nH2), upd_ne (ne_of_none ea nH1), upd_ne (ne_of_none ea npD)]
    exact ea
  have eD : (upd (upd (upd (upd H pD (.dK [])) l1 (.lst [.str (Str.ofString "read"), .str (Str.ofString "write")])) l2 (.lst [.str (Str.ofString "call")])) pD (.dK [(.inr tTab, .ref l1), (.inr tFun, .ref l2)])) pD = some (.dK [(.inr tTab, .ref l1), (.inr tFun, .ref l2)]) := upd_same
  have e1 : (upd (upd (upd (upd H pD (.dK [])) l1 (.lst [.str (Str.ofString "read"), .str (Str.ofString "write")])) l2 (.lst [.str (Str.ofString "call")])) pD (.dK [(.inr tTab, .ref l1), (.inr tFun, .ref l2)])) l1 = some (.lst [.str (Str.ofString "read"), .str (Str.ofString "write")]) := by
    rw [upd_ne n1D.symm, upd_ne n21]; exact upd_same
  have e2 : (upd (upd (upd (upd H pD (.dK [])) l1 (.lst [.str (Str.ofString "read"), .str (Str.ofString "write")])) l2 (.lst [.str (Str.ofString "call")])) pD (.dK [(.inr tTab, .ref l1), (.inr tFun, .ref l2)])) l2 = some (.lst [.str (Str.ofString "call")]) := by
    rw [upd_ne n2D.symm]; exact upd_same
  generalize (upd (upd (upd (upd H pD (.dK [])) l1 (.lst [.str (Str.ofString "read"), .str (Str.ofString "write")])) l2 (.lst [.str (Str.ofString "call")])) pD (.dK [(.inr tTab, .ref l1), (.inr tFun, .ref l2)])) = H0 at S eD e1 e2 ⊢
  obtain ⟨t, ht, hs, hb⟩ := od_ty (Od.same hkd S).1
  refine ⟨_, rfl, p, _, 1, kd, rfl, rfl, SqL.of (S _ _ ep), atI_nat (j := 1) rfl, kd, .ty "str", t, .type "str", _, rfl, .ty _, ht, hs, _, rfl, ?_⟩
  cases hS : isS kd with
  | false =>
    refine iteT (iteT ⟨_, rfl, p, _, 1, kd, rfl, rfl, SqL.of (S _ _ ep), atI_nat (j := 1) rfl, by show 2 ≤ sizeLine; decide, fun p2 np2 => q.at_ S np2 ?_⟩)
    rw [presetDue_eq]
    have e : isMade kd = false := by
      cases kd with
      | str z => exact absurd (show false = true from (show true = false from hS).symm) Bool.false_ne_true
      | _ => rfl
    rw [e]
    rfl
  | true =>
    obtain ⟨z, rfl⟩ := isS_str hS
    refine iteF ⟨_, rfl, p, _, 1, .str z, rfl, rfl, SqL.of (S _ _ ep), atI_nat (j := 1) rfl, _, rfl, pD, _, rfl, DGet.k (k := .inr z) eD, _, rfl, ?_⟩
    by_cases hz1 : z = tTab
    · subst hz1
      refine iteF ?_

      obtain ⟨t2, ht2, hs2, hb2⟩ := od_ty (Od.same hrr S).1
      refine ⟨_, rfl, p, _, 2, r, rfl, rfl, SqL.of (S _ _ ep), atI_nat (j := 2) rfl, r, .ty "str", t2, .type "str", _, rfl, .ty _, ht2, hs2, _, rfl, ?_⟩
      cases hS2 : isS r with
      | false =>
        refine iteT (iteT ⟨_, rfl, p, _, 2, r, rfl, rfl, SqL.of (S _ _ ep), atI_nat (j := 2) rfl, by show 2 ≤ sizeLine; decide, fun p2 np2 => q.at_ S np2 ?_⟩)
        rw [presetDue_eq]
        rw [show isMade (.str tTab) = true by decide +kernel, show onV (.str tTab) r = false from notS_on hS2]
        rfl
      | true =>
      obtain ⟨y, rfl⟩ := isS_str hS2
      refine iteF ⟨_, rfl, p, _, 2, .str y, rfl, rfl, SqL.of (S _ _ ep), atI_nat (j := 2) rfl, ?_⟩
      refine ⟨_, rfl, _, rfl, p, _, 1, .str tTab, rfl, rfl, SqL.of (S _ _ ep), atI_nat (j := 1) rfl, pD, .ref l1, rfl, ?_, l1, _, rfl, .inl (SqL.of e1), rfl, rfl, _, rfl, ?_⟩
      · exact .inl ⟨_, .inr tTab, .inl eD, rfl, rfl⟩
      show if (if true = true then !inV (.str y) _ else inV (.str y) _) = true then _ else _
      rw [if_pos rfl, in_tab]
      cases hO : decide (kindT y = some tTab) with
      | false =>
        refine iteT ⟨_, rfl, p, _, 2, .str y, rfl, rfl, SqL.of (S _ _ ep), atI_nat (j := 2) rfl, by show 2 ≤ sizeLine; decide, fun p2 np2 => q.at_ S np2 ?_⟩
        rw [presetDue_eq]
        rw [show isMade (.str tTab) = true by decide +kernel, show onV (.str tTab) (.str y) = false from hO]
        rfl
      | true =>
      refine iteF ⟨_, rfl, p, _, 3, k, rfl, rfl, SqL.of (S _ _ ep), atI_nat (j := 3) rfl, k, rfl, Od.same hk S, fun H1 s1 => ⟨_, rfl, ?_⟩⟩
      have S1 := S.trans s1
      cases hT : isTaker k with
      | false =>
        refine iteT ⟨_, rfl, p, _, 3, k, rfl, rfl, SqL.of (S1 _ _ ep), atI_nat (j := 3) rfl, by show 2 ≤ sizeLine; decide, fun p2 np2 => q.at_ S1 np2 ?_⟩
        rw [presetDue_eq]
        rw [show isMade (.str tTab) = true by decide +kernel, show onV (.str tTab) (.str y) = true from hO, hT]
        rfl
      | true =>
      refine iteF ⟨_, rfl, p, _, 4, o, rfl, rfl, SqL.of (S1 _ _ ep), atI_nat (j := 4) rfl, _, rfl, p, _, 3, k, rfl, rfl, SqL.of (S1 _ _ ep), atI_nat (j := 3) rfl, o, k, rfl, Od.same ho S1, Od.same hk S1, ?_⟩
      have e : presetDue [.str tTab, .str y, k, o] = flagDue o k := by
        rw [presetDue_eq]
        unfold flagDue
        rw [show isMade (.str tTab) = true by decide +kernel, show onV (.str tTab) (.str y) = true from hO, hT]
        rfl
      rw [e] at q
      exact q.mono S1

    · by_cases hz2 : z = tFun
      case neg =>
        have ev : valV [((.inr tTab : Key), V.ref l1), (.inr tFun, .ref l2)] (.inr z) = none := by
          unfold valV
          rw [List.find?_cons, decide_eq_false (fun e => hz1 (Sum.inr.inj e).symm), List.find?_cons, decide_eq_false (fun e => hz2 (Sum.inr.inj e).symm)]
          rfl
        rw [ev]
        refine iteT ⟨_, rfl, p, _, 1, .str z, rfl, rfl, SqL.of (S _ _ ep), atI_nat (j := 1) rfl, by show 2 ≤ sizeLine; decide, fun p2 np2 => q.at_ S np2 ?_⟩
        rw [presetDue_eq]
        rw [show isMade (.str z) = false by
          show ((z == tTab) || (z == tFun)) = false
          rw [beq_eq_false_iff_ne.mpr hz1, beq_eq_false_iff_ne.mpr hz2]; rfl]
        rfl
      subst hz2
      refine iteF ?_

      obtain ⟨t2, ht2, hs2, hb2⟩ := od_ty (Od.same hrr S).1
      refine ⟨_, rfl, p, _, 2, r, rfl, rfl, SqL.of (S _ _ ep), atI_nat (j := 2) rfl, r, .ty "str", t2, .type "str", _, rfl, .ty _, ht2, hs2, _, rfl, ?_⟩
      cases hS2 : isS r with
      | false =>
        refine iteT (iteT ⟨_, rfl, p, _, 2, r, rfl, rfl, SqL.of (S _ _ ep), atI_nat (j := 2) rfl, by show 2 ≤ sizeLine; decide, fun p2 np2 => q.at_ S np2 ?_⟩)
        rw [presetDue_eq]
        rw [show isMade (.str tFun) = true by decide +kernel, show onV (.str tFun) r = false from notS_on hS2]
        rfl
      | true =>
      obtain ⟨y, rfl⟩ := isS_str hS2
      refine iteF ⟨_, rfl, p, _, 2, .str y, rfl, rfl, SqL.of (S _ _ ep), atI_nat (j := 2) rfl, ?_⟩
      refine ⟨_, rfl, _, rfl, p, _, 1, .str tFun, rfl, rfl, SqL.of (S _ _ ep), atI_nat (j := 1) rfl, pD, .ref l2, rfl, ?_, l2, _, rfl, .inl (SqL.of e2), rfl, rfl, _, rfl, ?_⟩
      · exact .inl ⟨_, .inr tFun, .inl eD, rfl, rfl⟩
      show if (if true = true then !inV (.str y) _ else inV (.str y) _) = true then _ else _
      rw [if_pos rfl, in_fun]
      cases hO : decide (kindT y = some tFun) with
      | false =>
        refine iteT ⟨_, rfl, p, _, 2, .str y, rfl, rfl, SqL.of (S _ _ ep), atI_nat (j := 2) rfl, by show 2 ≤ sizeLine; decide, fun p2 np2 => q.at_ S np2 ?_⟩
        rw [presetDue_eq]
        rw [show isMade (.str tFun) = true by decide +kernel, show onV (.str tFun) (.str y) = false from hO]
        rfl
      | true =>
      refine iteF ⟨_, rfl, p, _, 3, k, rfl, rfl, SqL.of (S _ _ ep), atI_nat (j := 3) rfl, k, rfl, Od.same hk S, fun H1 s1 => ⟨_, rfl, ?_⟩⟩
      have S1 := S.trans s1
      cases hT : isTaker k with
      | false =>
        refine iteT ⟨_, rfl, p, _, 3, k, rfl, rfl, SqL.of (S1 _ _ ep), atI_nat (j := 3) rfl, by show 2 ≤ sizeLine; decide, fun p2 np2 => q.at_ S1 np2 ?_⟩
        rw [presetDue_eq]
        rw [show isMade (.str tFun) = true by decide +kernel, show onV (.str tFun) (.str y) = true from hO, hT]
        rfl
      | true =>
      refine iteF ⟨_, rfl, p, _, 4, o, rfl, rfl, SqL.of (S1 _ _ ep), atI_nat (j := 4) rfl, _, rfl, p, _, 3, k, rfl, rfl, SqL.of (S1 _ _ ep), atI_nat (j := 3) rfl, o, k, rfl, Od.same ho S1, Od.same hk S1, ?_⟩
      have e : presetDue [.str tFun, .str y, k, o] = flagDue o k := by
        rw [presetDue_eq]
        unfold flagDue
        rw [show isMade (.str tFun) = true by decide +kernel, show onV (.str tFun) (.str y) = true from hO, hT]
        rfl
      rw [e] at q
      exact q.mono S1

end
end K07
set_option maxHeartbeats 4000000
namespace K07
open PySem PySem.Spec PyProof.Rows L2 RL RE RN RM TL
def rowDue (kd : Str) (xs : List V) : Option (Wd × V) :=
  if kd = tGive then giveDue xs else if kd = tTake then takeDue xs else if kd = tCall then callDue xs else if kd = tPreset then presetDue xs else useDue xs
theorem rd_give (xs : List V) : rowDue tGive xs = giveDue xs := if_pos rfl
theorem rd_take (xs : List V) : rowDue tTake xs = takeDue xs := by
  unfold rowDue
  rw [if_neg (by decide +kernel), if_pos rfl]
theorem rd_call (xs : List V) : rowDue tCall xs = callDue xs := by
  unfold rowDue
  rw [if_neg (by decide +kernel), if_neg (by decide +kernel), if_pos rfl]
theorem rd_preset (xs : List V) : rowDue tPreset xs = presetDue xs := by
  unfold rowDue
  rw [if_neg (by decide +kernel), if_neg (by decide +kernel), if_neg (by decide +kernel), if_pos rfl]
theorem rd_use (xs : List V) : rowDue tUse xs = useDue xs := by
  unfold rowDue
  rw [if_neg (by decide +kernel), if_neg (by decide +kernel), if_neg (by decide +kernel), if_neg (by decide +kernel)]
theorem len1 {xs : List V} (h : xs.length = 1) : ∃ a, xs = [a] := match xs, h with
  | [a], _ => ⟨a, rfl⟩
theorem len2 {xs : List V} (h : xs.length = 2) : ∃ a b, xs = [a, b] := match xs, h with
  | [a, b], _ => ⟨a, b, rfl⟩
theorem len4 {xs : List V} (h : xs.length = 4) : ∃ a b c d, xs = [a, b, c, d] := match xs, h with
  | [a, b, c, d], _ => ⟨a, b, c, d, rfl⟩
theorem len6 {xs : List V} (h : xs.length = 6) : ∃ a b c d e f, xs = [a, b, c, d, e, f] := match xs, h with
  | [a, b, c, d, e, f], _ => ⟨a, b, c, d, e, f, rfl⟩
section
variable {P : Program} {w : World} {K : PySem.W.Frag} {mg : Str → Option Value} {base : Heap} {f : Addr} {fd : FuncData}
def spDue (K : PySem.W.Frag) : Sp := fun vs H Q _ => ∃ (p : Addr) (kd : Str) (xs : List V), vs = [.ref p] ∧ H p = some (.lst (.str kd :: xs)) ∧ Kd kd xs.length ∧ (∀ x ∈ xs, Od K H x) ∧ Ends2 (rowDue kd xs) H Q
theorem ok_ldue (F : Fun K "_law_due" "_law_due" s__law_due f fd) (N : Df P w K mg base CX0 1 "_law_is_name" ["_law_value"] (spS K isName)) (R : Df P w K mg base CX0 1 "_law_is_right" ["_law_value"] (spS K isRight)) (T : Df P w K mg base CX0 2 "_law_is_taker" ["_law_value"] (spS K isTaker))
    (D : Df P w K mg base CX0 1 "_law_flag_due" ["_law_value", "_law_taker"] (spFlag K)) (TD : Df P w K mg base CX0 2 "_law_take_due" ["_law_row"] (spTakeD K)) (PD : Df P w K mg base CX0 3 "_law_preset_due" ["_law_row"] (spPresetD K)) :
    FnOk P w K mg base CX0 4 f fd ["_law_row"] (spDue K) := by
  refine F.ok sc__law_due (fun vs H Q E h => by obtain ⟨p, _, _, rfl, _⟩ := h; rfl) (fun cdv A outer s H vs Q E hr h => ?_)
  obtain ⟨p, kd, xs, rfl, ep, kl, ho, q⟩ := h
  have hr1 := hr.mono (show 1 ≤ 3 by decide)
  have hr2 := hr.mono (show 2 ≤ 3 by decide)
  refine ⟨_, PSs.nox (pss_cons (ps_if (pt_cmpR op_eq (pe_ix ix_list (pv 0) pe_int (fun _ _ => rfl)) pe_str (nomark _)) (pss_one (ps_ret (pe_ifExp (pt_val (pe_df0 N hr1 (by rfl) (pa_cons (pe_ix ix_list (pv 0) pe_int (fun _ _ => rfl)) pa_nil))) (pe_lst (pa_cons pe_str (pa_cons pe_non pa_nil))) (pe_lst (pa_cons pe_str (pa_cons (pe_ix ix_list (pv 0) pe_int (fun _ _ => rfl)) pa_nil)))))) pss_nil)
    (pss_cons (ps_if (pt_cmpR op_eq (pe_ix ix_list (pv 0) pe_int (fun _ _ => rfl)) pe_str (nomark _)) (pss_one (ps_ret (pe_df0 PD hr (by rfl) (pa_cons (pv 0) pa_nil)))) pss_nil)
    (pss_cons (ps_if (pt_not (pt_val (pe_df0 R hr1 (by rfl) (pa_cons (pe_ix ix_list (pv 0) pe_int (fun _ _ => rfl)) pa_nil)))) (pss_one (ps_ret (pe_lst (pa_cons pe_str (pa_cons (pe_ix ix_list (pv 0) pe_int (fun _ _ => rfl)) pa_nil))))) pss_nil)
    (pss_cons (ps_if (pt_not (pt_val (pe_df0 N hr1 (by rfl) (pa_cons (pe_ix ix_list (pv 0) pe_int (fun _ _ => rfl)) pa_nil)))) (pss_one (ps_ret (pe_lst (pa_cons pe_str (pa_cons (pe_ix ix_list (pv 0) pe_int (fun _ _ => rfl)) pa_nil))))) pss_nil)
    (pss_cons (ps_if (pt_cmpR op_eq (pe_ix ix_list (pv 0) pe_int (fun _ _ => rfl)) pe_str (nomark _)) (pss_one (ps_ret (pe_lst (pa_cons pe_str (pa_cons pe_non pa_nil))))) pss_nil)
    (pss_cons (ps_if (PW.pt (pw_and (pt_not (pt_val (pe_df0 T hr2 (by rfl) (pa_cons (pe_ix ix_list (pv 0) pe_int (fun _ _ => rfl)) pa_nil)))) (pw_and1 (pt_not (PW.pt (pw_and (pt_cmpR op_eq (pe_ix ix_list (pv 0) pe_int (fun _ _ => rfl)) pe_str (nomark _)) (pw_and1 (pt_cmpR (op_odEq (Nat.lt_of_succ_lt (hu_of hr))) (pe_ix ix_list (pv 0) pe_int (fun _ _ => rfl)) pe_str (nomark _)))))))))
      (pss_one (ps_ret (pe_lst (pa_cons pe_str (pa_cons (pe_ix ix_list (pv 0) pe_int (fun _ _ => rfl)) pa_nil))))) pss_nil)
    (pss_one (ps_ret (pe_ifExp (pt_cmpR op_eq (pe_ix ix_list (pv 0) pe_int (fun _ _ => rfl)) pe_str (nomark _)) (pe_df0 TD hr2 (by rfl) (pa_cons (pv 0) pa_nil)) (pe_df0 D hr1 (by rfl) (pa_cons (pe_ix ix_list (pv 0) pe_int (fun _ _ => rfl)) (pa_cons (pe_ix ix_list (pv 0) pe_int (fun _ _ => rfl)) pa_nil)))))))))))), ?_⟩
  generalize hl : xs.length = ln at kl
  cases kl with
  | give =>
    obtain ⟨r, t, k, o, rfl⟩ : ∃ r t k o, xs = [r, t, k, o] := len4 hl
    rw [rd_give] at q
    have S0 : Same H H := same_refl
    refine ⟨_, rfl, p, _, 0, .str tGive, rfl, rfl, SqL.of (S0 _ _ ep), atI_nat (j := 0) rfl, rfl, _, rfl, ?_⟩
    rw [show decide (V.str tGive = V.str (Str.ofString "call")) = false by decide +kernel]
    refine iteF ⟨_, rfl, p, _, 0, .str tGive, rfl, rfl, SqL.of (S0 _ _ ep), atI_nat (j := 0) rfl, rfl, _, rfl, ?_⟩
    rw [show decide (V.str tGive = V.str (Str.ofString "preset")) = false by decide +kernel]
    refine iteF ⟨_, rfl, p, _, 1, r, rfl, rfl, SqL.of (S0 _ _ ep), atI_nat (j := 1) rfl, r, rfl, Od.same (ho r (by simp)) S0, fun H1 s1 => ⟨_, rfl, ?_⟩⟩
    have S1 := S0.trans s1
    cases h1 : isRight r with
    | false => exact iteT ⟨_, rfl, p, _, 1, r, rfl, rfl, SqL.of (S1 _ _ ep), atI_nat (j := 1) rfl, by show 2 ≤ sizeLine; decide, fun p2 np2 => q.at_ S1 np2 (by rw [giveDue_eq, h1]; rfl)⟩
    | true =>
    refine iteF ⟨_, rfl, p, _, 2, t, rfl, rfl, SqL.of (S1 _ _ ep), atI_nat (j := 2) rfl, t, rfl, Od.same (ho t (by simp)) S1, fun H2 s2 => ⟨_, rfl, ?_⟩⟩
    have S2 := S1.trans s2
    cases h2 : isName t with
    | false => exact iteT ⟨_, rfl, p, _, 2, t, rfl, rfl, SqL.of (S2 _ _ ep), atI_nat (j := 2) rfl, by show 2 ≤ sizeLine; decide, fun p2 np2 => q.at_ S2 np2 (by rw [giveDue_eq, h1, h2]; rfl)⟩
    | true =>
    refine iteF ⟨_, rfl, p, _, 0, .str tGive, rfl, rfl, SqL.of (S2 _ _ ep), atI_nat (j := 0) rfl, rfl, _, rfl, ?_⟩
    rw [show decide (V.str tGive = V.str (Str.ofString "use")) = false by decide +kernel]
    refine iteF ⟨_, rfl, p, _, 3, k, rfl, rfl, SqL.of (S2 _ _ ep), atI_nat (j := 3) rfl, k, rfl, Od.same (ho k (by simp)) S2, fun H3 s3 => ⟨_, rfl, ?_⟩⟩
    have S3 := S2.trans s3
    cases h3 : isTaker k with
    | true =>
      refine iteF (iteF ?_)
      have h34 : (isT tCal k || isTaker k) = true := by rw [h3, Bool.or_true]
      refine ⟨_, rfl, p, _, 0, .str tGive, rfl, rfl, SqL.of (S3 _ _ ep), atI_nat (j := 0) rfl, rfl, _, rfl, ?_⟩
      rw [show decide (V.str tGive = V.str (Str.ofString "take")) = false by decide +kernel]
      have e : giveDue [r, t, k, o] = flagDue o k := by
        rw [giveDue_eq, h1, h2, h34]
        rfl
      rw [e] at q
      exact iteF ⟨_, rfl, p, _, 4, o, rfl, rfl, SqL.of (S3 _ _ ep), atI_nat (j := 4) rfl, _, rfl, p, _, 3, k, rfl, rfl, SqL.of (S3 _ _ ep), atI_nat (j := 3) rfl, o, k, rfl, Od.same (ho o (by simp)) S3, Od.same (ho k (by simp)) S3, q.mono S3⟩
    | false =>
      refine iteT ⟨_, rfl, p, _, 0, .str tGive, rfl, rfl, SqL.of (S3 _ _ ep), atI_nat (j := 0) rfl, rfl, _, rfl, ?_⟩
      rw [show decide (V.str tGive = V.str (Str.ofString "give")) = true by decide +kernel]
      refine iteT ⟨_, rfl, p, _, 3, k, rfl, rfl, SqL.of (S3 _ _ ep), atI_nat (j := 3) rfl, _, rfl, OdV.same (ho k (by simp)).1 S3, _, rfl, ?_⟩
      cases h4 : isT tCal k with
      | true =>
      refine iteF ?_
      have h34 : (isT tCal k || isTaker k) = true := by rw [h4]; rfl
      refine ⟨_, rfl, p, _, 0, .str tGive, rfl, rfl, SqL.of (S3 _ _ ep), atI_nat (j := 0) rfl, rfl, _, rfl, ?_⟩
      rw [show decide (V.str tGive = V.str (Str.ofString "take")) = false by decide +kernel]
      have e : giveDue [r, t, k, o] = flagDue o k := by
        rw [giveDue_eq, h1, h2, h34]
        rfl
      rw [e] at q
      exact iteF ⟨_, rfl, p, _, 4, o, rfl, rfl, SqL.of (S3 _ _ ep), atI_nat (j := 4) rfl, _, rfl, p, _, 3, k, rfl, rfl, SqL.of (S3 _ _ ep), atI_nat (j := 3) rfl, o, k, rfl, Od.same (ho o (by simp)) S3, Od.same (ho k (by simp)) S3, q.mono S3⟩
      | false =>
      exact iteT ⟨_, rfl, p, _, 3, k, rfl, rfl, SqL.of (S3 _ _ ep), atI_nat (j := 3) rfl, by show 2 ≤ sizeLine; decide, fun p2 np2 => q.at_ S3 np2 (by rw [giveDue_eq, h1, h2, h4, h3]; rfl)⟩
  | take =>
    obtain ⟨r, t, k, g, o, c, rfl⟩ : ∃ r t k g o c, xs = [r, t, k, g, o, c] := len6 hl
    rw [rd_take] at q
    have S0 : Same H H := same_refl
    refine ⟨_, rfl, p, _, 0, .str tTake, rfl, rfl, SqL.of (S0 _ _ ep), atI_nat (j := 0) rfl, rfl, _, rfl, ?_⟩
    rw [show decide (V.str tTake = V.str (Str.ofString "call")) = false by decide +kernel]
    refine iteF ⟨_, rfl, p, _, 0, .str tTake, rfl, rfl, SqL.of (S0 _ _ ep), atI_nat (j := 0) rfl, rfl, _, rfl, ?_⟩
    rw [show decide (V.str tTake = V.str (Str.ofString "preset")) = false by decide +kernel]
    refine iteF ⟨_, rfl, p, _, 1, r, rfl, rfl, SqL.of (S0 _ _ ep), atI_nat (j := 1) rfl, r, rfl, Od.same (ho r (by simp)) S0, fun H1 s1 => ⟨_, rfl, ?_⟩⟩
    have S1 := S0.trans s1
    cases h1 : isRight r with
    | false => exact iteT ⟨_, rfl, p, _, 1, r, rfl, rfl, SqL.of (S1 _ _ ep), atI_nat (j := 1) rfl, by show 2 ≤ sizeLine; decide, fun p2 np2 => q.at_ S1 np2 (by rw [takeDue_eq, h1]; rfl)⟩
    | true =>
    refine iteF ⟨_, rfl, p, _, 2, t, rfl, rfl, SqL.of (S1 _ _ ep), atI_nat (j := 2) rfl, t, rfl, Od.same (ho t (by simp)) S1, fun H2 s2 => ⟨_, rfl, ?_⟩⟩
    have S2 := S1.trans s2
    cases h2 : isName t with
    | false => exact iteT ⟨_, rfl, p, _, 2, t, rfl, rfl, SqL.of (S2 _ _ ep), atI_nat (j := 2) rfl, by show 2 ≤ sizeLine; decide, fun p2 np2 => q.at_ S2 np2 (by rw [takeDue_eq, h1, h2]; rfl)⟩
    | true =>
    refine iteF ⟨_, rfl, p, _, 0, .str tTake, rfl, rfl, SqL.of (S2 _ _ ep), atI_nat (j := 0) rfl, rfl, _, rfl, ?_⟩
    rw [show decide (V.str tTake = V.str (Str.ofString "use")) = false by decide +kernel]
    refine iteF ⟨_, rfl, p, _, 3, k, rfl, rfl, SqL.of (S2 _ _ ep), atI_nat (j := 3) rfl, k, rfl, Od.same (ho k (by simp)) S2, fun H3 s3 => ⟨_, rfl, ?_⟩⟩
    have S3 := S2.trans s3
    cases h3 : isTaker k with
    | false =>
      refine iteT ⟨_, rfl, p, _, 0, .str tTake, rfl, rfl, SqL.of (S3 _ _ ep), atI_nat (j := 0) rfl, rfl, _, rfl, ?_⟩
      rw [show decide (V.str tTake = V.str (Str.ofString "give")) = false by decide +kernel]
      exact iteF (iteT ⟨_, rfl, p, _, 3, k, rfl, rfl, SqL.of (S3 _ _ ep), atI_nat (j := 3) rfl, by show 2 ≤ sizeLine; decide, fun p2 np2 => q.at_ S3 np2 (by rw [takeDue_eq, h1, h2, h3]; rfl)⟩)
    | true =>
    refine iteF (iteF ?_)
    refine ⟨_, rfl, p, _, 0, .str tTake, rfl, rfl, SqL.of (S3 _ _ ep), atI_nat (j := 0) rfl, rfl, _, rfl, ?_⟩
    rw [show decide (V.str tTake = V.str (Str.ofString "take")) = true by decide +kernel]
    have e : takeDue [r, t, k, g, o, c] = takeTail g o c := by
      rw [takeDue_eq, h1, h2, h3]; rfl
    rw [e] at q
    exact iteT ⟨_, rfl, p, _, _, _, _, g, o, c, rfl, S3 _ _ ep, Od.same (ho g (by simp)) S3, Od.same (ho o (by simp)) S3, Od.same (ho c (by simp)) S3, q.mono S3⟩
  | use =>
    obtain ⟨r, t, rfl⟩ : ∃ r t, xs = [r, t] := len2 hl
    rw [rd_use] at q
    have S0 : Same H H := same_refl
    refine ⟨_, rfl, p, _, 0, .str tUse, rfl, rfl, SqL.of (S0 _ _ ep), atI_nat (j := 0) rfl, rfl, _, rfl, ?_⟩
    rw [show decide (V.str tUse = V.str (Str.ofString "call")) = false by decide +kernel]
    refine iteF ⟨_, rfl, p, _, 0, .str tUse, rfl, rfl, SqL.of (S0 _ _ ep), atI_nat (j := 0) rfl, rfl, _, rfl, ?_⟩
    rw [show decide (V.str tUse = V.str (Str.ofString "preset")) = false by decide +kernel]
    refine iteF ⟨_, rfl, p, _, 1, r, rfl, rfl, SqL.of (S0 _ _ ep), atI_nat (j := 1) rfl, r, rfl, Od.same (ho r (by simp)) S0, fun H1 s1 => ⟨_, rfl, ?_⟩⟩
    have S1 := S0.trans s1
    cases h1 : isRight r with
    | false => exact iteT ⟨_, rfl, p, _, 1, r, rfl, rfl, SqL.of (S1 _ _ ep), atI_nat (j := 1) rfl, by show 2 ≤ sizeLine; decide, fun p2 np2 => q.at_ S1 np2 (by rw [useDue_eq, h1]; rfl)⟩
    | true =>
    refine iteF ⟨_, rfl, p, _, 2, t, rfl, rfl, SqL.of (S1 _ _ ep), atI_nat (j := 2) rfl, t, rfl, Od.same (ho t (by simp)) S1, fun H2 s2 => ⟨_, rfl, ?_⟩⟩
    have S2 := S1.trans s2
    cases h2 : isName t with
    | false => exact iteT ⟨_, rfl, p, _, 2, t, rfl, rfl, SqL.of (S2 _ _ ep), atI_nat (j := 2) rfl, by show 2 ≤ sizeLine; decide, fun p2 np2 => q.at_ S2 np2 (by rw [useDue_eq, h1, h2]; rfl)⟩
    | true =>
    refine iteF ⟨_, rfl, p, _, 0, .str tUse, rfl, rfl, SqL.of (S2 _ _ ep), atI_nat (j := 0) rfl, rfl, _, rfl, ?_⟩
    rw [show decide (V.str tUse = V.str (Str.ofString "use")) = true by decide +kernel]
    exact iteT ⟨by show 2 ≤ sizeLine; decide, fun p2 np2 => q.at_ S2 np2 (by rw [useDue_eq, h1, h2]; rfl)⟩
  | call =>
    obtain ⟨fn, rfl⟩ : ∃ fn, xs = [fn] := len1 hl
    rw [rd_call] at q
    have S0 : Same H H := same_refl
    refine ⟨_, rfl, p, _, 0, .str tCall, rfl, rfl, SqL.of (S0 _ _ ep), atI_nat (j := 0) rfl, rfl, _, rfl, ?_⟩
    rw [show decide (V.str tCall = V.str (Str.ofString "call")) = true by decide +kernel]
    refine iteT ⟨_, rfl, p, _, 1, fn, rfl, rfl, SqL.of (S0 _ _ ep), atI_nat (j := 1) rfl, fn, rfl, ho fn (by simp), fun H1 s1 => ⟨_, rfl, ?_⟩⟩
    cases h1 : isName fn with
    | true => exact iteT ⟨by show 2 ≤ sizeLine; decide, fun p2 np2 => q.at_ s1 np2 (by rw [callDue_eq, h1]; rfl)⟩
    | false => exact iteF ⟨_, rfl, p, _, 1, fn, rfl, rfl, SqL.of (s1 _ _ ep), atI_nat (j := 1) rfl, by show 2 ≤ sizeLine; decide, fun p2 np2 => q.at_ s1 np2 (by rw [callDue_eq, h1]; rfl)⟩
  | preset =>
    obtain ⟨kd, r, k, o, rfl⟩ : ∃ kd r k o, xs = [kd, r, k, o] := len4 hl
    rw [rd_preset] at q
    have S0 : Same H H := same_refl
    refine ⟨_, rfl, p, _, 0, .str tPreset, rfl, rfl, SqL.of (S0 _ _ ep), atI_nat (j := 0) rfl, rfl, _, rfl, ?_⟩
    rw [show decide (V.str tPreset = V.str (Str.ofString "call")) = false by decide +kernel]
    refine iteF ⟨_, rfl, p, _, 0, .str tPreset, rfl, rfl, SqL.of (S0 _ _ ep), atI_nat (j := 0) rfl, rfl, _, rfl, ?_⟩
    rw [show decide (V.str tPreset = V.str (Str.ofString "preset")) = true by decide +kernel]
    exact iteT ⟨_, rfl, p, _, kd, r, k, o, rfl, ep, ho kd (by simp), ho r (by simp), ho k (by simp), ho o (by simp), q⟩
end
end K07
set_option maxHeartbeats 4000000
namespace K07
open PySem PySem.Spec PyProof.Rows L2 RL RE RN RM TL
theorem ini_of {K : PySem.W.Frag} {C x dx : Addr} {cl : Wd → Addr} {n : Nat} {due : List V → Option (Wd × V)} {xs : List V} {H : Hp} {Q : VK} {E : XK} (nx : H x = none) (nd : H dx = none) (ne : dx ≠ x) (hl : xs.length = n) (ho : ∀ y ∈ xs, Od K H y)
    (q1 : due xs = none → ∀ v H', Same H H' → Q v H') (q2 : ∀ w v, due xs = some (w, v) → ∀ H' d, Same H H' → H' d = some (.xd [("value", v)]) → E (.ref (cl w)) (some d) H') :
    spIni K C cl n due (.ref x :: xs) (upd (upd H dx (.own x)) x (.ins C dx [])) (fun v H3 => v = .non ∧ Q (.ref x) H3) E := by
  have s : Same H (upd (upd H dx (.own x)) x (.ins C dx [])) := fun a o ea => by
    rw [upd_ne (ne_of_none ea nx), upd_ne (ne_of_none ea nd)]
    exact ea
  refine ⟨x, dx, xs, rfl, hl, upd_same, fun y hy => Od.same (ho y hy) s, fun e H' off => ⟨rfl, q1 e _ _ fun a o ea => ?_⟩, fun w v e d nd2 => q2 w v e _ d (s.trans (same_upd nd2)) upd_same⟩
  rw [off a (ne_of_none ea nx)]
  exact s a o ea
/-- a class of deeds -/
structure Dd (P : Program) (w : World) (K : PySem.W.Frag) (mg : Str → Option Value) (base : Heap) (x : Str) (ps : List Str) (cl : Wd → Addr) (n m : Nat) (ks : List Str) (due : List V → Option (Wd × V)) : Prop where
  ex : ∃ (C f : Addr) (fd : FuncData), Mk K C f ∧ FnOk P w K mg base (L2.CX P w) 5 f fd ps (spIni K C cl n due) ∧ mg x = some (.ref C) ∧
    ((ks = [] ∧ Binds K fd ps []) ∨ KBn K fd ps m ks (fun us ws => us ++ ws) (fun vs zs => vs ++ zs))
section
variable {P : Program} {w : World} {K : PySem.W.Frag} {mg : Str → Option Value} {base : Heap} {f : Addr} {fd : FuncData}
def spMade (K : PySem.W.Frag) (cl : Wd → Addr) : Sp := fun vs H Q E => ∃ (p : Addr) (kd : Str) (xs : List V), vs = [.ref p] ∧ H p = some (.lst (.str kd :: xs)) ∧ Kd kd xs.length ∧ (∀ x ∈ xs, Od K H x) ∧
  (rowDue kd xs = none → ∀ v H', Same H H' → Q v H') ∧ (∀ w v, rowDue kd xs = some (w, v) → ∀ H' d, Same H H' → H' d = some (.xd [("value", v)]) → E (.ref (cl w)) (some d) H')
theorem ok_made {cl : Wd → Addr} {CG fG CT fT CC fC CP fP CU fU : Addr} {dG dT dC dP dU : FuncData} (F : Fun K "_law_made" "_law_made" s__law_made f fd)
    (MG : Mk K CG fG) (FG : FnOk P w K mg base (L2.CX P w) 5 fG dG ["self", "right", "thing", "taker", "option"] (spIni K CG cl 4 giveDue)) (gG : mg "Give" = some (.ref CG)) (bG : KBn K dG ["self", "right", "thing", "taker", "option"] 4 ["option"] (fun us ws => us ++ ws) (fun vs zs => vs ++ zs))
    (MT : Mk K CT fT) (FT : FnOk P w K mg base (L2.CX P w) 5 fT dT ["self", "right", "thing", "taker", "giver", "only_option", "cascade"] (spIni K CT cl 6 takeDue)) (gT : mg "Take" = some (.ref CT)) (bT : KBn K dT ["self", "right", "thing", "taker", "giver", "only_option", "cascade"] 4 ["giver", "only_option", "cascade"] (fun us ws => us ++ ws) (fun vs zs => vs ++ zs))
    (MC : Mk K CC fC) (FC : FnOk P w K mg base (L2.CX P w) 5 fC dC ["self", "function"] (spIni K CC cl 1 callDue)) (gC : mg "Call" = some (.ref CC)) (bC : Binds K dC ["self", "function"] [])
    (MP : Mk K CP fP) (FP : FnOk P w K mg base (L2.CX P w) 5 fP dP ["self", "kind", "right", "taker", "option"] (spIni K CP cl 4 presetDue)) (gP : mg "Preset" = some (.ref CP)) (bP : KBn K dP ["self", "kind", "right", "taker", "option"] 4 ["option"] (fun us ws => us ++ ws) (fun vs zs => vs ++ zs))
    (MU : Mk K CU fU) (FU : FnOk P w K mg base (L2.CX P w) 5 fU dU ["self", "right", "thing"] (spIni K CU cl 2 useDue)) (gU : mg "Use" = some (.ref CU)) (bU : Binds K dU ["self", "right", "thing"] []) :
    FnOk P w K mg base (L2.CX P w) 7 f fd ["_law_row"] (spMade K cl) := by
  refine F.okX sc__law_made (fun vs H Q E h => by obtain ⟨p, _, _, rfl, _⟩ := h; rfl) (fun cdv A outer s H vs Q E hr h => ?_)
  obtain ⟨p, kd, xs, rfl, ep, kl, ho, q1, q2⟩ := h
  have hx := passes_call (takes_of (X := cxOf (L2.CX P w) P w K mg base N__law_made "_law_made" (defScope s__law_made) f cdv A outer s H E) rfl rfl rfl rfl) (E := E) (fun _ _ _ _ h => h)
  refine ⟨_, pss_cons (ps_if (pt_cmpR op_eq (pe_ix ix_list (pv 0) pe_int (fun _ _ => rfl)) pe_str (nomark _)) (pss_one (ps_ret (pe_makeK (n := 3) MG FG hr (by rfl) gG bG hx (pa_cons (pe_ix ix_list (pv 0) pe_int (fun _ _ => rfl)) (pa_cons (pe_ix ix_list (pv 0) pe_int (fun _ _ => rfl)) (pa_cons (pe_ix ix_list (pv 0) pe_int (fun _ _ => rfl)) pa_nil))) (pk_cons (pe_ix ix_list (pv 0) pe_int (fun _ _ => rfl)) pk_nil)))) pss_nil)
    (pss_cons (ps_if (pt_cmpR op_eq (pe_ix ix_list (pv 0) pe_int (fun _ _ => rfl)) pe_str (nomark _)) (pss_one (ps_ret (pe_makeK (n := 3) MT FT hr (by rfl) gT bT hx (pa_cons (pe_ix ix_list (pv 0) pe_int (fun _ _ => rfl)) (pa_cons (pe_ix ix_list (pv 0) pe_int (fun _ _ => rfl)) (pa_cons (pe_ix ix_list (pv 0) pe_int (fun _ _ => rfl)) pa_nil))) (pk_cons (pe_ix ix_list (pv 0) pe_int (fun _ _ => rfl)) (pk_cons (pe_ix ix_list (pv 0) pe_int (fun _ _ => rfl)) (pk_cons (pe_ix ix_list (pv 0) pe_int (fun _ _ => rfl)) pk_nil)))))) pss_nil)
    (pss_cons (ps_if (pt_cmpR op_eq (pe_ix ix_list (pv 0) pe_int (fun _ _ => rfl)) pe_str (nomark _)) (pss_one (ps_ret (pe_make MC FC hr (by rfl) gC bC .nil hx (pa_cons (pe_ix ix_list (pv 0) pe_int (fun _ _ => rfl)) pa_nil)))) pss_nil)
    (pss_cons (ps_if (pt_cmpR op_eq (pe_ix ix_list (pv 0) pe_int (fun _ _ => rfl)) pe_str (nomark _)) (pss_one (ps_ret (pe_makeK (n := 3) MP FP hr (by rfl) gP bP hx (pa_cons (pe_ix ix_list (pv 0) pe_int (fun _ _ => rfl)) (pa_cons (pe_ix ix_list (pv 0) pe_int (fun _ _ => rfl)) (pa_cons (pe_ix ix_list (pv 0) pe_int (fun _ _ => rfl)) pa_nil))) (pk_cons (pe_ix ix_list (pv 0) pe_int (fun _ _ => rfl)) pk_nil)))) pss_nil)
    (pss_one (ps_ret (pe_make MU FU hr (by rfl) gU bU .nil hx (pa_cons (pe_ix ix_list (pv 0) pe_int (fun _ _ => rfl)) (pa_cons (pe_ix ix_list (pv 0) pe_int (fun _ _ => rfl)) pa_nil)))))))), ?_⟩
  generalize hl : xs.length = ln at kl
  cases kl with
  | give =>
    obtain ⟨r, t, k, o, rfl⟩ : ∃ r t k o, xs = [r, t, k, o] := len4 hl
    rw [rd_give] at q1 q2
    refine ⟨_, rfl, p, _, 0, .str tGive, rfl, rfl, SqL.of ep, atI_nat (j := 0) rfl, rfl, _, rfl, ?_⟩
    rw [show decide (V.str tGive = V.str (Str.ofString "give")) = true by decide +kernel]
    exact iteT ⟨_, rfl, p, _, 1, r, rfl, rfl, SqL.of ep, atI_nat (j := 1) rfl, _, rfl, p, _, 2, t, rfl, rfl, SqL.of ep, atI_nat (j := 2) rfl, _, rfl, p, _, 3, k, rfl, rfl, SqL.of ep, atI_nat (j := 3) rfl, _, rfl, p, _, 4, o, rfl, rfl, SqL.of ep, atI_nat (j := 4) rfl, rfl, rfl, fun x dx nx nd ne => ini_of nx nd ne rfl ho q1 q2⟩
  | take =>
    obtain ⟨r, t, k, g, o, c, rfl⟩ : ∃ r t k g o c, xs = [r, t, k, g, o, c] := len6 hl
    rw [rd_take] at q1 q2
    refine ⟨_, rfl, p, _, 0, .str tTake, rfl, rfl, SqL.of ep, atI_nat (j := 0) rfl, rfl, _, rfl, ?_⟩
    rw [show decide (V.str tTake = V.str (Str.ofString "give")) = false by decide +kernel]
    refine iteF ⟨_, rfl, p, _, 0, .str tTake, rfl, rfl, SqL.of ep, atI_nat (j := 0) rfl, rfl, _, rfl, ?_⟩
    rw [show decide (V.str tTake = V.str (Str.ofString "take")) = true by decide +kernel]
    exact iteT ⟨_, rfl, p, _, 1, r, rfl, rfl, SqL.of ep, atI_nat (j := 1) rfl, _, rfl, p, _, 2, t, rfl, rfl, SqL.of ep, atI_nat (j := 2) rfl, _, rfl, p, _, 3, k, rfl, rfl, SqL.of ep, atI_nat (j := 3) rfl, _, rfl, p, _, 4, g, rfl, rfl, SqL.of ep, atI_nat (j := 4) rfl, _, rfl, p, _, 5, o, rfl, rfl, SqL.of ep, atI_nat (j := 5) rfl, _, rfl, p, _, 6, c, rfl, rfl, SqL.of ep, atI_nat (j := 6) rfl, rfl, rfl, fun x dx nx nd ne => ini_of nx nd ne rfl ho q1 q2⟩
  | call =>
    obtain ⟨fn, rfl⟩ : ∃ fn, xs = [fn] := len1 hl
    rw [rd_call] at q1 q2
    refine ⟨_, rfl, p, _, 0, .str tCall, rfl, rfl, SqL.of ep, atI_nat (j := 0) rfl, rfl, _, rfl, ?_⟩
    rw [show decide (V.str tCall = V.str (Str.ofString "give")) = false by decide +kernel]
    refine iteF ⟨_, rfl, p, _, 0, .str tCall, rfl, rfl, SqL.of ep, atI_nat (j := 0) rfl, rfl, _, rfl, ?_⟩
    rw [show decide (V.str tCall = V.str (Str.ofString "take")) = false by decide +kernel]
    refine iteF ⟨_, rfl, p, _, 0, .str tCall, rfl, rfl, SqL.of ep, atI_nat (j := 0) rfl, rfl, _, rfl, ?_⟩
    rw [show decide (V.str tCall = V.str (Str.ofString "call")) = true by decide +kernel]
    exact iteT ⟨_, rfl, p, _, 1, fn, rfl, rfl, SqL.of ep, atI_nat (j := 1) rfl, fun x dx nx nd ne => ini_of nx nd ne rfl ho q1 q2⟩
  | preset =>
    obtain ⟨kd, r, k, o, rfl⟩ : ∃ kd r k o, xs = [kd, r, k, o] := len4 hl
    rw [rd_preset] at q1 q2
    refine ⟨_, rfl, p, _, 0, .str tPreset, rfl, rfl, SqL.of ep, atI_nat (j := 0) rfl, rfl, _, rfl, ?_⟩
    rw [show decide (V.str tPreset = V.str (Str.ofString "give")) = false by decide +kernel]
    refine iteF ⟨_, rfl, p, _, 0, .str tPreset, rfl, rfl, SqL.of ep, atI_nat (j := 0) rfl, rfl, _, rfl, ?_⟩
    rw [show decide (V.str tPreset = V.str (Str.ofString "take")) = false by decide +kernel]
    refine iteF ⟨_, rfl, p, _, 0, .str tPreset, rfl, rfl, SqL.of ep, atI_nat (j := 0) rfl, rfl, _, rfl, ?_⟩
    rw [show decide (V.str tPreset = V.str (Str.ofString "call")) = false by decide +kernel]
    refine iteF ⟨_, rfl, p, _, 0, .str tPreset, rfl, rfl, SqL.of ep, atI_nat (j := 0) rfl, rfl, _, rfl, ?_⟩
    rw [show decide (V.str tPreset = V.str (Str.ofString "preset")) = true by decide +kernel]
    exact iteT ⟨_, rfl, p, _, 1, kd, rfl, rfl, SqL.of ep, atI_nat (j := 1) rfl, _, rfl, p, _, 2, r, rfl, rfl, SqL.of ep, atI_nat (j := 2) rfl, _, rfl, p, _, 3, k, rfl, rfl, SqL.of ep, atI_nat (j := 3) rfl, _, rfl, p, _, 4, o, rfl, rfl, SqL.of ep, atI_nat (j := 4) rfl, rfl, rfl, fun x dx nx nd ne => ini_of nx nd ne rfl ho q1 q2⟩
  | use =>
    obtain ⟨r, t, rfl⟩ : ∃ r t, xs = [r, t] := len2 hl
    rw [rd_use] at q1 q2
    refine ⟨_, rfl, p, _, 0, .str tUse, rfl, rfl, SqL.of ep, atI_nat (j := 0) rfl, rfl, _, rfl, ?_⟩
    rw [show decide (V.str tUse = V.str (Str.ofString "give")) = false by decide +kernel]
    refine iteF ⟨_, rfl, p, _, 0, .str tUse, rfl, rfl, SqL.of ep, atI_nat (j := 0) rfl, rfl, _, rfl, ?_⟩
    rw [show decide (V.str tUse = V.str (Str.ofString "take")) = false by decide +kernel]
    refine iteF ⟨_, rfl, p, _, 0, .str tUse, rfl, rfl, SqL.of ep, atI_nat (j := 0) rfl, rfl, _, rfl, ?_⟩
    rw [show decide (V.str tUse = V.str (Str.ofString "call")) = false by decide +kernel]
    refine iteF ⟨_, rfl, p, _, 0, .str tUse, rfl, rfl, SqL.of ep, atI_nat (j := 0) rfl, rfl, _, rfl, ?_⟩
    rw [show decide (V.str tUse = V.str (Str.ofString "preset")) = false by decide +kernel]
    exact iteF ⟨_, rfl, p, _, 1, r, rfl, rfl, SqL.of ep, atI_nat (j := 1) rfl, _, rfl, p, _, 2, t, rfl, rfl, SqL.of ep, atI_nat (j := 2) rfl, fun x dx nx nd ne => ini_of nx nd ne rfl ho q1 q2⟩
end
end K07
set_option maxHeartbeats 4000000
namespace K07
open PySem PySem.Spec PyProof.Rows L2 RL RE RN RM TL RX
/-- what of the five errors' classes is read where they are caught -/
structure Caught (K : PySem.W.Frag) (mg : Str → Option Value) (cl : Wd → Addr) : Prop where
  g1 : mg "InvalidName" = some (.ref (cl .name))
  g2 : mg "InvalidRight" = some (.ref (cl .right))
  g3 : mg "InvalidTaker" = some (.ref (cl .taker))
  g4 : mg "InvalidFlag" = some (.ref (cl .flag))
  g5 : mg "InvalidKind" = some (.ref (cl .kind))
  ex : ∀ a b, PySem.W.exmOne K (.ref (cl a)) (.ref (cl b)) = some (decide (a = b))
  xf : ∀ a, XfC K (cl a)
  hn : ∀ a, PySem.W.findIn K (.ref (cl a)) "value" = some none
section
variable {P : Program} {w : World} {K : PySem.W.Frag} {mg : Str → Option Value} {base : Heap} {f : Addr} {fd : FuncData}
theorem ok_found {cl : Wd → Addr} (F : Fun K "_law_found" "_law_found" s__law_found f fd) (M : Df P w K mg base (L2.CX P w) 7 "_law_made" ["_law_row"] (spMade K cl)) (G : Caught K mg cl) :
    FnOk P w K mg base CX0 8 f fd ["_law_row"] (spDue K) := by
  refine F.ok sc__law_found (fun vs H Q E h => by obtain ⟨p, _, _, rfl, _⟩ := h; rfl) (fun cdv A outer s H vs Q E hr h => ?_)
  obtain ⟨p, kd, xs, rfl, ep, kl, ho, q⟩ := h
  refine ⟨_, PSs.nox (pss_cons (ps_tryC rfl rfl sc__law_found.nd (fun W pn xe tk _ => pss_one (ps_expr (pe_dfX M tk hr (by rfl) (pa_cons (pv 0) pa_nil))))
      (.cons (q := ⟨.ref (cl .name), 1, fun a cls d => _⟩) rfl rfl ⟨by rfl, by decide, .inl G.g1⟩ (fun a oe cls d pn hz hf => pss_one (ps_ret (pe_lst (pa_cons pe_str (pa_cons (pe_xf (G.xf .name) (G.hn .name) hz hf (pv 1)) pa_nil)))))
      (.cons (q := ⟨.ref (cl .right), 1, fun a cls d => _⟩) rfl rfl ⟨by rfl, by decide, .inl G.g2⟩ (fun a oe cls d pn hz hf => pss_one (ps_ret (pe_lst (pa_cons pe_str (pa_cons (pe_xf (G.xf .right) (G.hn .right) hz hf (pv 1)) pa_nil)))))
      (.cons (q := ⟨.ref (cl .taker), 1, fun a cls d => _⟩) rfl rfl ⟨by rfl, by decide, .inl G.g3⟩ (fun a oe cls d pn hz hf => pss_one (ps_ret (pe_lst (pa_cons pe_str (pa_cons (pe_xf (G.xf .taker) (G.hn .taker) hz hf (pv 1)) pa_nil)))))
      (.cons (q := ⟨.ref (cl .flag), 1, fun a cls d => _⟩) rfl rfl ⟨by rfl, by decide, .inl G.g4⟩ (fun a oe cls d pn hz hf => pss_one (ps_ret (pe_lst (pa_cons pe_str (pa_cons (pe_xf (G.xf .flag) (G.hn .flag) hz hf (pv 1)) pa_nil)))))
      (.cons (q := ⟨.ref (cl .kind), 1, fun a cls d => _⟩) rfl rfl ⟨by rfl, by decide, .inl G.g5⟩ (fun a oe cls d pn hz hf => pss_one (ps_ret (pe_lst (pa_cons pe_str (pa_cons (pe_xf (G.xf .kind) (G.hn .kind) hz hf (pv 1)) pa_nil)))))
      .rest))))))
    (pss_one (ps_ret (pe_lst (pa_cons pe_str (pa_cons pe_non pa_nil)))))), ?_⟩
  refine ⟨_, rfl, p, kd, xs, rfl, ep, kl, ho, fun e v H' s => ⟨by show 2 ≤ sizeLine; decide, fun p2 np2 => q.at_ s np2 (by rw [e]; rfl)⟩, fun w v e H' d s ed => ?_⟩
  cases w with
  | name => exact ⟨true, G.ex .name .name, (fun _ a na => ⟨_, rfl, rfl, rfl, d, _, v, rfl, ed, rfl, by show 2 ≤ sizeLine; decide, fun p2 np2 => q.at_ s np2 (by rw [e]; rfl)⟩), (fun q => nomatch q)⟩
  | right => exact ⟨false, G.ex .right .name, (fun q => nomatch q), fun _ => ⟨true, G.ex .right .right, (fun _ a na => ⟨_, rfl, rfl, rfl, d, _, v, rfl, ed, rfl, by show 2 ≤ sizeLine; decide, fun p2 np2 => q.at_ s np2 (by rw [e]; rfl)⟩), (fun q => nomatch q)⟩⟩
  | taker => exact ⟨false, G.ex .taker .name, (fun q => nomatch q), fun _ => ⟨false, G.ex .taker .right, (fun q => nomatch q), fun _ => ⟨true, G.ex .taker .taker, (fun _ a na => ⟨_, rfl, rfl, rfl, d, _, v, rfl, ed, rfl, by show 2 ≤ sizeLine; decide, fun p2 np2 => q.at_ s np2 (by rw [e]; rfl)⟩), (fun q => nomatch q)⟩⟩⟩
  | flag => exact ⟨false, G.ex .flag .name, (fun q => nomatch q), fun _ => ⟨false, G.ex .flag .right, (fun q => nomatch q), fun _ => ⟨false, G.ex .flag .taker, (fun q => nomatch q), fun _ => ⟨true, G.ex .flag .flag, (fun _ a na => ⟨_, rfl, rfl, rfl, d, _, v, rfl, ed, rfl, by show 2 ≤ sizeLine; decide, fun p2 np2 => q.at_ s np2 (by rw [e]; rfl)⟩), (fun q => nomatch q)⟩⟩⟩⟩
  | kind => exact ⟨false, G.ex .kind .name, (fun q => nomatch q), fun _ => ⟨false, G.ex .kind .right, (fun q => nomatch q), fun _ => ⟨false, G.ex .kind .taker, (fun q => nomatch q), fun _ => ⟨false, G.ex .kind .flag, (fun q => nomatch q), fun _ => ⟨true, G.ex .kind .kind, (fun _ a na => ⟨_, rfl, rfl, rfl, d, _, v, rfl, ed, rfl, by show 2 ≤ sizeLine; decide, fun p2 np2 => q.at_ s np2 (by rw [e]; rfl)⟩), (fun q => nomatch q)⟩⟩⟩⟩⟩
end
end K07
set_option maxHeartbeats 4000000
namespace K07
open PySem PySem.Spec PyProof.Rows L2 RL RE RN RM TL RX RG
abbrev tLate : Str := Str.ofString "late"
/-! ### what is shown -/
structure Sh (K : PySem.W.Frag) (H : Hp) (v : V) (d : PyData) : Prop where
  sd : Sd K H v d
  ok : PyData.showable d = true
  len : (PyData.shown d).length ≤ 3000
  dep : PyData.depth d ≤ 5
theorem txt_len {z : Str} (h : z.length ≤ 100) (o : okS z) : (PyData.shown (.str z)).length ≤ 1002 := by
  have := StrLaws.reprText_len z fun c hc => Nat.lt_trans (o c hc) (by decide)
  show (reprText z).length ≤ 1002
  omega
theorem two_show {w : Str} {d : PyData} (hw : w.length ≤ 100) (ow : okS w) (h1 : PyData.showable d = true) (h2 : (PyData.shown d).length ≤ 3000) (h3 : PyData.depth d ≤ 5) :
    PyData.showable (.list [.str w, d]) = true ∧ (PyData.shown (.list [.str w, d])).length ≤ sizeLine ∧ PyData.depth (.list [.str w, d]) ≤ 60 := by
  refine ⟨by simp [PyData.showable, PyData.showableAll, h1], ?_, by simp [PyData.depth, PyData.depthAll]; omega⟩
  have a := txt_len hw ow
  have b := listText_len_le [PyData.shown (.str w), PyData.shown d]
  simp only [List.map_cons, List.map_nil, List.sum_cons, List.sum_nil, List.length_cons, List.length_nil] at b
  have e : PyData.shown (.list [.str w, d]) = listText [PyData.shown (.str w), PyData.shown d] := by simp [PyData.shown, PyData.shownAll]
  rw [e]
  exact Nat.le_trans b (Nat.le_trans (show _ ≤ 10000 by omega) (by decide))
theorem rd_mem {kd : Str} {n : Nat} {xs : List V} {w : Wd} {v : V} (hl : xs.length = n) (kl : Kd kd n) (h : rowDue kd xs = some (w, v)) : v ∈ xs := by
  cases kl with
  | give =>
    obtain ⟨r, t, k, o, rfl⟩ := len4 hl
    rw [rd_give, giveDue_eq] at h
    repeat' split at h
    all_goals first | (cases h; simp; done) | cases h
  | take =>
    obtain ⟨r, t, k, g, o, c, rfl⟩ := len6 hl
    rw [rd_take, takeDue_eq] at h
    unfold takeTail at h
    repeat' split at h
    all_goals first | (cases h; simp; done) | cases h
  | call =>
    obtain ⟨r, rfl⟩ := len1 hl
    rw [rd_call, callDue_eq] at h
    repeat' split at h
    all_goals first | (cases h; simp; done) | cases h
  | preset =>
    obtain ⟨r, t, k, o, rfl⟩ := len4 hl
    rw [rd_preset, presetDue_eq] at h
    repeat' split at h
    all_goals first | (cases h; simp; done) | cases h
  | use =>
    obtain ⟨r, t, rfl⟩ := len2 hl
    rw [rd_use, useDue_eq] at h
    repeat' split at h
    all_goals first | (cases h; simp; done) | cases h
/-! ### what stands frozen stays -/
def Fz (H H' : Hp) : Prop := ∀ a o u, H a = some (.frz o u) → H' a = some (.frz o u)
theorem Fz.refl {H : Hp} : Fz H H := fun _ _ _ e => e
theorem Fz.same {H H1 H2 : Hp} (h : Fz H H1) (s : Same H1 H2) : Fz H H2 := fun a o u e => s _ _ (h a o u e)
theorem Fz.keep {H H1 H2 : Hp} {b : Addr} {n : Int} (h : Fz H H1) (k : Keep b H1 H2) (hb : Bx H1 b n) : Fz H H2 := fun a o u e => by
  have e1 := h a o u e
  refine k _ _ (fun z => ?_) e1
  subst z
  obtain ⟨g, m, k, eb, _⟩ := hb
  rw [e1] at eb
  cases eb
theorem Fz.lst {H H1 : Hp} {q : Addr} {xs : List V} {o' : HO} (h : Fz H H1) (eq : H1 q = some (.lst xs)) : Fz H (upd H1 q o') := fun a o u e => by
  have e1 := h a o u e
  rw [upd_ne fun z => ?_]
  · exact e1
  · subst z
    rw [e1] at eq
    cases eq
theorem Fz.dk {H H1 : Hp} {q : Addr} {kvs : List (Key × V)} {o' : HO} (h : Fz H H1) (eq : H1 q = some (.dK kvs)) : Fz H (upd H1 q o') := fun a o u e => by
  have e1 := h a o u e
  rw [upd_ne fun z => ?_]
  · exact e1
  · subst z
    rw [e1] at eq
    cases eq
theorem Fz.seq {K : PySem.W.Frag} {H H1 : Hp} {a : Addr} {xs : List V} (h : Fz H H1) (ho : Only H) (hs : SqL K H a xs) : SqL K H1 a xs := by
  rcases hs with hs | hs
  · refine .inl ?_
    rcases hs with e | ⟨o, e⟩
    · rcases ho a with n | ⟨o, ys, n⟩
      · rw [n] at e; cases e
      · rw [n] at e; cases e
    · exact .inr ⟨o, h a o _ e⟩
  · exact .inr hs
end K07
set_option maxHeartbeats 8000000
namespace K07
open PySem PySem.Spec PyProof.Rows L2 RL RE RN RM TL RX RG
section
variable {P : Program} {w : World} {K : PySem.W.Frag} {mg : Str → Option Value} {base : Heap} {f : Addr} {fd : FuncData}
def spLaw (K : PySem.W.Frag) : Sp := fun vs H Q _ => ∃ (a : Addr) (ns : List Int), vs = [.ref a] ∧ SqL K H a (ns.map V.int) ∧ ns.length ≤ 63 ∧ Only H ∧ ∀ H', Q (.bl true) H'
theorem ok_law (F : Fun K "law" "law" s_law f fd) (GC : Df P w K mg base CX0 1 "_law_cell" ["_law_script", "_law_k"] (spCell K)) (GB : Df P w K mg base CX0 1 "_law_box" ["_law_cell_here"] spBox) (GP : Df P w K mg base CX0 3 "_law_parts" ["_law_box_here"] spParts)
    (GF : Df P w K mg base CX0 8 "_law_found" ["_law_row"] (spDue K)) (GD : Df P w K mg base CX0 4 "_law_due" ["_law_row"] (spDue K))
    (mr : mg "range" = none) (mi : mg "isinstance" = none) (ml : mg "len" = none) (mm : mg "max" = none) (mn : mg "min" = none) (mli : mg "list" = none) (md : mg "dict" = none) (mrp : mg "repr" = none) :
    FnG P w K mg base CX0 9 f fd ["_law_script"] (spLaw K) := by
  obtain ⟨oc, od, kV, doc, pm, an, cdv, ct, osl, rfl, lk, hcd⟩ := F.ex
  refine FnG.mk' lk hcd sc_law (fun {vs H Q E} h => by obtain ⟨a, ns, rfl, _⟩ := h; rfl) (fun {A fr s H vs Q E} qt hr h => ?_)
  obtain ⟨a, ns, rfl, hS, hl, hO, q⟩ := h
  have hr1 := hr.mono (show 1 ≤ 8 by decide)
  have hr3 := hr.mono (show 3 ≤ 8 by decide)
  have hr4 := hr.mono (show 4 ≤ 8 by decide)
  refine ⟨_, PSs.nox (pss_cons (ps_for PassesOwn.never rfl (pi_range1 (by rfl) mr (pa_cons (pe_callB (call_max2 rfl) (by rfl) mm PyProof.Rows.boot_max (pa_cons pe_int (pa_cons (pe_callB (call_min2 rfl) (by rfl) mn PyProof.Rows.boot_min (pa_cons pe_int (pa_cons (pe_callB call_len_seq (by rfl) ml PySem.boot_len (pa_cons (pv 0) pa_nil)) pa_nil))) pa_nil))) pa_nil)) (pg_name (i := 1) sc_law.nd rfl (Or.inl rfl))
      (pss_cons (ps_set (i := 2) sc_law.nd rfl (.inl rfl) (pe_df0 GB hr1 (by rfl) (pa_cons (pe_df0 GC hr1 (by rfl) (pa_cons (pv 0) (pa_cons (pv 1) pa_nil))) pa_nil)))
      (pss_one (ps_for PassesOwn.never rfl (pi_range1 (by rfl) mr (pa_cons pe_int pa_nil)) (pg_name (i := 3) sc_law.nd rfl (Or.inl rfl))
        (pss_cons (ps_set (i := 4) sc_law.nd rfl (.inl rfl) (pe_df0 GP hr3 (by rfl) (pa_cons (pv 2) pa_nil)))
        (pss_cons (ps_par (i := 5) (j := 6) rfl sc_law.nd rfl rfl (by decide) rfl rfl (pa_cons (pe_df0 GF hr (by rfl) (pa_cons (pv 4) pa_nil)) (pa_cons (pe_df0 GD hr4 (by rfl) (pa_cons (pv 4) pa_nil)) pa_nil)) (by rfl))
        (pss_cons (ps_if (pt_val (pe_callB call_isi (by rfl) mi boot_isinstance (pa_cons (pe_ix ix_list (pv 6) pe_int (fun _ _ => rfl)) (pa_cons (pe_bltn (v := .ty "list") (by rfl) mli (by decide +kernel) rfl) pa_nil)))) (pss_one (ps_expr (pe_bm PySem.F.plainAttrs_list PySem.F.slot_list_append PySem.F.type_list_append mt_append (pe_ix ix_list (pv 6) pe_int (fun _ _ => rfl)) (pa_cons pe_str pa_nil)))) pss_nil)
        (pss_cons (ps_if (pt_val (pe_callB call_isi (by rfl) mi boot_isinstance (pa_cons (pe_ix ix_list (pv 6) pe_int (fun _ _ => rfl)) (pa_cons (pe_bltn (v := .ty "dict") (by rfl) md (by decide +kernel) rfl) pa_nil)))) (pss_one (ps_dput (hu_of hr) (pe_ix ix_list (pv 6) pe_int (fun _ _ => rfl)) (pe_callB call_lenD (by rfl) ml PySem.boot_len (pa_cons (pe_ix ix_list (pv 6) pe_int (fun _ _ => rfl)) pa_nil)) pe_str rfl)) pss_nil)
        (pss_one (ps_if (pt_cmpR op_ne (pe_callB (call_reprL qt hr) (by rfl) mrp (by decide +kernel) (pa_cons (pv 5) pa_nil)) (pe_callB (call_reprL qt hr) (by rfl) mrp (by decide +kernel) (pa_cons (pv 6) pa_nil)) (by rfl)) (pss_one (ps_ret pe_bl)) pss_nil))))))))))
    (pss_one (ps_ret pe_bl))), ?_⟩
  -- READING
  refine ⟨_, rfl, a, ns.map V.int, rfl, .inl hS, 8, _, rfl, 2, _, rfl, ?_⟩
  obtain ⟨M, eM, m0, m1⟩ : ∃ M : Int, (if (if (((ns.map V.int).length : Nat) : Int) < 8 then (((ns.map V.int).length : Nat) : Int) else 8) > 2 then (if (((ns.map V.int).length : Nat) : Int) < 8 then (((ns.map V.int).length : Nat) : Int) else 8) else 2) = M ∧ 0 ≤ M ∧ M ≤ 8 := ⟨_, rfl, by split <;> (try split) <;> omega, by split <;> (try split) <;> omega⟩
  rw [eM]
  refine ⟨M, rfl, by omega, by omega, for_range (lo := 0) (n := M.toNat) (fun i σ H' => ∃ y1 y2 y3 y4 y5 y6, σ = [some (.ref a), y1, y2, y3, y4, y5, y6] ∧ Fz H H') ⟨_, _, _, _, _, _, rfl, Fz.refl⟩ ?_ ?_⟩
  · intro i σ H1 hi h
    obtain ⟨y1, y2, y3, y4, y5, y6, rfl, fz1⟩ := h
    refine ⟨_, rfl, _, rfl, a, ns, i, by rw [Int.zero_add]; rfl, fz1.seq hO hS, by omega, by omega, fun v => ⟨v, rfl, fun b H2 nb s2 hb2 => ?_⟩⟩
    have fz2 := fz1.same s2
    refine ⟨12, rfl, by decide, by decide, for_range (lo := 0) (n := 12) (fun j σ H' => ∃ y3 y4 y5 y6, σ = [some (.ref a), some (.int (0 + (i : Int))), some (.ref b), y3, y4, y5, y6] ∧ Fz H H' ∧ Bx H' b (20 * (j : Int))) ⟨_, _, _, _, rfl, fz2, hb2.mono (by omega)⟩ ?_ ?_⟩
    · intro j σ H2 hj h
      obtain ⟨y3, y4, y5, y6, rfl, fz2, hb2⟩ := h
      refine ⟨_, rfl, b, 20 * (j : Int), rfl, by omega, by omega, hb2, fun p H3 rp np k3 hb3 => ?_⟩
      have fz3 := fz2.keep k3 hb2
      obtain ⟨kd, xs, ep, kl, av⟩ := rp
      refine ⟨_, rfl, p, kd, xs, rfl, ep, kl, (fun x hx => (av x hx).od), fun H4 p1 s4 np1 e1 => ?_⟩
      refine ⟨_, rfl, p, kd, xs, rfl, s4 _ _ ep, kl, (fun x hx => ((av x hx).same s4).od), fun H5 p2 s5 np2 e2 => ?_⟩
      refine ⟨_, _, rfl, ?_⟩
      have hd : ∃ (wd : Str) (v : V), res (rowDue kd xs) = [.str wd, v] ∧ wd.length ≤ 100 ∧ okS wd ∧ Vl H5 v := by
        cases e : rowDue kd xs with
        | none => exact ⟨_, _, rfl, by decide +kernel, okS_dec (by decide +kernel), .non⟩
        | some wv =>
          obtain ⟨wd, v⟩ := wv
          refine ⟨_, _, rfl, ?_, ?_, ((av v (rd_mem rfl kl e)).same s4).same s5⟩
          · cases wd <;> decide +kernel
          · cases wd <;> exact okS_dec (by decide +kernel)
      obtain ⟨wd, v, er, lw, ow, hv⟩ := hd
      rw [er] at e1 e2
      have e1 := s5 _ _ e1
      have fz5 := (fz3.same s4).same s5
      have hb5 : Bx H5 b (20 * ((j + 1 : Nat) : Int)) := ((hb3.same s4).same s5).mono (by omega)
      have hb5' := hb5
      obtain ⟨bg, bm, bk, eb, _⟩ := hb5'
      cases hv with
      | @str z lz oz =>
        have sh : Sh K H5 (.str z) (.str z) := ⟨.dp (.str _), rfl, Nat.le_trans (txt_len lz oz) (by decide), by simp [PyData.depth]⟩
        have T := two_show lw ow sh.ok sh.len sh.dep
        refine ⟨_, rfl, p2, _, 1, .str z, rfl, rfl, SqL.of e2, atI_nat (j := 1) rfl, .str z, .ty "list", .type "str", .type "list", _, rfl, .ty _, .base (.str z), kit_ty k_str_list, _, rfl, ?_⟩
        refine iteF ⟨_, rfl, p2, _, 1, .str z, rfl, rfl, SqL.of e2, atI_nat (j := 1) rfl, .str z, .ty "dict", .type "str", .type "dict", _, rfl, .ty _, .base (.str z), kit_ty k_str_dict, _, rfl, ?_⟩
        refine iteF ?_
        refine ⟨_, rfl, p1, _, [.str wd, .str z], rfl, SqL.of e1, .txt (.last sh.sd), T.1, T.2.1, T.2.2, _, rfl, p2, _, [.str wd, .str z], rfl, SqL.of e2, .txt (.last sh.sd), T.1, T.2.1, T.2.2, rfl, _, rfl, ?_⟩
        rw [decide_eq_true rfl]
        exact iteF ⟨_, _, _, _, rfl, fz5, hb5⟩
      | bl bb =>
        have sh : Sh K H5 (.bl bb) (.bool bb) := ⟨.dp (.bl _), rfl, by cases bb <;> decide +kernel, by simp [PyData.depth]⟩
        have T := two_show lw ow sh.ok sh.len sh.dep
        refine ⟨_, rfl, p2, _, 1, .bl bb, rfl, rfl, SqL.of e2, atI_nat (j := 1) rfl, .bl bb, .ty "list", .type "bool", .type "list", _, rfl, .ty _, .base (.bl bb), kit_ty k_bool_list, _, rfl, ?_⟩
        refine iteF ⟨_, rfl, p2, _, 1, .bl bb, rfl, rfl, SqL.of e2, atI_nat (j := 1) rfl, .bl bb, .ty "dict", .type "bool", .type "dict", _, rfl, .ty _, .base (.bl bb), kit_ty k_bool_dict, _, rfl, ?_⟩
        refine iteF ?_
        refine ⟨_, rfl, p1, _, [.str wd, .bool bb], rfl, SqL.of e1, .txt (.last sh.sd), T.1, T.2.1, T.2.2, _, rfl, p2, _, [.str wd, .bool bb], rfl, SqL.of e2, .txt (.last sh.sd), T.1, T.2.1, T.2.2, rfl, _, rfl, ?_⟩
        rw [decide_eq_true rfl]
        exact iteF ⟨_, _, _, _, rfl, fz5, hb5⟩
      | non =>
        have sh : Sh K H5 (.non) (.none) := ⟨.dp .non, rfl, by decide +kernel, by simp [PyData.depth]⟩
        have T := two_show lw ow sh.ok sh.len sh.dep
        refine ⟨_, rfl, p2, _, 1, .non, rfl, rfl, SqL.of e2, atI_nat (j := 1) rfl, .non, .ty "list", .type "NoneType", .type "list", _, rfl, .ty _, .base .non, kit_ty k_NoneType_list, _, rfl, ?_⟩
        refine iteF ⟨_, rfl, p2, _, 1, .non, rfl, rfl, SqL.of e2, atI_nat (j := 1) rfl, .non, .ty "dict", .type "NoneType", .type "dict", _, rfl, .ty _, .base .non, kit_ty k_NoneType_dict, _, rfl, ?_⟩
        refine iteF ?_
        refine ⟨_, rfl, p1, _, [.str wd, .none], rfl, SqL.of e1, .txt (.last sh.sd), T.1, T.2.1, T.2.2, _, rfl, p2, _, [.str wd, .none], rfl, SqL.of e2, .txt (.last sh.sd), T.1, T.2.1, T.2.2, rfl, _, rfl, ?_⟩
        rw [decide_eq_true rfl]
        exact iteF ⟨_, _, _, _, rfl, fz5, hb5⟩
      | @int ii h1 h2 =>
        have sh : Sh K H5 (.int ii) (.int ii) := ⟨.dp (.int _), decide_eq_true h1, Nat.le_trans h2 (by decide), by simp [PyData.depth]⟩
        have T := two_show lw ow sh.ok sh.len sh.dep
        refine ⟨_, rfl, p2, _, 1, .int ii, rfl, rfl, SqL.of e2, atI_nat (j := 1) rfl, .int ii, .ty "list", .type "int", .type "list", _, rfl, .ty _, .base (.int ii), kit_ty k_int_list, _, rfl, ?_⟩
        refine iteF ⟨_, rfl, p2, _, 1, .int ii, rfl, rfl, SqL.of e2, atI_nat (j := 1) rfl, .int ii, .ty "dict", .type "int", .type "dict", _, rfl, .ty _, .base (.int ii), kit_ty k_int_dict, _, rfl, ?_⟩
        refine iteF ?_
        refine ⟨_, rfl, p1, _, [.str wd, .int ii], rfl, SqL.of e1, .txt (.last sh.sd), T.1, T.2.1, T.2.2, _, rfl, p2, _, [.str wd, .int ii], rfl, SqL.of e2, .txt (.last sh.sd), T.1, T.2.1, T.2.2, rfl, _, rfl, ?_⟩
        rw [decide_eq_true rfl]
        exact iteF ⟨_, _, _, _, rfl, fz5, hb5⟩
      | @tup qa hq =>
        have sh : Sh K H5 (.ref qa) (.tuple [.str tAnn]) := ⟨.dp (.tup (SqT.of hq) (.cons (.str _) .nil)), rfl, by decide +kernel, by decide +kernel⟩
        have T := two_show lw ow sh.ok sh.len sh.dep
        refine ⟨_, rfl, p2, _, 1, .ref qa, rfl, rfl, SqL.of e2, atI_nat (j := 1) rfl, .ref qa, .ty "list", .type "tuple", .type "list", _, rfl, .ty _, .base (.tup hq), kit_ty k_tuple_list, _, rfl, ?_⟩
        refine iteF ⟨_, rfl, p2, _, 1, .ref qa, rfl, rfl, SqL.of e2, atI_nat (j := 1) rfl, .ref qa, .ty "dict", .type "tuple", .type "dict", _, rfl, .ty _, .base (.tup hq), kit_ty k_tuple_dict, _, rfl, ?_⟩
        refine iteF ?_
        refine ⟨_, rfl, p1, _, [.str wd, .tuple [.str tAnn]], rfl, SqL.of e1, .txt (.last sh.sd), T.1, T.2.1, T.2.2, _, rfl, p2, _, [.str wd, .tuple [.str tAnn]], rfl, SqL.of e2, .txt (.last sh.sd), T.1, T.2.1, T.2.2, rfl, _, rfl, ?_⟩
        rw [decide_eq_true rfl]
        exact iteF ⟨_, _, _, _, rfl, fz5, hb5⟩
      | @lst0 qa hq =>
        have n1 : p1 ≠ qa := fun z => by rw [z, hq] at e1; cases e1
        have n2 : p2 ≠ qa := fun z => by rw [z, hq] at e2; cases e2
        have nb' : b ≠ qa := fun z => by rw [z, hq] at eb; cases eb
        refine ⟨_, rfl, p2, _, 1, .ref qa, rfl, rfl, SqL.of e2, atI_nat (j := 1) rfl, .ref qa, .ty "list", .type "list", .type "list", _, rfl, .ty _, .base (.lst hq), kit_ty k_list_list, _, rfl, ?_⟩
        refine iteT ⟨_, rfl, p2, _, 1, .ref qa, rfl, rfl, SqL.of e2, atI_nat (j := 1) rfl, .inl ⟨rfl, _, .inl (.inl hq)⟩, qa, [], .str tLate, rfl, rfl, hq, by decide, ?_⟩
        have fz6 : Fz H (upd H5 qa (.lst ([] ++ [.str tLate]))) := fz5.lst hq
        have hb6 : Bx (upd H5 qa (.lst ([] ++ [.str tLate]))) b (20 * ((j + 1 : Nat) : Int)) := by
          obtain ⟨g, m, k, e, r⟩ := hb5
          exact ⟨g, m, k, by rw [upd_ne nb']; exact e, r⟩
        have e1' : (upd H5 qa (.lst ([] ++ [.str tLate]))) p1 = _ := (upd_ne n1).trans e1
        have e2' : (upd H5 qa (.lst ([] ++ [.str tLate]))) p2 = _ := (upd_ne n2).trans e2
        have hq' : (upd H5 qa (.lst ([] ++ [.str tLate]))) qa = some (.lst ([] ++ [.str tLate])) := upd_same
        generalize upd H5 qa (.lst ([] ++ [.str tLate])) = H6 at fz6 hb6 e1' e2' hq' ⊢
        have sh : Sh K H6 (.ref qa) (.list [.str tLate]) := ⟨.dp (.lst (SqL.of hq') (.cons (.str _) .nil)), rfl, by decide +kernel, by decide +kernel⟩
        have T := two_show lw ow sh.ok sh.len sh.dep
        refine ⟨_, rfl, p2, _, 1, .ref qa, rfl, rfl, SqL.of e2', atI_nat (j := 1) rfl, .ref qa, .ty "dict", .type "list", .type "dict", _, rfl, .ty _, .base (.lst hq'), kit_ty k_list_dict, _, rfl, ?_⟩
        refine iteF ?_
        refine ⟨_, rfl, p1, _, [.str wd, .list [.str tLate]], rfl, SqL.of e1', .txt (.last sh.sd), T.1, T.2.1, T.2.2, _, rfl, p2, _, [.str wd, .list [.str tLate]], rfl, SqL.of e2', .txt (.last sh.sd), T.1, T.2.1, T.2.2, rfl, _, rfl, ?_⟩
        rw [decide_eq_true rfl]
        exact iteF ⟨_, _, _, _, rfl, fz6, hb6⟩
      | @lst1 qa hq =>
        have n1 : p1 ≠ qa := fun z => by rw [z, hq] at e1; cases e1
        have n2 : p2 ≠ qa := fun z => by rw [z, hq] at e2; cases e2
        have nb' : b ≠ qa := fun z => by rw [z, hq] at eb; cases eb
        refine ⟨_, rfl, p2, _, 1, .ref qa, rfl, rfl, SqL.of e2, atI_nat (j := 1) rfl, .ref qa, .ty "list", .type "list", .type "list", _, rfl, .ty _, .base (.lst hq), kit_ty k_list_list, _, rfl, ?_⟩
        refine iteT ⟨_, rfl, p2, _, 1, .ref qa, rfl, rfl, SqL.of e2, atI_nat (j := 1) rfl, .inl ⟨rfl, _, .inl (.inl hq)⟩, qa, [.str tAnn], .str tLate, rfl, rfl, hq, by decide, ?_⟩
        have fz6 : Fz H (upd H5 qa (.lst ([.str tAnn] ++ [.str tLate]))) := fz5.lst hq
        have hb6 : Bx (upd H5 qa (.lst ([.str tAnn] ++ [.str tLate]))) b (20 * ((j + 1 : Nat) : Int)) := by
          obtain ⟨g, m, k, e, r⟩ := hb5
          exact ⟨g, m, k, by rw [upd_ne nb']; exact e, r⟩
        have e1' : (upd H5 qa (.lst ([.str tAnn] ++ [.str tLate]))) p1 = _ := (upd_ne n1).trans e1
        have e2' : (upd H5 qa (.lst ([.str tAnn] ++ [.str tLate]))) p2 = _ := (upd_ne n2).trans e2
        have hq' : (upd H5 qa (.lst ([.str tAnn] ++ [.str tLate]))) qa = some (.lst ([.str tAnn] ++ [.str tLate])) := upd_same
        generalize upd H5 qa (.lst ([.str tAnn] ++ [.str tLate])) = H6 at fz6 hb6 e1' e2' hq' ⊢
        have sh : Sh K H6 (.ref qa) (.list [.str tAnn, .str tLate]) := ⟨.dp (.lst (SqL.of hq') (.cons (.str _) (.cons (.str _) .nil))), rfl, by decide +kernel, by decide +kernel⟩
        have T := two_show lw ow sh.ok sh.len sh.dep
        refine ⟨_, rfl, p2, _, 1, .ref qa, rfl, rfl, SqL.of e2', atI_nat (j := 1) rfl, .ref qa, .ty "dict", .type "list", .type "dict", _, rfl, .ty _, .base (.lst hq'), kit_ty k_list_dict, _, rfl, ?_⟩
        refine iteF ?_
        refine ⟨_, rfl, p1, _, [.str wd, .list [.str tAnn, .str tLate]], rfl, SqL.of e1', .txt (.last sh.sd), T.1, T.2.1, T.2.2, _, rfl, p2, _, [.str wd, .list [.str tAnn, .str tLate]], rfl, SqL.of e2', .txt (.last sh.sd), T.1, T.2.1, T.2.2, rfl, _, rfl, ?_⟩
        rw [decide_eq_true rfl]
        exact iteF ⟨_, _, _, _, rfl, fz6, hb6⟩
      | @dic qa hq =>
        have n1 : p1 ≠ qa := fun z => by rw [z, hq] at e1; cases e1
        have n2 : p2 ≠ qa := fun z => by rw [z, hq] at e2; cases e2
        have nb' : b ≠ qa := fun z => by rw [z, hq] at eb; cases eb
        refine ⟨_, rfl, p2, _, 1, .ref qa, rfl, rfl, SqL.of e2, atI_nat (j := 1) rfl, .ref qa, .ty "list", .type "dict", .type "list", _, rfl, .ty _, .base (.dK hq), kit_ty k_dict_list, _, rfl, ?_⟩
        refine iteF ⟨_, rfl, p2, _, 1, .ref qa, rfl, rfl, SqL.of e2, atI_nat (j := 1) rfl, .ref qa, .ty "dict", .type "dict", .type "dict", _, rfl, .ty _, .base (.dK hq), kit_ty k_dict_dict, _, rfl, ?_⟩
        refine iteT ⟨_, rfl, p2, _, 1, .ref qa, rfl, rfl, SqL.of e2, atI_nat (j := 1) rfl, _, rfl, p2, _, 1, .ref qa, rfl, rfl, SqL.of e2, atI_nat (j := 1) rfl, qa, [], rfl, hq, qa, _, rfl, .inl ⟨[], .inl 0, hq, rfl, by decide, rfl⟩, ?_⟩
        have ep0 : putK [] (.inl 0 : Key) (V.str tLate) = [(.inl 0, .str tLate)] := rfl
        rw [ep0]
        have fz6 : Fz H (upd H5 qa (.dK [(.inl 0, .str tLate)])) := fz5.dk hq
        have hb6 : Bx (upd H5 qa (.dK [(.inl 0, .str tLate)])) b (20 * ((j + 1 : Nat) : Int)) := by
          obtain ⟨g, m, k, e, r⟩ := hb5
          exact ⟨g, m, k, by rw [upd_ne nb']; exact e, r⟩
        have e1' : (upd H5 qa (.dK [(.inl 0, .str tLate)])) p1 = _ := (upd_ne n1).trans e1
        have e2' : (upd H5 qa (.dK [(.inl 0, .str tLate)])) p2 = _ := (upd_ne n2).trans e2
        have hq' : (upd H5 qa (.dK [(.inl 0, .str tLate)])) qa = some (.dK [(.inl 0, .str tLate)]) := upd_same
        generalize upd H5 qa (.dK [(.inl 0, .str tLate)]) = H6 at fz6 hb6 e1' e2' hq' ⊢
        have sh : Sh K H6 (.ref qa) (.dict [(.int 0, .str tLate)]) := ⟨.dic1 hq', by decide +kernel, by decide +kernel, by decide +kernel⟩
        have T := two_show lw ow sh.ok sh.len sh.dep
        refine ⟨_, rfl, p1, _, [.str wd, .dict [(.int 0, .str tLate)]], rfl, SqL.of e1', .txt (.last sh.sd), T.1, T.2.1, T.2.2, _, rfl, p2, _, [.str wd, .dict [(.int 0, .str tLate)]], rfl, SqL.of e2', .txt (.last sh.sd), T.1, T.2.1, T.2.2, rfl, _, rfl, ?_⟩
        rw [decide_eq_true rfl]
        exact iteF ⟨_, _, _, _, rfl, fz6, hb6⟩
    · intro σ H2 h
      obtain ⟨y3, y4, y5, y6, rfl, fz2, hb2⟩ := h
      exact ⟨_, _, _, _, _, _, rfl, fz2⟩
  · intro σ H1 h
    obtain ⟨y1, y2, y3, y4, y5, y6, rfl, fz1⟩ := h
    exact q H1
end
end K07
set_option maxHeartbeats 4000000
namespace K07
open PySem PySem.Spec PyProof.Rows L2 RL RE RN RM TL RX RG
abbrev tRole : Str := Str.ofString "role"
theorem kr_mk {K : PySem.W.Frag} {w : World} {d : Addr} {n : Nat} {h1 h2 h3 h4 h5 : Int} {t1 t2 t3 t4 t5 u1 u2 u3 u4 u5 : Tok}
    (l : K.lookup d = some ⟨.type "dict", none, .dict #[⟨h1, .str (Str.ofString "inherit") t1, .str tRole u1⟩, ⟨h2, .str (Str.ofString "act") t2, .str tRole u2⟩, ⟨h3, .str (Str.ofString "read") t3, .str tTab u3⟩, ⟨h4, .str (Str.ofString "write") t4, .str tTab u4⟩, ⟨h5, .str (Str.ofString "call") t5, .str tFun u5⟩] n, #[]⟩)
    (k : PySem.W.KeysLit w.params [⟨h1, .str (Str.ofString "inherit") t1, .str tRole u1⟩, ⟨h2, .str (Str.ofString "act") t2, .str tRole u2⟩, ⟨h3, .str (Str.ofString "read") t3, .str tTab u3⟩, ⟨h4, .str (Str.ofString "write") t4, .str tTab u4⟩, ⟨h5, .str (Str.ofString "call") t5, .str tFun u5⟩])
    (lo : (d == sysModules) = false) : KRight K w d := by
  refine ⟨⟨_, n, l, k, lo⟩, fun z => ?_⟩
  unfold PySem.W.nsIn
  rw [l]
  show ∃ r, (match List.find? (fun e : DictEntry => e.key.isStr z) [_, _, _, _, _] with | some e => some (some e.val) | none => _) = some r ∧ _
  have e : ∀ (x : Str) (t : Tok), (Value.str x t).isStr z = (x == z) := fun x t => rfl
  unfold kindT
  simp only [List.find?_cons, List.find?_nil, e]
  by_cases g1 : z = Str.ofString "inherit"
  · subst g1; exact ⟨_, rfl, rfl, fun k e => by cases e; exact ⟨_, rfl⟩⟩
  rw [if_neg g1, beq_eq_false_iff_ne.mpr (Ne.symm g1)]
  by_cases g2 : z = Str.ofString "act"
  · subst g2; exact ⟨_, rfl, rfl, fun k e => by cases e; exact ⟨_, rfl⟩⟩
  rw [if_neg g2, beq_eq_false_iff_ne.mpr (Ne.symm g2)]
  by_cases g3 : z = Str.ofString "read"
  · subst g3; exact ⟨_, rfl, rfl, fun k e => by cases e; exact ⟨_, rfl⟩⟩
  rw [if_neg g3, beq_eq_false_iff_ne.mpr (Ne.symm g3)]
  by_cases g4 : z = Str.ofString "write"
  · subst g4; exact ⟨_, rfl, rfl, fun k e => by cases e; exact ⟨_, rfl⟩⟩
  rw [if_neg g4, beq_eq_false_iff_ne.mpr (Ne.symm g4)]
  by_cases g5 : z = Str.ofString "call"
  · subst g5; exact ⟨_, rfl, rfl, fun k e => by cases e; exact ⟨_, rfl⟩⟩
  rw [if_neg g5, beq_eq_false_iff_ne.mpr (Ne.symm g5)]
  exact ⟨none, rfl, rfl, fun k e => by cases e⟩
theorem exm_of {K : PySem.W.Frag} {S T : Addr} {b : Bool} (h1 : PySem.W.subIn K (.ref S) (.type "BaseException") = some true) (t1 : PySem.W.subIn K (.ref T) (.type "BaseException") = some true) (h2 : PySem.W.isClsIn K T = true) (h3 : PySem.W.typeIn K (.ref T) = some (.type "type")) (h4 : PySem.W.subIn K (.ref S) (.ref T) = some b) :
    PySem.W.exmOne K (.ref S) (.ref T) = some b := by
  have e1 : (PySem.W.subIn K (.ref T) (.type "BaseException") == some true) = true := by rw [t1] <;> rfl
  have e2 : ((PySem.W.clsIn K T).isSome && PySem.W.typeIn K (.ref T) == some (.type "type")) = true := by
    have h2' : (PySem.W.clsIn K T).isSome = true := h2
    rw [h2', h3] <;> rfl
  show (if (PySem.W.subIn K (.ref T) (.type "BaseException") == some true) = true then (if ((PySem.W.clsIn K T).isSome && PySem.W.typeIn K (.ref T) == some (.type "type")) = true then PySem.W.subIn K (.ref S) (.ref T) else none) else none) = some b
  rw [if_pos e1, if_pos e2]
  exact h4
theorem kt_mk {K : PySem.W.Frag} {a : Addr} {od : Option Addr} {sl : Array (Option Value)} {n : Nat} {z1 z2 : Str} {t1 t2 : Tok} (l : K.lookup a = some ⟨.type "tuple", od, .seq #[.str z1 t1, .str z2 t2] n, sl⟩) : KTup K a [z1, z2] :=
  ⟨_, _, _, l, rfl, rfl, by show 2 ≤ sizeLine; decide, .cons ⟨_, rfl⟩ (.cons ⟨_, rfl⟩ .nil)⟩
theorem df_mk {P : Program} {w : World} {K : PySem.W.Frag} {mg : Str → Option Value} {base : Heap} {CX : CXT} {k : Nat} {x : Str} {ps : List Str} {sp : Sp} {f : Addr} {fd : FuncData} (F : FnOk P w K mg base CX k f fd ps sp) (b : Binds K fd ps []) (kp : PySem.W.keepIn K (.ref f) = true) (g : mg x = some (.ref f)) : Df P w K mg base CX k x ps sp := ⟨f, fd, F, b, kp, g⟩
theorem kbn_mk {K : PySem.W.Frag} {qual : Str} {params : Arguments} {body : List Stmt} {scope : Scope} {f : Addr} {fd : FuncData} {ps ks : List Str} {n : Nat} (F : FunD K "__init__" qual params body scope [] [] f fd)
    (h : ∀ (kV doc pm : Value) (an : Option Addr) (cdv ct : Value) (s : Shared) (us ws : List Value), us.length = n → ws.length = ks.length → BindsTo s (PySem.W.fnOf "__init__" qual params body scope .none kV doc pm an cdv ct) ⟨us, ks.zip ws⟩ (ps.zip (us ++ ws))) :
    KBn K fd ps n ks (fun us ws => us ++ ws) (fun vs zs => vs ++ zs) := by
  obtain ⟨oc, od, dV, kV, doc, pm, an, cdv, ct, osl, rfl, lk, hcd, hD, hK⟩ := F.ex
  rcases hD with ⟨_, rfl⟩ | ⟨e, _⟩
  · exact ⟨fun s us ws X h1 h2 => h _ _ _ _ _ _ s us ws h1 h2, fun r1 r2 => r1.append r2⟩
  · exact absurd rfl e
end K07
set_option maxHeartbeats 16000000
namespace K07
open PySem PySem.Spec PyProof.Rows L2 RL RE RN RM TL RX RG
def clOf (a b c d e : Addr) : Wd → Addr
  | .name => a | .right => b | .taker => c | .flag => d | .kind => e
theorem refs_ok {CR : Addr} : PySem.HandSPX.refsVE [.ref CR, .type "ValueError", .type "Exception", .type "BaseException", .type "object"] = true := by
  show PySem.HandSPX.refsVE [.type "ValueError", .type "Exception", .type "BaseException", .type "object"] = true
  decide +kernel
theorem all_mk {l : PySem.W.OpenLaw} {w : World} {K : PySem.W.Frag} {h : Heap} {mg : Str → Option Value} {fa : Addr} (X : K.In h) (G : h.Ns mainGlobals mg) (hfa : mg "law" = some (.ref fa))
    {oc0 kV0 dc0 pm0 cd0 ct0 : Value} {od0 an0 : Option Addr} {sl0 : Array (Option Value)} {f0 : Addr}
    {oc1 kV1 dc1 pm1 cd1 ct1 : Value} {od1 an1 : Option Addr} {sl1 : Array (Option Value)} {f1 : Addr}
    {oc2 kV2 dc2 pm2 cd2 ct2 : Value} {od2 an2 : Option Addr} {sl2 : Array (Option Value)} {f2 : Addr}
    {oc3 kV3 dc3 pm3 cd3 ct3 : Value} {od3 an3 : Option Addr} {sl3 : Array (Option Value)} {f3 : Addr}
    {oc4 kV4 dc4 pm4 cd4 ct4 : Value} {od4 an4 : Option Addr} {sl4 : Array (Option Value)} {f4 : Addr}
    {oc5 kV5 dc5 pm5 cd5 ct5 : Value} {od5 an5 : Option Addr} {sl5 : Array (Option Value)} {f5 : Addr}
    {oc6 kV6 dc6 pm6 cd6 ct6 : Value} {od6 an6 : Option Addr} {sl6 : Array (Option Value)} {f6 : Addr}
    {oc7 kV7 dc7 pm7 cd7 ct7 : Value} {od7 an7 : Option Addr} {sl7 : Array (Option Value)} {f7 : Addr}
    {oc8 kV8 dc8 pm8 cd8 ct8 : Value} {od8 an8 : Option Addr} {sl8 : Array (Option Value)} {f8 : Addr}
    {oc9 kV9 dc9 pm9 cd9 ct9 : Value} {od9 an9 : Option Addr} {sl9 : Array (Option Value)} {f9 : Addr}
    {oc10 kV10 dc10 pm10 cd10 ct10 : Value} {od10 an10 : Option Addr} {sl10 : Array (Option Value)} {f10 : Addr}
    {oc11 kV11 dc11 pm11 cd11 ct11 : Value} {od11 an11 : Option Addr} {sl11 : Array (Option Value)} {f11 : Addr}
    {oc12 kV12 dc12 pm12 cd12 ct12 : Value} {od12 an12 : Option Addr} {sl12 : Array (Option Value)} {f12 : Addr}
    {oc13 kV13 dc13 pm13 cd13 ct13 : Value} {od13 an13 : Option Addr} {sl13 : Array (Option Value)} {f13 : Addr}
    {oc14 kV14 dc14 pm14 cd14 ct14 : Value} {od14 an14 : Option Addr} {sl14 : Array (Option Value)} {f14 : Addr}
    {oc15 kV15 dc15 pm15 cd15 ct15 : Value} {od15 an15 : Option Addr} {sl15 : Array (Option Value)} {f15 : Addr}
    {oc16 kV16 dc16 pm16 cd16 ct16 : Value} {od16 an16 : Option Addr} {sl16 : Array (Option Value)} {f16 : Addr}
    {oc17 kV17 dc17 pm17 cd17 ct17 : Value} {od17 an17 : Option Addr} {sl17 : Array (Option Value)} {f17 : Addr}
    {oc18 kV18 dc18 pm18 cd18 ct18 : Value} {od18 an18 : Option Addr} {sl18 : Array (Option Value)} {f18 : Addr}
    {oc19 kV19 dc19 pm19 cd19 ct19 : Value} {od19 an19 : Option Addr} {sl19 : Array (Option Value)} {f19 : Addr}
    {oc20 kV20 dc20 pm20 cd20 ct20 : Value} {od20 an20 : Option Addr} {sl20 : Array (Option Value)} {f20 : Addr}
    {oc21 kV21 dc21 pm21 cd21 ct21 : Value} {od21 an21 : Option Addr} {sl21 : Array (Option Value)} {f21 : Addr}
    {oc22 kV22 dc22 pm22 cd22 ct22 : Value} {od22 an22 : Option Addr} {sl22 : Array (Option Value)} {f22 : Addr}
    {oc23 kV23 dc23 pm23 cd23 ct23 : Value} {od23 an23 : Option Addr} {sl23 : Array (Option Value)} {f23 : Addr}
    {oc24 kV24 dc24 pm24 cd24 ct24 : Value} {od24 an24 : Option Addr} {sl24 : Array (Option Value)} {f24 : Addr}
    {oc25 kV25 dc25 pm25 cd25 ct25 : Value} {od25 an25 : Option Addr} {sl25 : Array (Option Value)} {f25 : Addr}
    {oc26 kV26 dc26 pm26 cd26 ct26 : Value} {od26 an26 : Option Addr} {sl26 : Array (Option Value)} {f26 : Addr}
    {oc27 kV27 dc27 pm27 cd27 ct27 : Value} {od27 an27 : Option Addr} {sl27 : Array (Option Value)} {f27 : Addr}
    {oc28 kV28 dc28 pm28 cd28 ct28 : Value} {od28 an28 : Option Addr} {sl28 : Array (Option Value)} {f28 : Addr}
    {CR : Addr}
    {CEname : Addr} {nmEname qEname : Str} {NEname : Addr} {bsEname : List Value} {snEname : List Str} {subEname : List Value} {abEname : Bool} {coEname : Option Bool} {ddEname : Option Addr} {m0Ename m1Ename m2Ename m3Ename m5Ename : Option Value}
    {ocEname kVEname dcEname pmEname cdEname ctEname : Value} {odEname anEname : Option Addr} {slEname : Array (Option Value)} {fEname : Addr}
    {CEright : Addr} {nmEright qEright : Str} {NEright : Addr} {bsEright : List Value} {snEright : List Str} {subEright : List Value} {abEright : Bool} {coEright : Option Bool} {ddEright : Option Addr} {m0Eright m1Eright m2Eright m3Eright m5Eright : Option Value}
    {ocEright kVEright dcEright pmEright cdEright ctEright : Value} {odEright anEright : Option Addr} {slEright : Array (Option Value)} {fEright : Addr}
    {CEtaker : Addr} {nmEtaker qEtaker : Str} {NEtaker : Addr} {bsEtaker : List Value} {snEtaker : List Str} {subEtaker : List Value} {abEtaker : Bool} {coEtaker : Option Bool} {ddEtaker : Option Addr} {m0Etaker m1Etaker m2Etaker m3Etaker m5Etaker : Option Value}
    {ocEtaker kVEtaker dcEtaker pmEtaker cdEtaker ctEtaker : Value} {odEtaker anEtaker : Option Addr} {slEtaker : Array (Option Value)} {fEtaker : Addr}
    {CEflag : Addr} {nmEflag qEflag : Str} {NEflag : Addr} {bsEflag : List Value} {snEflag : List Str} {subEflag : List Value} {abEflag : Bool} {coEflag : Option Bool} {ddEflag : Option Addr} {m0Eflag m1Eflag m2Eflag m3Eflag m5Eflag : Option Value}
    {ocEflag kVEflag dcEflag pmEflag cdEflag ctEflag : Value} {odEflag anEflag : Option Addr} {slEflag : Array (Option Value)} {fEflag : Addr}
    {CEkind : Addr} {nmEkind qEkind : Str} {NEkind : Addr} {bsEkind : List Value} {snEkind : List Str} {subEkind : List Value} {abEkind : Bool} {coEkind : Option Bool} {ddEkind : Option Addr} {m0Ekind m1Ekind m2Ekind m3Ekind m5Ekind : Option Value}
    {ocEkind kVEkind dcEkind pmEkind cdEkind ctEkind : Value} {odEkind anEkind : Option Addr} {slEkind : Array (Option Value)} {fEkind : Addr}
    {CDGive : Addr}
    {ocDGive kVDGive dcDGive pmDGive cdDGive ctDGive : Value} {odDGive anDGive : Option Addr} {slDGive : Array (Option Value)} {fDGive : Addr}
    {CDTake : Addr}
    {ocDTake kVDTake dcDTake pmDTake cdDTake ctDTake : Value} {odDTake anDTake : Option Addr} {slDTake : Array (Option Value)} {fDTake : Addr}
    {CDCall : Addr}
    {ocDCall kVDCall dcDCall pmDCall cdDCall ctDCall : Value} {odDCall anDCall : Option Addr} {slDCall : Array (Option Value)} {fDCall : Addr}
    {CDPreset : Addr}
    {ocDPreset kVDPreset dcDPreset pmDPreset cdDPreset ctDPreset : Value} {odDPreset anDPreset : Option Addr} {slDPreset : Array (Option Value)} {fDPreset : Addr}
    {CDUse : Addr}
    {ocDUse kVDUse dcDUse pmDUse cdDUse ctDUse : Value} {odDUse anDUse : Option Addr} {slDUse : Array (Option Value)} {fDUse : Addr}
    {tL t1 t2 t3 t4 : Tok} {aRs aMs dK : Addr} {oy1 oy2 : Option Addr} {sy1 sy2 : Array (Option Value)} {nn1 nn2 nnK : Nat} {h1 h2 h3 h4 h5 : Int} {ta tb tc td te ua ub uc ud ue : Tok}
    (a0 : PySem.W.nsIn K mainGlobals "is_name" = some (some (.ref f0)))
    (l0 : K.lookup f0 = some ⟨oc0, od0, .func (PySem.W.fnOf "is_name" "is_name" (defArgs s_is_name) (defBody s_is_name) (defScope s_is_name) .none kV0 dc0 pm0 an0 cd0 ct0), sl0⟩)
    (c0 : PySem.W.codeIn K cd0 "is_name" = true)
    (k0 : PySem.W.keepIn K (.ref f0) = true)
    (a1 : PySem.W.nsIn K mainGlobals "is_taker" = some (some (.ref f1)))
    (l1 : K.lookup f1 = some ⟨oc1, od1, .func (PySem.W.fnOf "is_taker" "is_taker" (defArgs s_is_taker) (defBody s_is_taker) (defScope s_is_taker) .none kV1 dc1 pm1 an1 cd1 ct1), sl1⟩)
    (c1 : PySem.W.codeIn K cd1 "is_taker" = true)
    (k1 : PySem.W.keepIn K (.ref f1) = true)
    (a2 : PySem.W.nsIn K mainGlobals "is_right" = some (some (.ref f2)))
    (l2 : K.lookup f2 = some ⟨oc2, od2, .func (PySem.W.fnOf "is_right" "is_right" (defArgs s_is_right) (defBody s_is_right) (defScope s_is_right) .none kV2 dc2 pm2 an2 cd2 ct2), sl2⟩)
    (c2 : PySem.W.codeIn K cd2 "is_right" = true)
    (k2 : PySem.W.keepIn K (.ref f2) = true)
    (a3 : PySem.W.nsIn K mainGlobals "is_made_kind" = some (some (.ref f3)))
    (l3 : K.lookup f3 = some ⟨oc3, od3, .func (PySem.W.fnOf "is_made_kind" "is_made_kind" (defArgs s_is_made_kind) (defBody s_is_made_kind) (defScope s_is_made_kind) .none kV3 dc3 pm3 an3 cd3 ct3), sl3⟩)
    (c3 : PySem.W.codeIn K cd3 "is_made_kind" = true)
    (k3 : PySem.W.keepIn K (.ref f3) = true)
    (a4 : PySem.W.nsIn K mainGlobals "is_flag" = some (some (.ref f4)))
    (l4 : K.lookup f4 = some ⟨oc4, od4, .func (PySem.W.fnOf "is_flag" "is_flag" (defArgs s_is_flag) (defBody s_is_flag) (defScope s_is_flag) .none kV4 dc4 pm4 an4 cd4 ct4), sl4⟩)
    (c4 : PySem.W.codeIn K cd4 "is_flag" = true)
    (k4 : PySem.W.keepIn K (.ref f4) = true)
    (a5 : PySem.W.nsIn K mainGlobals "kind_of" = some (some (.ref f5)))
    (l5 : K.lookup f5 = some ⟨oc5, od5, .func (PySem.W.fnOf "kind_of" "kind_of" (defArgs s_kind_of) (defBody s_kind_of) (defScope s_kind_of) .none kV5 dc5 pm5 an5 cd5 ct5), sl5⟩)
    (c5 : PySem.W.codeIn K cd5 "kind_of" = true)
    (k5 : PySem.W.keepIn K (.ref f5) = true)
    (a6 : PySem.W.nsIn K mainGlobals "check_name" = some (some (.ref f6)))
    (l6 : K.lookup f6 = some ⟨oc6, od6, .func (PySem.W.fnOf "check_name" "check_name" (defArgs s_check_name) (defBody s_check_name) (defScope s_check_name) .none kV6 dc6 pm6 an6 cd6 ct6), sl6⟩)
    (c6 : PySem.W.codeIn K cd6 "check_name" = true)
    (k6 : PySem.W.keepIn K (.ref f6) = true)
    (a7 : PySem.W.nsIn K mainGlobals "check_taker" = some (some (.ref f7)))
    (l7 : K.lookup f7 = some ⟨oc7, od7, .func (PySem.W.fnOf "check_taker" "check_taker" (defArgs s_check_taker) (defBody s_check_taker) (defScope s_check_taker) .none kV7 dc7 pm7 an7 cd7 ct7), sl7⟩)
    (c7 : PySem.W.codeIn K cd7 "check_taker" = true)
    (k7 : PySem.W.keepIn K (.ref f7) = true)
    (a8 : PySem.W.nsIn K mainGlobals "check_right" = some (some (.ref f8)))
    (l8 : K.lookup f8 = some ⟨oc8, od8, .func (PySem.W.fnOf "check_right" "check_right" (defArgs s_check_right) (defBody s_check_right) (defScope s_check_right) .none kV8 dc8 pm8 an8 cd8 ct8), sl8⟩)
    (c8 : PySem.W.codeIn K cd8 "check_right" = true)
    (k8 : PySem.W.keepIn K (.ref f8) = true)
    (a9 : PySem.W.nsIn K mainGlobals "check_right_on" = some (some (.ref f9)))
    (l9 : K.lookup f9 = some ⟨oc9, od9, .func (PySem.W.fnOf "check_right_on" "check_right_on" (defArgs s_check_right_on) (defBody s_check_right_on) (defScope s_check_right_on) .none kV9 dc9 pm9 an9 cd9 ct9), sl9⟩)
    (c9 : PySem.W.codeIn K cd9 "check_right_on" = true)
    (k9 : PySem.W.keepIn K (.ref f9) = true)
    (a10 : PySem.W.nsIn K mainGlobals "check_made_kind" = some (some (.ref f10)))
    (l10 : K.lookup f10 = some ⟨oc10, od10, .func (PySem.W.fnOf "check_made_kind" "check_made_kind" (defArgs s_check_made_kind) (defBody s_check_made_kind) (defScope s_check_made_kind) .none kV10 dc10 pm10 an10 cd10 ct10), sl10⟩)
    (c10 : PySem.W.codeIn K cd10 "check_made_kind" = true)
    (k10 : PySem.W.keepIn K (.ref f10) = true)
    (a11 : PySem.W.nsIn K mainGlobals "check_flag" = some (some (.ref f11)))
    (l11 : K.lookup f11 = some ⟨oc11, od11, .func (PySem.W.fnOf "check_flag" "check_flag" (defArgs s_check_flag) (defBody s_check_flag) (defScope s_check_flag) .none kV11 dc11 pm11 an11 cd11 ct11), sl11⟩)
    (c11 : PySem.W.codeIn K cd11 "check_flag" = true)
    (k11 : PySem.W.keepIn K (.ref f11) = true)
    (a12 : PySem.W.nsIn K mainGlobals "check_option" = some (some (.ref f12)))
    (l12 : K.lookup f12 = some ⟨oc12, od12, .func (PySem.W.fnOf "check_option" "check_option" (defArgs s_check_option) (defBody s_check_option) (defScope s_check_option) .none kV12 dc12 pm12 an12 cd12 ct12), sl12⟩)
    (c12 : PySem.W.codeIn K cd12 "check_option" = true)
    (k12 : PySem.W.keepIn K (.ref f12) = true)
    (a13 : PySem.W.nsIn K mainGlobals "_law_cell" = some (some (.ref f13)))
    (l13 : K.lookup f13 = some ⟨oc13, od13, .func (PySem.W.fnOf "_law_cell" "_law_cell" (defArgs s__law_cell) (defBody s__law_cell) (defScope s__law_cell) .none kV13 dc13 pm13 an13 cd13 ct13), sl13⟩)
    (c13 : PySem.W.codeIn K cd13 "_law_cell" = true)
    (k13 : PySem.W.keepIn K (.ref f13) = true)
    (a14 : PySem.W.nsIn K mainGlobals "_law_box" = some (some (.ref f14)))
    (l14 : K.lookup f14 = some ⟨oc14, od14, .func (PySem.W.fnOf "_law_box" "_law_box" (defArgs s__law_box) (defBody s__law_box) (defScope s__law_box) .none kV14 dc14 pm14 an14 cd14 ct14), sl14⟩)
    (c14 : PySem.W.codeIn K cd14 "_law_box" = true)
    (k14 : PySem.W.keepIn K (.ref f14) = true)
    (a15 : PySem.W.nsIn K mainGlobals "_law_take" = some (some (.ref f15)))
    (l15 : K.lookup f15 = some ⟨oc15, od15, .func (PySem.W.fnOf "_law_take" "_law_take" (defArgs s__law_take) (defBody s__law_take) (defScope s__law_take) .none kV15 dc15 pm15 an15 cd15 ct15), sl15⟩)
    (c15 : PySem.W.codeIn K cd15 "_law_take" = true)
    (k15 : PySem.W.keepIn K (.ref f15) = true)
    (a16 : PySem.W.nsIn K mainGlobals "_law_names" = some (some (.ref f16)))
    (l16 : K.lookup f16 = some ⟨oc16, od16, .func (PySem.W.fnOf "_law_names" "_law_names" (defArgs s__law_names) (defBody s__law_names) (defScope s__law_names) .none kV16 dc16 pm16 an16 cd16 ct16), sl16⟩)
    (c16 : PySem.W.codeIn K cd16 "_law_names" = true)
    (k16 : PySem.W.keepIn K (.ref f16) = true)
    (a17 : PySem.W.nsIn K mainGlobals "_law_odd" = some (some (.ref f17)))
    (l17 : K.lookup f17 = some ⟨oc17, od17, .func (PySem.W.fnOf "_law_odd" "_law_odd" (defArgs s__law_odd) (defBody s__law_odd) (defScope s__law_odd) .none kV17 dc17 pm17 an17 cd17 ct17), sl17⟩)
    (c17 : PySem.W.codeIn K cd17 "_law_odd" = true)
    (k17 : PySem.W.keepIn K (.ref f17) = true)
    (a18 : PySem.W.nsIn K mainGlobals "_law_parts" = some (some (.ref f18)))
    (l18 : K.lookup f18 = some ⟨oc18, od18, .func (PySem.W.fnOf "_law_parts" "_law_parts" (defArgs s__law_parts) (defBody s__law_parts) (defScope s__law_parts) .none kV18 dc18 pm18 an18 cd18 ct18), sl18⟩)
    (c18 : PySem.W.codeIn K cd18 "_law_parts" = true)
    (k18 : PySem.W.keepIn K (.ref f18) = true)
    (a19 : PySem.W.nsIn K mainGlobals "_law_is_name" = some (some (.ref f19)))
    (l19 : K.lookup f19 = some ⟨oc19, od19, .func (PySem.W.fnOf "_law_is_name" "_law_is_name" (defArgs s__law_is_name) (defBody s__law_is_name) (defScope s__law_is_name) .none kV19 dc19 pm19 an19 cd19 ct19), sl19⟩)
    (c19 : PySem.W.codeIn K cd19 "_law_is_name" = true)
    (k19 : PySem.W.keepIn K (.ref f19) = true)
    (a20 : PySem.W.nsIn K mainGlobals "_law_is_right" = some (some (.ref f20)))
    (l20 : K.lookup f20 = some ⟨oc20, od20, .func (PySem.W.fnOf "_law_is_right" "_law_is_right" (defArgs s__law_is_right) (defBody s__law_is_right) (defScope s__law_is_right) .none kV20 dc20 pm20 an20 cd20 ct20), sl20⟩)
    (c20 : PySem.W.codeIn K cd20 "_law_is_right" = true)
    (k20 : PySem.W.keepIn K (.ref f20) = true)
    (a21 : PySem.W.nsIn K mainGlobals "_law_is_taker" = some (some (.ref f21)))
    (l21 : K.lookup f21 = some ⟨oc21, od21, .func (PySem.W.fnOf "_law_is_taker" "_law_is_taker" (defArgs s__law_is_taker) (defBody s__law_is_taker) (defScope s__law_is_taker) .none kV21 dc21 pm21 an21 cd21 ct21), sl21⟩)
    (c21 : PySem.W.codeIn K cd21 "_law_is_taker" = true)
    (k21 : PySem.W.keepIn K (.ref f21) = true)
    (a22 : PySem.W.nsIn K mainGlobals "_law_flag_due" = some (some (.ref f22)))
    (l22 : K.lookup f22 = some ⟨oc22, od22, .func (PySem.W.fnOf "_law_flag_due" "_law_flag_due" (defArgs s__law_flag_due) (defBody s__law_flag_due) (defScope s__law_flag_due) .none kV22 dc22 pm22 an22 cd22 ct22), sl22⟩)
    (c22 : PySem.W.codeIn K cd22 "_law_flag_due" = true)
    (k22 : PySem.W.keepIn K (.ref f22) = true)
    (a23 : PySem.W.nsIn K mainGlobals "_law_take_due" = some (some (.ref f23)))
    (l23 : K.lookup f23 = some ⟨oc23, od23, .func (PySem.W.fnOf "_law_take_due" "_law_take_due" (defArgs s__law_take_due) (defBody s__law_take_due) (defScope s__law_take_due) .none kV23 dc23 pm23 an23 cd23 ct23), sl23⟩)
    (c23 : PySem.W.codeIn K cd23 "_law_take_due" = true)
    (k23 : PySem.W.keepIn K (.ref f23) = true)
    (a24 : PySem.W.nsIn K mainGlobals "_law_preset_due" = some (some (.ref f24)))
    (l24 : K.lookup f24 = some ⟨oc24, od24, .func (PySem.W.fnOf "_law_preset_due" "_law_preset_due" (defArgs s__law_preset_due) (defBody s__law_preset_due) (defScope s__law_preset_due) .none kV24 dc24 pm24 an24 cd24 ct24), sl24⟩)
    (c24 : PySem.W.codeIn K cd24 "_law_preset_due" = true)
    (k24 : PySem.W.keepIn K (.ref f24) = true)
    (a25 : PySem.W.nsIn K mainGlobals "_law_due" = some (some (.ref f25)))
    (l25 : K.lookup f25 = some ⟨oc25, od25, .func (PySem.W.fnOf "_law_due" "_law_due" (defArgs s__law_due) (defBody s__law_due) (defScope s__law_due) .none kV25 dc25 pm25 an25 cd25 ct25), sl25⟩)
    (c25 : PySem.W.codeIn K cd25 "_law_due" = true)
    (k25 : PySem.W.keepIn K (.ref f25) = true)
    (a26 : PySem.W.nsIn K mainGlobals "_law_made" = some (some (.ref f26)))
    (l26 : K.lookup f26 = some ⟨oc26, od26, .func (PySem.W.fnOf "_law_made" "_law_made" (defArgs s__law_made) (defBody s__law_made) (defScope s__law_made) .none kV26 dc26 pm26 an26 cd26 ct26), sl26⟩)
    (c26 : PySem.W.codeIn K cd26 "_law_made" = true)
    (k26 : PySem.W.keepIn K (.ref f26) = true)
    (a27 : PySem.W.nsIn K mainGlobals "_law_found" = some (some (.ref f27)))
    (l27 : K.lookup f27 = some ⟨oc27, od27, .func (PySem.W.fnOf "_law_found" "_law_found" (defArgs s__law_found) (defBody s__law_found) (defScope s__law_found) .none kV27 dc27 pm27 an27 cd27 ct27), sl27⟩)
    (c27 : PySem.W.codeIn K cd27 "_law_found" = true)
    (k27 : PySem.W.keepIn K (.ref f27) = true)
    (a28 : PySem.W.nsIn K mainGlobals "law" = some (some (.ref f28)))
    (l28 : K.lookup f28 = some ⟨oc28, od28, .func (PySem.W.fnOf "law" "law" (defArgs s_law) (defBody s_law) (defScope s_law) .none kV28 dc28 pm28 an28 cd28 ct28), sl28⟩)
    (c28 : PySem.W.codeIn K cd28 "law" = true)
    (k28 : PySem.W.keepIn K (.ref f28) = true)
    (aR : PySem.W.nsIn K mainGlobals "RoleError" = some (some (.ref CR)))
    (rdR : PySem.W.readsIn K CR (.type "type") = true)
    (gaR : PySem.W.specialIn K (.ref CR) "__getattribute__" = some (some (.builtin "type.__getattribute__")))
    (inR : PySem.W.findCls K (.ref CR) (.type "type") "__init__" = some (.val (.builtin "ValueError.__init__")))
    (aEname : PySem.W.nsIn K mainGlobals "InvalidName" = some (some (.ref CEname)))
    (xEname : K.lookup CEname = some (excClassObj nmEname qEname CEname NEname bsEname [.ref CR, .type "ValueError", .type "Exception", .type "BaseException", .type "object"] true snEname subEname abEname coEname ddEname m0Ename m1Ename m2Ename m3Ename m5Ename "ValueError.__new__"))
    (saEname : PySem.W.findIn K (.ref CEname) "__setattr__" = some (some (.builtin "object.__setattr__")))
    (gaEname : PySem.W.findIn K (.ref CEname) "__getattribute__" = some (some (.builtin "BaseException.__getattribute__")))
    (ggEname : PySem.W.findIn K (.ref CEname) "__getattr__" = some none)
    (nbEname : PySem.W.findIn K (.ref CEname) "value" = some none)
    (iEname : PySem.W.findIn K (.ref CEname) "__init__" = some (some (.ref fEname)))
    (tEname : PySem.W.typeIn K (.ref fEname) = some (.type "function"))
    (lEname : K.lookup fEname = some ⟨ocEname, odEname, .func (PySem.W.fnOf "__init__" "InvalidName.__init__" (defArgs s_InvalidName_init) (defBody s_InvalidName_init) (defScope s_InvalidName_init) .none kVEname dcEname pmEname anEname cdEname ctEname), slEname⟩)
    (cEname : PySem.W.codeIn K cdEname "InvalidName.__init__" = true)
    (kEname : PySem.W.keepIn K (.ref fEname) = true)
    (kCEname : PySem.W.keepIn K (.ref CEname) = true)
    (eCEname : PySem.W.subIn K (.ref CEname) (.type "BaseException") = some true)
    (tCEname : PySem.W.typeIn K (.ref CEname) = some (.type "type"))
    (hCEname : PySem.W.hasDictIn K CEname = true)
    (iCEname : PySem.W.isClsIn K CEname = true)
    (aEright : PySem.W.nsIn K mainGlobals "InvalidRight" = some (some (.ref CEright)))
    (xEright : K.lookup CEright = some (excClassObj nmEright qEright CEright NEright bsEright [.ref CR, .type "ValueError", .type "Exception", .type "BaseException", .type "object"] true snEright subEright abEright coEright ddEright m0Eright m1Eright m2Eright m3Eright m5Eright "ValueError.__new__"))
    (saEright : PySem.W.findIn K (.ref CEright) "__setattr__" = some (some (.builtin "object.__setattr__")))
    (gaEright : PySem.W.findIn K (.ref CEright) "__getattribute__" = some (some (.builtin "BaseException.__getattribute__")))
    (ggEright : PySem.W.findIn K (.ref CEright) "__getattr__" = some none)
    (nbEright : PySem.W.findIn K (.ref CEright) "value" = some none)
    (iEright : PySem.W.findIn K (.ref CEright) "__init__" = some (some (.ref fEright)))
    (tEright : PySem.W.typeIn K (.ref fEright) = some (.type "function"))
    (lEright : K.lookup fEright = some ⟨ocEright, odEright, .func (PySem.W.fnOf "__init__" "InvalidRight.__init__" (defArgs s_InvalidRight_init) (defBody s_InvalidRight_init) (defScope s_InvalidRight_init) .none kVEright dcEright pmEright anEright cdEright ctEright), slEright⟩)
    (cEright : PySem.W.codeIn K cdEright "InvalidRight.__init__" = true)
    (kEright : PySem.W.keepIn K (.ref fEright) = true)
    (kCEright : PySem.W.keepIn K (.ref CEright) = true)
    (eCEright : PySem.W.subIn K (.ref CEright) (.type "BaseException") = some true)
    (tCEright : PySem.W.typeIn K (.ref CEright) = some (.type "type"))
    (hCEright : PySem.W.hasDictIn K CEright = true)
    (iCEright : PySem.W.isClsIn K CEright = true)
    (aEtaker : PySem.W.nsIn K mainGlobals "InvalidTaker" = some (some (.ref CEtaker)))
    (xEtaker : K.lookup CEtaker = some (excClassObj nmEtaker qEtaker CEtaker NEtaker bsEtaker [.ref CR, .type "ValueError", .type "Exception", .type "BaseException", .type "object"] true snEtaker subEtaker abEtaker coEtaker ddEtaker m0Etaker m1Etaker m2Etaker m3Etaker m5Etaker "ValueError.__new__"))
    (saEtaker : PySem.W.findIn K (.ref CEtaker) "__setattr__" = some (some (.builtin "object.__setattr__")))
    (gaEtaker : PySem.W.findIn K (.ref CEtaker) "__getattribute__" = some (some (.builtin "BaseException.__getattribute__")))
    (ggEtaker : PySem.W.findIn K (.ref CEtaker) "__getattr__" = some none)
    (nbEtaker : PySem.W.findIn K (.ref CEtaker) "value" = some none)
    (iEtaker : PySem.W.findIn K (.ref CEtaker) "__init__" = some (some (.ref fEtaker)))
    (tEtaker : PySem.W.typeIn K (.ref fEtaker) = some (.type "function"))
    (lEtaker : K.lookup fEtaker = some ⟨ocEtaker, odEtaker, .func (PySem.W.fnOf "__init__" "InvalidTaker.__init__" (defArgs s_InvalidTaker_init) (defBody s_InvalidTaker_init) (defScope s_InvalidTaker_init) .none kVEtaker dcEtaker pmEtaker anEtaker cdEtaker ctEtaker), slEtaker⟩)
    (cEtaker : PySem.W.codeIn K cdEtaker "InvalidTaker.__init__" = true)
    (kEtaker : PySem.W.keepIn K (.ref fEtaker) = true)
    (kCEtaker : PySem.W.keepIn K (.ref CEtaker) = true)
    (eCEtaker : PySem.W.subIn K (.ref CEtaker) (.type "BaseException") = some true)
    (tCEtaker : PySem.W.typeIn K (.ref CEtaker) = some (.type "type"))
    (hCEtaker : PySem.W.hasDictIn K CEtaker = true)
    (iCEtaker : PySem.W.isClsIn K CEtaker = true)
    (aEflag : PySem.W.nsIn K mainGlobals "InvalidFlag" = some (some (.ref CEflag)))
    (xEflag : K.lookup CEflag = some (excClassObj nmEflag qEflag CEflag NEflag bsEflag [.ref CR, .type "ValueError", .type "Exception", .type "BaseException", .type "object"] true snEflag subEflag abEflag coEflag ddEflag m0Eflag m1Eflag m2Eflag m3Eflag m5Eflag "ValueError.__new__"))
    (saEflag : PySem.W.findIn K (.ref CEflag) "__setattr__" = some (some (.builtin "object.__setattr__")))
    (gaEflag : PySem.W.findIn K (.ref CEflag) "__getattribute__" = some (some (.builtin "BaseException.__getattribute__")))
    (ggEflag : PySem.W.findIn K (.ref CEflag) "__getattr__" = some none)
    (nbEflag : PySem.W.findIn K (.ref CEflag) "value" = some none)
    (iEflag : PySem.W.findIn K (.ref CEflag) "__init__" = some (some (.ref fEflag)))
    (tEflag : PySem.W.typeIn K (.ref fEflag) = some (.type "function"))
    (lEflag : K.lookup fEflag = some ⟨ocEflag, odEflag, .func (PySem.W.fnOf "__init__" "InvalidFlag.__init__" (defArgs s_InvalidFlag_init) (defBody s_InvalidFlag_init) (defScope s_InvalidFlag_init) .none kVEflag dcEflag pmEflag anEflag cdEflag ctEflag), slEflag⟩)
    (cEflag : PySem.W.codeIn K cdEflag "InvalidFlag.__init__" = true)
    (kEflag : PySem.W.keepIn K (.ref fEflag) = true)
    (kCEflag : PySem.W.keepIn K (.ref CEflag) = true)
    (eCEflag : PySem.W.subIn K (.ref CEflag) (.type "BaseException") = some true)
    (tCEflag : PySem.W.typeIn K (.ref CEflag) = some (.type "type"))
    (hCEflag : PySem.W.hasDictIn K CEflag = true)
    (iCEflag : PySem.W.isClsIn K CEflag = true)
    (aEkind : PySem.W.nsIn K mainGlobals "InvalidKind" = some (some (.ref CEkind)))
    (xEkind : K.lookup CEkind = some (excClassObj nmEkind qEkind CEkind NEkind bsEkind [.ref CR, .type "ValueError", .type "Exception", .type "BaseException", .type "object"] true snEkind subEkind abEkind coEkind ddEkind m0Ekind m1Ekind m2Ekind m3Ekind m5Ekind "ValueError.__new__"))
    (saEkind : PySem.W.findIn K (.ref CEkind) "__setattr__" = some (some (.builtin "object.__setattr__")))
    (gaEkind : PySem.W.findIn K (.ref CEkind) "__getattribute__" = some (some (.builtin "BaseException.__getattribute__")))
    (ggEkind : PySem.W.findIn K (.ref CEkind) "__getattr__" = some none)
    (nbEkind : PySem.W.findIn K (.ref CEkind) "value" = some none)
    (iEkind : PySem.W.findIn K (.ref CEkind) "__init__" = some (some (.ref fEkind)))
    (tEkind : PySem.W.typeIn K (.ref fEkind) = some (.type "function"))
    (lEkind : K.lookup fEkind = some ⟨ocEkind, odEkind, .func (PySem.W.fnOf "__init__" "InvalidKind.__init__" (defArgs s_InvalidKind_init) (defBody s_InvalidKind_init) (defScope s_InvalidKind_init) .none kVEkind dcEkind pmEkind anEkind cdEkind ctEkind), slEkind⟩)
    (cEkind : PySem.W.codeIn K cdEkind "InvalidKind.__init__" = true)
    (kEkind : PySem.W.keepIn K (.ref fEkind) = true)
    (kCEkind : PySem.W.keepIn K (.ref CEkind) = true)
    (eCEkind : PySem.W.subIn K (.ref CEkind) (.type "BaseException") = some true)
    (tCEkind : PySem.W.typeIn K (.ref CEkind) = some (.type "type"))
    (hCEkind : PySem.W.hasDictIn K CEkind = true)
    (iCEkind : PySem.W.isClsIn K CEkind = true)
    (snamename : PySem.W.subIn K (.ref CEname) (.ref CEname) = some true)
    (snameright : PySem.W.subIn K (.ref CEname) (.ref CEright) = some false)
    (snametaker : PySem.W.subIn K (.ref CEname) (.ref CEtaker) = some false)
    (snameflag : PySem.W.subIn K (.ref CEname) (.ref CEflag) = some false)
    (snamekind : PySem.W.subIn K (.ref CEname) (.ref CEkind) = some false)
    (srightname : PySem.W.subIn K (.ref CEright) (.ref CEname) = some false)
    (srightright : PySem.W.subIn K (.ref CEright) (.ref CEright) = some true)
    (srighttaker : PySem.W.subIn K (.ref CEright) (.ref CEtaker) = some false)
    (srightflag : PySem.W.subIn K (.ref CEright) (.ref CEflag) = some false)
    (srightkind : PySem.W.subIn K (.ref CEright) (.ref CEkind) = some false)
    (stakername : PySem.W.subIn K (.ref CEtaker) (.ref CEname) = some false)
    (stakerright : PySem.W.subIn K (.ref CEtaker) (.ref CEright) = some false)
    (stakertaker : PySem.W.subIn K (.ref CEtaker) (.ref CEtaker) = some true)
    (stakerflag : PySem.W.subIn K (.ref CEtaker) (.ref CEflag) = some false)
    (stakerkind : PySem.W.subIn K (.ref CEtaker) (.ref CEkind) = some false)
    (sflagname : PySem.W.subIn K (.ref CEflag) (.ref CEname) = some false)
    (sflagright : PySem.W.subIn K (.ref CEflag) (.ref CEright) = some false)
    (sflagtaker : PySem.W.subIn K (.ref CEflag) (.ref CEtaker) = some false)
    (sflagflag : PySem.W.subIn K (.ref CEflag) (.ref CEflag) = some true)
    (sflagkind : PySem.W.subIn K (.ref CEflag) (.ref CEkind) = some false)
    (skindname : PySem.W.subIn K (.ref CEkind) (.ref CEname) = some false)
    (skindright : PySem.W.subIn K (.ref CEkind) (.ref CEright) = some false)
    (skindtaker : PySem.W.subIn K (.ref CEkind) (.ref CEtaker) = some false)
    (skindflag : PySem.W.subIn K (.ref CEkind) (.ref CEflag) = some false)
    (skindkind : PySem.W.subIn K (.ref CEkind) (.ref CEkind) = some true)
    (aDGive : PySem.W.nsIn K mainGlobals "Give" = some (some (.ref CDGive)))
    (mkDGive : PySem.W.makesIn K CDGive = true)
    (iDGive : PySem.W.findIn K (.ref CDGive) "__init__" = some (some (.ref fDGive)))
    (fnDGive : PySem.W.isFn K (.ref fDGive) = true)
    (kCDGive : PySem.W.keepIn K (.ref CDGive) = true)
    (lDGive : K.lookup fDGive = some ⟨ocDGive, odDGive, .func (PySem.W.fnOf "__init__" "Give.__init__" (defArgs s_Give_init) (defBody s_Give_init) (defScope s_Give_init) .none kVDGive dcDGive pmDGive anDGive cdDGive ctDGive), slDGive⟩)
    (cDGive : PySem.W.codeIn K cdDGive "Give.__init__" = true)
    (kDGive : PySem.W.keepIn K (.ref fDGive) = true)
    (pgDGive : PySem.W.plainGet K CDGive Str.empty = true)
    (hdDGive : PySem.W.hasDictIn K CDGive = true)
    (poDGive : PySem.W.plainOver K CDGive = true)
    (saDGive : PySem.W.findIn K (.ref CDGive) "__setattr__" = some (some (.builtin "object.__setattr__")))
    (nDGiveright : PySem.W.findIn K (.ref CDGive) "right" = some none)
    (nDGivething : PySem.W.findIn K (.ref CDGive) "thing" = some none)
    (nDGivetaker : PySem.W.findIn K (.ref CDGive) "taker" = some none)
    (nDGiveoption : PySem.W.findIn K (.ref CDGive) "option" = some none)
    (aDTake : PySem.W.nsIn K mainGlobals "Take" = some (some (.ref CDTake)))
    (mkDTake : PySem.W.makesIn K CDTake = true)
    (iDTake : PySem.W.findIn K (.ref CDTake) "__init__" = some (some (.ref fDTake)))
    (fnDTake : PySem.W.isFn K (.ref fDTake) = true)
    (kCDTake : PySem.W.keepIn K (.ref CDTake) = true)
    (lDTake : K.lookup fDTake = some ⟨ocDTake, odDTake, .func (PySem.W.fnOf "__init__" "Take.__init__" (defArgs s_Take_init) (defBody s_Take_init) (defScope s_Take_init) .none kVDTake dcDTake pmDTake anDTake cdDTake ctDTake), slDTake⟩)
    (cDTake : PySem.W.codeIn K cdDTake "Take.__init__" = true)
    (kDTake : PySem.W.keepIn K (.ref fDTake) = true)
    (pgDTake : PySem.W.plainGet K CDTake Str.empty = true)
    (hdDTake : PySem.W.hasDictIn K CDTake = true)
    (poDTake : PySem.W.plainOver K CDTake = true)
    (saDTake : PySem.W.findIn K (.ref CDTake) "__setattr__" = some (some (.builtin "object.__setattr__")))
    (nDTakeright : PySem.W.findIn K (.ref CDTake) "right" = some none)
    (nDTakething : PySem.W.findIn K (.ref CDTake) "thing" = some none)
    (nDTaketaker : PySem.W.findIn K (.ref CDTake) "taker" = some none)
    (nDTakegiver : PySem.W.findIn K (.ref CDTake) "giver" = some none)
    (nDTakeonly_option : PySem.W.findIn K (.ref CDTake) "only_option" = some none)
    (nDTakecascade : PySem.W.findIn K (.ref CDTake) "cascade" = some none)
    (aDCall : PySem.W.nsIn K mainGlobals "Call" = some (some (.ref CDCall)))
    (mkDCall : PySem.W.makesIn K CDCall = true)
    (iDCall : PySem.W.findIn K (.ref CDCall) "__init__" = some (some (.ref fDCall)))
    (fnDCall : PySem.W.isFn K (.ref fDCall) = true)
    (kCDCall : PySem.W.keepIn K (.ref CDCall) = true)
    (lDCall : K.lookup fDCall = some ⟨ocDCall, odDCall, .func (PySem.W.fnOf "__init__" "Call.__init__" (defArgs s_Call_init) (defBody s_Call_init) (defScope s_Call_init) .none kVDCall dcDCall pmDCall anDCall cdDCall ctDCall), slDCall⟩)
    (cDCall : PySem.W.codeIn K cdDCall "Call.__init__" = true)
    (kDCall : PySem.W.keepIn K (.ref fDCall) = true)
    (pgDCall : PySem.W.plainGet K CDCall Str.empty = true)
    (hdDCall : PySem.W.hasDictIn K CDCall = true)
    (poDCall : PySem.W.plainOver K CDCall = true)
    (saDCall : PySem.W.findIn K (.ref CDCall) "__setattr__" = some (some (.builtin "object.__setattr__")))
    (nDCallfunction : PySem.W.findIn K (.ref CDCall) "function" = some none)
    (aDPreset : PySem.W.nsIn K mainGlobals "Preset" = some (some (.ref CDPreset)))
    (mkDPreset : PySem.W.makesIn K CDPreset = true)
    (iDPreset : PySem.W.findIn K (.ref CDPreset) "__init__" = some (some (.ref fDPreset)))
    (fnDPreset : PySem.W.isFn K (.ref fDPreset) = true)
    (kCDPreset : PySem.W.keepIn K (.ref CDPreset) = true)
    (lDPreset : K.lookup fDPreset = some ⟨ocDPreset, odDPreset, .func (PySem.W.fnOf "__init__" "Preset.__init__" (defArgs s_Preset_init) (defBody s_Preset_init) (defScope s_Preset_init) .none kVDPreset dcDPreset pmDPreset anDPreset cdDPreset ctDPreset), slDPreset⟩)
    (cDPreset : PySem.W.codeIn K cdDPreset "Preset.__init__" = true)
    (kDPreset : PySem.W.keepIn K (.ref fDPreset) = true)
    (pgDPreset : PySem.W.plainGet K CDPreset Str.empty = true)
    (hdDPreset : PySem.W.hasDictIn K CDPreset = true)
    (poDPreset : PySem.W.plainOver K CDPreset = true)
    (saDPreset : PySem.W.findIn K (.ref CDPreset) "__setattr__" = some (some (.builtin "object.__setattr__")))
    (nDPresetkind : PySem.W.findIn K (.ref CDPreset) "kind" = some none)
    (nDPresetright : PySem.W.findIn K (.ref CDPreset) "right" = some none)
    (nDPresettaker : PySem.W.findIn K (.ref CDPreset) "taker" = some none)
    (nDPresetoption : PySem.W.findIn K (.ref CDPreset) "option" = some none)
    (aDUse : PySem.W.nsIn K mainGlobals "Use" = some (some (.ref CDUse)))
    (mkDUse : PySem.W.makesIn K CDUse = true)
    (iDUse : PySem.W.findIn K (.ref CDUse) "__init__" = some (some (.ref fDUse)))
    (fnDUse : PySem.W.isFn K (.ref fDUse) = true)
    (kCDUse : PySem.W.keepIn K (.ref CDUse) = true)
    (lDUse : K.lookup fDUse = some ⟨ocDUse, odDUse, .func (PySem.W.fnOf "__init__" "Use.__init__" (defArgs s_Use_init) (defBody s_Use_init) (defScope s_Use_init) .none kVDUse dcDUse pmDUse anDUse cdDUse ctDUse), slDUse⟩)
    (cDUse : PySem.W.codeIn K cdDUse "Use.__init__" = true)
    (kDUse : PySem.W.keepIn K (.ref fDUse) = true)
    (pgDUse : PySem.W.plainGet K CDUse Str.empty = true)
    (hdDUse : PySem.W.hasDictIn K CDUse = true)
    (poDUse : PySem.W.plainOver K CDUse = true)
    (saDUse : PySem.W.findIn K (.ref CDUse) "__setattr__" = some (some (.builtin "object.__setattr__")))
    (nDUseright : PySem.W.findIn K (.ref CDUse) "right" = some none)
    (nDUsething : PySem.W.findIn K (.ref CDUse) "thing" = some none)
    (aL : PySem.W.nsIn K mainGlobals "LONGEST_NAME" = some (some (.int 8 tL)))
    (gRs : PySem.W.nsIn K mainGlobals "RESERVED" = some (some (.ref aRs)))
    (lRs : K.lookup aRs = some ⟨.type "tuple", oy1, .seq #[.str tPub t1, .str tCal t2] nn1, sy1⟩)
    (gMs : PySem.W.nsIn K mainGlobals "MADE_KINDS" = some (some (.ref aMs)))
    (lMs : K.lookup aMs = some ⟨.type "tuple", oy2, .seq #[.str tTab t3, .str tFun t4] nn2, sy2⟩)
    (gK : PySem.W.nsIn K mainGlobals "KIND_BY_RIGHT" = some (some (.ref dK)))
    (lK : K.lookup dK = some ⟨.type "dict", none, .dict #[⟨h1, .str (Str.ofString "inherit") ta, .str tRole ua⟩, ⟨h2, .str (Str.ofString "act") tb, .str tRole ub⟩, ⟨h3, .str (Str.ofString "read") tc, .str tTab uc⟩, ⟨h4, .str (Str.ofString "write") td, .str tTab ud⟩, ⟨h5, .str (Str.ofString "call") te, .str tFun ue⟩] nnK, #[]⟩)
    (hK : PySem.W.KeysLit w.params [⟨h1, .str (Str.ofString "inherit") ta, .str tRole ua⟩, ⟨h2, .str (Str.ofString "act") tb, .str tRole ub⟩, ⟨h3, .str (Str.ofString "read") tc, .str tTab uc⟩, ⟨h4, .str (Str.ofString "write") td, .str tTab ud⟩, ⟨h5, .str (Str.ofString "call") te, .str tFun ue⟩])
    (loK : (dK == sysModules) = false)
    (zisinstance : PySem.W.nsIn K mainGlobals "isinstance" = some none)
    (zstr : PySem.W.nsIn K mainGlobals "str" = some none)
    (zlen : PySem.W.nsIn K mainGlobals "len" = some none)
    (zbool : PySem.W.nsIn K mainGlobals "bool" = some none)
    (zrange : PySem.W.nsIn K mainGlobals "range" = some none)
    (zmax : PySem.W.nsIn K mainGlobals "max" = some none)
    (zmin : PySem.W.nsIn K mainGlobals "min" = some none)
    (zlist : PySem.W.nsIn K mainGlobals "list" = some none)
    (zdict : PySem.W.nsIn K mainGlobals "dict" = some none)
    (zrepr : PySem.W.nsIn K mainGlobals "repr" = some none) :
    ∃ fd : FuncData, (∀ (s : Shared) (v : Value), BindsTo s fd ⟨[v], []⟩ [("_law_script", v)]) ∧ ∀ base : Heap, K.In base → base.Ns mainGlobals mg → FnG l.prog w K mg base CX0 9 fa fd ["_law_script"] (spLaw K) := by
  have e := hfa.symm.trans (PySem.W.mg_of X G a28)
  cases e
  have F0 := fun_mk (st := s_is_name) l0 c0 k0
  have b0 := F0.binds (ps := ["value"]) fun _ _ _ _ _ _ us hl => match us, hl with | [_], _ => rfl
  have g0 := PySem.W.mg_of X G a0
  have F1 := fun_mk (st := s_is_taker) l1 c1 k1
  have b1 := F1.binds (ps := ["value"]) fun _ _ _ _ _ _ us hl => match us, hl with | [_], _ => rfl
  have g1 := PySem.W.mg_of X G a1
  have F2 := fun_mk (st := s_is_right) l2 c2 k2
  have b2 := F2.binds (ps := ["value"]) fun _ _ _ _ _ _ us hl => match us, hl with | [_], _ => rfl
  have g2 := PySem.W.mg_of X G a2
  have F3 := fun_mk (st := s_is_made_kind) l3 c3 k3
  have b3 := F3.binds (ps := ["value"]) fun _ _ _ _ _ _ us hl => match us, hl with | [_], _ => rfl
  have g3 := PySem.W.mg_of X G a3
  have F4 := fun_mk (st := s_is_flag) l4 c4 k4
  have b4 := F4.binds (ps := ["value"]) fun _ _ _ _ _ _ us hl => match us, hl with | [_], _ => rfl
  have g4 := PySem.W.mg_of X G a4
  have F5 := fun_mk (st := s_kind_of) l5 c5 k5
  have b5 := F5.binds (ps := ["right"]) fun _ _ _ _ _ _ us hl => match us, hl with | [_], _ => rfl
  have g5 := PySem.W.mg_of X G a5
  have F6 := fun_mk (st := s_check_name) l6 c6 k6
  have b6 := F6.binds (ps := ["value"]) fun _ _ _ _ _ _ us hl => match us, hl with | [_], _ => rfl
  have g6 := PySem.W.mg_of X G a6
  have F7 := fun_mk (st := s_check_taker) l7 c7 k7
  have b7 := F7.binds (ps := ["value"]) fun _ _ _ _ _ _ us hl => match us, hl with | [_], _ => rfl
  have g7 := PySem.W.mg_of X G a7
  have F8 := fun_mk (st := s_check_right) l8 c8 k8
  have b8 := F8.binds (ps := ["value"]) fun _ _ _ _ _ _ us hl => match us, hl with | [_], _ => rfl
  have g8 := PySem.W.mg_of X G a8
  have F9 := fun_mk (st := s_check_right_on) l9 c9 k9
  have b9 := F9.binds (ps := ["kind", "value"]) fun _ _ _ _ _ _ us hl => match us, hl with | [_, _], _ => rfl
  have g9 := PySem.W.mg_of X G a9
  have F10 := fun_mk (st := s_check_made_kind) l10 c10 k10
  have b10 := F10.binds (ps := ["value"]) fun _ _ _ _ _ _ us hl => match us, hl with | [_], _ => rfl
  have g10 := PySem.W.mg_of X G a10
  have F11 := fun_mk (st := s_check_flag) l11 c11 k11
  have b11 := F11.binds (ps := ["value"]) fun _ _ _ _ _ _ us hl => match us, hl with | [_], _ => rfl
  have g11 := PySem.W.mg_of X G a11
  have F12 := fun_mk (st := s_check_option) l12 c12 k12
  have b12 := F12.binds (ps := ["value", "taker"]) fun _ _ _ _ _ _ us hl => match us, hl with | [_, _], _ => rfl
  have g12 := PySem.W.mg_of X G a12
  have F13 := fun_mk (st := s__law_cell) l13 c13 k13
  have b13 := F13.binds (ps := ["_law_script", "_law_k"]) fun _ _ _ _ _ _ us hl => match us, hl with | [_, _], _ => rfl
  have g13 := PySem.W.mg_of X G a13
  have F14 := fun_mk (st := s__law_box) l14 c14 k14
  have b14 := F14.binds (ps := ["_law_cell_here"]) fun _ _ _ _ _ _ us hl => match us, hl with | [_], _ => rfl
  have g14 := PySem.W.mg_of X G a14
  have F15 := fun_mk (st := s__law_take) l15 c15 k15
  have b15 := F15.binds (ps := ["_law_box_here", "_law_many"]) fun _ _ _ _ _ _ us hl => match us, hl with | [_, _], _ => rfl
  have g15 := PySem.W.mg_of X G a15
  have F16 := fun_mk (st := s__law_names) l16 c16 k16
  have b16 := F16.binds (ps := ["_law_box_here", "_law_many"]) fun _ _ _ _ _ _ us hl => match us, hl with | [_, _], _ => rfl
  have g16 := PySem.W.mg_of X G a16
  have F17 := fun_mk (st := s__law_odd) l17 c17 k17
  have b17 := F17.binds (ps := ["_law_box_here"]) fun _ _ _ _ _ _ us hl => match us, hl with | [_], _ => rfl
  have g17 := PySem.W.mg_of X G a17
  have F18 := fun_mk (st := s__law_parts) l18 c18 k18
  have b18 := F18.binds (ps := ["_law_box_here"]) fun _ _ _ _ _ _ us hl => match us, hl with | [_], _ => rfl
  have g18 := PySem.W.mg_of X G a18
  have F19 := fun_mk (st := s__law_is_name) l19 c19 k19
  have b19 := F19.binds (ps := ["_law_value"]) fun _ _ _ _ _ _ us hl => match us, hl with | [_], _ => rfl
  have g19 := PySem.W.mg_of X G a19
  have F20 := fun_mk (st := s__law_is_right) l20 c20 k20
  have b20 := F20.binds (ps := ["_law_value"]) fun _ _ _ _ _ _ us hl => match us, hl with | [_], _ => rfl
  have g20 := PySem.W.mg_of X G a20
  have F21 := fun_mk (st := s__law_is_taker) l21 c21 k21
  have b21 := F21.binds (ps := ["_law_value"]) fun _ _ _ _ _ _ us hl => match us, hl with | [_], _ => rfl
  have g21 := PySem.W.mg_of X G a21
  have F22 := fun_mk (st := s__law_flag_due) l22 c22 k22
  have b22 := F22.binds (ps := ["_law_value", "_law_taker"]) fun _ _ _ _ _ _ us hl => match us, hl with | [_, _], _ => rfl
  have g22 := PySem.W.mg_of X G a22
  have F23 := fun_mk (st := s__law_take_due) l23 c23 k23
  have b23 := F23.binds (ps := ["_law_row"]) fun _ _ _ _ _ _ us hl => match us, hl with | [_], _ => rfl
  have g23 := PySem.W.mg_of X G a23
  have F24 := fun_mk (st := s__law_preset_due) l24 c24 k24
  have b24 := F24.binds (ps := ["_law_row"]) fun _ _ _ _ _ _ us hl => match us, hl with | [_], _ => rfl
  have g24 := PySem.W.mg_of X G a24
  have F25 := fun_mk (st := s__law_due) l25 c25 k25
  have b25 := F25.binds (ps := ["_law_row"]) fun _ _ _ _ _ _ us hl => match us, hl with | [_], _ => rfl
  have g25 := PySem.W.mg_of X G a25
  have F26 := fun_mk (st := s__law_made) l26 c26 k26
  have b26 := F26.binds (ps := ["_law_row"]) fun _ _ _ _ _ _ us hl => match us, hl with | [_], _ => rfl
  have g26 := PySem.W.mg_of X G a26
  have F27 := fun_mk (st := s__law_found) l27 c27 k27
  have b27 := F27.binds (ps := ["_law_row"]) fun _ _ _ _ _ _ us hl => match us, hl with | [_], _ => rfl
  have g27 := PySem.W.mg_of X G a27
  have F28 := fun_mk (st := s_law) l28 c28 k28
  have b28 := F28.binds (ps := ["_law_script"]) fun _ _ _ _ _ _ us hl => match us, hl with | [_], _ => rfl
  have g28 := PySem.W.mg_of X G a28
  have B : BaseI K mg "RoleError" CR (.type "type") := ⟨PySem.W.mg_of X G aR, rdR, gaR, inR⟩
  have FEname := fun_mk (st := s_InvalidName_init) lEname cEname kEname
  have bEname := FEname.binds (ps := ["self", "value"]) fun _ _ _ _ _ _ us hl => match us, hl with | [_, _], _ => rfl
  have OEname : OexC K CEname := ⟨⟨nmEname, qEname, NEname, bsEname, _, snEname, subEname, abEname, coEname, ddEname, m0Ename, m1Ename, m2Ename, m3Ename, m5Ename, xEname, refs_ok⟩, saEname, eCEname, tCEname, kCEname⟩
  have xfEname : XfC K CEname := ⟨gaEname, ggEname, eCEname, hCEname⟩
  have FEright := fun_mk (st := s_InvalidRight_init) lEright cEright kEright
  have bEright := FEright.binds (ps := ["self", "value"]) fun _ _ _ _ _ _ us hl => match us, hl with | [_, _], _ => rfl
  have OEright : OexC K CEright := ⟨⟨nmEright, qEright, NEright, bsEright, _, snEright, subEright, abEright, coEright, ddEright, m0Eright, m1Eright, m2Eright, m3Eright, m5Eright, xEright, refs_ok⟩, saEright, eCEright, tCEright, kCEright⟩
  have xfEright : XfC K CEright := ⟨gaEright, ggEright, eCEright, hCEright⟩
  have FEtaker := fun_mk (st := s_InvalidTaker_init) lEtaker cEtaker kEtaker
  have bEtaker := FEtaker.binds (ps := ["self", "value"]) fun _ _ _ _ _ _ us hl => match us, hl with | [_, _], _ => rfl
  have OEtaker : OexC K CEtaker := ⟨⟨nmEtaker, qEtaker, NEtaker, bsEtaker, _, snEtaker, subEtaker, abEtaker, coEtaker, ddEtaker, m0Etaker, m1Etaker, m2Etaker, m3Etaker, m5Etaker, xEtaker, refs_ok⟩, saEtaker, eCEtaker, tCEtaker, kCEtaker⟩
  have xfEtaker : XfC K CEtaker := ⟨gaEtaker, ggEtaker, eCEtaker, hCEtaker⟩
  have FEflag := fun_mk (st := s_InvalidFlag_init) lEflag cEflag kEflag
  have bEflag := FEflag.binds (ps := ["self", "value"]) fun _ _ _ _ _ _ us hl => match us, hl with | [_, _], _ => rfl
  have OEflag : OexC K CEflag := ⟨⟨nmEflag, qEflag, NEflag, bsEflag, _, snEflag, subEflag, abEflag, coEflag, ddEflag, m0Eflag, m1Eflag, m2Eflag, m3Eflag, m5Eflag, xEflag, refs_ok⟩, saEflag, eCEflag, tCEflag, kCEflag⟩
  have xfEflag : XfC K CEflag := ⟨gaEflag, ggEflag, eCEflag, hCEflag⟩
  have FEkind := fun_mk (st := s_InvalidKind_init) lEkind cEkind kEkind
  have bEkind := FEkind.binds (ps := ["self", "value"]) fun _ _ _ _ _ _ us hl => match us, hl with | [_, _], _ => rfl
  have OEkind : OexC K CEkind := ⟨⟨nmEkind, qEkind, NEkind, bsEkind, _, snEkind, subEkind, abEkind, coEkind, ddEkind, m0Ekind, m1Ekind, m2Ekind, m3Ekind, m5Ekind, xEkind, refs_ok⟩, saEkind, eCEkind, tCEkind, kCEkind⟩
  have xfEkind : XfC K CEkind := ⟨gaEkind, ggEkind, eCEkind, hCEkind⟩
  have MDGive : Mk K CDGive fDGive := ⟨mkDGive, iDGive, fnDGive, kCDGive⟩
  have c0DGive : Cls K CDGive := ⟨pgDGive, hdDGive, poDGive, saDGive⟩
  have FDGive : FunD K "__init__" "Give.__init__" (defArgs s_Give_init) (defBody s_Give_init) (defScope s_Give_init) [] [] fDGive _ := ⟨⟨ocDGive, odDGive, .none, kVDGive, dcDGive, pmDGive, anDGive, cdDGive, ctDGive, slDGive, rfl, lDGive, cDGive, .inl ⟨rfl, rfl⟩, .inl rfl⟩, kDGive⟩
  have bDGive := kbn_mk (ps := ["self", "right", "thing", "taker", "option"]) (ks := ["option"]) (n := 4) FDGive fun _ _ _ _ _ _ s us ws h1 h2 => match us, ws, h1, h2 with | [_, _, _, _], [_], _, _ => .of_eq rfl
  have MDTake : Mk K CDTake fDTake := ⟨mkDTake, iDTake, fnDTake, kCDTake⟩
  have c0DTake : Cls K CDTake := ⟨pgDTake, hdDTake, poDTake, saDTake⟩
  have FDTake : FunD K "__init__" "Take.__init__" (defArgs s_Take_init) (defBody s_Take_init) (defScope s_Take_init) [] [] fDTake _ := ⟨⟨ocDTake, odDTake, .none, kVDTake, dcDTake, pmDTake, anDTake, cdDTake, ctDTake, slDTake, rfl, lDTake, cDTake, .inl ⟨rfl, rfl⟩, .inl rfl⟩, kDTake⟩
  have bDTake := kbn_mk (ps := ["self", "right", "thing", "taker", "giver", "only_option", "cascade"]) (ks := ["giver", "only_option", "cascade"]) (n := 4) FDTake fun _ _ _ _ _ _ s us ws h1 h2 => match us, ws, h1, h2 with | [_, _, _, _], [_, _, _], _, _ => .of_eq rfl
  have MDCall : Mk K CDCall fDCall := ⟨mkDCall, iDCall, fnDCall, kCDCall⟩
  have c0DCall : Cls K CDCall := ⟨pgDCall, hdDCall, poDCall, saDCall⟩
  have FDCall := fun_mk (st := s_Call_init) lDCall cDCall kDCall
  have bDCall := FDCall.binds (ps := ["self", "function"]) fun _ _ _ _ _ _ us hl => match us, hl with | [_, _], _ => rfl
  have MDPreset : Mk K CDPreset fDPreset := ⟨mkDPreset, iDPreset, fnDPreset, kCDPreset⟩
  have c0DPreset : Cls K CDPreset := ⟨pgDPreset, hdDPreset, poDPreset, saDPreset⟩
  have FDPreset : FunD K "__init__" "Preset.__init__" (defArgs s_Preset_init) (defBody s_Preset_init) (defScope s_Preset_init) [] [] fDPreset _ := ⟨⟨ocDPreset, odDPreset, .none, kVDPreset, dcDPreset, pmDPreset, anDPreset, cdDPreset, ctDPreset, slDPreset, rfl, lDPreset, cDPreset, .inl ⟨rfl, rfl⟩, .inl rfl⟩, kDPreset⟩
  have bDPreset := kbn_mk (ps := ["self", "kind", "right", "taker", "option"]) (ks := ["option"]) (n := 4) FDPreset fun _ _ _ _ _ _ s us ws h1 h2 => match us, ws, h1, h2 with | [_, _, _, _], [_], _, _ => .of_eq rfl
  have MDUse : Mk K CDUse fDUse := ⟨mkDUse, iDUse, fnDUse, kCDUse⟩
  have c0DUse : Cls K CDUse := ⟨pgDUse, hdDUse, poDUse, saDUse⟩
  have FDUse := fun_mk (st := s_Use_init) lDUse cDUse kDUse
  have bDUse := FDUse.binds (ps := ["self", "right", "thing"]) fun _ _ _ _ _ _ us hl => match us, hl with | [_, _, _], _ => rfl
  have misinstance := PySem.W.mg_none_of X G zisinstance
  have mstr := PySem.W.mg_none_of X G zstr
  have mlen := PySem.W.mg_none_of X G zlen
  have mbool := PySem.W.mg_none_of X G zbool
  have mrange := PySem.W.mg_none_of X G zrange
  have mmax := PySem.W.mg_none_of X G zmax
  have mmin := PySem.W.mg_none_of X G zmin
  have mlist := PySem.W.mg_none_of X G zlist
  have mdict := PySem.W.mg_none_of X G zdict
  have mrepr := PySem.W.mg_none_of X G zrepr
  have mL := PySem.W.mg_of X G aL
  have mR := PySem.W.mg_of X G gRs
  have hR := kt_mk lRs
  have mM := PySem.W.mg_of X G gMs
  have hM := kt_mk lMs
  have mK := PySem.W.mg_of X G gK
  have hKr := kr_mk lK hK loK
  have ex : ∀ a b, PySem.W.exmOne K (.ref ((clOf CEname CEright CEtaker CEflag CEkind) a)) (.ref ((clOf CEname CEright CEtaker CEflag CEkind) b)) = some (decide (a = b)) := fun a b => match a, b with
    | .name, .name => exm_of eCEname eCEname iCEname tCEname snamename
    | .name, .right => exm_of eCEname eCEright iCEright tCEright snameright
    | .name, .taker => exm_of eCEname eCEtaker iCEtaker tCEtaker snametaker
    | .name, .flag => exm_of eCEname eCEflag iCEflag tCEflag snameflag
    | .name, .kind => exm_of eCEname eCEkind iCEkind tCEkind snamekind
    | .right, .name => exm_of eCEright eCEname iCEname tCEname srightname
    | .right, .right => exm_of eCEright eCEright iCEright tCEright srightright
    | .right, .taker => exm_of eCEright eCEtaker iCEtaker tCEtaker srighttaker
    | .right, .flag => exm_of eCEright eCEflag iCEflag tCEflag srightflag
    | .right, .kind => exm_of eCEright eCEkind iCEkind tCEkind srightkind
    | .taker, .name => exm_of eCEtaker eCEname iCEname tCEname stakername
    | .taker, .right => exm_of eCEtaker eCEright iCEright tCEright stakerright
    | .taker, .taker => exm_of eCEtaker eCEtaker iCEtaker tCEtaker stakertaker
    | .taker, .flag => exm_of eCEtaker eCEflag iCEflag tCEflag stakerflag
    | .taker, .kind => exm_of eCEtaker eCEkind iCEkind tCEkind stakerkind
    | .flag, .name => exm_of eCEflag eCEname iCEname tCEname sflagname
    | .flag, .right => exm_of eCEflag eCEright iCEright tCEright sflagright
    | .flag, .taker => exm_of eCEflag eCEtaker iCEtaker tCEtaker sflagtaker
    | .flag, .flag => exm_of eCEflag eCEflag iCEflag tCEflag sflagflag
    | .flag, .kind => exm_of eCEflag eCEkind iCEkind tCEkind sflagkind
    | .kind, .name => exm_of eCEkind eCEname iCEname tCEname skindname
    | .kind, .right => exm_of eCEkind eCEright iCEright tCEright skindright
    | .kind, .taker => exm_of eCEkind eCEtaker iCEtaker tCEtaker skindtaker
    | .kind, .flag => exm_of eCEkind eCEflag iCEflag tCEflag skindflag
    | .kind, .kind => exm_of eCEkind eCEkind iCEkind tCEkind skindkind
  have ca : Caught K mg (clOf CEname CEright CEtaker CEflag CEkind) := ⟨PySem.W.mg_of X G aEname, PySem.W.mg_of X G aEright, PySem.W.mg_of X G aEtaker, PySem.W.mg_of X G aEflag, PySem.W.mg_of X G aEkind, ex, fun a => match a with | .name => xfEname | .right => xfEright | .taker => xfEtaker | .flag => xfEflag | .kind => xfEkind, fun a => match a with | .name => nbEname | .right => nbEright | .taker => nbEtaker | .flag => nbEflag | .kind => nbEkind⟩
  refine ⟨PySem.W.fnOf "law" "law" (defArgs s_law) (defBody s_law) (defScope s_law) .none kV28 dc28 pm28 an28 cd28 ct28, fun s v => .of_eq rfl, fun base _ _ => ?_⟩
  have Ename : Err l.prog w K mg base "InvalidName" CEname := ⟨PySem.W.mg_of X G aEname, OEname, nbEname, ex .name .name, fEname, _, iEname, tEname, ok_InvalidName FEname B, bEname⟩
  have Eright : Err l.prog w K mg base "InvalidRight" CEright := ⟨PySem.W.mg_of X G aEright, OEright, nbEright, ex .right .right, fEright, _, iEright, tEright, ok_InvalidRight FEright B, bEright⟩
  have Etaker : Err l.prog w K mg base "InvalidTaker" CEtaker := ⟨PySem.W.mg_of X G aEtaker, OEtaker, nbEtaker, ex .taker .taker, fEtaker, _, iEtaker, tEtaker, ok_InvalidTaker FEtaker B, bEtaker⟩
  have Eflag : Err l.prog w K mg base "InvalidFlag" CEflag := ⟨PySem.W.mg_of X G aEflag, OEflag, nbEflag, ex .flag .flag, fEflag, _, iEflag, tEflag, ok_InvalidFlag FEflag B, bEflag⟩
  have Ekind : Err l.prog w K mg base "InvalidKind" CEkind := ⟨PySem.W.mg_of X G aEkind, OEkind, nbEkind, ex .kind .kind, fEkind, _, iEkind, tEkind, ok_InvalidKind FEkind B, bEkind⟩
  have o0 : FnOk l.prog w K mg base CX0 1 f0 _ ["value"] (spP K isName) := ok_is_name F0 misinstance mstr mlen mL mR hR
  have o1 : FnOk l.prog w K mg base CX0 2 f1 _ ["value"] (spP K isTaker) := ok_is_taker F1 o0 b0 k0 g0
  have o2 : FnOk l.prog w K mg base CX0 1 f2 _ ["value"] (spP K isRight) := ok_is_right F2 misinstance mstr mK hKr
  have o3 : FnOk l.prog w K mg base CX0 1 f3 _ ["value"] (spP K isMade) := ok_is_made F3 mM hM
  have o4 : FnOk l.prog w K mg base CX0 1 f4 _ ["value"] (spP K isFlag) := ok_is_flag F4
  have o5 : FnOk l.prog w K mg base (L2.CX l.prog w) 3 f5 _ ["right"] (spKind K CEright) := ok_kind_of F5 Eright o2 b2 k2 g2 mK hKr
  have ch : Chk l.prog w K mg base (clOf CEname CEright CEtaker CEflag CEkind) :=
    ⟨df_mk (ok_check_name F6 Ename o0 b0 k0 g0) b6 k6 g6, df_mk (ok_check_taker F7 Etaker o1 b1 k1 g1) b7 k7 g7, df_mk (ok_check_right F8 Eright o2 b2 k2 g2) b8 k8 g8, df_mk (ok_check_made_kind F10 Ekind o3 b3 k3 g3) b10 k10 g10,
      df_mk (ok_check_flag F11 Eflag o4 b4 k4 g4) b11 k11 g11, df_mk (ok_check_right_on F9 Eright o5 b5 k5 g5) b9 k9 g9, df_mk (ok_check_option F12 Eflag o4 b4 k4 g4) b12 k12 g12⟩
  have dC := df_mk (ok_cell (P := l.prog) (w := w) (base := base) F13 mlen) b13 k13 g13
  have dB := df_mk (ok_box (P := l.prog) (w := w) (base := base) F14 mmax) b14 k14 g14
  have dT := df_mk (ok_take (P := l.prog) (w := w) (mg := mg) (base := base) F15) b15 k15 g15
  have dN := df_mk (ok_names F16 dT mrange) b16 k16 g16
  have dO := df_mk (ok_odd F17 dT) b17 k17 g17
  have dP := df_mk (ok_parts F18 dT dN dO mrange mlen) b18 k18 g18
  have dn := df_mk (ok_lname (P := l.prog) (w := w) (base := base) F19 misinstance mstr mlen) b19 k19 g19
  have dr := df_mk (ok_lright (P := l.prog) (w := w) (base := base) F20 misinstance mstr) b20 k20 g20
  have dt := df_mk (ok_ltaker F21 dn) b21 k21 g21
  have dfl := df_mk (ok_lflag (P := l.prog) (w := w) (base := base) F22 misinstance mbool) b22 k22 g22
  have dtd := df_mk (ok_ltake F23 dn misinstance mbool) b23 k23 g23
  have dpd := df_mk (ok_lpreset F24 dt dfl misinstance mstr) b24 k24 g24
  have dd := df_mk (ok_ldue F25 dn dr dt dfl dtd dpd) b25 k25 g25
  have dm := df_mk (ok_made (cl := (clOf CEname CEright CEtaker CEflag CEkind)) F26
    MDGive (ok_Give FDGive ch c0DGive nDGiveright nDGivething nDGivetaker nDGiveoption) (PySem.W.mg_of X G aDGive) bDGive
    MDTake (ok_Take FDTake ch c0DTake nDTakeright nDTakething nDTaketaker nDTakegiver nDTakeonly_option nDTakecascade) (PySem.W.mg_of X G aDTake) bDTake
    MDCall (ok_Call FDCall ch c0DCall nDCallfunction) (PySem.W.mg_of X G aDCall) bDCall
    MDPreset (ok_Preset FDPreset ch c0DPreset nDPresetkind nDPresetright nDPresettaker nDPresetoption) (PySem.W.mg_of X G aDPreset) bDPreset
    MDUse (ok_Use FDUse ch c0DUse nDUseright nDUsething) (PySem.W.mg_of X G aDUse) bDUse) b26 k26 g26
  have df := df_mk (ok_found F27 dm ca) b27 k27 g27
  exact ok_law F28 dC dB dP df dd mrange misinstance mlen mmax mmin mlist mdict mrepr
end K07
open PySem PySem.W PyProof.Rows
set_option maxHeartbeats 0 in
theorem PySem.Challenge.cw_rolereach_k07_deeds_refused_holds : PySem.Challenge.rw_rolereach_k07_deeds_refused.Holds := by
  w_on; o_law; k_head; (case hw => w_witness2)
  k_fill
  refine RG.walk_ofG (l := PySem.Challenge.rw_rolereach_k07_deeds_refused) (n := 63) (k := 9) (x := "_law_script") (CX := fun _ => L2.CX0) (sp := fun w => K07.spLaw _) rfl (by decide) rfl ⟨rfl, by decide, by decide⟩ (fun w h Y => PySem.W.kIn_of Y) ?F (fun _ _ a ns hl hO hS => ⟨a, ns, rfl, hS, hl, hO, fun _ => rfl⟩) (fun _ _ _ _ _ h => h)
  case F =>
    intro w mg fa h KX G hmg
    refine' K07.all_mk KX G hmg ?a0 ?l0 ?c0 ?k0 ?a1 ?l1 ?c1 ?k1 ?a2 ?l2 ?c2 ?k2 ?a3 ?l3 ?c3 ?k3 ?a4 ?l4 ?c4 ?k4 ?a5 ?l5 ?c5 ?k5 ?a6 ?l6 ?c6 ?k6 ?a7 ?l7 ?c7 ?k7 ?a8 ?l8 ?c8 ?k8 ?a9 ?l9 ?c9 ?k9 ?a10 ?l10 ?c10 ?k10 ?a11 ?l11 ?c11 ?k11 ?a12 ?l12 ?c12 ?k12 ?a13 ?l13 ?c13 ?k13 ?a14 ?l14 ?c14 ?k14 ?a15 ?l15 ?c15 ?k15 ?a16 ?l16 ?c16 ?k16 ?a17 ?l17 ?c17 ?k17 ?a18 ?l18 ?c18 ?k18 ?a19 ?l19 ?c19 ?k19 ?a20 ?l20 ?c20 ?k20 ?a21 ?l21 ?c21 ?k21 ?a22 ?l22 ?c22 ?k22 ?a23 ?l23 ?c23 ?k23 ?a24 ?l24 ?c24 ?k24 ?a25 ?l25 ?c25 ?k25 ?a26 ?l26 ?c26 ?k26 ?a27 ?l27 ?c27 ?k27 ?a28 ?l28 ?c28 ?k28 ?aR ?rdR ?gaR ?inR ?aEname ?xEname ?saEname ?gaEname ?ggEname ?nbEname ?iEname ?tEname ?lEname ?cEname ?kEname ?kCEname ?eCEname ?tCEname ?hCEname ?iCEname ?aEright ?xEright ?saEright ?gaEright ?ggEright ?nbEright ?iEright ?tEright ?lEright ?cEright ?kEright ?kCEright ?eCEright ?tCEright ?hCEright ?iCEright ?aEtaker ?xEtaker ?saEtaker ?gaEtaker ?ggEtaker ?nbEtaker ?iEtaker ?tEtaker ?lEtaker ?cEtaker ?kEtaker ?kCEtaker ?eCEtaker ?tCEtaker ?hCEtaker ?iCEtaker ?aEflag ?xEflag ?saEflag ?gaEflag ?ggEflag ?nbEflag ?iEflag ?tEflag ?lEflag ?cEflag ?kEflag ?kCEflag ?eCEflag ?tCEflag ?hCEflag ?iCEflag ?aEkind ?xEkind ?saEkind ?gaEkind ?ggEkind ?nbEkind ?iEkind ?tEkind ?lEkind ?cEkind ?kEkind ?kCEkind ?eCEkind ?tCEkind ?hCEkind ?iCEkind ?snamename ?snameright ?snametaker ?snameflag ?snamekind ?srightname ?srightright ?srighttaker ?srightflag ?srightkind ?stakername ?stakerright ?stakertaker ?stakerflag ?stakerkind ?sflagname ?sflagright ?sflagtaker ?sflagflag ?sflagkind ?skindname ?skindright ?skindtaker ?skindflag ?skindkind ?aDGive ?mkDGive ?iDGive ?fnDGive ?kCDGive ?lDGive ?cDGive ?kDGive ?pgDGive ?hdDGive ?poDGive ?saDGive ?nDGiveright ?nDGivething ?nDGivetaker ?nDGiveoption ?aDTake ?mkDTake ?iDTake ?fnDTake ?kCDTake ?lDTake ?cDTake ?kDTake ?pgDTake ?hdDTake ?poDTake ?saDTake ?nDTakeright ?nDTakething ?nDTaketaker ?nDTakegiver ?nDTakeonly_option ?nDTakecascade ?aDCall ?mkDCall ?iDCall ?fnDCall ?kCDCall ?lDCall ?cDCall ?kDCall ?pgDCall ?hdDCall ?poDCall ?saDCall ?nDCallfunction ?aDPreset ?mkDPreset ?iDPreset ?fnDPreset ?kCDPreset ?lDPreset ?cDPreset ?kDPreset ?pgDPreset ?hdDPreset ?poDPreset ?saDPreset ?nDPresetkind ?nDPresetright ?nDPresettaker ?nDPresetoption ?aDUse ?mkDUse ?iDUse ?fnDUse ?kCDUse ?lDUse ?cDUse ?kDUse ?pgDUse ?hdDUse ?poDUse ?saDUse ?nDUseright ?nDUsething ?aL ?gRs ?lRs ?gMs ?lMs ?gK ?lK ?hK ?loK ?zisinstance ?zstr ?zlen ?zbool ?zrange ?zmax ?zmin ?zlist ?zdict ?zrepr
    (case a0 => k_is)
    (case l0 => k_is)
    (case c0 => k_is)
    (case k0 => k_is)
    (case a1 => k_is)
    (case l1 => k_is)
    (case c1 => k_is)
    (case k1 => k_is)
    (case a2 => k_is)
    (case l2 => k_is)
    (case c2 => k_is)
    (case k2 => k_is)
    (case a3 => k_is)
    (case l3 => k_is)
    (case c3 => k_is)
    (case k3 => k_is)
    (case a4 => k_is)
    (case l4 => k_is)
    (case c4 => k_is)
    (case k4 => k_is)
    (case a5 => k_is)
    (case l5 => k_is)
    (case c5 => k_is)
    (case k5 => k_is)
    (case a6 => k_is)
    (case l6 => k_is)
    (case c6 => k_is)
    (case k6 => k_is)
    (case a7 => k_is)
    (case l7 => k_is)
    (case c7 => k_is)
    (case k7 => k_is)
    (case a8 => k_is)
    (case l8 => k_is)
    (case c8 => k_is)
    (case k8 => k_is)
    (case a9 => k_is)
    (case l9 => k_is)
    (case c9 => k_is)
    (case k9 => k_is)
    (case a10 => k_is)
    (case l10 => k_is)
    (case c10 => k_is)
    (case k10 => k_is)
    (case a11 => k_is)
    (case l11 => k_is)
    (case c11 => k_is)
    (case k11 => k_is)
    (case a12 => k_is)
    (case l12 => k_is)
    (case c12 => k_is)
    (case k12 => k_is)
    (case a13 => k_is)
    (case l13 => k_is)
    (case c13 => k_is)
    (case k13 => k_is)
    (case a14 => k_is)
    (case l14 => k_is)
    (case c14 => k_is)
    (case k14 => k_is)
    (case a15 => k_is)
    (case l15 => k_is)
    (case c15 => k_is)
    (case k15 => k_is)
    (case a16 => k_is)
    (case l16 => k_is)
    (case c16 => k_is)
    (case k16 => k_is)
    (case a17 => k_is)
    (case l17 => k_is)
    (case c17 => k_is)
    (case k17 => k_is)
    (case a18 => k_is)
    (case l18 => k_is)
    (case c18 => k_is)
    (case k18 => k_is)
    (case a19 => k_is)
    (case l19 => k_is)
    (case c19 => k_is)
    (case k19 => k_is)
    (case a20 => k_is)
    (case l20 => k_is)
    (case c20 => k_is)
    (case k20 => k_is)
    (case a21 => k_is)
    (case l21 => k_is)
    (case c21 => k_is)
    (case k21 => k_is)
    (case a22 => k_is)
    (case l22 => k_is)
    (case c22 => k_is)
    (case k22 => k_is)
    (case a23 => k_is)
    (case l23 => k_is)
    (case c23 => k_is)
    (case k23 => k_is)
    (case a24 => k_is)
    (case l24 => k_is)
    (case c24 => k_is)
    (case k24 => k_is)
    (case a25 => k_is)
    (case l25 => k_is)
    (case c25 => k_is)
    (case k25 => k_is)
    (case a26 => k_is)
    (case l26 => k_is)
    (case c26 => k_is)
    (case k26 => k_is)
    (case a27 => k_is)
    (case l27 => k_is)
    (case c27 => k_is)
    (case k27 => k_is)
    (case a28 => k_is)
    (case l28 => k_is)
    (case c28 => k_is)
    (case k28 => k_is)
    (case aR => k_is)
    (case rdR => k_is)
    (case gaR => k_is)
    (case inR => k_is)
    (case aEname => k_is)
    (case xEname => k_is)
    (case saEname => k_is)
    (case gaEname => k_is)
    (case ggEname => k_is)
    (case nbEname => k_is)
    (case iEname => k_is)
    (case tEname => k_is)
    (case lEname => k_is)
    (case cEname => k_is)
    (case kEname => k_is)
    (case kCEname => k_is)
    (case eCEname => k_is)
    (case tCEname => k_is)
    (case hCEname => k_is)
    (case iCEname => k_is)
    (case aEright => k_is)
    (case xEright => k_is)
    (case saEright => k_is)
    (case gaEright => k_is)
    (case ggEright => k_is)
    (case nbEright => k_is)
    (case iEright => k_is)
    (case tEright => k_is)
    (case lEright => k_is)
    (case cEright => k_is)
    (case kEright => k_is)
    (case kCEright => k_is)
    (case eCEright => k_is)
    (case tCEright => k_is)
    (case hCEright => k_is)
    (case iCEright => k_is)
    (case aEtaker => k_is)
    (case xEtaker => k_is)
    (case saEtaker => k_is)
    (case gaEtaker => k_is)
    (case ggEtaker => k_is)
    (case nbEtaker => k_is)
    (case iEtaker => k_is)
    (case tEtaker => k_is)
    (case lEtaker => k_is)
    (case cEtaker => k_is)
    (case kEtaker => k_is)
    (case kCEtaker => k_is)
    (case eCEtaker => k_is)
    (case tCEtaker => k_is)
    (case hCEtaker => k_is)
    (case iCEtaker => k_is)
    (case aEflag => k_is)
    (case xEflag => k_is)
    (case saEflag => k_is)
    (case gaEflag => k_is)
    (case ggEflag => k_is)
    (case nbEflag => k_is)
    (case iEflag => k_is)
    (case tEflag => k_is)
    (case lEflag => k_is)
    (case cEflag => k_is)
    (case kEflag => k_is)
    (case kCEflag => k_is)
    (case eCEflag => k_is)
    (case tCEflag => k_is)
    (case hCEflag => k_is)
    (case iCEflag => k_is)
    (case aEkind => k_is)
    (case xEkind => k_is)
    (case saEkind => k_is)
    (case gaEkind => k_is)
    (case ggEkind => k_is)
    (case nbEkind => k_is)
    (case iEkind => k_is)
    (case tEkind => k_is)
    (case lEkind => k_is)
    (case cEkind => k_is)
    (case kEkind => k_is)
    (case kCEkind => k_is)
    (case eCEkind => k_is)
    (case tCEkind => k_is)
    (case hCEkind => k_is)
    (case iCEkind => k_is)
    (case snamename => first | rfl | k_is)
    (case snameright => first | rfl | k_is)
    (case snametaker => first | rfl | k_is)
    (case snameflag => first | rfl | k_is)
    (case snamekind => first | rfl | k_is)
    (case srightname => first | rfl | k_is)
    (case srightright => first | rfl | k_is)
    (case srighttaker => first | rfl | k_is)
    (case srightflag => first | rfl | k_is)
    (case srightkind => first | rfl | k_is)
    (case stakername => first | rfl | k_is)
    (case stakerright => first | rfl | k_is)
    (case stakertaker => first | rfl | k_is)
    (case stakerflag => first | rfl | k_is)
    (case stakerkind => first | rfl | k_is)
    (case sflagname => first | rfl | k_is)
    (case sflagright => first | rfl | k_is)
    (case sflagtaker => first | rfl | k_is)
    (case sflagflag => first | rfl | k_is)
    (case sflagkind => first | rfl | k_is)
    (case skindname => first | rfl | k_is)
    (case skindright => first | rfl | k_is)
    (case skindtaker => first | rfl | k_is)
    (case skindflag => first | rfl | k_is)
    (case skindkind => first | rfl | k_is)
    (case aDGive => k_is)
    (case mkDGive => k_is)
    (case iDGive => k_is)
    (case fnDGive => k_is)
    (case kCDGive => k_is)
    (case lDGive => k_is)
    (case cDGive => k_is)
    (case kDGive => k_is)
    (case pgDGive => k_is)
    (case hdDGive => k_is)
    (case poDGive => k_is)
    (case saDGive => k_is)
    (case nDGiveright => k_is)
    (case nDGivething => k_is)
    (case nDGivetaker => k_is)
    (case nDGiveoption => k_is)
    (case aDTake => k_is)
    (case mkDTake => k_is)
    (case iDTake => k_is)
    (case fnDTake => k_is)
    (case kCDTake => k_is)
    (case lDTake => k_is)
    (case cDTake => k_is)
    (case kDTake => k_is)
    (case pgDTake => k_is)
    (case hdDTake => k_is)
    (case poDTake => k_is)
    (case saDTake => k_is)
    (case nDTakeright => k_is)
    (case nDTakething => k_is)
    (case nDTaketaker => k_is)
    (case nDTakegiver => k_is)
    (case nDTakeonly_option => k_is)
    (case nDTakecascade => k_is)
    (case aDCall => k_is)
    (case mkDCall => k_is)
    (case iDCall => k_is)
    (case fnDCall => k_is)
    (case kCDCall => k_is)
    (case lDCall => k_is)
    (case cDCall => k_is)
    (case kDCall => k_is)
    (case pgDCall => k_is)
    (case hdDCall => k_is)
    (case poDCall => k_is)
    (case saDCall => k_is)
    (case nDCallfunction => k_is)
    (case aDPreset => k_is)
    (case mkDPreset => k_is)
    (case iDPreset => k_is)
    (case fnDPreset => k_is)
    (case kCDPreset => k_is)
    (case lDPreset => k_is)
    (case cDPreset => k_is)
    (case kDPreset => k_is)
    (case pgDPreset => k_is)
    (case hdDPreset => k_is)
    (case poDPreset => k_is)
    (case saDPreset => k_is)
    (case nDPresetkind => k_is)
    (case nDPresetright => k_is)
    (case nDPresettaker => k_is)
    (case nDPresetoption => k_is)
    (case aDUse => k_is)
    (case mkDUse => k_is)
    (case iDUse => k_is)
    (case fnDUse => k_is)
    (case kCDUse => k_is)
    (case lDUse => k_is)
    (case cDUse => k_is)
    (case kDUse => k_is)
    (case pgDUse => k_is)
    (case hdDUse => k_is)
    (case poDUse => k_is)
    (case saDUse => k_is)
    (case nDUseright => k_is)
    (case nDUsething => k_is)
    (case aL => k_is)
    (case gRs => k_is)
    (case lRs => k_is)
    (case gMs => k_is)
    (case lMs => k_is)
    (case gK => k_is)
    (case lK => k_is)
    (case hK => exact ⟨⟨_, _, rfl, rfl⟩, ⟨_, _, rfl, rfl⟩, ⟨_, _, rfl, rfl⟩, ⟨_, _, rfl, rfl⟩, ⟨_, _, rfl, rfl⟩, trivial⟩)
    (case loK => first | rfl | decide | k_is)
    (case zisinstance => k_is)
    (case zstr => k_is)
    (case zlen => k_is)
    (case zbool => k_is)
    (case zrange => k_is)
    (case zmax => k_is)
    (case zmin => k_is)
    (case zlist => k_is)
    (case zdict => k_is)
    (case zrepr => k_is)
