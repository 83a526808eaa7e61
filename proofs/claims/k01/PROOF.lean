import PyProof.Rows.All
import Wide.All
import OpenK.AllK
import Wide.FinOn
import KE.KStateDown
import KE.KBits
import Lean
import HandS.ForMost
import HandS.More
import HandS.Exc
import HandS.WordsExc
import HandS.Defaults
import HandS.IsInst
import HandS.Wide
import HandS.WideBits
import HandS.Evl
import HandS.Head0
import HandS.Head1
import HandS.Head2
import HandS.HeadEnd
import HandS.HeadHook1
import HandS.HeadHook2
import HandS.HeadHook3
import HandS.HeadHook4
import PySem.Challenge.RW_oncenear_k01_what_is_a_number
set_option Elab.async false
set_option linter.all false
set_option maxRecDepth 100000
set_option maxHeartbeats 2000000
namespace Onc
open PySem PySem.Spec PyProof.Rows L2 Evl
/-! ### defs and calls -/
section
variable {P : Program} {w : World} {K : PySem.W.Frag} {mg : Str → Option Value} {base : Heap} {x qual : Str} {params : Arguments} {body : List Stmt} {scope : Scope} {dvs : List V} {kws : List (Str × V)} {f : Addr} {fd : FuncData}
theorem ok0 {N ps : List Str} {k : Nat} {sp : Sp} (F : FunD K x qual params body scope dvs kws f fd) (S : FnScope N ps scope) (len : ∀ vs H Q E, sp vs H Q E → vs.length = ps.length)
    (hbody : ∀ (cdv : Value) (A : Around) (outer : List Env) (s : Shared) (H : Hp) (vs : List V) (Q : VK) (E : XK), Room k (A.deeper (envOfC qual scope s.heap.objs.size f cdv)) → sp vs H Q E →
      ∃ t, PSs (cxOf CX0 P w K mg base N qual scope f cdv A outer s H E).nox body t ∧ t { nx := fun _ H' => Q .non H', rt := Q } (start N vs) H) : FnOk P w K mg base CX0 (k + 1) f fd ps sp :=
  F.ok S len fun cdv A outer s H vs Q E hr h => by
    obtain ⟨t, h1, h2⟩ := hbody cdv A outer s H vs Q E hr h
    exact ⟨t, h1.nox, h2⟩
end
structure Cal (P : Program) (w : World) (K : PySem.W.Frag) (mg : Str → Option Value) (base : Heap) (CX : CXT) (k : Nat) (x : Str) (ps : List Str) (sp : Sp) (f : Addr) (fd : FuncData) : Prop where
  ok : FnOk P w K mg base CX k f fd ps sp
  m : mg x = some (.ref f)
  kp : PySem.W.keepIn K (.ref f) = true
  b : Binds K fd ps []
section
variable {X : Cx} {CX : CXT} {k n : Nat} {f : Addr} {fd : FuncData} {ps ks : List Str} {sp : Sp} {E : XK} {x : Str} {p pos : Pos} {kws : List Keyword} {tk : TA} {g : List Value → List Value → List Value} {gV : List V → List V → List V}
/-- f(k = v, ..), no positional ones -/
theorem pe_callN0 (F : FnOk X.prog X.w X.K X.mg X.base CX k f fd ps sp) (hr : Room k X.A) (hg : Gl X x) (hm : X.mg x = some (.ref f)) (hk : PySem.W.keepIn X.K (.ref f) = true) (hb : KBn X.K fd ps 0 ks g gV) (hx : Passes CX X E)
    (hkw : PK X kws tk) (hall : (backToKw pos (keywordEach kws X.env)).all (·.1.isSome) = true := by rfl) (hks : (backToKw pos (keywordEach kws X.env)).filterMap (·.1) = ks := by rfl)
    (hdb : (x == ("__debug__" : Str)) = false := by decide)
    (hpl : ((backTo pos (starEach [] X.env)).any (·.1) || (backToKw pos (keywordEach kws X.env)).any (·.1.isNone)) = false := by rfl) :
    PE X (.Call (.Name x p) [] kws pos) (tCallN 0 ks.length sp gV E tNil tk) := by
  refine ⟨fun pins s σ H Q I h => ?_⟩
  refine wpAny_Call_Name_kw (ld_glob I hg hm ?_ hdb)
  refine PySem.W.callWith_KW0 (h₀ := X.base) I.ok.mod.kin hk hall ?_ hpl
  refine thn (hkw.run pos pins s σ H _ I h) fun ws s2 ⟨zs, H2, I2, rz, l1, l2, q2⟩ => ⟨I2.kIn, ?_⟩
  rw [hks]
  exact run_fnN (us := []) (vs := []) F hr hb hx I2 .nil rz l1 l2 q2
end
section
variable {K : PySem.W.Frag} {x qual : Str} {params : Arguments} {body : List Stmt} {scope : Scope} {dvs : List V} {kws : List (Str × V)} {f : Addr} {fd : FuncData} {ps : List Str}
/-- keywords alone, a def without defaults -/
theorem kb_plain (F : FunD K x qual params body scope [] kws f fd) (ks : List Str) (g : {α : Type} → List α → List α)
    (hrel : ∀ {zs : List V} {ws : List Value}, Vals zs ws → Vals (g zs) (g ws))
    (h : ∀ (kV doc pm : Value) (an : Option Addr) (cdv ct : Value) (ws : List Value), ws.length = ks.length → bindArgs (PySem.W.fnOf x qual params body scope .none kV doc pm an cdv ct) ⟨[], ks.zip ws⟩ = pure (ps.zip (g ws))) : KBn K fd ps 0 ks (fun _ ws => g ws) (fun _ zs => g zs) := by
  obtain ⟨oc, od, dV, kV, doc, pm, an, cdv, ct, osl, rfl, lk, hcd, hD, hK⟩ := F.ex
  rcases hD with ⟨_, rfl⟩ | ⟨e, _⟩
  · refine ⟨fun s us ws X l1 l2 => ?_, fun _ r2 => hrel r2⟩
    have e0 : us = [] := List.length_eq_zero_iff.mp l1
    subst e0
    exact .of_eq (h kV doc pm an cdv ct ws l2)
  · exact absurd rfl e
/-- keywords alone, a def with defaults -/
theorem kb_dfl (F : FunD K x qual params body scope dvs kws f fd) (hd : dvs ≠ []) (ks : List Str) (g : {α : Type} → List α → List α → List α)
    (hrel : ∀ {ds zs : List V} {its ws : List Value}, Vals ds its → Vals zs ws → Vals (g ds zs) (g its ws))
    (h : ∀ (T : Addr) (kV doc pm : Value) (an : Option Addr) (cdv ct : Value) (its ws : List Value), its.length = dvs.length → ws.length = ks.length →
      ∃ k, bindArgs (PySem.W.fnOf x qual params body scope (.ref T) kV doc pm an cdv ct) ⟨[], ks.zip ws⟩ = seqItems? (.ref T) >>= k ∧ k (some its.toArray) = pure (ps.zip (g its ws))) :
    ∃ its : List Value, KBn K fd ps 0 ks (fun _ ws => g its ws) (fun _ zs => g dvs zs) := by
  obtain ⟨oc, od, dV, kV, doc, pm, an, cdv, ct, osl, rfl, lk, hcd, hD, hK⟩ := F.ex
  rcases hD with ⟨e, _⟩ | ⟨_, T, o, its, m, rfl, lT, oT, rT⟩
  · exact absurd e hd
  · refine ⟨its, fun s us ws X l1 l2 => ?_, fun _ r2 => hrel rT r2⟩
    have e0 : us = [] := List.length_eq_zero_iff.mp l1
    subst e0
    obtain ⟨k, e1, e2⟩ := h T kV doc pm an cdv ct its ws rT.length.symm l2
    refine BindsTo.of_looks fun M => ?_
    rw [e1]
    exact looks_items X lT oT (.of_pure e2)
end
/-! ### kinds -/
section
variable {K : PySem.W.Frag} {H H' : Hp}
theorem tyX_ex {v : V} {t : Value} (e : Ex H H') (h : TyX K H v t) : TyX K H' v t := by
  cases h with
  | base b =>
    cases b with
    | non => exact .base .non
    | bl x => exact .base (.bl x)
    | int x => exact .base (.int x)
    | str x => exact .base (.str x)
    | flt x => exact .base (.flt x)
    | lst q => exact .base (.lst (e _ _ q))
    | frz q => exact .base (.frz (e _ _ q))
    | tup q => exact .base (.tup (e _ _ q))
    | dK q => exact .base (.dK (e _ _ q))
    | dT q => exact .base (.dT (e _ _ q))
    | ins q a b c d f => exact .base (.ins (e _ _ q) a b c d f)
  | byt b => exact .byt b
  | set q => exact .set (e _ _ q)
  | kList q c => exact .kList q c
  | kTuple q c => exact .kTuple q c
  | kDict q c => exact .kDict q c
  | fTuple q => exact .fTuple (e _ _ q)
  | fDict q => exact .fDict (e _ _ q)
theorem sqT_ty {a : Addr} {xs : List V} (h : SqT K H a xs) : TyX K H (.ref a) (.type "tuple") := by
  rcases h with (h | ⟨o, h⟩) | ⟨o, its, n, h1, h2, _⟩
  · exact .base (.tup h)
  · exact .fTuple h
  · exact .kTuple h1 h2
theorem sqL_ty {a : Addr} {xs : List V} (h : SqL K H a xs) : TyX K H (.ref a) (.type "list") := by
  rcases h with (h | ⟨o, h⟩) | ⟨o, its, n, h1, h2, _⟩
  · exact .base (.lst h)
  · exact .base (.frz h)
  · exact .kList h1 h2
/-- whether v is a whole number, by its kind -/
inductive WholeIs (K : PySem.W.Frag) (H : Hp) : V → Bool → Prop
  | int (i : Int) : WholeIs K H (.int i) true
  | bl (x : Bool) : WholeIs K H (.bl x) false
  | no {v : V} {t : Value} {b2 : Bool} (h : TyX K H v t) (k1 : PySem.W.kitOne K t (.type "int") = some false) (k2 : PySem.W.kitOne K t (.type "bool") = some b2) : WholeIs K H v false
theorem ty_int (i : Int) : TyX K H (.int i) (.type "int") := .base (.int i)
theorem ty_bl (x : Bool) : TyX K H (.bl x) (.type "bool") := .base (.bl x)
theorem kit_ii : PySem.W.kitOne K (.type "int") (.type "int") = some true := kit_ty (by decide +kernel : kitB "int" "int" = some true)
theorem kit_ib : PySem.W.kitOne K (.type "int") (.type "bool") = some false := kit_ty (by decide +kernel : kitB "int" "bool" = some false)
theorem kit_bi : PySem.W.kitOne K (.type "bool") (.type "int") = some true := kit_ty (by decide +kernel : kitB "bool" "int" = some true)
theorem kit_bb : PySem.W.kitOne K (.type "bool") (.type "bool") = some true := kit_ty (by decide +kernel : kitB "bool" "bool" = some true)
theorem WholeIs.kinds {v : V} {b : Bool} (h : WholeIs K H v b) : ∃ t b1 b2, TyX K H v t ∧ PySem.W.kitOne K t (.type "int") = some b1 ∧ PySem.W.kitOne K t (.type "bool") = some b2 ∧ b = (b1 && !b2) := by
  cases h with
  | int i => exact ⟨_, _, _, ty_int i, kit_ii, kit_ib, rfl⟩
  | bl x => exact ⟨_, _, _, ty_bl x, kit_bi, kit_bb, rfl⟩
  | no h k1 k2 => exact ⟨_, _, _, h, k1, k2, rfl⟩
def isNumB (m e : Int) : Bool := decide (m % 2 = 1) || (decide (m = 0) && decide (e = 0))
inductive NumIs (K : PySem.W.Frag) (H : Hp) : V → Bool → Prop
  | no {v : V} {t : Value} (h : TyX K H v t) (k : PySem.W.kitOne K t (.type "tuple") = some false) : NumIs K H v false
  | len {a : Addr} {xs : List V} (h : SqT K H a xs) (l : xs.length ≠ 2) : NumIs K H (.ref a) false
  | fst {a : Addr} {x y : V} {b : Bool} (h : SqT K H a [x, y]) (p : WholeIs K H x false) (q : WholeIs K H y b) : NumIs K H (.ref a) false
  | snd {a : Addr} {x y : V} (h : SqT K H a [x, y]) (p : WholeIs K H x true) (q : WholeIs K H y false) : NumIs K H (.ref a) false
  | num {a : Addr} {m e : Int} (h : SqT K H a [.int m, .int e]) : NumIs K H (.ref a) (isNumB m e)
theorem whole_ex {v : V} {b : Bool} (e : Ex H H') (h : WholeIs K H v b) : WholeIs K H' v b := by
  cases h with
  | int i => exact .int i
  | bl x => exact .bl x
  | no h k1 k2 => exact .no (tyX_ex e h) k1 k2
theorem whole_int (i : Int) : WholeIs K H (.int i) true := .int i
def isWholeD : PyData → Bool
  | .int _ => true
  | _ => false
theorem whole_dp {v : V} {d : PyData} (h : Dp K H v d) : WholeIs K H v (isWholeD d) := by
  cases h with
  | non => exact .no (.base .non) (kit_ty (by decide +kernel : kitB "NoneType" "int" = some false)) (kit_ty (by decide +kernel : kitB "NoneType" "bool" = some false))
  | bl b => exact .bl b
  | int i => exact .int i
  | str x => exact .no (.base (.str x)) (kit_ty (by decide +kernel : kitB "str" "int" = some false)) (kit_ty (by decide +kernel : kitB "str" "bool" = some false))
  | lst q _ => exact .no (sqL_ty q) (kit_ty (by decide +kernel : kitB "list" "int" = some false)) (kit_ty (by decide +kernel : kitB "list" "bool" = some false))
  | tup q _ => exact .no (sqT_ty q) (kit_ty (by decide +kernel : kitB "tuple" "int" = some false)) (kit_ty (by decide +kernel : kitB "tuple" "bool" = some false))
theorem num_dp {v : V} {d : PyData} (h : Dp K H v d) : ∃ b, NumIs K H v b := by
  cases h with
  | non => exact ⟨_, .no (.base .non) (kit_ty (by decide +kernel : kitB "NoneType" "tuple" = some false))⟩
  | bl b => exact ⟨_, .no (.base (.bl b)) (kit_ty (by decide +kernel : kitB "bool" "tuple" = some false))⟩
  | int i => exact ⟨_, .no (.base (.int i)) (kit_ty (by decide +kernel : kitB "int" "tuple" = some false))⟩
  | str x => exact ⟨_, .no (.base (.str x)) (kit_ty (by decide +kernel : kitB "str" "tuple" = some false))⟩
  | lst q _ => exact ⟨_, .no (sqL_ty q) (kit_ty (by decide +kernel : kitB "list" "tuple" = some false))⟩
  | @tup a xs ds q r =>
    cases r with
    | nil => exact ⟨_, .len q (by decide)⟩
    | @cons x xs' d1 ds' r1 r2 =>
      cases r2 with
      | nil => exact ⟨_, .len q (by simp)⟩
      | @cons y ys d2 ds'' r3 r4 =>
        cases r4 with
        | cons r5 r6 => exact ⟨_, .len q (by simp)⟩
        | nil =>
          have w1 := whole_dp r1
          have w2 := whole_dp r3
          cases r1 with
          | int m =>
            cases r3 with
            | int e => exact ⟨_, .num q⟩
            | _ => exact ⟨_, .snd q w1 w2⟩
          | _ => exact ⟨_, .fst q w1 w2⟩
theorem num_ex {v : V} {b : Bool} (e : Ex H H') (h : NumIs K H v b) : NumIs K H' v b := by
  cases h with
  | no h k => exact .no (tyX_ex e h) k
  | len h l => exact .len (ex_t e h) l
  | fst h p q => exact .fst (ex_t e h) (whole_ex e p) (whole_ex e q)
  | snd h p q => exact .snd (ex_t e h) (whole_ex e p) (whole_ex e q)
  | num h => exact .num (ex_t e h)
mutual
theorem dp_ex (e : Ex H H') : ∀ (d : PyData) (v : V), Dp K H v d → Dp K H' v d
  | .none, _, h => by cases h; exact .non
  | .bool b, _, h => by cases h; exact .bl b
  | .int i, _, h => by cases h; exact .int i
  | .str x, _, h => by cases h; exact .str x
  | .list ds, _, h => by
    cases h with
    | lst hs ha => exact .lst (ex_l e hs) (dpAll_ex e ds _ ha)
  | .tuple ds, _, h => by
    cases h with
    | tup hs ha => exact .tup (ex_t e hs) (dpAll_ex e ds _ ha)
  | .dict _, _, h => by cases h
theorem dpAll_ex (e : Ex H H') : ∀ (ds : List PyData) (vs : List V), DpAll K H vs ds → DpAll K H' vs ds
  | [], _, h => by cases h; exact .nil
  | d :: ds, _, h => by
    cases h with
    | cons h1 h2 => exact .cons (dp_ex e d _ h1) (dpAll_ex e ds _ h2)
end
theorem dpAll_mem {vs : List V} {ds : List PyData} (h : DpAll K H vs ds) : ∀ {i : Nat} {v : V}, vs[i]? = some v → ∃ d, Dp K H v d := by
  intro i v hv
  induction vs generalizing ds i with
  | nil => simp at hv
  | cons x xs ih =>
    cases h with
    | cons h1 h2 =>
      cases i with
      | zero =>
        have e : x = v := Option.some.inj hv
        subst e
        exact ⟨_, h1⟩
      | succ j => exact ih h2 hv
theorem dpAll_append : ∀ {xs ys : List V} {ds es : List PyData}, DpAll K H xs ds → DpAll K H ys es → DpAll K H (xs ++ ys) (ds ++ es)
  | [], _, [], _, _, h => h
  | _ :: _, _, _ :: _, _, .cons h1 h2, h => .cons h1 (dpAll_append h2 h)
/-! ### data by evaluation -/
def EvD (K : PySem.W.Frag) (te : TE) (σ : L2.St) (H : Hp) : Prop := ∀ H1, Ex H H1 → ∀ Q : VK, (∀ v H2, Ex H1 H2 → (∃ d, Dp K H2 v d) → Q v H2) → te σ H1 Q
def EvDs (K : PySem.W.Frag) (ta : TA) (σ : L2.St) (H : Hp) (n : Nat) : Prop := ∀ H1, Ex H H1 → ∀ Q : List V → Hp → Prop, (∀ vs H2, Ex H1 H2 → (∃ ds, DpAll K H2 vs ds) → vs.length = n → Q vs H2) → ta σ H1 Q
variable {σ : L2.St} {ta tb te : TE}
theorem ed_of {v : V} {d : PyData} (h : Ev te σ H v) (hd : Dp K H v d) : EvD K te σ H := fun H1 e Q q => h H1 e Q fun H2 e2 => q v H2 e2 ⟨d, dp_ex (e.trans e2) d v hd⟩
theorem ed_int {i : Int} (h : Ev te σ H (.int i)) : EvD K te σ H := ed_of h (.int i)
theorem ed_c {v : V} {d : PyData} (hd : Dp K H v d) : EvD K (tC v) σ H := ed_of ev_c hd
theorem eds_nil : EvDs K tNil σ H 0 := fun H1 _ _ q => q [] H1 (Ex.refl H1) ⟨[], .nil⟩ rfl
theorem eds_cons {tr : TA} {n : Nat} (h : EvD K ta σ H) (hr : EvDs K tr σ H n) : EvDs K (tCons ta tr) σ H (n + 1) := fun H1 e Q q =>
  h H1 e _ fun v H2 e2 ⟨d, hd⟩ => hr H2 (e.trans e2) _ fun vs H3 e3 ⟨ds, hds⟩ hl => q (v :: vs) H3 (e2.trans e3) ⟨d :: ds, .cons (dp_ex e3 d v hd) hds⟩ (congrArg Nat.succ hl)
theorem ed_tup {tr : TA} {n : Nat} (h : EvDs K tr σ H n) (hn : n ≤ 100000 := by decide) : EvD K (tTup tr) σ H := fun H1 e Q q =>
  h H1 e _ fun vs H2 e2 ⟨ds, hds⟩ hl => ⟨sz_of (by rw [hl]; exact hn), fun p hp => q (.ref p) _ (e2.trans (Ex.new hp)) ⟨.tuple ds, .tup (st_of upd_same) (dpAll_ex (Ex.new hp) ds vs hds)⟩⟩
theorem ed_lst {tr : TA} {n : Nat} (h : EvDs K tr σ H n) (hn : n ≤ 100000 := by decide) : EvD K (tLst tr) σ H := fun H1 e Q q =>
  h H1 e _ fun vs H2 e2 ⟨ds, hds⟩ hl => ⟨sz_of (by rw [hl]; exact hn), fun p hp => q (.ref p) _ (e2.trans (Ex.new hp)) ⟨.list ds, .lst (sq_of upd_same) (dpAll_ex (Ex.new hp) ds vs hds)⟩⟩
/-- a new list of data -/
def EvLD (K : PySem.W.Frag) (te : TE) (σ : L2.St) (H : Hp) (n : Nat) : Prop := ∀ H1, Ex H H1 → ∀ Q : VK, (∀ p vs H2, Ex H1 H2 → H1 p = none → H2 p = some (.lst vs) → (∃ ds, DpAll K H2 vs ds) → vs.length = n → Q (.ref p) H2) → te σ H1 Q
theorem eld_lst {tr : TA} {n : Nat} (h : EvDs K tr σ H n) (hn : n ≤ 100000 := by decide) : EvLD K (tLst tr) σ H n := fun H1 e Q q =>
  h H1 e _ fun vs H2 e2 ⟨ds, hds⟩ hl => ⟨sz_of (by rw [hl]; exact hn), fun p hp => q p vs _ (e2.trans (Ex.new hp)) (fresh_back e2 hp) upd_same ⟨ds, dpAll_ex (Ex.new hp) ds vs hds⟩ hl⟩
/-- at slot i stands a list of n data -/
def LdAt (K : PySem.W.Frag) (H : Hp) (v : V) (n : Nat) : Prop := ∃ p vs, v = .ref p ∧ H p = some (.lst vs) ∧ vs.length = n ∧ ∃ ds, DpAll K H vs ds
theorem ldAt_ex {v : V} {n : Nat} (e : Ex H H') (h : LdAt K H v n) : LdAt K H' v n := by
  obtain ⟨p, vs, e1, h1, h2, ds, h3⟩ := h
  exact ⟨p, vs, e1, e _ _ h1, h2, ds, dpAll_ex e ds vs h3⟩
theorem eld_cat {v : V} {i n m : Nat} (hv : σ[i]? = some (some v)) (hl : LdAt K H v n) (h : EvLD K tb σ H m) (hn : n + m ≤ 100000 := by decide) : EvLD K (tOp rCat (tVar i) tb) σ H (n + m) := fun H1 e Q q => by
  obtain ⟨a, us, rfl, h1, h2, ds, h3⟩ := hl
  refine ⟨.ref a, hv, h H1 e _ fun p vs H2 e2 hp hvs ⟨es, hes⟩ hlen => ?_⟩
  refine ⟨a, p, us, vs, rfl, rfl, (e.trans e2) _ _ h1, hvs, sz_of (by rw [h2, hlen]; exact hn), fun r hr => ?_⟩
  exact q r (us ++ vs) _ (e2.trans (Ex.new hr)) (fresh_back e2 hr) upd_same ⟨ds ++ es, dpAll_append (dpAll_ex ((e.trans e2).trans (Ex.new hr)) ds us h3) (dpAll_ex (Ex.new hr) es vs hes)⟩ (by rw [List.length_append, h2, hlen])
end
/-! ### isinstance by kinds -/
section
variable {K : PySem.W.Frag} {H : Hp} {v : V} {t : Value} {b : Bool} {Q : VK}
theorem isi_at {T : String} (h : TyX K H v t) (k : PySem.W.kitOne K t (.type T) = some b) (q : Q (.bl b) H) : rIsi K [v, .ty T] H Q := ⟨v, .ty T, t, .type T, b, rfl, .ty T, h, k, q⟩
theorem isi_tup {a : Addr} {xs : List V} (h : SqT K H a xs) (q : Q (.bl true) H) : rIsi K [.ref a, .ty "tuple"] H Q := isi_at (sqT_ty h) (kit_ty (by decide +kernel : kitB "tuple" "tuple" = some true)) q
theorem rd_isi {σ : L2.St} {i : Nat} {T : String} (hv : σ[i]? = some (some v)) (h : TyX K H v t) (k : PySem.W.kitOne K t (.type T) = some b) (q : Q (.bl b) H) : tCB (rIsi K) (tCons (tVar i) (tCons (tC (.ty T)) tNil)) σ H Q := ⟨v, hv, isi_at h k q⟩
theorem rd_tup {σ : L2.St} {i : Nat} {a : Addr} {xs : List V} (hv : σ[i]? = some (some (.ref a))) (h : SqT K H a xs) (q : Q (.bl true) H) : tCB (rIsi K) (tCons (tVar i) (tCons (tC (.ty "tuple")) tNil)) σ H Q := ⟨_, hv, isi_tup h q⟩
theorem rd_isiE {σ : L2.St} {ta : TE} {T : String} (hv : ∀ Q' : VK, Q' v H → ta σ H Q') (h : TyX K H v t) (k : PySem.W.kitOne K t (.type T) = some b) (q : Q (.bl b) H) : tCB (rIsi K) (tCons ta (tCons (tC (.ty T)) tNil)) σ H Q := hv _ (isi_at h k q)
theorem rd_tupC {σ : L2.St} {ta : TE} {W : V → Hp → Prop} (hv : ∀ Q' : VK, (∀ v H', W v H' → Q' v H') → ta σ H Q') (hW : ∀ v H', W v H' → ∃ a xs, v = .ref a ∧ SqT K H' a xs) (q : ∀ v H', W v H' → Q (.bl true) H') : tCB (rIsi K) (tCons ta (tCons (tC (.ty "tuple")) tNil)) σ H Q := hv _ fun v H' hw => by
  obtain ⟨a, xs, rfl, h⟩ := hW v H' hw
  exact isi_tup h (q _ H' hw)
theorem g_name {σ : L2.St} {i : Nat} {Q : L2.St → Hp → Prop} (h : Q (σ.set i (some v)) H) : gName i v σ H Q := h
section
variable {σ : L2.St} {D : Ends} {c u' : TT} {t1 t2 : TS} {te ta' tb' : TE} {B : Bool → Hp → Prop} {g : TG}
theorem o_if (h : c σ H fun b H1 => if b = true then t1 D σ H1 else t2 D σ H1) : tIfS c t1 t2 D σ H := h
theorem o_or (h : c σ H fun b H1 => if b = true then B true H1 else u' σ H1 B) : tOr c u' σ H B := h
theorem o_and (h : c σ H fun b H1 => if b = true then u' σ H1 B else B false H1) : tAnd c u' σ H B := h
theorem o_not (h : c σ H fun b H1 => B (!b) H1) : tNot c σ H B := h
theorem o_b (h : te σ H fun x H1 => ∃ b, x = .bl b ∧ B b H1) : tB te σ H B := h
theorem o_test (h : te σ H fun x H1 => ∃ b, x = .bl b ∧ B b H1) : tTest te σ H B := h
theorem o_seq (h : t1 { D with nx := t2 D } σ H) : tSeq t1 t2 D σ H := h
theorem o_asg (h : te σ H fun x H1 => g x σ H1 D.nx) : tAsg te g D σ H := h
theorem o_ret (h : te σ H D.rt) : tRet te D σ H := h
theorem o_orV (h : ta' σ H fun x H1 => ∃ b, x = .bl b ∧ if b = true then Q (.bl true) H1 else tb' σ H1 Q) : tOrV ta' tb' σ H Q := h
theorem o_andV (h : ta' σ H fun x H1 => ∃ b, x = .bl b ∧ if b = true then tb' σ H1 Q else Q (.bl false) H1) : tAndV ta' tb' σ H Q := h
end
theorem isi_noTup (h : TyX K H v t) (k : PySem.W.kitOne K t (.type "tuple") = some false) (q : Q (.bl false) H) : rIsi K [v, .ty "tuple"] H Q := isi_at h k q
end
/-! ### x is True, x & 1 of what may be a truth -/
def intOrBl : V → Bool
  | .int _ => true
  | .bl _ => true
  | _ => false
def rIsT : R2 := fun x y H Q => ∃ b, y = .bl b ∧ intOrBl x = true ∧ Q (.bl (decide (x = .bl b))) H
def rNotT : R2 := fun x y H Q => ∃ b, y = .bl b ∧ intOrBl x = true ∧ Q (.bl (!decide (x = .bl b))) H
theorem gives_int_and_bi (p : Bool) (b : Int) (u : Tok) : Gives (Builtin.«int.__and__» ⟨[.bool p, .int b u], []⟩) (.int (Builtin.bitAnd (if p = true then (1 : Int) else 0) b)) :=
  .of_wp fun M A E s Q h => by obtain ⟨hp, g, d, tk, os⟩ := s; wp_walk; exact ⟨_, rfl, h⟩
theorem gives_bool_and_bi (p : Bool) (b : Int) (u : Tok) : Gives (Builtin.«bool.__and__» ⟨[.bool p, .int b u], []⟩) (.int (Builtin.bitAnd (if p = true then (1 : Int) else 0) b)) := by
  show Gives (do rule "bool.bitwise.as-ints"; again (.builtin "int.__and__" ⟨[.bool p, .int b u], []⟩)) _
  exact .rule (.again rfl (by decide +kernel) PySem.F.entry_int_and (gives_int_and_bi p b u))
theorem and_bool_int {prog : Program} {w : World} {A : Around} {E : Value → Shared → Prop} {s : Shared} {p : Bool} {b : Int} {u : Tok} {Q : Value → Shared → Prop} (h : Q (.int (Builtin.bitAnd (if p = true then (1 : Int) else 0) b) s.toks) { s with toks := s.toks + 1 }) : wpAny (model prog w) A (binaryOp .BitAnd (.bool p) (.int b u)) Q E s :=
  binaryOp_left_gives (op := .BitAnd) (T := "bool") (U := "int") (by decide) (typeIs_bool' s p) (fun s' => typeIs_int s' b u) PySem.F.fills_bool_and PySem.F.fills_int_and isSubtype_int_bool PySem.F.slot_bool_and PySem.F.slot_int_rand PySem.F.entry_bool_and (PySem.F.args_bool_and_2 _ _) (gives_bool_and_bi p b u) trivial h
def rAnd1 : R2 := fun x y H Q => y = .int 1 ∧ ((∃ i, x = .int i ∧ Q (.int (i % 2)) H) ∨ (∃ k : Bool, x = .bl k ∧ Q (.int (if k = true then 1 else 0)) H))
section
variable {X : Cx}
theorem op_isT : OpR X (compareOp .Is) rIsT := by
  intro pins s σ H x y v u Q I rx ry h
  obtain ⟨b, rfl, hx, q⟩ := h
  cases (show u = Value.bool b from ry)
  cases x with
  | int i =>
    obtain ⟨t, rfl⟩ := rx
    refine wpAny_is_other rfl (fun z => by cases z) ⟨.bl false, H, I, rfl, ?_⟩
    rw [decide_eq_false (fun z => by cases z)] at q
    exact q
  | bl a =>
    cases (show v = Value.bool a from rx)
    by_cases e : a = b
    · subst e
      exact wpAny_is_self rfl ⟨.bl true, H, I, rfl, by simpa using q⟩
    · exact wpAny_is_other rfl (fun z => e (Value.bool.inj z)) ⟨.bl false, H, I, rfl, by simpa [e] using q⟩
  | _ => cases hx
theorem op_notT : OpR X (compareOp .IsNot) rNotT := by
  intro pins s σ H x y v u Q I rx ry h
  obtain ⟨b, rfl, hx, q⟩ := h
  cases (show u = Value.bool b from ry)
  cases x with
  | int i =>
    obtain ⟨t, rfl⟩ := rx
    refine wpAny_isNot_other rfl (fun z => by cases z) ⟨.bl true, H, I, rfl, ?_⟩
    rw [decide_eq_false (fun z => by cases z)] at q
    exact q
  | bl a =>
    cases (show v = Value.bool a from rx)
    by_cases e : a = b
    · subst e
      exact wpAny_isNot_self rfl ⟨.bl false, H, I, rfl, by simpa using q⟩
    · exact wpAny_isNot_other rfl (fun z => e (Value.bool.inj z)) ⟨.bl true, H, I, rfl, by simpa [e] using q⟩
  | _ => cases hx
theorem op_and1 : OpR X (binaryOp .BitAnd) rAnd1 := by
  intro pins s σ H x y v u Q I rx ry h
  obtain ⟨rfl, ⟨i, rfl, q⟩ | ⟨k, rfl, q⟩⟩ := h
  · obtain ⟨t, rfl⟩ := rx
    obtain ⟨t', rfl⟩ := ry
    rw [← bitAnd_m1] at q
    exact and_int ⟨.int _, H, I.tok _, ⟨_, rfl⟩, q⟩
  · obtain ⟨t', rfl⟩ := ry
    cases (show v = Value.bool k from rx)
    have e : Builtin.bitAnd (if k = true then (1 : Int) else 0) 1 = if k = true then 1 else 0 := by cases k <;> decide
    exact and_bool_int (by rw [e]; exact ⟨.int _, H, I.tok _, ⟨_, rfl⟩, q⟩)
end
/-! ### odd parts -/
theorem pow_pos2 (k : Nat) : (0 : Int) < 2 ^ k := Int.pow_pos (by decide)
theorem pow_two_cast (k : Nat) : ((2 ^ k : Nat) : Int) = 2 ^ k := by
  induction k with
  | zero => rfl
  | succ n ih => rw [Nat.pow_succ, Int.pow_succ, Int.natCast_mul, ih] <;> rfl
def tz : Nat → Nat → Nat
  | 0, _ => 0
  | f + 1, n => if n % 2 = 0 then tz f (n / 2) + 1 else 0
theorem tz_spec : ∀ (f n : Nat), 0 < n → n ≤ f → ∃ a, n = 2 ^ tz f n * (2 * a + 1)
  | 0, n, h, l => by omega
  | f + 1, n, h, l => by
    unfold tz
    by_cases e : n % 2 = 0
    · rw [if_pos e]
      obtain ⟨a, ha⟩ := tz_spec f (n / 2) (by omega) (by omega)
      refine ⟨a, ?_⟩
      rw [Nat.pow_succ, Nat.mul_comm (2 ^ tz f (n / 2)) 2, Nat.mul_assoc, ← ha]
      omega
    · rw [if_neg e]
      exact ⟨n / 2, by omega⟩
def v2 (m : Int) : Nat := tz m.natAbs m.natAbs
theorem v2_spec {m : Int} (h : m ≠ 0) : ∃ a : Int, m = 2 ^ v2 m * (2 * a + 1) := by
  obtain ⟨a, ha⟩ := tz_spec m.natAbs m.natAbs (by omega) (Nat.le_refl _)
  have hc : (m.natAbs : Int) = 2 ^ v2 m * (2 * (a : Int) + 1) := by
    have h1 : (m.natAbs : Int) = ((2 ^ v2 m * (2 * a + 1) : Nat) : Int) := congrArg Int.ofNat ha
    rw [h1, Int.natCast_mul, pow_two_cast]
    rfl
  rcases Int.natAbs_eq m with e | e
  · exact ⟨a, e.trans hc⟩
  · refine ⟨-(a : Int) - 1, ?_⟩
    have h2 : m = -(2 ^ v2 m * (2 * (a : Int) + 1)) := by rw [← hc]; exact e
    have h3 : (2 * (-(a : Int) - 1) + 1) = -(2 * (a : Int) + 1) := by omega
    rw [h3, Int.mul_neg]
    exact h2
theorem odd_unique {k j : Nat} {a b : Int} (h : (2 : Int) ^ k * (2 * a + 1) = 2 ^ j * (2 * b + 1)) : k = j ∧ a = b := by
  rcases Nat.lt_trichotomy k j with l | l | l
  · obtain ⟨i, rfl⟩ : ∃ i, j = k + (i + 1) := ⟨j - k - 1, by omega⟩
    rw [Int.pow_add, Int.mul_assoc] at h
    have h2 := Int.eq_of_mul_eq_mul_left (Int.ne_of_gt (pow_pos2 k)) h
    rw [Int.pow_succ, Int.mul_assoc, Int.mul_left_comm] at h2
    generalize (2 : Int) ^ i * (2 * b + 1) = z at h2
    omega
  · subst l
    have h2 := Int.eq_of_mul_eq_mul_left (Int.ne_of_gt (pow_pos2 k)) h
    exact ⟨rfl, by omega⟩
  · obtain ⟨i, rfl⟩ : ∃ i, k = j + (i + 1) := ⟨k - j - 1, by omega⟩
    rw [Int.pow_add, Int.mul_assoc] at h
    have h2 := Int.eq_of_mul_eq_mul_left (Int.ne_of_gt (pow_pos2 j)) h
    rw [Int.pow_succ, Int.mul_assoc, Int.mul_left_comm] at h2
    generalize (2 : Int) ^ i * (2 * a + 1) = z at h2
    omega
/-- the number m times 2 ** e, told its one way -/
def nrm (m e : Int) : Int × Int := if m = 0 then (0, 0) else (m / 2 ^ v2 m, e + v2 m)
theorem nrm_zero (e : Int) : nrm 0 e = (0, 0) := rfl
theorem nrm_of {m a : Int} {k : Nat} (e : Int) (h : m = 2 ^ k * (2 * a + 1)) : nrm m e = (2 * a + 1, e + k) := by
  have h0 : m ≠ 0 := by
    intro z
    rw [z] at h
    rcases Int.mul_eq_zero.mp h.symm with q | q
    · exact absurd q (Int.ne_of_gt (pow_pos2 k))
    · omega
  obtain ⟨b, hb⟩ := v2_spec h0
  obtain ⟨e1, e2⟩ := odd_unique (hb.symm.trans h)
  unfold nrm
  rw [if_neg h0, e1]
  have h3 : m / 2 ^ k = 2 * a + 1 := by
    rw [h]
    exact Int.mul_ediv_cancel_left _ (Int.ne_of_gt (pow_pos2 k))
  rw [h3]
theorem nrm_num (m e : Int) : isNumB (nrm m e).1 (nrm m e).2 = true := by
  by_cases h : m = 0
  · subst h
    rfl
  · obtain ⟨a, ha⟩ := v2_spec h
    rw [nrm_of e ha]
    unfold isNumB
    rw [decide_eq_true (show (2 * a + 1) % 2 = 1 by omega)]
    rfl
theorem nrm_self {m e : Int} (h : isNumB m e = true) : nrm m e = (m, e) := by
  unfold isNumB at h
  rcases Bool.or_eq_true_iff.mp h with q | q
  · have q2 : m % 2 = 1 := of_decide_eq_true q
    have e1 : m = 2 ^ 0 * (2 * (m / 2) + 1) := by
      rw [Int.pow_zero, Int.one_mul]
      omega
    rw [nrm_of e e1]
    have e2 : 2 * (m / 2) + 1 = m := by omega
    rw [e2]
    show (m, e + 0) = (m, e)
    rw [Int.add_zero]
  · obtain ⟨q1, q2⟩ := Bool.and_eq_true_iff.mp q
    have e1 : m = 0 := of_decide_eq_true q1
    have e2 : e = 0 := of_decide_eq_true q2
    subst e1 e2
    rfl
theorem nrm_abs (m e : Int) : (nrm m e).1.natAbs ≤ m.natAbs := by
  by_cases h : m = 0
  · subst h
    exact Nat.le_refl _
  · obtain ⟨a, ha⟩ := v2_spec h
    rw [nrm_of e ha]
    show (2 * a + 1).natAbs ≤ m.natAbs
    have e1 : m.natAbs = ((2 : Int) ^ v2 m).natAbs * (2 * a + 1).natAbs := by
      have := congrArg Int.natAbs ha
      rw [Int.natAbs_mul] at this
      exact this
    rw [e1]
    refine Nat.le_mul_of_pos_left _ ?_
    have := pow_pos2 (v2 m)
    omega
theorem v2_lt {m : Int} {k : Nat} (h : m.natAbs < 2 ^ k) (h0 : m ≠ 0) : v2 m < k := by
  obtain ⟨a, ha⟩ := v2_spec h0
  have e1 : m.natAbs = ((2 : Int) ^ v2 m).natAbs * (2 * a + 1).natAbs := by
    have := congrArg Int.natAbs ha
    rw [Int.natAbs_mul] at this
    exact this
  have e2 : ((2 : Int) ^ v2 m).natAbs = 2 ^ v2 m := by rw [← pow_two_cast]; rfl
  have h1 : 2 ^ v2 m ≤ m.natAbs := by
    rw [e1, e2]
    exact Nat.le_mul_of_pos_right _ (by omega)
  exact (Nat.pow_lt_pow_iff_right (by decide)).mp (Nat.lt_of_le_of_lt h1 h)
theorem nrm_exp {m e : Int} {k : Nat} (h : m.natAbs < 2 ^ k) : (nrm m e).2.natAbs ≤ e.natAbs + k := by
  by_cases h0 : m = 0
  · subst h0
    exact Nat.zero_le _
  · have := v2_lt h h0
    unfold nrm
    rw [if_neg h0]
    show (e + (v2 m : Int)).natAbs ≤ _
    omega
theorem bits_two (k : Nat) : Builtin.Int.intBits (2 ^ k) = k + 1 := by
  have h : (2 : Int) ^ k ≠ 0 := Int.ne_of_gt (pow_pos2 k)
  unfold Builtin.Int.intBits
  have e : ((2 : Int) ^ k == 0) = false := by
    rw [beq_eq_false_iff_ne]
    exact h
  rw [e]
  have e2 : ((2 : Int) ^ k).natAbs = 2 ^ k := by rw [← pow_two_cast]; rfl
  rw [e2, Nat.log2_two_pow]
  rfl
end Onc

namespace Onc
open PySem PySem.Spec PyProof.Rows L2 Evl
def topS (i : Nat) : Stmt := PySem.Challenge.pw_oncenear_k01_what_is_a_number.main.body.getD i (.Pass ⟨0, 0, 0, 0⟩)
structure Top (mg : Str → Option Value) : Prop where
  isinstance : mg "isinstance" = none
  len : mg "len" = none
  range : mg "range" = none
  ty_int : mg "int" = none
  ty_bool : mg "bool" = none
  ty_tuple : mg "tuple" = none
  ty_str : mg "str" = none
  min : mg "min" = none
  max : mg "max" = none
  abs : mg "abs" = none
  all : mg "all" = none
abbrev FnP (K : PySem.W.Frag) (x : Str) (st : Stmt) (f : Addr) (fd : FuncData) : Prop := FunD K x x (defArgs st) (defBody st) (defScope st) [] [] f fd
/-! ### promises -/
def spWhole (K : PySem.W.Frag) : Sp := fun vs H Q _ => ∃ v b, vs = [v] ∧ WholeIs K H v b ∧ Q (.bl b) H
def spNum (K : PySem.W.Frag) : Sp := fun vs H Q _ => ∃ v b, vs = [v] ∧ NumIs K H v b ∧ ∀ H', Ex H H' → Q (.bl b) H'
def spNof : Sp := fun vs H Q _ => ∃ m e : Int, vs = [.int m, .int e] ∧ ∀ H' p, Ex H H' → H p = none → H' p = some (.tup [.int (nrm m e).1, .int (nrm m e).2]) → Q (.ref p) H'
def spTens : Sp := fun vs H Q _ => ∃ k : Int, vs = [.int k] ∧ 0 ≤ k ∧ k ≤ 10000 ∧ ∀ z : Int, Q (.int z) H
def spMix : Sp := fun vs H Q _ => ∃ a k : Int, vs = [.int a, .int k] ∧ ∀ z : Int, Q (.int z) H
def spCel (K : PySem.W.Frag) : Sp := fun vs H Q _ => ∃ (a : Addr) (ns : List Int) (k : Int), vs = [.ref a, .int k] ∧ SqL K H a (ns.map V.int) ∧ 0 ≤ k ∧ k < 1000 ∧ ∀ z : Int, Q (.int z) H
def spTake : Sp := fun vs H Q _ => ∃ (p : Addr) (x n : Int), vs = [.ref p, .int n] ∧ H p = some (.lst [.int x]) ∧ 0 < n ∧ n.natAbs.log2 < 9000 ∧ Q (.int (x % n)) (upd H p (.lst [.int (x / n)]))
def spNumber : Sp := fun vs H Q _ => ∃ (p : Addr) (x : Int), vs = [.ref p] ∧ H p = some (.lst [.int x]) ∧
  ∀ H' q (x' m e : Int), (∀ b o, H b = some o → b ≠ p → H' b = some o) → H' p = some (.lst [.int x']) → H q = none → H' q = some (.tup [.int m, .int e]) → isNumB m e = true → m.natAbs < 2 ^ 201 → e.natAbs < 2000 → Q (.ref q) H'
theorem log_small {z : Int} {k : Nat} (h0 : 0 < z) (h : z ≤ 2 ^ k) (hk : k < 9000) : z.natAbs.log2 < 9000 := by
  have h1 : z.natAbs < 2 ^ (k + 1) := by
    have e : (2 : Int) ^ (k + 1) = 2 ^ k * 2 := Int.pow_succ ..
    have e2 : ((2 ^ (k + 1) : Nat) : Int) = 2 ^ (k + 1) := pow_two_cast _
    omega
  have h2 : z.natAbs.log2 < k + 1 := PySem.Flt.log2_lt_of (Nat.succ_pos k) h1
  omega
abbrev s_is_whole : Stmt := topS 3
theorem sc_is_whole : FnScope ["thing"] ["thing"] (defScope s_is_whole) := ⟨rfl, rfl, rfl, by decide +kernel, rfl, by decide +kernel, by decide +kernel⟩
abbrev s_is_number : Stmt := topS 5
theorem sc_is_number : FnScope ["thing", "m", "e"] ["thing"] (defScope s_is_number) := ⟨rfl, rfl, rfl, by decide +kernel, rfl, by decide +kernel, by decide +kernel⟩
abbrev s_lowered : Stmt := topS 7
theorem sc_lowered : FnScope ["m", "e", "noughts"] ["m", "e"] (defScope s_lowered) := ⟨rfl, rfl, rfl, by decide +kernel, rfl, by decide +kernel, by decide +kernel⟩
abbrev s_number_of : Stmt := topS 6
theorem sc_number_of : FnScope ["m", "e"] ["m", "e"] (defScope s_number_of) := ⟨rfl, rfl, rfl, by decide +kernel, rfl, by decide +kernel, by decide +kernel⟩
abbrev s_law_tens : Stmt := topS 9
theorem sc_law_tens : FnScope ["_law_k", "_law_found", "_law_turn"] ["_law_k"] (defScope s_law_tens) := ⟨rfl, rfl, rfl, by decide +kernel, rfl, by decide +kernel, by decide +kernel⟩
abbrev s_law_mixed : Stmt := topS 10
theorem sc_law_mixed : FnScope ["_law_cell_here", "_law_k", "_law_mix"] ["_law_cell_here", "_law_k"] (defScope s_law_mixed) := ⟨rfl, rfl, rfl, by decide +kernel, rfl, by decide +kernel, by decide +kernel⟩
abbrev s_law_cell : Stmt := topS 11
theorem sc_law_cell : FnScope ["_law_script", "_law_k", "_law_cell_here", "_law_found", "_law_j"] ["_law_script", "_law_k"] (defScope s_law_cell) := ⟨rfl, rfl, rfl, by decide +kernel, rfl, by decide +kernel, by decide +kernel⟩
abbrev s_law_take : Stmt := topS 12
theorem sc_law_take : FnScope ["_law_pile", "_law_size", "_law_digit"] ["_law_pile", "_law_size"] (defScope s_law_take) := ⟨rfl, rfl, rfl, by decide +kernel, rfl, by decide +kernel, by decide +kernel⟩
abbrev s_law_odd : Stmt := topS 13
theorem sc_law_odd : FnScope ["_law_m_told", "_law_e_told"] ["_law_m_told", "_law_e_told"] (defScope s_law_odd) := ⟨rfl, rfl, rfl, by decide +kernel, rfl, by decide +kernel, by decide +kernel⟩
abbrev s_law_number : Stmt := topS 14
theorem sc_law_number : FnScope ["_law_pile", "_law_way", "_law_most", "_law_far", "_law_m_told"] ["_law_pile"] (defScope s_law_number) := ⟨rfl, rfl, rfl, by decide +kernel, rfl, by decide +kernel, by decide +kernel⟩
abbrev s_law_is : Stmt := topS 15
theorem sc_law_is : FnScope ["_law_thing_own", "_law_part"] ["_law_thing_own"] (defScope s_law_is) := ⟨rfl, rfl, rfl, by decide +kernel, rfl, by decide +kernel, by decide +kernel⟩
abbrev s_law_things : Stmt := topS 16
theorem sc_law_things : FnScope ["_law_number_here", "_law_m_own", "_law_e_own", "_law_some"] ["_law_number_here"] (defScope s_law_things) := ⟨rfl, rfl, rfl, by decide +kernel, rfl, by decide +kernel, by decide +kernel⟩
abbrev s_law : Stmt := topS 17
theorem sc_law : FnScope ["_law_script", "_law_k", "_law_pile", "_law_number_here", "_law_thing_own", "_law_got", "_law_m_own", "_law_e_own", "_law_due"] ["_law_script"] (defScope s_law) := ⟨rfl, rfl, rfl, by decide +kernel, rfl, by decide +kernel, by decide +kernel⟩
section
variable {P : Program} {w : World} {K : PySem.W.Frag} {mg : Str → Option Value} {base : Heap}
theorem ok_is_whole {f : Addr} {fd : FuncData} (T : Top mg) (F : FnP K "is_whole" s_is_whole f fd) : FnOk P w K mg base CX0 1 f fd ["thing"] (spWhole K) := by
  have sc := sc_is_whole
  refine ok0 F sc (fun vs H Q E h => ?_) (fun cdv A outer s H vs Q E hr h => ?_)
  · obtain ⟨v, b, rfl, _⟩ := h
    rfl
  · obtain ⟨v, b, rfl, hw, q⟩ := h
    obtain ⟨t, b1, b2, ty, k1, k2, rfl⟩ := hw.kinds
    refine ⟨_, (pss_one (ps_ret (pe_and (pe_callB call_isi (by rfl) T.isinstance (by decide +kernel) (pa_cons (pv 0) (pa_cons (pe_bltn (v := .ty "int") (by rfl) T.ty_int (by decide +kernel) rfl) pa_nil))) (pe_one (pe_not (pe_callB call_isi (by rfl) T.isinstance (by decide +kernel) (pa_cons (pv 0) (pa_cons (pe_bltn (v := .ty "bool") (by rfl) T.ty_bool (by decide +kernel) rfl) pa_nil)))))))), ?_⟩
    refine rd_isi (i := 0) rfl ty k1 ⟨b1, rfl, ?_⟩
    cases b1 with
    | true => exact iteT (rd_isi (i := 0) rfl ty k2 ⟨b2, rfl, q⟩)
    | false => exact iteF q
theorem ok_is_number {f : Addr} {fd : FuncData} (T : Top mg) (F : FnP K "is_number" s_is_number f fd) : FnOk P w K mg base CX0 1 f fd ["thing"] (spNum K) := by
  have sc := sc_is_number
  refine ok0 F sc (fun vs H Q E h => ?_) (fun cdv A outer s H vs Q E hr h => ?_)
  · obtain ⟨v, b, rfl, _⟩ := h
    rfl
  · obtain ⟨v, b, rfl, hn, q0⟩ := h
    have q := q0 H (Ex.refl H)
    refine ⟨_, (pss_cons (ps_if (PW.pt (pw_or (pt_not (pt_val (pe_callB call_isi (by rfl) T.isinstance (by decide +kernel) (pa_cons (pv 0) (pa_cons (pe_bltn (v := .ty "tuple") (by rfl) T.ty_tuple (by decide +kernel) rfl) pa_nil))))) (pw_or1 (pt_cmpR op_ne (pe_callB call_len (by rfl) T.len (by decide +kernel) (pa_cons (pv 0) pa_nil)) pe_int (nomark _)))))
      (pss_one (ps_ret pe_bl)) pss_nil)
    (pss_cons (ps_asg (pv 0) (pg_tup rfl (pgs_cons (pg_name (i := 1) sc.nd rfl (.inl rfl)) (pgs_cons (pg_name (i := 2) sc.nd rfl (.inl rfl)) pgs_nil))))
    (pss_cons (ps_if (PW.pt (pw_or (pt_not (pt_val (pe_callB call_isi (by rfl) T.isinstance (by decide +kernel) (pa_cons (pv 1) (pa_cons (pe_bltn (v := .ty "int") (by rfl) T.ty_int (by decide +kernel) rfl) pa_nil))))) (pw_or (pt_not (pt_val (pe_callB call_isi (by rfl) T.isinstance (by decide +kernel) (pa_cons (pv 2) (pa_cons (pe_bltn (v := .ty "int") (by rfl) T.ty_int (by decide +kernel) rfl) pa_nil))))) (pw_or (pt_cmpR op_isT (pv 2) pe_bl (nomark _)) (pw_or1 (pt_cmpR op_isT (pv 2) pe_bl (nomark _)))))))
      (pss_one (ps_ret pe_bl)) pss_nil)
    (pss_cons (ps_if (pt_truth (pe_op op_and1 (pv 1) pe_int) (fun _ => rfl))
      (pss_one (ps_ret (pe_cmpR op_notT (pv 1) pe_bl (nomark _)))) pss_nil)
    (pss_one (ps_ret (pe_and (pe_cmpR (op_eqD hr.units) (pv 1) pe_int (nomark _)) (pe_and (pe_cmpR op_eq (pv 2) pe_int (nomark _)) (pe_one (pe_cmpR op_notT (pv 1) pe_bl (nomark _))))))))))), ?_⟩
    cases hn with
    | no ty k => exact rd_isi (i := 0) rfl ty k ⟨false, rfl, iteT (iteT q)⟩
    | @len a xs h l =>
      refine rd_tup (i := 0) rfl h ⟨true, rfl, iteF ?_⟩
      refine ⟨.ref a, rfl, .ref a, xs.length, rfl, .inr ⟨xs, h, rfl⟩, rfl, _, rfl, ite2 (fun _ => q) (fun hh => absurd ?_ hh)⟩
      have e : ¬ V.int ((xs.length : Nat) : Int) = V.int 2 := fun z => l (by have := V.int.inj z; omega)
      rw [decide_eq_false e]
      rfl
    | @fst a x y b h p1 p2 =>
      refine rd_tup (i := 0) rfl h ⟨true, rfl, iteF ?_⟩
      refine ⟨.ref a, rfl, .ref a, 2, rfl, .inr ⟨[x, y], h, rfl⟩, rfl, _, rfl, iteNS rfl ?_⟩
      refine ⟨.ref a, rfl, a, [x, y], rfl, h, rfl, x, [y], rfl, y, [], rfl, rfl, ?_⟩
      cases p1 with
      | no h1 k1 k2 => exact rd_isi (i := 1) (v := x) rfl h1 k1 ⟨false, rfl, iteT (iteT q)⟩
      | bl c =>
        refine rd_isi (i := 1) (v := .bl c) rfl (ty_bl c) kit_bi ⟨true, rfl, iteF ?_⟩
        cases p2 with
        | no h1 k1 k2 => exact rd_isi (i := 2) (v := y) rfl h1 k1 ⟨false, rfl, iteT (iteT q)⟩
        | bl d =>
          refine rd_isi (i := 2) (v := .bl d) rfl (ty_bl d) kit_bi ⟨true, rfl, iteF ?_⟩
          cases d with
          | true => exact ⟨.bl true, rfl, true, rfl, rfl, _, rfl, iteT (iteT q)⟩
          | false => exact ⟨.bl false, rfl, true, rfl, rfl, _, rfl, iteF ⟨.bl false, rfl, false, rfl, rfl, _, rfl, iteT q⟩⟩
        | int e =>
          refine rd_isi (i := 2) (v := .int e) rfl (ty_int e) kit_ii ⟨true, rfl, iteF ?_⟩
          refine ⟨.int e, rfl, true, rfl, rfl, _, rfl, iteF ⟨.int e, rfl, false, rfl, rfl, _, rfl, iteF ?_⟩⟩
          cases c with
          | true => exact ⟨.bl true, rfl, rfl, .inr ⟨true, rfl, true, rfl, iteT ⟨.bl true, rfl, true, rfl, rfl, q⟩⟩⟩
          | false => 
            refine ⟨.bl false, rfl, rfl, .inr ⟨false, rfl, false, rfl, iteF ?_⟩⟩
            refine ⟨.bl false, rfl, .bool false, .int 0, .bl false, .int 0, rfl, rfl, true, by decide +kernel, iteT ?_⟩
            refine ⟨.int e, rfl, rfl, _, rfl, ite2 (fun _ => ?_) (fun h2 => ?_)⟩
            · exact ⟨.bl false, rfl, false, rfl, rfl, q⟩
            · exact q
    | @snd a x y h p1 p2 =>
      refine rd_tup (i := 0) rfl h ⟨true, rfl, iteF ?_⟩
      refine ⟨.ref a, rfl, .ref a, 2, rfl, .inr ⟨[x, y], h, rfl⟩, rfl, _, rfl, iteNS rfl ?_⟩
      refine ⟨.ref a, rfl, a, [x, y], rfl, h, rfl, x, [y], rfl, y, [], rfl, rfl, ?_⟩
      cases p1 with
      | int m =>
        refine rd_isi (i := 1) (v := .int m) rfl (ty_int m) kit_ii ⟨true, rfl, iteF ?_⟩
        cases p2 with
        | no h1 k1 k2 => exact rd_isi (i := 2) (v := y) rfl h1 k1 ⟨false, rfl, iteT (iteT q)⟩
        | bl d =>
          refine rd_isi (i := 2) (v := .bl d) rfl (ty_bl d) kit_bi ⟨true, rfl, iteF ?_⟩
          cases d with
          | true => exact ⟨.bl true, rfl, true, rfl, rfl, _, rfl, iteT (iteT q)⟩
          | false => exact ⟨.bl false, rfl, true, rfl, rfl, _, rfl, iteF ⟨.bl false, rfl, false, rfl, rfl, _, rfl, iteT q⟩⟩
    | @num a m e h =>
      refine rd_tup (i := 0) rfl h ⟨true, rfl, iteF ?_⟩
      refine ⟨.ref a, rfl, .ref a, 2, rfl, .inr ⟨[.int m, .int e], h, rfl⟩, rfl, _, rfl, iteNS rfl ?_⟩
      refine ⟨.ref a, rfl, a, [.int m, .int e], rfl, h, rfl, .int m, [.int e], rfl, .int e, [], rfl, rfl, ?_⟩
      refine rd_isi (i := 1) (v := .int m) rfl (ty_int m) kit_ii ⟨true, rfl, iteF ?_⟩
      refine rd_isi (i := 2) (v := .int e) rfl (ty_int e) kit_ii ⟨true, rfl, iteF ?_⟩
      refine ⟨.int e, rfl, true, rfl, rfl, _, rfl, iteF ⟨.int e, rfl, false, rfl, rfl, _, rfl, iteF ?_⟩⟩
      refine ⟨.int m, rfl, rfl, .inl ⟨m, rfl, _, rfl, ite2 (fun h1 => ?_) (fun h1 => ?_)⟩⟩
      · have e1 : m % 2 = 1 := by
          have : m % 2 ≠ 0 := by simpa using h1
          omega
        have e2 : isNumB m e = true := by
          unfold isNumB
          rw [decide_eq_true e1]
          rfl
        rw [e2] at q
        exact ⟨.int m, rfl, true, rfl, rfl, q⟩
      · have e1 : ¬ m % 2 = 1 := fun z => h1 (by rw [z]; rfl)
        have e2 : isNumB m e = (decide (m = 0) && decide (e = 0)) := by
          unfold isNumB
          rw [decide_eq_false e1]
          rfl
        rw [e2] at q
        refine ⟨.int m, rfl, .int m, .int 0, .int m, .int 0, rfl, rfl, decide (m = 0), by simp [PyData.eqv]; rfl, ite2 (fun h2 => ?_) (fun h2 => ?_)⟩
        · rw [h2] at q
          refine ⟨.int e, rfl, rfl, _, rfl, ite2 (fun h3 => ?_) (fun h3 => ?_)⟩
          · have e4 : e = 0 := V.int.inj (of_decide_eq_true h3)
            rw [decide_eq_true e4] at q
            exact ⟨.int m, rfl, false, rfl, rfl, q⟩
          · have e4 : ¬ e = 0 := fun z => h3 (decide_eq_true (congrArg V.int z))
            rw [decide_eq_false e4] at q
            exact q
        · rw [Bool.eq_false_iff.mpr h2] at q
          exact q
theorem ok_lowered {f : Addr} {fd : FuncData} (T : Top mg) (F : FnP K "lowered" s_lowered f fd) : FnOk P w K mg base CX0 1 f fd ["m", "e"] spNof := by
  have sc := sc_lowered
  refine ok0 F sc (fun vs H Q E h => ?_) (fun cdv A outer s H vs Q E hr h => ?_)
  · obtain ⟨m, e, rfl, _⟩ := h
    rfl
  · obtain ⟨m, e, rfl, q⟩ := h
    refine ⟨_, (pss_cons (ps_if (pt_truth (pe_op op_and1 (pv 0) pe_int) (fun _ => rfl))
      (pss_one (ps_ret (pe_tup (pa_cons (pv 0) (pa_cons (pv 1) pa_nil))))) pss_nil)
    (pss_cons (ps_if (pt_cmpR op_eq (pv 0) pe_int (nomark _))
      (pss_one (ps_ret (pe_tup (pa_cons pe_int (pa_cons pe_int pa_nil))))) pss_nil)
    (pss_cons (ps_set (i := 2) sc.nd rfl (.inl rfl) (pe_op op_sub (pe_bits (pe_op op_and (pv 0) (pe_un un_neg (pv 0)))) pe_int))
    (pss_one (ps_ret (pe_tup (pa_cons (pe_op op_shrN (pv 0) (pv 2)) (pa_cons (pe_op op_add (pv 1) (pv 2)) pa_nil)))))))), ?_⟩
    refine ⟨.int m, rfl, rfl, .inl ⟨m, rfl, _, rfl, ite2 (fun h1 => ?_) (fun h1 => ?_)⟩⟩
    · have e1 : m % 2 = 1 := by
        have : m % 2 ≠ 0 := by simpa using h1
        omega
      have e2 : isNumB m e = true := by
        unfold isNumB
        rw [decide_eq_true e1]
        rfl
      rw [nrm_self e2] at q
      exact ⟨.int m, rfl, .int e, rfl, by show 2 ≤ sizeLine; decide, fun p hp => q _ p (Ex.new hp) hp upd_same⟩
    · refine ⟨.int m, rfl, rfl, _, rfl, ite2 (fun h0 => ?_) (fun h0 => ?_)⟩
      · have e0 : m = 0 := V.int.inj (of_decide_eq_true h0)
        subst e0
        exact ⟨by show 2 ≤ sizeLine; decide, fun p hp => q _ p (Ex.new hp) hp upd_same⟩
      · have e0 : m ≠ 0 := fun z => h0 (decide_eq_true (congrArg V.int z))
        obtain ⟨a, ha⟩ := v2_spec e0
        have en := nrm_of e ha
        have eb : Builtin.bitAnd m (-m) = 2 ^ v2 m := by
          have h1 := PySem.W.kbt_low (v2 m) a
          rw [← ha] at h1
          exact h1
        have ev : ((Builtin.Int.intBits (Builtin.bitAnd m (-m)) : Nat) : Int) - 1 = ((v2 m : Nat) : Int) := by
          rw [eb, bits_two]
          omega
        have ed : m / 2 ^ v2 m = 2 * a + 1 := by
          have := nrm_of 0 ha
          unfold nrm at this
          rw [if_neg e0] at this
          exact (Prod.mk.inj this).1
        refine ⟨.int m, rfl, .int m, rfl, m, rfl, m, -m, rfl, rfl, _, rfl, _, 1, rfl, rfl, ?_⟩
        refine ⟨.int m, rfl, _, rfl, m, v2 m, rfl, congrArg V.int ev, .int e, rfl, _, rfl, e, _, rfl, rfl, by show 2 ≤ sizeLine; decide, fun p hp => q _ p (Ex.new hp) hp ?_⟩
        rw [upd_same, en, ed, ev]
abbrev FnNof (K : PySem.W.Frag) (f : Addr) (fd : FuncData) : Prop := FunD K "number_of" "number_of" (defArgs s_number_of) (defBody s_number_of) (defScope s_number_of) [.int 0] [] f fd
theorem ok_number_of {f f1 f2 : Addr} {fd fd1 fd2 : FuncData} (T : Top mg) (F : FnNof K f fd) (c_is_whole : Cal P w K mg base CX0 1 "is_whole" ["thing"] (spWhole K) f1 fd1) (c_lowered : Cal P w K mg base CX0 1 "lowered" ["m", "e"] spNof f2 fd2) : FnOk P w K mg base CX0 2 f fd ["m", "e"] spNof := by
  have sc := sc_number_of
  refine ok0 F sc (fun vs H Q E h => ?_) (fun cdv A outer s H vs Q E hr h => ?_)
  · obtain ⟨m, e, rfl, _⟩ := h
    rfl
  · obtain ⟨m, e, rfl, q⟩ := h
    refine ⟨_, (pss_cons (ps_if (PW.pt (pw_or (pt_not (pt_val (pe_call c_is_whole.ok (hr.mono (by decide)) (by rfl) c_is_whole.m c_is_whole.kp c_is_whole.b .nil pass0 (pa_cons (pv 0) pa_nil)))) (pw_or1 (pt_not (pt_val (pe_call c_is_whole.ok (hr.mono (by decide)) (by rfl) c_is_whole.m c_is_whole.kp c_is_whole.b .nil pass0 (pa_cons (pv 1) pa_nil)))))))
      (pss_one ps_never) pss_nil)
    (pss_one (ps_ret (pe_call c_lowered.ok (hr.mono (by decide)) (by rfl) c_lowered.m c_lowered.kp c_lowered.b .nil pass0 (pa_cons (pv 0) (pa_cons (pv 1) pa_nil)))))), ?_⟩
    refine ⟨.int m, rfl, .int m, true, rfl, whole_int m, true, rfl, iteF ⟨.int e, rfl, .int e, true, rfl, whole_int e, true, rfl, iteF ?_⟩⟩
    exact ⟨.int m, rfl, .int e, rfl, m, e, rfl, q⟩
theorem ok_law_tens {f : Addr} {fd : FuncData} (T : Top mg) (F : FnP K "_law_tens" s_law_tens f fd) : FnOk P w K mg base CX0 1 f fd ["_law_k"] spTens := by
  have sc := sc_law_tens
  refine ok0 F sc (fun vs H Q E h => ?_) (fun cdv A outer s H vs Q E hr h => ?_)
  · obtain ⟨k, rfl, _⟩ := h
    rfl
  · obtain ⟨k, rfl, h0, h1, q⟩ := h
    refine ⟨_, (pss_cons (ps_set (i := 1) sc.nd rfl (.inl rfl) pe_int)
    (pss_cons (ps_for PassesOwn.never rfl (pi_range1 (by rfl) T.range (pa_cons (pv 0) pa_nil)) (pg_name (i := 2) sc.nd rfl (.inl rfl))
      (pss_one (ps_set (i := 1) sc.nd rfl (.inl rfl) (pe_op op_mul (pv 1) pe_int))))
    (pss_one (ps_ret (pv 1))))), ?_⟩
    refine ⟨.int k, rfl, k, rfl, by omega, by omega, for_range (lo := 0) (n := k.toNat) (fun _ σ' H' => H' = H ∧ ∃ z t, σ' = [some (.int k), some (.int z), t]) ⟨rfl, 1, none, rfl⟩ (fun i σ' H' _ hp => ?_) (fun σ' H' hp => ?_)⟩
    · obtain ⟨rfl, z, t, rfl⟩ := hp
      exact ⟨.int z, rfl, z, 10, rfl, rfl, .inr ⟨by decide, by decide⟩, rfl, _, _, rfl⟩
    · obtain ⟨rfl, z, t, rfl⟩ := hp
      exact ⟨.int z, rfl, q z⟩
theorem ok_law_mixed {f : Addr} {fd : FuncData} (T : Top mg) (F : FnP K "_law_mixed" s_law_mixed f fd) : FnOk P w K mg base CX0 1 f fd ["_law_cell_here", "_law_k"] spMix := by
  have sc := sc_law_mixed
  refine ok0 F sc (fun vs H Q E h => ?_) (fun cdv A outer s H vs Q E hr h => ?_)
  · obtain ⟨a, k, rfl, _⟩ := h
    rfl
  · obtain ⟨a, k, rfl, q⟩ := h
    refine ⟨_, (pss_cons (ps_set (i := 2) sc.nd rfl (.inl rfl) (pe_op op_mod (pe_op op_add (pe_op op_add (pe_op op_mul (pe_op op_mod (pv 0) pe_int) pe_int) (pe_op op_mul (pv 1) pe_int)) pe_int) pe_int))
    (pss_cons (ps_set (i := 2) sc.nd rfl (.inl rfl) (pe_op op_mod (pe_op op_mul (pv 2) (pv 2)) pe_int))
    (pss_one (ps_ret (pe_op op_mod (pe_op op_mul (pv 2) (pe_op op_add (pv 2) pe_int)) pe_int))))), ?_⟩
    have b1 : ∀ z : Int, 0 ≤ z % 2147483629 ∧ z % 2147483629 < 2147483629 := fun z => ⟨Int.emod_nonneg z (by decide), Int.emod_lt_of_pos z (by decide)⟩
    have b2 : ∀ z : Int, 0 ≤ z % 2147483587 ∧ z % 2147483587 < 2147483587 := fun z => ⟨Int.emod_nonneg z (by decide), Int.emod_lt_of_pos z (by decide)⟩
    refine ⟨.int a, rfl, a, 2147483647, rfl, rfl, by show (0 : Int) < _; decide, _, 48271, rfl, rfl, .inr ⟨by decide, by decide⟩, .int k, rfl, k, 69621, rfl, rfl, .inr ⟨by decide, by decide⟩, _, _, rfl, rfl, _, 1048583, rfl, rfl, _, 2147483629, rfl, rfl, by show (0 : Int) < _; decide, ?_⟩
    refine ⟨_, rfl, _, rfl, _, _, rfl, rfl, .inl ⟨?_, ?_⟩, _, 2147483587, rfl, rfl, by show (0 : Int) < _; decide, ?_⟩
    · have := b1 (a % 2147483647 * 48271 + k * 69621 + 1048583)
      omega
    · have := b1 (a % 2147483647 * 48271 + k * 69621 + 1048583)
      omega
    · refine ⟨_, rfl, _, rfl, _, 2, rfl, rfl, _, _, rfl, rfl, .inl ⟨?_, ?_⟩, _, 2147483579, rfl, rfl, by show (0 : Int) < _; decide, q _⟩
      · have := b2 ((a % 2147483647 * 48271 + k * 69621 + 1048583) % 2147483629 * ((a % 2147483647 * 48271 + k * 69621 + 1048583) % 2147483629))
        omega
      · have := b2 ((a % 2147483647 * 48271 + k * 69621 + 1048583) % 2147483629 * ((a % 2147483647 * 48271 + k * 69621 + 1048583) % 2147483629))
        omega
theorem ok_law_cell {f f1 : Addr} {fd fd1 : FuncData} (T : Top mg) (F : FnP K "_law_cell" s_law_cell f fd) (c_law_mixed : Cal P w K mg base CX0 1 "_law_mixed" ["_law_cell_here", "_law_k"] spMix f1 fd1) : FnOk P w K mg base CX0 2 f fd ["_law_script", "_law_k"] (spCel K) := by
  have sc := sc_law_cell
  refine ok0 F sc (fun vs H Q E h => ?_) (fun cdv A outer s H vs Q E hr h => ?_)
  · obtain ⟨a, ns, k, rfl, _⟩ := h
    rfl
  · obtain ⟨a, ns, k, rfl, hS, h0, h1, q⟩ := h
    refine ⟨_, (pss_cons (ps_set (i := 2) sc.nd rfl (.inl rfl) pe_int)
    (pss_cut (ps_if (pt_cmpR op_lt (pv 1) (pe_callB call_len (by rfl) T.len (by decide +kernel) (pa_cons (pv 0) pa_nil)) (nomark _))
      (pss_one (ps_set (i := 2) sc.nd rfl (.inl rfl) (pe_ix ix_list (pv 0) (pv 1) (fun _ _ => rfl)))) pss_nil)
    (pss_cons (ps_if (pt_cmpR op_ge (pv 2) (pe_op op_pow pe_int pe_int) (nomark _))
      (pss_one (ps_ret (pe_op op_mod (pe_op op_sub (pv 2) (pe_op op_pow pe_int pe_int)) (pe_op op_mulX (pe_op op_mulX (pe_op op_mulX (pe_op op_pow pe_int pe_int) (pe_op op_pow pe_int pe_int)) (pe_op op_pow pe_int pe_int)) (pe_op op_pow pe_int pe_int))))) pss_nil)
    (pss_cons (ps_set (i := 3) sc.nd rfl (.inl rfl) pe_int)
    (pss_cons (ps_for PassesOwn.never rfl (pi_range1 (by rfl) T.range (pa_cons pe_int pa_nil)) (pg_name (i := 4) sc.nd rfl (.inl rfl))
      (pss_one (ps_set (i := 3) sc.nd rfl (.inl rfl) (pe_op op_add (pe_op op_mul (pv 3) pe_int) (pe_call c_law_mixed.ok (hr.mono (by decide)) (by rfl) c_law_mixed.m c_law_mixed.kp c_law_mixed.b .nil pass0 (pa_cons (pv 2) (pa_cons (pe_op op_add (pe_op op_add (pe_op op_mul pe_int (pv 1)) (pe_op op_mul pe_int (pv 4))) (pe_op op_mul (pv 4) (pv 4))) pa_nil)))))))
    (pss_one (ps_ret (pv 3)))))))), ?_⟩
    refine ⟨fun σ' H' => H' = H ∧ ∃ c : Int, σ' = [some (.ref a), some (.int k), some (.int c), none, none], ?_, fun σ' H' hm => ?_⟩
    · refine ⟨.int k, rfl, .ref a, rfl, _, (ns.map V.int).length, rfl, .inl ⟨_, hS, rfl⟩, k, _, rfl, rfl, _, rfl, ite2 (fun hk => ?_) (fun hk => ?_)⟩
      · have hk2 : k < ((ns.map V.int).length : Int) := of_decide_eq_true hk
        rw [List.length_map] at hk2
        obtain ⟨j, rfl⟩ : ∃ j : Nat, k = (j : Int) := ⟨k.toNat, by omega⟩
        have hj : j < ns.length := by omega
        have ha : atI (ns.map V.int) ((j : Nat) : Int) = some (.int ns[j]) := atI_nat (by rw [List.getElem?_map, List.getElem?_eq_getElem hj]; rfl)
        exact ⟨.ref a, rfl, .int (j : Nat), rfl, a, _, _, _, rfl, rfl, hS, ha, rfl, _, rfl⟩
      · exact ⟨rfl, 0, rfl⟩
    · obtain ⟨rfl, c, rfl⟩ := hm
      refine ⟨.int c, rfl, 10, 18, rfl, rfl, ⟨by decide, by decide, by decide⟩, c, _, rfl, rfl, _, rfl, ite2 (fun _ => ?_) (fun _ => ?_)⟩
      · refine ⟨.int c, rfl, 10, 18, rfl, rfl, ⟨by decide, by decide, by decide⟩, c, _, rfl, rfl, 10, 60, rfl, rfl, ⟨by decide, by decide, by decide⟩, 10, 60, rfl, rfl, ⟨by decide, by decide, by decide⟩, _, _, rfl, rfl, by show CMulX _ _; unfold CMulX; decide +kernel,
          10, 60, rfl, rfl, ⟨by decide, by decide, by decide⟩, _, _, rfl, rfl, by show CMulX _ _; unfold CMulX; decide +kernel, 10, 60, rfl, rfl, ⟨by decide, by decide, by decide⟩, _, _, rfl, rfl, by show CMulX _ _; unfold CMulX; decide +kernel, _, _, rfl, rfl, by show (0 : Int) < _; decide +kernel, q _⟩
      · refine ⟨24, rfl, by decide, by decide, for_range (lo := 0) (n := 24) (fun _ σ' H'' => H'' = H' ∧ ∃ z t, σ' = [some (.ref a), some (.int k), some (.int c), some (.int z), t]) ⟨rfl, 0, none, rfl⟩ (fun i σ' H'' hi hp => ?_) (fun σ' H'' hp => ?_)⟩
        · obtain ⟨rfl, z, t, rfl⟩ := hp
          refine ⟨.int z, rfl, z, 2147483579, rfl, rfl, .inr ⟨by decide, by decide⟩, .int c, rfl, .int k, rfl, 7, k, rfl, rfl, .inl ⟨by decide, by decide⟩, .int (0 + (i : Int)), rfl, 100, _, rfl, rfl, .inl ⟨by decide, by decide⟩, _, _, rfl, rfl, .int (0 + (i : Int)), rfl, .int (0 + (i : Int)), rfl, _, _, rfl, rfl, .inl ⟨by omega, by omega⟩, _, _, rfl, rfl, c, _, rfl, fun y => ⟨_, _, rfl, rfl, rfl, _, _, rfl⟩⟩
        · obtain ⟨rfl, z, t, rfl⟩ := hp
          exact ⟨.int z, rfl, q z⟩
theorem ok_law_take {f : Addr} {fd : FuncData} (T : Top mg) (F : FnP K "_law_take" s_law_take f fd) : FnOk P w K mg base CX0 1 f fd ["_law_pile", "_law_size"] spTake := by
  have sc := sc_law_take
  refine ok0 F sc (fun vs H Q E h => ?_) (fun cdv A outer s H vs Q E hr h => ?_)
  · obtain ⟨p, x, n, rfl, _⟩ := h
    rfl
  · obtain ⟨p, x, n, rfl, hp, h0, h1, q⟩ := h
    refine ⟨_, (pss_cons (ps_set (i := 2) sc.nd rfl (.inl rfl) (pe_op op_mod (pe_ix ix_list (pv 0) pe_int (fun _ _ => rfl)) (pv 1)))
    (pss_cons (ps_asg (pe_op op_fdivW (pe_ix ix_list (pv 0) pe_int (fun _ _ => rfl)) (pv 1)) (pg_sub (pv 0) pe_int set_list))
    (pss_one (ps_ret (pv 2))))), ?_⟩
    refine ⟨.ref p, rfl, p, [.int x], 0, .int x, rfl, rfl, sq_of hp, rfl, .int n, rfl, x, n, rfl, rfl, h0, ?_⟩
    refine ⟨.ref p, rfl, p, [.int x], 0, .int x, rfl, rfl, sq_of hp, rfl, .int n, rfl, x, n, rfl, rfl, ⟨h0, h1⟩, .ref p, rfl, p, [.int x], 0, 0, rfl, rfl, hp, rfl, ?_⟩
    exact ⟨_, rfl, q⟩
theorem ok_law_odd {f : Addr} {fd : FuncData} (T : Top mg) (F : FnP K "_law_odd" s_law_odd f fd) : FnOk P w K mg base CX0 1 f fd ["_law_m_told", "_law_e_told"] spNof := by
  have sc := sc_law_odd
  refine ok0 F sc (fun vs H Q E h => ?_) (fun cdv A outer s H vs Q E hr h => ?_)
  · obtain ⟨m, e, rfl, _⟩ := h
    rfl
  · obtain ⟨m, e, rfl, q⟩ := h
    refine ⟨_, (pss_cons (ps_if (pt_cmpR op_eq (pv 0) pe_int (nomark _))
      (pss_one (ps_ret (pe_tup (pa_cons pe_int (pa_cons pe_int pa_nil))))) pss_nil)
    (pss_cons (ps_while PassesOwn.never (pt_cmpR op_eq (pe_op op_mod (pv 0) pe_int) pe_int (nomark _))
      (pss_cons (ps_set (i := 0) sc.nd rfl (.inl rfl) (pe_op op_fdivW (pv 0) pe_int))
      (pss_one (ps_set (i := 1) sc.nd rfl (.inl rfl) (pe_op op_add (pv 1) pe_int)))))
    (pss_one (ps_ret (pe_tup (pa_cons (pv 0) (pa_cons (pv 1) pa_nil))))))), ?_⟩
    refine ⟨.int m, rfl, rfl, _, rfl, ite2 (fun h0 => ?_) (fun h0 => ?_)⟩
    · have e0 : m = 0 := V.int.inj (of_decide_eq_true h0)
      subst e0
      exact ⟨by show 2 ≤ sizeLine; decide, fun p hp => q _ p (Ex.new hp) hp upd_same⟩
    · have e0 : m ≠ 0 := fun z => h0 (decide_eq_true (congrArg V.int z))
      refine q_while (fun n σ' H' => ∃ (m' e' : Int) (j : Nat), σ' = [some (.int m'), some (.int e')] ∧ Ex H H' ∧ m' ≠ 0 ∧ m = 2 ^ j * m' ∧ e' = e + j ∧ n = m'.natAbs) m.natAbs ⟨m, e, 0, rfl, Ex.refl H, e0, by rw [Int.pow_zero, Int.one_mul], by omega, rfl⟩ ?_
      rintro n σ' H' ⟨m', e', j, rfl, ex, hm, hj, he, hn⟩
      refine ⟨_, et_test (ev_op (ev_op (ev_var rfl) ev_c (rv_I (by decide))) ev_c (rv_eq rfl)), fun hb H1 e1 => ?_, fun hb H1 e1 => ?_⟩
      · have h2 : m' % 2 = 0 := V.int.inj (of_decide_eq_true hb)
        refine ⟨_, fun _ _ h => h, ?_⟩
        refine ⟨.int m', rfl, m', 2, rfl, rfl, ⟨by decide, by decide⟩, .int e', rfl, e', 1, rfl, rfl, ?_⟩
        refine ⟨(m' / 2).natAbs, by omega, m' / 2, e' + 1, j + 1, rfl, ex.trans e1, by omega, ?_, by omega, rfl⟩
        rw [Int.pow_succ, Int.mul_assoc, show 2 * (m' / 2) = m' by omega]
        exact hj
      · have h2 : ¬ m' % 2 = 0 := fun z => by
          rw [decide_eq_true (congrArg V.int z)] at hb
          cases hb
        have hm2 : m' = 2 * (m' / 2) + 1 := by omega
        have en : nrm m e = (m', e') := by
          have h3 : m = 2 ^ j * (2 * (m' / 2) + 1) := by rw [← hm2]; exact hj
          rw [nrm_of e h3, ← hm2, he]
        refine ⟨.int m', rfl, .int e', rfl, by show 2 ≤ sizeLine; decide, fun p hp => q _ p ((ex.trans e1).trans (Ex.new hp)) (fresh_back (ex.trans e1) hp) ?_⟩
        rw [upd_same, en]
theorem way5 {w a b c d e : Int} {B : Int} (h0 : 0 ≤ w) (h5 : w < 5) (ha : 0 < a ∧ a ≤ B) (hb : 0 < b ∧ b ≤ B) (hc : 0 < c ∧ c ≤ B) (hd : 0 < d ∧ d ≤ B) (he : 0 < e ∧ e ≤ B) :
    ∃ v : Int, atI [V.int a, V.int b, V.int c, V.int d, V.int e] w = some (.int v) ∧ 0 < v ∧ v ≤ B := by
  rcases (show w = 0 ∨ w = 1 ∨ w = 2 ∨ w = 3 ∨ w = 4 by omega) with rfl | rfl | rfl | rfl | rfl
  · exact ⟨a, rfl, ha⟩
  · exact ⟨b, rfl, hb⟩
  · exact ⟨c, rfl, hc⟩
  · exact ⟨d, rfl, hd⟩
  · exact ⟨e, rfl, he⟩
theorem far5 {w : Int} (h0 : 0 ≤ w) (h5 : w < 5) : ∃ v : Int, atI [V.int 3, V.int 9, V.int 30, V.int 100, V.int 800] w = some (.int v) ∧ 0 < v ∧ v ≤ 800 ∧ (w = 4 → v = 800) := by
  rcases (show w = 0 ∨ w = 1 ∨ w = 2 ∨ w = 3 ∨ w = 4 by omega) with rfl | rfl | rfl | rfl | rfl
  · exact ⟨3, rfl, by decide⟩
  · exact ⟨9, rfl, by decide⟩
  · exact ⟨30, rfl, by decide⟩
  · exact ⟨100, rfl, by decide⟩
  · exact ⟨800, rfl, by decide⟩
theorem ok_law_number {f f1 f2 : Addr} {fd fd1 fd2 : FuncData} (T : Top mg) (F : FnP K "_law_number" s_law_number f fd) (c_law_take : Cal P w K mg base CX0 1 "_law_take" ["_law_pile", "_law_size"] spTake f1 fd1) (c_law_odd : Cal P w K mg base CX0 1 "_law_odd" ["_law_m_told", "_law_e_told"] spNof f2 fd2) : FnOk P w K mg base CX0 2 f fd ["_law_pile"] spNumber := by
  have sc := sc_law_number
  refine ok0 F sc (fun vs H Q E h => ?_) (fun cdv A outer s H vs Q E hr h => ?_)
  · obtain ⟨p, x, rfl, _⟩ := h
    rfl
  · obtain ⟨p, x, rfl, hp, q⟩ := h
    refine ⟨_, (pss_cons (ps_set (i := 1) sc.nd rfl (.inl rfl) (pe_call c_law_take.ok (hr.mono (by decide)) (by rfl) c_law_take.m c_law_take.kp c_law_take.b .nil pass0 (pa_cons (pv 0) (pa_cons pe_int pa_nil))))
    (pss_cons (ps_set (i := 2) sc.nd rfl (.inl rfl) (pe_ix ix_list (pe_lst (pa_cons pe_int (pa_cons pe_int (pa_cons (pe_op op_pow pe_int pe_int) (pa_cons (pe_op op_pow pe_int pe_int) (pa_cons (pe_op op_shlW pe_int pe_int) pa_nil)))))) (pv 1) (fun _ _ => rfl)))
    (pss_cons (ps_set (i := 3) sc.nd rfl (.inl rfl) (pe_ix ix_list (pe_lst (pa_cons pe_int (pa_cons pe_int (pa_cons pe_int (pa_cons pe_int (pa_cons pe_int pa_nil)))))) (pv 1) (fun _ _ => rfl)))
    (pss_cons (ps_set (i := 4) sc.nd rfl (.inl rfl) (pe_op op_add (pe_op op_sub (pe_call c_law_take.ok (hr.mono (by decide)) (by rfl) c_law_take.m c_law_take.kp c_law_take.b .nil pass0 (pa_cons (pv 0) (pa_cons (pe_op op_mul pe_int (pv 2)) pa_nil))) (pv 2)) pe_int))
    (pss_one (ps_ret (pe_call c_law_odd.ok (hr.mono (by decide)) (by rfl) c_law_odd.m c_law_odd.kp c_law_odd.b .nil pass0 (pa_cons (pv 4) (pa_cons (pe_op op_sub (pe_call c_law_take.ok (hr.mono (by decide)) (by rfl) c_law_take.m c_law_take.kp c_law_take.b .nil pass0 (pa_cons (pv 0) (pa_cons (pe_op op_sub (pe_op op_mul pe_int (pv 3)) (pe_op op_mul pe_int (pe_callTy call_int1 (by rfl) T.ty_int (by decide +kernel) (pa_cons (pe_cmpR op_eq (pv 1) pe_int (nomark _)) pa_nil)))) pa_nil))) (pv 3)) pa_nil))))))))), ?_⟩
    have w0 : 0 ≤ x % 5 := Int.emod_nonneg x (by decide)
    have w5 : x % 5 < 5 := Int.emod_lt_of_pos x (by decide)
    refine ⟨.ref p, rfl, p, x, 5, rfl, hp, by decide, by decide, ?_⟩
    obtain ⟨most, am, m0, mB⟩ := way5 (a := 8) (b := 64) (c := 2 ^ (20 : Int).toNat) (d := 2 ^ (60 : Int).toNat) (e := 1 * 2 ^ (200 : Int).toNat) (B := 2 ^ 200) w0 w5 (by decide +kernel) (by decide +kernel) (by decide +kernel) (by decide +kernel) (by decide +kernel)
    obtain ⟨far, af, f0, fB, f4⟩ := far5 w0 w5
    refine ⟨2, 20, rfl, rfl, ⟨by decide, by decide, by decide⟩, 2, 60, rfl, rfl, ⟨by decide, by decide, by decide⟩, 1, 200, rfl, rfl, ⟨by decide, by decide +kernel⟩, by show 5 ≤ sizeLine; decide, fun l1 hl1 => ?_⟩
    have np1 : p ≠ l1 := fun z => by
      rw [← z, upd_same] at hl1
      cases hl1
    refine ⟨.int (x % 5), rfl, l1, _, _, _, rfl, rfl, sq_of upd_same, am, ?_⟩
    refine ⟨by show 5 ≤ sizeLine; decide, fun l2 hl2 => ?_⟩
    have np2 : p ≠ l2 := fun z => by
      rw [← z, upd_ne np1, upd_same] at hl2
      cases hl2
    refine ⟨.int (x % 5), rfl, l2, _, _, _, rfl, rfl, sq_of upd_same, af, ?_⟩
    have s2 : (0 : Int) < 2 * most := by omega
    have b2 : (2 * most).natAbs.log2 < 9000 := log_small (k := 201) s2 (by have e : (2 : Int) ^ 201 = 2 ^ 200 * 2 := Int.pow_succ ..; omega) (by decide)
    refine ⟨.ref p, rfl, .int most, rfl, 2, most, rfl, rfl, .inl ⟨by decide, by decide⟩, p, x / 5, 2 * most, rfl, ?_, s2, b2, ?_⟩
    · rw [upd_ne np2, upd_ne np1, upd_same]
    have y0 : 0 ≤ x / 5 % (2 * most) := Int.emod_nonneg _ (by omega)
    have y1 : x / 5 % (2 * most) < 2 * most := Int.emod_lt_of_pos _ s2
    refine ⟨.int most, rfl, _, most, rfl, rfl, _, 1, rfl, rfl, ?_⟩
    obtain ⟨m, hm⟩ : ∃ m : Int, m = x / 5 % (2 * most) - most + 1 := ⟨_, rfl⟩
    have mabs : m.natAbs ≤ 2 ^ 200 := by
      have e : ((2 ^ 200 : Nat) : Int) = 2 ^ 200 := pow_two_cast 200
      omega
    refine ⟨.int m, by rw [hm]; rfl, .ref p, rfl, .int far, rfl, 2, far, rfl, rfl, .inl ⟨by decide, by decide⟩, .int (x % 5), rfl, rfl, .inr ⟨_, rfl, 200, _, rfl, rfl, .inl ⟨by decide, by decide⟩, _, _, rfl, rfl, ?_⟩⟩
    have s3 : (0 : Int) < 2 * far - 200 * (if decide (V.int (x % 5) = V.int 4) = true then 1 else 0) ∧ 2 * far - 200 * (if decide (V.int (x % 5) = V.int 4) = true then 1 else 0) ≤ 1600 := by
      by_cases z : x % 5 = 4
      · rw [if_pos (decide_eq_true (congrArg V.int z)), f4 z]
        decide
      · rw [if_neg (fun y => z (V.int.inj (of_decide_eq_true y)))]
        omega
    obtain ⟨sz, hsz⟩ : ∃ sz : Int, sz = 2 * far - 200 * (if decide (V.int (x % 5) = V.int 4) = true then 1 else 0) := ⟨_, rfl⟩
    rw [← hsz] at s3
    refine ⟨p, x / 5 / (2 * most), sz, by rw [hsz]; rfl, upd_same, s3.1, log_small (k := 11) s3.1 (by omega) (by decide), .int far, rfl, _, far, rfl, rfl, m, _, rfl, fun H' r ex nr hr => ?_⟩
    have z0 : 0 ≤ x / 5 / (2 * most) % sz := Int.emod_nonneg _ (by omega)
    have z1 : x / 5 / (2 * most) % sz < sz := Int.emod_lt_of_pos _ s3.1
    refine q H' r (x / 5 / (2 * most) / sz) _ _ (fun b o hb hbp => ex b o ?_) (ex p _ upd_same) ?_ hr (nrm_num _ _) ?_ ?_
    · rw [upd_ne hbp, upd_ne hbp, upd_ne (ne_of_none hb ?_), upd_ne (ne_of_none hb ?_), upd_ne hbp]
      · exact hb
      · cases hz : H l1 with
        | none => rfl
        | some o =>
          rw [upd_ne (Ne.symm np1), hz] at hl1
          cases hl1
      · cases hz : H l2 with
        | none => rfl
        | some o =>
          by_cases z : l2 = l1
          · rw [z, upd_same] at hl2
            cases hl2
          · rw [upd_ne z, upd_ne (Ne.symm np2), hz] at hl2
            cases hl2
    · cases hz : H r with
      | none => rfl
      | some o =>
        by_cases y1 : r = p
        · rw [y1, upd_same] at nr
          cases nr
        · rw [upd_ne y1, upd_ne y1] at nr
          by_cases y2 : r = l2
          · rw [y2, upd_same] at nr
            cases nr
          · rw [upd_ne y2] at nr
            by_cases y3 : r = l1
            · rw [y3, upd_same] at nr
              cases nr
            · rw [upd_ne y3, upd_ne y1, hz] at nr
              cases nr
    · exact Nat.lt_of_le_of_lt (Nat.le_trans (nrm_abs _ _) mabs) (by decide +kernel)
    · have h1 := nrm_exp (m := m) (e := x / 5 / (2 * most) % sz - far) (k := 201) (Nat.lt_of_le_of_lt mabs (by decide +kernel))
      omega
theorem eqv_00 (m e : Int) : PyData.eqv (.tuple [.int m, .int e]) (.tuple [.int 0, .int 0]) = (decide (m = 0) && decide (e = 0)) := by
  simp [PyData.eqv, PyData.eqvAll]
  rfl
theorem ok_law_is {f : Addr} {fd : FuncData} (T : Top mg) (F : FnP K "_law_is" s_law_is f fd) : FnOk P w K mg base CX0 1 f fd ["_law_thing_own"] (spNum K) := by
  have sc := sc_law_is
  refine ok0 F sc (fun vs H Q E h => ?_) (fun cdv A outer s H vs Q E hr h => ?_)
  · obtain ⟨v, b, rfl, _⟩ := h
    rfl
  · obtain ⟨v, b, rfl, hn, q0⟩ := h
    have q := q0 H (Ex.refl H)
    refine ⟨_, (pss_cons (ps_if (PW.pt (pw_or (pt_not (pt_val (pe_callB call_isi (by rfl) T.isinstance (by decide +kernel) (pa_cons (pv 0) (pa_cons (pe_bltn (v := .ty "tuple") (by rfl) T.ty_tuple (by decide +kernel) rfl) pa_nil))))) (pw_or1 (pt_cmpR op_ne (pe_callB call_len (by rfl) T.len (by decide +kernel) (pa_cons (pv 0) pa_nil)) pe_int (nomark _)))))
      (pss_one (ps_ret pe_bl)) pss_nil)
    (pss_cons (ps_for PassesOwn.never rfl (pi_tup (pv 0)) (pg_name (i := 1) sc.nd rfl (.inl rfl))
      (pss_one (ps_if (PW.pt (pw_or (pt_not (pt_val (pe_callB call_isi (by rfl) T.isinstance (by decide +kernel) (pa_cons (pv 1) (pa_cons (pe_bltn (v := .ty "int") (by rfl) T.ty_int (by decide +kernel) rfl) pa_nil))))) (pw_or1 (pt_val (pe_callB call_isi (by rfl) T.isinstance (by decide +kernel) (pa_cons (pv 1) (pa_cons (pe_bltn (v := .ty "bool") (by rfl) T.ty_bool (by decide +kernel) rfl) pa_nil)))))))
        (pss_one (ps_ret pe_bl)) pss_nil)))
    (pss_one (ps_ret (pe_or (pe_cmpR (op_eqD hr.units) (pv 0) (pe_tup (pa_cons pe_int (pa_cons pe_int pa_nil))) (nomark _)) (pe_one (pe_cmpR op_eq (pe_op op_mod (pe_ix ix_tup (pv 0) pe_int (fun _ _ => rfl)) pe_int) pe_int (nomark _)))))))), ?_⟩
    cases hn with
    | no ty k => exact rd_isi (i := 0) rfl ty k ⟨false, rfl, iteT (iteT q)⟩
    | @len a xs h l =>
      refine rd_tup (i := 0) rfl h ⟨true, rfl, iteF ?_⟩
      refine ⟨.ref a, rfl, .ref a, xs.length, rfl, .inr ⟨xs, h, rfl⟩, rfl, _, rfl, ite2 (fun _ => q) (fun hh => absurd ?_ hh)⟩
      have e : ¬ V.int ((xs.length : Nat) : Int) = V.int 2 := fun z => l (by have := V.int.inj z; omega)
      rw [decide_eq_false e]
      rfl
    | @fst a x y b h p1 p2 =>
      refine rd_tup (i := 0) rfl h ⟨true, rfl, iteF ?_⟩
      refine ⟨.ref a, rfl, .ref a, 2, rfl, .inr ⟨[x, y], h, rfl⟩, rfl, _, rfl, iteNS rfl ?_⟩
      refine ⟨.ref a, rfl, a, rfl, ⟨_, h⟩, for_tup (xs := [x, y]) (fun i σ' H' => i = 0 ∧ H' = H ∧ ∃ t, σ' = [some (.ref a), t]) ⟨rfl, rfl, none, rfl⟩ (fun i σ' H' _ hp => by obtain ⟨_, rfl, _⟩ := hp; exact h) (fun i z σ' H' hz hp => ?_) (fun σ' H' hp => absurd hp.1 (by simp))⟩
      obtain ⟨rfl, rfl, t, rfl⟩ := hp
      cases (show x = z from Option.some.inj hz)
      obtain ⟨ty, b1, b2, h1, h2, h3, h4⟩ := p1.kinds
      cases b1 with
      | false => exact (rd_isi (i := 1) (v := x) rfl h1 h2 ⟨false, rfl, iteT (iteT q)⟩)
      | true =>
        cases b2 with
        | false => cases h4
        | true => exact (rd_isi (i := 1) (v := x) rfl h1 h2 ⟨true, rfl, iteF (rd_isi (i := 1) (v := x) rfl h1 h3 ⟨true, rfl, iteT q⟩)⟩)
    | @snd a x y h p1 p2 =>
      refine rd_tup (i := 0) rfl h ⟨true, rfl, iteF ?_⟩
      refine ⟨.ref a, rfl, .ref a, 2, rfl, .inr ⟨[x, y], h, rfl⟩, rfl, _, rfl, iteNS rfl ?_⟩
      refine ⟨.ref a, rfl, a, rfl, ⟨_, h⟩, for_tup (xs := [x, y]) (fun i σ' H' => i ≤ 1 ∧ H' = H ∧ ∃ t, σ' = [some (.ref a), t]) ⟨Nat.zero_le _, rfl, none, rfl⟩ (fun i σ' H' _ hp => by obtain ⟨_, rfl, _⟩ := hp; exact h) (fun i z σ' H' hz hp => ?_) (fun σ' H' hp => absurd hp.1 (by simp))⟩
      obtain ⟨hi, rfl, t, rfl⟩ := hp
      obtain ⟨ty, b1, b2, h1, h2, h3, h4⟩ := p1.kinds
      obtain ⟨ty', c1, c2, g1, g2, g3, g4⟩ := p2.kinds
      cases i with
      | zero =>
        cases (show x = z from Option.some.inj hz)
        cases b1 with
        | false => cases h4
        | true =>
          cases b2 with
          | true => cases h4
          | false => exact (rd_isi (i := 1) (v := x) rfl h1 h2 ⟨true, rfl, iteF (rd_isi (i := 1) (v := x) rfl h1 h3 ⟨false, rfl, iteF ⟨Nat.le_refl _, rfl, _, rfl⟩⟩)⟩)
      | succ j =>
        have ej : j = 0 := by omega
        subst ej
        cases (show y = z from Option.some.inj hz)
        cases c1 with
        | false => exact (rd_isi (i := 1) (v := y) rfl g1 g2 ⟨false, rfl, iteT (iteT q)⟩)
        | true =>
          cases c2 with
          | false => cases g4
          | true => exact (rd_isi (i := 1) (v := y) rfl g1 g2 ⟨true, rfl, iteF (rd_isi (i := 1) (v := y) rfl g1 g3 ⟨true, rfl, iteT q⟩)⟩)
    | @num a m e h =>
      refine rd_tup (i := 0) rfl h ⟨true, rfl, iteF ?_⟩
      refine ⟨.ref a, rfl, .ref a, 2, rfl, .inr ⟨[.int m, .int e], h, rfl⟩, rfl, _, rfl, iteNS rfl ?_⟩
      refine ⟨.ref a, rfl, a, rfl, ⟨_, h⟩, for_tup (xs := [.int m, .int e]) (fun i σ' H' => H' = H ∧ ∃ t, σ' = [some (.ref a), t]) ⟨rfl, none, rfl⟩ (fun i σ' H' _ hp => by obtain ⟨rfl, _⟩ := hp; exact h) (fun i z σ' H' hz hp => ?_) (fun σ' H' hp => ?_)⟩
      · obtain ⟨rfl, t, rfl⟩ := hp
        have hz2 : ∃ n : Int, z = .int n := by
          cases i with
          | zero => exact ⟨m, (Option.some.inj hz).symm⟩
          | succ j =>
            cases j with
            | zero => exact ⟨e, (Option.some.inj hz).symm⟩
            | succ j' => simp at hz
        obtain ⟨n, rfl⟩ := hz2
        exact rd_isi (i := 1) (v := .int n) rfl (.base (.int n)) (kit_ty (by decide +kernel : kitB "int" "int" = some true)) ⟨true, rfl, iteF (rd_isi (i := 1) (v := .int n) rfl (.base (.int n)) (kit_ty (by decide +kernel : kitB "int" "bool" = some false)) ⟨false, rfl, iteF ⟨rfl, _, rfl⟩⟩)⟩
      · obtain ⟨rfl, t, rfl⟩ := hp
        refine ⟨.ref a, rfl, by show 2 ≤ sizeLine; decide, fun p hp => ?_⟩
        refine ⟨.tuple [.int m, .int e], .tuple [.int 0, .int 0], .tup (ex_t (Ex.new hp) h) (.cons (.int m) (.cons (.int e) .nil)), .tup (st_of upd_same) (.cons (.int 0) (.cons (.int 0) .nil)), rfl, rfl, _, rfl, ?_⟩
        rw [eqv_00]
        have q2 := q0 _ (Ex.new (o := .tup [.int 0, .int 0]) hp)
        refine ite2 (fun h1 => ?_) (fun h1 => ?_)
        · have e2 : isNumB m e = true := by
            unfold isNumB
            rw [h1, Bool.or_true]
          rw [e2] at q2
          exact q2
        · have e2 : isNumB m e = decide (m % 2 = 1) := by
            unfold isNumB
            rw [Bool.eq_false_iff.mpr h1, Bool.or_false]
          rw [e2] at q2
          refine ⟨.ref a, rfl, a, [.int m, .int e], 0, .int m, rfl, rfl, ex_t (Ex.new hp) h, rfl, m, 2, rfl, rfl, by show (0 : Int) < _; decide, rfl, ?_⟩
          have e4 : decide (V.int (m % 2) = V.int 1) = decide (m % 2 = 1) := decide_eq_decide.mpr ⟨fun z => V.int.inj z, fun z => congrArg V.int z⟩
          rw [e4]
          exact q2
def spThings (K : PySem.W.Frag) : Sp := fun vs H Q _ => ∃ (a : Addr) (m e : Int), vs = [.ref a] ∧ SqT K H a [.int m, .int e] ∧ m.natAbs < 2 ^ 201 ∧ ∀ p xs H', Ex H H' → H p = none → H' p = some (.lst xs) → (∃ ds, DpAll K H' xs ds) → Q (.ref p) H'
theorem dp_pair {a : Addr} {m e : Int} {H : Hp} (h : SqT K H a [.int m, .int e]) : Dp K H (.ref a) (.tuple [.int m, .int e]) := .tup h (.cons (.int m) (.cons (.int e) .nil))
theorem q_asgLD {σ : L2.St} {H : Hp} {te : TE} {tz : TS} {D : Ends} {i n : Nat} (h : EvLD K te σ H n) (k : ∀ v H1, Ex H H1 → LdAt K H1 v n → tz D (σ.set i (some v)) H1) : tSeq (tAsg te (gName i)) tz D σ H :=
  h H (Ex.refl H) _ fun p vs H2 e2 _ hv hd hl => k (.ref p) H2 e2 ⟨p, vs, rfl, hv, hl, hd⟩
theorem ev_str {σ : L2.St} {H : Hp} {te : TE} {m : Int} (h : Ev te σ H (.int m)) (hb : m.natAbs.log2 < 1920) : Ev (tCB (fun xs H Q => ∃ i, xs = [.int i] ∧ i.natAbs.log2 < 1920 ∧ Q (.str (toString i)) H) (tCons te tNil)) σ H (.str (toString m)) := fun H1 e Q q =>
  h H1 e _ fun H2 e2 => ⟨m, rfl, hb, q H2 e2⟩
theorem ok_law_things {f f1 : Addr} {fd fd1 : FuncData} (T : Top mg) (F : FnP K "_law_things" s_law_things f fd) (c_law_tens : Cal P w K mg base CX0 1 "_law_tens" ["_law_k"] spTens f1 fd1) : FnOk P w K mg base CX0 2 f fd ["_law_number_here"] (spThings K) := by
  have sc := sc_law_things
  refine ok0 F sc (fun vs H Q E h => ?_) (fun cdv A outer s H vs Q E hr h => ?_)
  · obtain ⟨a, m, e, rfl, _⟩ := h
    rfl
  · obtain ⟨a, m, e, rfl, hS, hb, q⟩ := h
    have hb2 : m.natAbs.log2 < 1920 := Nat.lt_trans (PySem.Flt.log2_lt_of (by decide) hb) (by decide)
    refine ⟨_, (pss_cons (ps_asg (pv 0) (pg_tup rfl (pgs_cons (pg_name (i := 1) sc.nd rfl (.inl rfl)) (pgs_cons (pg_name (i := 2) sc.nd rfl (.inl rfl)) pgs_nil))))
    (pss_cons (ps_set (i := 3) sc.nd rfl (.inl rfl) (pe_lst (pa_cons (pv 0) (pa_cons (pe_tup (pa_cons (pe_op op_mul pe_int (pv 1)) (pa_cons (pe_op op_sub (pv 2) pe_int) pa_nil))) (pa_cons (pe_tup (pa_cons (pe_op op_add (pv 1) pe_int) (pa_cons (pv 2) pa_nil))) (pa_cons (pe_tup (pa_cons pe_int (pa_cons (pv 2) pa_nil))) (pa_cons (pe_tup (pa_cons (pv 1) (pa_cons pe_bl pa_nil))) (pa_cons (pe_tup (pa_cons pe_bl (pa_cons (pv 2) pa_nil))) pa_nil))))))))
    (pss_cons (ps_set (i := 3) sc.nd rfl (.inl rfl) (pe_op op_cat (pv 3) (pe_lst (pa_cons (pe_lst (pa_cons (pv 1) (pa_cons (pv 2) pa_nil))) pa_nil))))
    (pss_cons (ps_set (i := 3) sc.nd rfl (.inl rfl) (pe_op op_cat (pv 3) (pe_lst (pa_cons (pe_tup (pa_cons (pv 1) pa_nil)) (pa_cons (pe_tup (pa_cons (pv 1) (pa_cons (pv 2) (pa_cons pe_int pa_nil)))) (pa_cons (pe_tup (pa_cons (pv 1) (pa_cons pe_non pa_nil))) (pa_cons (pe_tup (pa_cons (pe_callTy call_str_int (by rfl) T.ty_str (by decide +kernel) (pa_cons (pv 1) pa_nil)) (pa_cons (pv 2) pa_nil))) (pa_cons (pe_tup (pa_cons (pv 1) (pa_cons (pe_op op_add (pv 2) pe_int) pa_nil))) pa_nil))))))))
    (pss_cons (ps_set (i := 3) sc.nd rfl (.inl rfl) (pe_op op_cat (pv 3) (pe_lst (pa_cons (pe_tup (pa_cons (pe_op op_sub pe_int (pv 1)) (pa_cons (pv 2) pa_nil))) pa_nil))))
    (pss_cons (ps_set (i := 3) sc.nd rfl (.inl rfl) (pe_op op_cat (pv 3) (pe_lst (pa_cons pe_non (pa_cons pe_bl (pa_cons pe_bl (pa_cons pe_int (pa_cons pe_int (pa_cons (pv 1) (pa_cons pe_str (pa_cons (pe_tup pa_nil) (pa_cons (pe_lst pa_nil) (pa_cons (pe_tup (pa_cons pe_int (pa_cons pe_int pa_nil))) (pa_cons (pe_tup (pa_cons pe_int (pa_cons pe_int pa_nil))) (pa_cons (pe_tup (pa_cons pe_int (pa_cons pe_bl pa_nil))) (pa_cons (pe_tup (pa_cons pe_bl (pa_cons pe_int pa_nil))) pa_nil))))))))))))))))
    (pss_cons (ps_set (i := 3) sc.nd rfl (.inl rfl) (pe_op op_cat (pv 3) (pe_lst (pa_cons (pe_tup (pa_cons pe_bl (pa_cons pe_bl pa_nil))) (pa_cons (pe_tup (pa_cons pe_int (pa_cons pe_int pa_nil))) pa_nil)))))
    (pss_cons (ps_set (i := 3) sc.nd rfl (.inl rfl) (pe_op op_cat (pv 3) (pe_lst (pa_cons (pe_tup (pa_cons (pv 0) pa_nil)) (pa_cons (pe_lst (pa_cons (pv 0) pa_nil)) (pa_cons (pe_tup (pa_cons (pv 0) (pa_cons (pv 0) pa_nil))) (pa_cons (pe_tup (pa_cons (pv 0) (pa_cons pe_int pa_nil))) (pa_cons (pe_tup (pa_cons pe_int (pa_cons (pe_tup (pa_cons pe_int pa_nil)) pa_nil))) pa_nil))))))))
    (pss_one (ps_ret (pe_op op_cat (pv 3) (pe_lst (pa_cons (pe_tup (pa_cons pe_int (pa_cons pe_bl pa_nil))) (pa_cons (pe_tup (pa_cons (pe_un un_neg pe_int) (pa_cons pe_int pa_nil))) (pa_cons (pe_tup (pa_cons (pe_un un_neg pe_int) (pa_cons pe_int pa_nil))) (pa_cons (pe_tup (pa_cons (pe_op op_add (pe_call c_law_tens.ok (hr.mono (by decide)) (by rfl) c_law_tens.m c_law_tens.kp c_law_tens.b .nil pass0 (pa_cons pe_int pa_nil)) pe_int) (pa_cons pe_int pa_nil))) pa_nil)))))))))))))))), ?_⟩
    refine ⟨.ref a, rfl, a, [.int m, .int e], rfl, hS, rfl, .int m, [.int e], rfl, .int e, [], rfl, rfl, ?_⟩
    have nb : ∀ {H1 : Hp}, Ex H H1 → SqT K H1 a [.int m, .int e] := fun e1 => ex_t e1 hS
    refine q_asgLD (n := 6) (eld_lst (eds_cons (ed_of (ev_var rfl) (dp_pair hS)) (eds_cons (ed_tup (eds_cons (ed_int (ev_op ev_c (ev_var rfl) (rv_I (.inl ⟨by decide, by decide⟩)))) (eds_cons (ed_int (ev_op (ev_var rfl) ev_c rv_I0)) eds_nil)))
      (eds_cons (ed_tup (eds_cons (ed_int (ev_op (ev_var rfl) ev_c rv_I0)) (eds_cons (ed_int (ev_var rfl)) eds_nil))) (eds_cons (ed_tup (eds_cons (ed_int ev_c) (eds_cons (ed_int (ev_var rfl)) eds_nil)))
      (eds_cons (ed_tup (eds_cons (ed_int (ev_var rfl)) (eds_cons (ed_c (.bl true)) eds_nil))) (eds_cons (ed_tup (eds_cons (ed_c (.bl true)) (eds_cons (ed_int (ev_var rfl)) eds_nil))) eds_nil))))))) fun v1 H1 e1 l1 => ?_
    refine q_asgLD (n := 6 + 1) (eld_cat rfl l1 (eld_lst (eds_cons (ed_lst (eds_cons (ed_int (ev_var rfl)) (eds_cons (ed_int (ev_var rfl)) eds_nil))) eds_nil))) fun v2 H2 e2 l2 => ?_
    refine q_asgLD (n := 7 + 5) (eld_cat rfl l2 (eld_lst (eds_cons (ed_tup (eds_cons (ed_int (ev_var rfl)) eds_nil)) (eds_cons (ed_tup (eds_cons (ed_int (ev_var rfl)) (eds_cons (ed_int (ev_var rfl)) (eds_cons (ed_int ev_c) eds_nil))))
      (eds_cons (ed_tup (eds_cons (ed_int (ev_var rfl)) (eds_cons (ed_c .non) eds_nil))) (eds_cons (ed_tup (eds_cons (ed_of (ev_str (ev_var rfl) hb2) (.str _)) (eds_cons (ed_int (ev_var rfl)) eds_nil)))
      (eds_cons (ed_tup (eds_cons (ed_int (ev_var rfl)) (eds_cons (ed_int (ev_op (ev_var rfl) ev_c rv_I0)) eds_nil))) eds_nil))))))) fun v3 H3 e3 l3 => ?_
    refine q_asgLD (n := 12 + 1) (eld_cat rfl l3 (eld_lst (eds_cons (ed_tup (eds_cons (ed_int (ev_op ev_c (ev_var rfl) rv_I0)) (eds_cons (ed_int (ev_var rfl)) eds_nil))) eds_nil))) fun v4 H4 e4 l4 => ?_
    refine q_asgLD (n := 13 + 13) (eld_cat rfl l4 (eld_lst (eds_cons (ed_c .non) (eds_cons (ed_c (.bl _)) (eds_cons (ed_c (.bl _)) (eds_cons (ed_int ev_c) (eds_cons (ed_int ev_c) (eds_cons (ed_int (ev_var rfl)) (eds_cons (ed_c (.str _)) (eds_cons (ed_tup eds_nil) (eds_cons (ed_lst eds_nil)
      (eds_cons (ed_tup (eds_cons (ed_int ev_c) (eds_cons (ed_int ev_c) eds_nil))) (eds_cons (ed_tup (eds_cons (ed_int ev_c) (eds_cons (ed_int ev_c) eds_nil))) (eds_cons (ed_tup (eds_cons (ed_int ev_c) (eds_cons (ed_c (.bl _)) eds_nil))) (eds_cons (ed_tup (eds_cons (ed_c (.bl _)) (eds_cons (ed_int ev_c) eds_nil))) eds_nil))))))))))))))) fun v5 H5 e5 l5 => ?_
    refine q_asgLD (n := 26 + 2) (eld_cat rfl l5 (eld_lst (eds_cons (ed_tup (eds_cons (ed_c (.bl _)) (eds_cons (ed_c (.bl _)) eds_nil))) (eds_cons (ed_tup (eds_cons (ed_int ev_c) (eds_cons (ed_int ev_c) eds_nil))) eds_nil)))) fun v6 H6 e6 l6 => ?_
    have e16 : Ex H H6 := ((((e1.trans e2).trans e3).trans e4).trans e5).trans e6
    have d6 : Dp K H6 (.ref a) (.tuple [.int m, .int e]) := dp_pair (nb e16)
    refine q_asgLD (n := 28 + 5) (eld_cat rfl l6 (eld_lst (eds_cons (ed_tup (eds_cons (ed_of (ev_var rfl) d6) eds_nil)) (eds_cons (ed_lst (eds_cons (ed_of (ev_var rfl) d6) eds_nil)) (eds_cons (ed_tup (eds_cons (ed_of (ev_var rfl) d6) (eds_cons (ed_of (ev_var rfl) d6) eds_nil)))
      (eds_cons (ed_tup (eds_cons (ed_of (ev_var rfl) d6) (eds_cons (ed_int ev_c) eds_nil))) (eds_cons (ed_tup (eds_cons (ed_int ev_c) (eds_cons (ed_tup (eds_cons (ed_int ev_c) eds_nil)) eds_nil))) eds_nil))))))) fun v7 H7 e7 l7 => ?_
    have ed_tens : ∀ {σ : L2.St} {H : Hp}, EvD K (tOp (rI0 fun i j => .int (i + j)) (tCall spTens [] E0 (tCons (tC (.int 399)) tNil)) (tC (.int 1))) σ H := fun H1 _ Q q => ⟨399, rfl, by decide, by decide, fun z => ⟨z, 1, rfl, rfl, q _ H1 (Ex.refl H1) ⟨_, .int _⟩⟩⟩
    refine (eld_cat rfl l7 (eld_lst (eds_cons (ed_tup (eds_cons (ed_int ev_c) (eds_cons (ed_c (.bl _)) eds_nil))) (eds_cons (ed_tup (eds_cons (ed_int (ev_un ev_c ru_neg)) (eds_cons (ed_int ev_c) eds_nil))) (eds_cons (ed_tup (eds_cons (ed_int (ev_un ev_c ru_neg)) (eds_cons (ed_int ev_c) eds_nil)))
      (eds_cons (ed_tup (eds_cons ed_tens (eds_cons (ed_int ev_c) eds_nil))) eds_nil)))))) H7 (Ex.refl H7) _ fun p vs H8 e8 np hv hd hl => ?_
    exact q p vs H8 ((e16.trans e7).trans e8) (fresh_back (e16.trans e7) np) hv hd
def spLaw (K : PySem.W.Frag) : Sp := fun vs H Q _ => ∃ (a : Addr) (ns : List Int), vs = [.ref a] ∧ SqL K H a (ns.map V.int) ∧ ∀ H', Q (.bl true) H'
theorem pair_dp {p : Addr} {m e : Int} {H : Hp} (h : H p = some (.tup [.int m, .int e])) : Dp K H (.ref p) (.tuple [.int m, .int e]) := .tup (st_of h) (.cons (.int m) (.cons (.int e) .nil))
theorem pair_sh (m e : Int) : SeqAt.shaped (.tuple [.int m, .int e]) = true := rfl
theorem pair_eqv (m e : Int) : PyData.eqv (.tuple [.int m, .int e]) (.tuple [.int m, .int e]) = true := SeqAt.eqv_refl _ rfl
/-- two equal pairs are told as such -/
theorem ne_pair {x y : V} {H : Hp} {p q : Addr} {m e : Int} {Q : VK} (hx : x = .ref p) (hy : y = .ref q) (h1 : H p = some (.tup [.int m, .int e])) (h2 : H q = some (.tup [.int m, .int e])) (h : Q (.bl false) H) : rNeD K x y H Q := by
  subst hx hy
  refine ⟨_, _, pair_dp h1, pair_dp h2, pair_sh m e, pair_sh m e, ?_⟩
  rw [pair_eqv]
  exact h
theorem ok_law {f fc fn ft fi fl fk fo fm : Addr} {fd fdc fdn fdt fdi fdl fdk fdo fdm : FuncData} {ds : List Value} {gk gk2 gk3 : List Value → List Value → List Value} (T : Top mg) (F : FnP K "law" s_law f fd)
    (c_law_cell : Cal P w K mg base CX0 2 "_law_cell" ["_law_script", "_law_k"] (spCel K) fc fdc) (c_law_number : Cal P w K mg base CX0 2 "_law_number" ["_law_pile"] spNumber fn fdn) (c_law_things : Cal P w K mg base CX0 2 "_law_things" ["_law_number_here"] (spThings K) ft fdt)
    (c_is_number : Cal P w K mg base CX0 1 "is_number" ["thing"] (spNum K) fi fdi) (c_is_number_kb_thing : KBn K fdi ["thing"] 0 ["thing"] gk (fun _ zs => zs)) (c_law_is : Cal P w K mg base CX0 1 "_law_is" ["_law_thing_own"] (spNum K) fl fdl) (c_law_take : Cal P w K mg base CX0 1 "_law_take" ["_law_pile", "_law_size"] spTake fk fdk)
    (c_law_odd : Cal P w K mg base CX0 1 "_law_odd" ["_law_m_told", "_law_e_told"] spNof fo fdo) (c_number_of : Cal P w K mg base CX0 2 "number_of" ["m", "e"] spNof fm fdm) (c_number_of_kb_e_m : KBn K fdm ["m", "e"] 0 ["e", "m"] gk2 (fun _ zs => zs.reverse)) (c_number_of_kb_m_e : KBn K fdm ["m", "e"] 0 ["m", "e"] gk3 (fun _ zs => zs))
    (c_number_of_b1 : Binds K fdm ["m", "e"] ds) (c_number_of_d1 : Vals [.int 0] ds) : FnOk P w K mg base CX0 3 f fd ["_law_script"] (spLaw K) := by
  have sc := sc_law
  refine ok0 F sc (fun vs H Q E h => ?_) (fun cdv A outer s H vs Q E hr h => ?_)
  · obtain ⟨a, ns, rfl, _⟩ := h
    rfl
  · obtain ⟨a, ns, rfl, hS, q⟩ := h
    refine ⟨_, (pss_cons (ps_for PassesOwn.never rfl (pi_range1 (by rfl) T.range (pa_cons pe_int pa_nil)) (pg_name (i := 1) sc.nd rfl (.inl rfl))
      (pss_cons (ps_set (i := 2) sc.nd rfl (.inl rfl) (pe_lst (pa_cons (pe_call c_law_cell.ok (hr.mono (by decide)) (by rfl) c_law_cell.m c_law_cell.kp c_law_cell.b .nil pass0 (pa_cons (pv 0) (pa_cons (pv 1) pa_nil))) pa_nil)))
      (pss_cons (ps_set (i := 3) sc.nd rfl (.inl rfl) (pe_call c_law_number.ok (hr.mono (by decide)) (by rfl) c_law_number.m c_law_number.kp c_law_number.b .nil pass0 (pa_cons (pv 2) pa_nil)))
      (pss_cut (ps_for PassesOwn.never rfl (pi_list (pe_call c_law_things.ok (hr.mono (by decide)) (by rfl) c_law_things.m c_law_things.kp c_law_things.b .nil pass0 (pa_cons (pv 3) pa_nil))) (pg_name (i := 4) sc.nd rfl (.inl rfl))
        (pss_cons (ps_set (i := 5) sc.nd rfl (.inl rfl) (pe_lst (pa_cons (pe_call c_is_number.ok (hr.mono (by decide)) (by rfl) c_is_number.m c_is_number.kp c_is_number.b .nil pass0 (pa_cons (pv 4) pa_nil)) (pa_cons (pe_callN0 c_is_number.ok (hr.mono (by decide)) (by rfl) c_is_number.m c_is_number.kp c_is_number_kb_thing pass0 (pk_cons (pv 4) pk_nil)) pa_nil))))
        (pss_one (ps_if (PW.pt (pw_or (pt_not (pt_val (pe_callB call_isi (by rfl) T.isinstance (by decide +kernel) (pa_cons (pe_ix ix_list (pv 5) pe_int (fun _ _ => rfl)) (pa_cons (pe_bltn (v := .ty "bool") (by rfl) T.ty_bool (by decide +kernel) rfl) pa_nil))))) (pw_or1 (pt_cmpR (op_neD hr.units) (pv 5) (pe_op op_rep (pe_lst (pa_cons (pe_call c_law_is.ok (hr.mono (by decide)) (by rfl) c_law_is.m c_law_is.kp c_law_is.b .nil pass0 (pa_cons (pv 4) pa_nil)) pa_nil)) pe_int) (nomark _)))))
          (pss_one (ps_ret pe_bl)) pss_nil))))
      (pss_cons (ps_set (i := 6) sc.nd rfl (.inl rfl) (pe_op op_sub (pe_call c_law_take.ok (hr.mono (by decide)) (by rfl) c_law_take.m c_law_take.kp c_law_take.b .nil pass0 (pa_cons (pv 2) (pa_cons (pe_op op_pow pe_int pe_int) pa_nil))) (pe_op op_pow pe_int pe_int)))
      (pss_cons (ps_set (i := 6) sc.nd rfl (.inl rfl) (pe_op op_shlW (pv 6) (pe_call c_law_take.ok (hr.mono (by decide)) (by rfl) c_law_take.m c_law_take.kp c_law_take.b .nil pass0 (pa_cons (pv 2) (pa_cons pe_int pa_nil)))))
      (pss_cons (ps_set (i := 7) sc.nd rfl (.inl rfl) (pe_op op_sub (pe_call c_law_take.ok (hr.mono (by decide)) (by rfl) c_law_take.m c_law_take.kp c_law_take.b .nil pass0 (pa_cons (pv 2) (pa_cons pe_int pa_nil))) pe_int))
      (pss_cons (ps_set (i := 8) sc.nd rfl (.inl rfl) (pe_call c_law_odd.ok (hr.mono (by decide)) (by rfl) c_law_odd.m c_law_odd.kp c_law_odd.b .nil pass0 (pa_cons (pv 6) (pa_cons (pv 7) pa_nil))))
      (pss_cons (ps_if (pt_cmpR (op_neD hr.units) (pe_call c_number_of.ok (hr.mono (by decide)) (by rfl) c_number_of.m c_number_of.kp c_number_of.b .nil pass0 (pa_cons (pv 6) (pa_cons (pv 7) pa_nil))) (pv 8) (nomark _))
        (pss_one (ps_ret pe_bl)) pss_nil)
      (pss_cons (ps_if (pt_cmpR (op_neD hr.units) (pe_callN0 c_number_of.ok (hr.mono (by decide)) (by rfl) c_number_of.m c_number_of.kp c_number_of_kb_e_m pass0 (pk_cons (pv 7) (pk_cons (pv 6) pk_nil))) (pv 8) (nomark _))
        (pss_one (ps_ret pe_bl)) pss_nil)
      (pss_cons (ps_if (pt_not (pt_val (pe_call c_is_number.ok (hr.mono (by decide)) (by rfl) c_is_number.m c_is_number.kp c_is_number.b .nil pass0 (pa_cons (pv 8) pa_nil))))
        (pss_one (ps_ret pe_bl)) pss_nil)
      (pss_cons (ps_if (pt_cmpR (op_neD hr.units) (pe_call c_number_of.ok (hr.mono (by decide)) (by rfl) c_number_of.m c_number_of.kp c_number_of_b1 c_number_of_d1 pass0 (pa_cons (pv 6) pa_nil)) (pe_call c_law_odd.ok (hr.mono (by decide)) (by rfl) c_law_odd.m c_law_odd.kp c_law_odd.b .nil pass0 (pa_cons (pv 6) (pa_cons pe_int pa_nil))) (nomark _))
        (pss_one (ps_ret pe_bl)) pss_nil)
      (pss_cons (ps_if (pt_cmpR (op_neD hr.units) (pe_call c_number_of.ok (hr.mono (by decide)) (by rfl) c_number_of.m c_number_of.kp c_number_of.b .nil pass0 (pa_cons pe_int (pa_cons (pv 7) pa_nil))) (pe_tup (pa_cons pe_int (pa_cons pe_int pa_nil))) (nomark _))
        (pss_one (ps_ret pe_bl)) pss_nil)
      (pss_cons (ps_if (pt_cmpR (op_neD hr.units) (pe_callN0 c_number_of.ok (hr.mono (by decide)) (by rfl) c_number_of.m c_number_of.kp c_number_of_kb_m_e pass0 (pk_cons (pe_un un_neg pe_int) (pk_cons pe_int pk_nil))) (pe_tup (pa_cons (pe_un un_neg pe_int) (pa_cons pe_int pa_nil))) (nomark _))
        (pss_one (ps_ret pe_bl)) pss_nil)
      (pss_one (ps_if (PW.pt (pw_or (pt_cmpR (op_neD hr.units) (pe_call c_number_of.ok (hr.mono (by decide)) (by rfl) c_number_of.m c_number_of.kp c_number_of.b .nil pass0 (pa_cons (pe_ix ix_tup (pv 3) pe_int (fun _ _ => rfl)) (pa_cons (pe_ix ix_tup (pv 3) pe_int (fun _ _ => rfl)) pa_nil))) (pv 3) (nomark _)) (pw_or1 (pt_not (pt_val (pe_callB call_isi (by rfl) T.isinstance (by decide +kernel) (pa_cons (pe_call c_number_of.ok (hr.mono (by decide)) (by rfl) c_number_of.m c_number_of.kp c_number_of.b .nil pass0 (pa_cons (pv 6) (pa_cons (pv 7) pa_nil))) (pa_cons (pe_bltn (v := .ty "tuple") (by rfl) T.ty_tuple (by decide +kernel) rfl) pa_nil))))))))
        (pss_one (ps_ret pe_bl)) pss_nil))))))))))))))))
    (pss_one (ps_ret pe_bl))), ?_⟩
    refine ⟨4, rfl, by decide, by decide, for_range (lo := 0) (n := 4) (fun _ σ' H' => SqL K H' a (ns.map V.int) ∧ ∃ t1 t2 t3 t4 t5 t6 t7 t8, σ' = [some (.ref a), t1, t2, t3, t4, t5, t6, t7, t8]) ⟨hS, none, none, none, none, none, none, none, none, rfl⟩ (fun i σ' H0 hi hp => ?_) (fun σ' H' hp => ?_)⟩
    · obtain ⟨hS0, t1, t2, t3, t4, t5, t6, t7, t8, rfl⟩ := hp
      refine ⟨.ref a, rfl, .int (0 + (i : Int)), rfl, a, ns, _, rfl, hS0, by omega, by omega, fun z => ⟨by show 1 ≤ sizeLine; decide, fun p hp => ?_⟩⟩
      -- the number drawn
      refine ⟨.ref p, rfl, p, z, rfl, upd_same, fun H1 r x1 m e k1 hp1 nr hr1 hnum hm he => ?_⟩
      have e1 : Ex H0 H1 := fun b o hb => k1 b o (by rw [upd_ne (ne_of_none hb hp)]; exact hb) (ne_of_none hb hp)
      refine ⟨fun σ' H' => (∃ t4 t5, σ' = [some (.ref a), some (.int (0 + (i : Int))), some (.ref p), some (.ref r), t4, t5, t6, t7, t8]) ∧ Ex H1 H', ?_, fun σ' H' hm2 => ?_⟩
      · -- the things
        refine ⟨.ref r, rfl, r, m, e, rfl, st_of hr1, hm, fun l xs H2 e2 nl hl ⟨ds', hds⟩ => ⟨l, rfl, ⟨_, sq_of hl⟩, for_list (xs := xs) (fun _ σ' H' => (∃ t4 t5, σ' = [some (.ref a), some (.int (0 + (i : Int))), some (.ref p), some (.ref r), t4, t5, t6, t7, t8]) ∧ Ex H2 H') ⟨⟨_, _, rfl⟩, Ex.refl H2⟩ (fun _ _ H' _ hp => sq_of (hp.2 _ _ hl)) (fun j v σ' H3 hv hp => ?_) (fun σ' H' hp => ⟨hp.1, e2.trans hp.2⟩)⟩⟩
        obtain ⟨⟨u4, u5, rfl⟩, e3⟩ := hp
        obtain ⟨dv, hdv⟩ := dpAll_mem hds hv
        obtain ⟨b, hb⟩ := num_dp (dp_ex e3 dv v hdv)
        have hbx : ∀ {H' : Hp}, Ex H3 H' → ∃ c, NumIs K H' v c := fun e' => num_dp (dp_ex (e3.trans e') dv v hdv)
        have hbm : ∀ {H' : Hp}, Ex H3 H' → NumIs K H' v b := fun e' => by
          cases hb with
          | no ty k => exact .no (tyX_ex e' ty) k
          | len h l => exact .len (ex_t e' h) l
          | fst h p1 p2 => exact .fst (ex_t e' h) (whole_ex e' p1) (whole_ex e' p2)
          | snd h p1 p2 => exact .snd (ex_t e' h) (whole_ex e' p1) (whole_ex e' p2)
          | num h => exact .num (ex_t e' h)
        refine ⟨v, rfl, v, b, rfl, hb, fun H4 e4 => ?_⟩
        refine ⟨v, rfl, rfl, rfl, v, b, rfl, hbm e4, fun H5 e5 => ⟨by show 2 ≤ sizeLine; decide, fun g hg => ?_⟩⟩
        have eg := (e4.trans e5).trans (Ex.new (o := .lst [.bl b, .bl b]) hg)
        refine g_name ?_
        dsimp only
        refine o_if ?_
        refine o_or ?_
        refine o_not ?_
        refine o_b ?_
        refine rd_isiE (K := K) (v := .bl b) (t := .type "bool") (b := true) (T := "bool") ?_ ?_ ?_ ?_
        · exact fun Q' q' => ⟨.ref g, rfl, g, [.bl b, .bl b], 0, .bl b, rfl, rfl, sq_of upd_same, rfl, q'⟩
        · exact .base (.bl b)
        · exact kit_ty (by decide +kernel : kitB "bool" "bool" = some true)
        refine ⟨true, rfl, iteF ?_⟩
        refine ⟨.ref g, rfl, v, rfl, v, b, rfl, hbm eg, fun H6 e6 => ⟨by show 1 ≤ sizeLine; decide, fun y hy => ?_⟩⟩
        refine ⟨y, 2, [.bl b], rfl, rfl, upd_same, by decide, by decide, by show 1 * 2 ≤ sizeLine; decide, fun y2 hy2 => ?_⟩
        have gy : g ≠ y := fun z => by
          rw [← z, e6 _ _ upd_same] at hy
          cases hy
        have gy2 : g ≠ y2 := fun z => by
          rw [← z, upd_ne gy, e6 _ _ upd_same] at hy2
          cases hy2
        refine ⟨.list [.bool b, .bool b], .list [.bool b, .bool b], .lst (sq_of ?_) (.cons (.bl b) (.cons (.bl b) .nil)), .lst (sq_of upd_same) (.cons (.bl b) (.cons (.bl b) .nil)), rfl, rfl, _, rfl, ?_⟩
        · rw [upd_ne gy2, upd_ne gy]
          exact e6 _ _ upd_same
        · rw [SeqAt.eqv_refl _ rfl]
          exact iteF ⟨⟨_, _, rfl⟩, (((e3.trans eg).trans e6).trans (Ex.new hy)).trans (Ex.new hy2)⟩
      · obtain ⟨⟨u4, u5, rfl⟩, e2⟩ := hm2
        have np : H0 p = none := hp
        have hpH : H' p = some (.lst [.int x1]) := e2 _ _ hp1
        have hrH : H' r = some (.tup [.int m, .int e]) := e2 _ _ hr1
        have rp : r ≠ p := ne_of hrH hpH (by intro z; cases z)
        have e02 : Ex H0 H' := e1.trans e2
        -- m, e of one's own
        refine ⟨.ref p, rfl, 2, 40, rfl, rfl, ⟨by decide, by decide, by decide⟩, p, x1, _, rfl, hpH, by decide, by decide +kernel, 2, 39, rfl, rfl, ⟨by decide, by decide, by decide⟩, _, _, rfl, rfl, ?_⟩
        have m0 : 0 ≤ x1 % 2 ^ (40 : Int).toNat := Int.emod_nonneg _ (by decide)
        have m1 : x1 % 2 ^ (40 : Int).toNat < 2 ^ (40 : Int).toNat := Int.emod_lt_of_pos _ (by decide)
        obtain ⟨mo, hmo⟩ : ∃ mo : Int, mo = x1 % 2 ^ (40 : Int).toNat - 2 ^ (39 : Int).toNat := ⟨_, rfl⟩
        have mo1 : mo.natAbs < 2 ^ 41 := by
          have e40 : (2 : Int) ^ (40 : Int).toNat = 1099511627776 := by decide
          have e39 : (2 : Int) ^ (39 : Int).toNat = 549755813888 := by decide
          have e41 : (2 : Nat) ^ 41 = 2199023255552 := by decide
          rw [e40] at m0 m1 hmo
          rw [e39] at hmo
          omega
        have s0 : 0 ≤ x1 / 2 ^ (40 : Int).toNat % 70 := Int.emod_nonneg _ (by decide)
        have s1 : x1 / 2 ^ (40 : Int).toNat % 70 < 70 := Int.emod_lt_of_pos _ (by decide)
        obtain ⟨sh, hsh⟩ : ∃ sh : Nat, x1 / 2 ^ (40 : Int).toNat % 70 = (sh : Int) := ⟨(x1 / 2 ^ (40 : Int).toNat % 70).toNat, by omega⟩
        refine ⟨.int mo, by rw [hmo]; rfl, .ref p, rfl, p, _, 70, rfl, upd_same, by decide, by decide, mo, (sh : Int), rfl, congrArg V.int hsh, shl_ok (n := 41) mo1 (by omega), ?_⟩
        obtain ⟨m2, hm2⟩ : ∃ m2 : Int, m2 = mo * 2 ^ ((sh : Nat) : Int).toNat := ⟨_, rfl⟩
        obtain ⟨e3, he3⟩ : ∃ e3 : Int, e3 = x1 / 2 ^ (40 : Int).toNat / 70 % 1600 - 800 := ⟨_, rfl⟩
        refine ⟨.ref p, rfl, p, _, 1600, rfl, upd_same, by decide, by decide, _, 800, rfl, rfl, ?_⟩
        refine ⟨.int m2, by rw [hm2]; rfl, .int e3, by rw [he3]; rfl, m2, e3, rfl, fun H5 d e5 nd hd => ?_⟩
        have rr : H5 r = some (.tup [.int m, .int e]) := e5 _ _ (by rw [upd_ne rp, upd_ne rp, upd_ne rp]; exact hrH)
        have hx : Ex H0 H5 := (((e02.mut np).mut np).mut np).trans e5
        -- number_of(m, e) != due
        refine ⟨.int m2, by rw [hm2]; rfl, .int e3, by rw [he3]; rfl, m2, e3, rfl, fun H6 d1 e6 _ hd1 => ⟨.ref d, rfl, ne_pair rfl rfl hd1 (e6 _ _ hd) ⟨_, rfl, iteF ?_⟩⟩⟩
        refine ⟨.int e3, by rw [he3]; rfl, .int m2, by rw [hm2]; rfl, rfl, rfl, m2, e3, rfl, fun H7 d2 e7 _ hd2 => ⟨.ref d, rfl, ne_pair rfl rfl hd2 (e7 _ _ (e6 _ _ hd)) ⟨_, rfl, iteF ?_⟩⟩⟩
        refine ⟨.ref d, rfl, .ref d, _, rfl, .num (st_of (e7 _ _ (e6 _ _ hd))), fun H8 e8 => ⟨_, rfl, ?_⟩⟩
        rw [nrm_num]
        refine iteF ?_
        refine ⟨.int m2, by rw [hm2]; rfl, m2, 0, rfl, fun H9 d3 e9 _ hd3 => ⟨.int m2, by rw [hm2]; rfl, m2, 0, rfl, fun H10 d4 e10 _ hd4 => ne_pair rfl rfl (e10 _ _ hd3) hd4 ⟨_, rfl, iteF ?_⟩⟩⟩
        refine ⟨.int e3, by rw [he3]; rfl, 0, e3, rfl, fun H11 d5 e11 _ hd5 => ⟨by show 2 ≤ sizeLine; decide, fun d6 n6 => ne_pair rfl rfl ((Ex.new n6) _ _ hd5) upd_same ⟨_, rfl, iteF ?_⟩⟩⟩
        refine ⟨8, rfl, rfl, rfl, -8, 1, rfl, fun H13 d7 e13 _ hd7 => ⟨1, rfl, by show 2 ≤ sizeLine; decide, fun d8 n8 => ne_pair rfl rfl ((Ex.new n8) _ _ hd7) (by rw [upd_same, show nrm (-8) 1 = (-1, 4) from by decide +kernel]) ⟨_, rfl, iteF ?_⟩⟩⟩
        have exA : Ex H5 (upd H13 d8 (.tup [.int (-1), .int 4])) := ((((((e6.trans e7).trans e8).trans e9).trans e10).trans e11).trans (Ex.new n6)).trans (e13.trans (Ex.new n8))
        have rA := exA _ _ rr
        refine ⟨.ref r, rfl, r, [.int m, .int e], 0, .int m, rfl, rfl, st_of rA, rfl, .ref r, rfl, r, [.int m, .int e], 1, .int e, rfl, rfl, st_of rA, rfl, m, e, rfl, fun H15 d9 e15 _ hd9 => ⟨.ref r, rfl, ne_pair (m := m) (e := e) rfl rfl (by rw [hd9, nrm_self hnum]) (e15 _ _ rA) ⟨_, rfl, iteF ?_⟩⟩⟩
        refine rd_tupC (W := fun v H' => Ex H15 H' ∧ ∃ d, v = .ref d ∧ H' d = some (.tup [.int (nrm m2 e3).1, .int (nrm m2 e3).2])) (fun Q' q' => ⟨.int m2, by rw [hm2]; rfl, .int e3, by rw [he3]; rfl, m2, e3, rfl, fun H16 d10 e16 _ hd10 => q' _ H16 ⟨e16, d10, rfl, hd10⟩⟩) (fun v H' hw => ?_) (fun v H' hw => ⟨true, rfl, iteF ?_⟩)
        · obtain ⟨_, d, rfl, h⟩ := hw
          exact ⟨d, _, rfl, st_of h⟩
        · exact ⟨ex_l (((hx.trans exA).trans e15).trans hw.1) hS0, _, _, _, _, _, _, _, _, rfl⟩
    · obtain ⟨hS0, t1, t2, t3, t4, t5, t6, t7, t8, rfl⟩ := hp
      exact q H'
end
/-! ### the head -/
abbrev dP (x : Str) (s : Stmt) (ds : List He.Dv) : He.DefD := ⟨(x, none), x, x, defArgs s, defBody s, defScope s, ds, []⟩
abbrev dM (c m x : Str) (s : Stmt) : He.DefD := ⟨(c, some m), m, x, defArgs s, defBody s, defScope s, [], []⟩
def fn : List He.DefD := [dP "is_whole" s_is_whole [], dP "is_number" s_is_number [], dP "lowered" s_lowered [], dP "number_of" s_number_of [.int 0], dP "_law_tens" s_law_tens [], dP "_law_mixed" s_law_mixed [], dP "_law_cell" s_law_cell [], dP "_law_take" s_law_take [], dP "_law_odd" s_law_odd [], dP "_law_number" s_law_number [], dP "_law_is" s_law_is [], dP "_law_things" s_law_things [], dP "law" s_law []]
def fa : List He.Fa := [.glo "is_whole", .glo "is_number", .glo "lowered", .glo "number_of", .glo "_law_tens", .glo "_law_mixed", .glo "_law_cell", .glo "_law_take", .glo "_law_odd", .glo "_law_number", .glo "_law_is", .glo "_law_things", .glo "law", .free "isinstance", .free "len", .free "range", .free "int", .free "bool", .free "tuple", .free "str", .free "min", .free "max", .free "abs", .free "all"]
def ex (K : PySem.W.Frag) : Bool := true
abbrev R : PySem.W.OpenRow := PySem.W.OpenLaw.row PySem.Challenge.rw_oncenear_k01_what_is_a_number
abbrev hk : PySem.W.Hook := He.hookX 4 fa fn [] [] ex
def ob (s : PySem.W.SharedT) : He.AlX := He.obsX 4 fa fn [] [] ex (HandSHeadRun.getT s)
theorem ob_eq (s : PySem.W.SharedT) : ob s = hk.obs s.abs := He.obsX_eq (HandSHeadRun.getT_eq s)
set_option maxHeartbeats 0 in
theorem run (w : World) : HandSHeadRun.RunEq R (PySem.W.view R.prog [17]) hk ob 4000 ["NoNumber", "is_whole", "is_number", "number_of", "lowered", "_law_tens", "_law_mixed", "_law_cell", "_law_take", "_law_odd", "_law_number", "_law_is", "_law_things"] w := by
  intro os
  kernel_rfl
theorem facts {P : Program} {w : World} {K : PySem.W.Frag} {h : Heap} {mg : Str → Option Value} {f : Addr} (X : K.In h) (G : h.Ns mainGlobals mg) (hfa : mg ("law" : Str) = some (.ref f)) (c : He.SaysX fa fn [] [] ex w h K) :
    ∃ fd : FuncData, (∀ (s : Shared) (v : Value), BindsTo s fd ⟨[v], []⟩ [("_law_script", v)]) ∧ ∀ base : Heap, K.In base → base.Ns mainGlobals mg → FnOk P w K mg base CX0 3 f fd ["_law_script"] (spLaw K) := by
  have cd := c.t.d
  have cm := c.more
  have T : Top mg := ⟨He.free_ok X G (cd.fact 13 (f := .free "isinstance") rfl), He.free_ok X G (cd.fact 14 (f := .free "len") rfl), He.free_ok X G (cd.fact 15 (f := .free "range") rfl), He.free_ok X G (cd.fact 16 (f := .free "int") rfl), He.free_ok X G (cd.fact 17 (f := .free "bool") rfl), He.free_ok X G (cd.fact 18 (f := .free "tuple") rfl), He.free_ok X G (cd.fact 19 (f := .free "str") rfl), He.free_ok X G (cd.fact 20 (f := .free "min") rfl), He.free_ok X G (cd.fact 21 (f := .free "max") rfl), He.free_ok X G (cd.fact 22 (f := .free "abs") rfl), He.free_ok X G (cd.fact 23 (f := .free "all") rfl)⟩
  obtain ⟨fd0, F0⟩ := cd.def_ 0 (d := dP "is_whole" s_is_whole []) rfl
  obtain ⟨fd1, F1⟩ := cd.def_ 1 (d := dP "is_number" s_is_number []) rfl
  obtain ⟨fd2, F2⟩ := cd.def_ 2 (d := dP "lowered" s_lowered []) rfl
  obtain ⟨fd3, F3⟩ := cd.def_ 3 (d := dP "number_of" s_number_of [.int 0]) rfl
  obtain ⟨fd4, F4⟩ := cd.def_ 4 (d := dP "_law_tens" s_law_tens []) rfl
  obtain ⟨fd5, F5⟩ := cd.def_ 5 (d := dP "_law_mixed" s_law_mixed []) rfl
  obtain ⟨fd6, F6⟩ := cd.def_ 6 (d := dP "_law_cell" s_law_cell []) rfl
  obtain ⟨fd7, F7⟩ := cd.def_ 7 (d := dP "_law_take" s_law_take []) rfl
  obtain ⟨fd8, F8⟩ := cd.def_ 8 (d := dP "_law_odd" s_law_odd []) rfl
  obtain ⟨fd9, F9⟩ := cd.def_ 9 (d := dP "_law_number" s_law_number []) rfl
  obtain ⟨fd10, F10⟩ := cd.def_ 10 (d := dP "_law_is" s_law_is []) rfl
  obtain ⟨fd11, F11⟩ := cd.def_ 11 (d := dP "_law_things" s_law_things []) rfl
  obtain ⟨fd12, F12⟩ := cd.def_ 12 (d := dP "law" s_law []) rfl
  have e := hfa.symm.trans (He.glo_ok X G (cd.fact 12 (f := .glo "law") rfl))
  cases e
  have b := FunD.bindsA (ps := ["_law_script"]) F12 fun _ _ _ _ _ _ us hl => match us, hl with | [_], _ => rfl
  obtain ⟨ds1x, v1x, b1x⟩ := FunD.binds1 (ps := ["m", "e"]) F3 1 0 (fun z => by cases z) rfl (fun _ _ _ _ _ _ _ us its l1 l2 => match us, l1, its, l2 with | [_], _, [_], _ => ⟨_, rfl, rfl⟩)
  obtain ⟨i1, k1⟩ := kb_dfl (ps := ["m", "e"]) F3 (fun z => by cases z) ["e", "m"] (fun _ zs => zs.reverse) (fun _ r => r.reverse) (fun _ _ _ _ _ _ _ its ws l1 l2 => match its, l1, ws, l2 with | [_], _, [_, _], _ => ⟨_, rfl, rfl⟩)
  obtain ⟨i2, k2⟩ := kb_dfl (ps := ["m", "e"]) F3 (fun z => by cases z) ["m", "e"] (fun _ zs => zs) (fun _ r => r) (fun _ _ _ _ _ _ _ its ws l1 l2 => match its, l1, ws, l2 with | [_], _, [_, _], _ => ⟨_, rfl, rfl⟩)
  have kt := kb_plain (ps := ["thing"]) F1 ["thing"] (fun zs => zs) (fun r => r) (fun _ _ _ _ _ _ ws hl => match ws, hl with | [_], _ => rfl)
  refine ⟨fd12, fun s v => b s [v] rfl, fun base _ _ => ?_⟩
  have c0 : Cal P w K mg base CX0 1 "is_whole" ["thing"] (spWhole K) _ fd0 := ⟨ok_is_whole T F0, He.glo_ok X G (cd.fact 0 (f := .glo "is_whole") rfl), F0.kp, F0.bindsN fun _ _ _ _ _ _ us hl => match us, hl with | [_], _ => rfl⟩
  have c1 : Cal P w K mg base CX0 1 "is_number" ["thing"] (spNum K) _ fd1 := ⟨ok_is_number T F1, He.glo_ok X G (cd.fact 1 (f := .glo "is_number") rfl), F1.kp, F1.bindsN fun _ _ _ _ _ _ us hl => match us, hl with | [_], _ => rfl⟩
  have c2 : Cal P w K mg base CX0 1 "lowered" ["m", "e"] spNof _ fd2 := ⟨ok_lowered T F2, He.glo_ok X G (cd.fact 2 (f := .glo "lowered") rfl), F2.kp, F2.bindsN fun _ _ _ _ _ _ us hl => match us, hl with | [_, _], _ => rfl⟩
  obtain ⟨ds3, v3, b3⟩ := FunD.binds1 (ps := ["m", "e"]) F3 2 1 (fun z => by cases z) rfl (fun _ _ _ _ _ _ _ us its l1 l2 => match us, l1, its, l2 with | [_, _], _, [_], _ => ⟨_, rfl, rfl⟩)
  cases (show Vals [] ds3 from v3)
  have c3 : Cal P w K mg base CX0 2 "number_of" ["m", "e"] spNof _ fd3 := ⟨ok_number_of T F3 c0 c2, He.glo_ok X G (cd.fact 3 (f := .glo "number_of") rfl), F3.kp, b3⟩
  have c4 : Cal P w K mg base CX0 1 "_law_tens" ["_law_k"] spTens _ fd4 := ⟨ok_law_tens T F4, He.glo_ok X G (cd.fact 4 (f := .glo "_law_tens") rfl), F4.kp, F4.bindsN fun _ _ _ _ _ _ us hl => match us, hl with | [_], _ => rfl⟩
  have c5 : Cal P w K mg base CX0 1 "_law_mixed" ["_law_cell_here", "_law_k"] spMix _ fd5 := ⟨ok_law_mixed T F5, He.glo_ok X G (cd.fact 5 (f := .glo "_law_mixed") rfl), F5.kp, F5.bindsN fun _ _ _ _ _ _ us hl => match us, hl with | [_, _], _ => rfl⟩
  have c6 : Cal P w K mg base CX0 2 "_law_cell" ["_law_script", "_law_k"] (spCel K) _ fd6 := ⟨ok_law_cell T F6 c5, He.glo_ok X G (cd.fact 6 (f := .glo "_law_cell") rfl), F6.kp, F6.bindsN fun _ _ _ _ _ _ us hl => match us, hl with | [_, _], _ => rfl⟩
  have c7 : Cal P w K mg base CX0 1 "_law_take" ["_law_pile", "_law_size"] spTake _ fd7 := ⟨ok_law_take T F7, He.glo_ok X G (cd.fact 7 (f := .glo "_law_take") rfl), F7.kp, F7.bindsN fun _ _ _ _ _ _ us hl => match us, hl with | [_, _], _ => rfl⟩
  have c8 : Cal P w K mg base CX0 1 "_law_odd" ["_law_m_told", "_law_e_told"] spNof _ fd8 := ⟨ok_law_odd T F8, He.glo_ok X G (cd.fact 8 (f := .glo "_law_odd") rfl), F8.kp, F8.bindsN fun _ _ _ _ _ _ us hl => match us, hl with | [_, _], _ => rfl⟩
  have c9 : Cal P w K mg base CX0 2 "_law_number" ["_law_pile"] spNumber _ fd9 := ⟨ok_law_number T F9 c7 c8, He.glo_ok X G (cd.fact 9 (f := .glo "_law_number") rfl), F9.kp, F9.bindsN fun _ _ _ _ _ _ us hl => match us, hl with | [_], _ => rfl⟩
  have c10 : Cal P w K mg base CX0 1 "_law_is" ["_law_thing_own"] (spNum K) _ fd10 := ⟨ok_law_is T F10, He.glo_ok X G (cd.fact 10 (f := .glo "_law_is") rfl), F10.kp, F10.bindsN fun _ _ _ _ _ _ us hl => match us, hl with | [_], _ => rfl⟩
  have c11 : Cal P w K mg base CX0 2 "_law_things" ["_law_number_here"] (spThings K) _ fd11 := ⟨ok_law_things T F11 c4, He.glo_ok X G (cd.fact 11 (f := .glo "_law_things") rfl), F11.kp, F11.bindsN fun _ _ _ _ _ _ us hl => match us, hl with | [_], _ => rfl⟩
  exact ok_law T F12 c6 c9 c11 c1 kt c10 c7 c8 c3 k1 k2 b1x v1x
end Onc
open PySem PySem.W PySem.Calls PyProof.Rows
set_option maxRecDepth 100000 in
set_option maxHeartbeats 0 in
theorem PySem.Challenge.cw_oncenear_k01_what_is_a_number_holds : PySem.Challenge.rw_oncenear_k01_what_is_a_number.Holds := by
  w_on; o_law
  refine HandSHeadRun.head_any (r := OpenLaw.row PySem.Challenge.rw_oncenear_k01_what_is_a_number) (q := view (OpenLaw.row PySem.Challenge.rw_oncenear_k01_what_is_a_number).prog [17]) (H := Onc.hk) (ob := Onc.ob) (M := 4000) (loose := ["NoNumber", "is_whole", "is_number", "number_of", "lowered", "_law_tens", "_law_mixed", "_law_cell", "_law_take", "_law_odd", "_law_number", "_law_is", "_law_things"]) (d := HandSHeadRun.topDef (OpenLaw.row PySem.Challenge.rw_oncenear_k01_what_is_a_number).prog 17) (kwd := []) Onc.ob_eq
    (by kernel_rfl) (fun s => by kernel_rfl) Onc.run (by kernel_rfl) (by kernel_rfl) (by kernel_rfl) (by rfl) (by first | assumption | decide +kernel) (by decide +kernel) ⟨rfl, rfl, rfl, rfl, rfl, by decide +kernel⟩ ?hw ?hc
  case hw => w_witness2
  case hc =>
    refine L2.walk_ofE (l := PySem.Challenge.rw_oncenear_k01_what_is_a_number) (n := 63) (k := 3) (x := "_law_script") (CX := L2.CX0) rfl (by decide) (by kernel_rfl) ⟨rfl, by decide, by decide⟩ ?F (fun _ _ _ _ z => z)
    intro w mg fa h Y G hmg0
    obtain ⟨K, KX, c⟩ := Y
    have hmg : mg ("law" : PySem.Str) = some (.ref fa) := by
      have e : (HandSHeadRun.topDef (OpenLaw.row PySem.Challenge.rw_oncenear_k01_what_is_a_number).prog 17).name = ("law" : PySem.Str) := by kernel_rfl
      rw [← e]
      exact hmg0
    obtain ⟨fd, hb, hF⟩ := Onc.facts (P := (PySem.Challenge.rw_oncenear_k01_what_is_a_number).prog) (w := w) KX G hmg c
    exact ⟨K, fd, Onc.spLaw K, KX, hb, fun H a ns hl _ hS => ⟨a, ns, rfl, hS, fun _ => rfl⟩, hF⟩
