import PyProof.Rows.All
import Wide.All
import OpenK.AllK
import Wide.FinOn
import PyProof.EqAt
import PyProof.EqKinds
import PyProof.TupleCall
import PyProof.ReprRoads
import PyProof.Rows.NestShow
import PyProof.Rows.RuleB_pow
import HandS.Base
import HandS.Call
import HandS.List
import HandS.Ends
import HandS.Words
import PyProof.ReprText
import PyProof.StrLawsRepr
import PyProof.FitsInt
import PyProof.RowDictHeap
import HandS.Comp
import HandS.Dict
import HandS.Text
import HandS.TupAny
import HandS.Rev
import KE.KRevSl
import HandS.Exc
import HandS.ExcInit
import HandS.ExcField
import HandS.ExcIs
import HandS.IsInst
import KE.KExcInit
import HandS.ForMost
import HandS.Conv
import HandS.Style
import PySem.Challenge.RW_toldboxes_k00_errors
set_option Elab.async false
set_option linter.all false
set_option maxRecDepth 100000
/-! Promises that are kept where no repr is under way: calls within such bodies, the law's own end, repr of data. -/
namespace LG
open PySem PySem.Spec PyProof.Rows L2
/-- a promise of a def that is called where no guard of a repr stands around -/
structure GnOk (P : Program) (w : World) (K : PySem.W.Frag) (mg : Str → Option Value) (base : Heap) (k : Nat) (f : Addr) (fd : FuncData) (ps : List Str) (sp : Sp) : Prop where
  many : ∀ vs H Q E, sp vs H Q E → vs.length = ps.length
  goes : ∀ (B : Around) (callers : List Env) (z : Shared) (H : Hp) (args : Args) (us : List Value) (vs : List V) (Q : VK),
    B.guards = some [] → Room k B → Env0 P w K mg base B callers z H → BindsTo z fd args (ps.zip us) → Vals vs us → sp vs H Q E0 → codeAny (model P w) B (.call (.ref f) args) (CR CX0 callers P w H z Q E0) z
section
variable {P : Program} {w : World} {K : PySem.W.Frag} {mg : Str → Option Value} {base : Heap}
theorem GnOk.of {k : Nat} {f : Addr} {fd : FuncData} {ps : List Str} {sp : Sp} (F : FnOk P w K mg base CX0 k f fd ps sp) : GnOk P w K mg base k f fd ps sp :=
  ⟨F.len, fun B cs z H args us vs Q _ hr e0 hb r h => F.run B cs z H args us vs Q E0 hr e0 hb r h⟩
/-- a def's promise by its body, the guards known -/
theorem gn_of {x qual : Str} {st : Stmt} {f : Addr} {fd : FuncData} {N ps : List Str} {k : Nat} {sp : Sp} (F : Fun K x qual st f fd) (S : FnScope N ps (defScope st))
    (len : ∀ vs H Q E, sp vs H Q E → vs.length = ps.length)
    (body : ∀ (cv : Value) (B : Around) (callers : List Env) (z : Shared) (H : Hp) (vs : List V) (Q : VK), B.guards = some [] → Room k (B.deeper (envOfC qual (defScope st) z.heap.objs.size f cv)) → sp vs H Q E0 →
      ∃ t, PSs (cxOf CX0 P w K mg base N qual (defScope st) f cv B callers z H E0).nox (defBody st) t ∧ t { nx := fun _ H' => Q .non H', rt := Q } (start N vs) H) :
    GnOk P w K mg base (k + 1) f fd ps sp := by
  obtain ⟨oc, od, kV, doc, pm, an, cv, ct, osl, rfl, lk, hcd⟩ := F.ex
  refine ⟨len, fun B callers z H args us vs Q hg hr e0 hb r hsp => ?_⟩
  have many := len _ _ _ _ hsp
  have inK : K.In z.heap := e0.mod.kin.keeps fun b o e => (e0.bs b o e).1
  have nolim : z.heap.NoLimit := e0.mod.nolimit.keeps fun b o e => (e0.bs b o e).1
  have kinds : ∀ y ∈ ps.zip us, (defScope st).names.lookup y.1 = some .local ∨ ((defScope st).names.lookup y.1 = some .cell ∧ ((cellsFrom (z.heap.objs.size + 1) (defScope st).names []).lookup y.1).isSome = true) := by
    rintro ⟨n, v⟩ hy
    cases S.par n (List.of_mem_zip hy).1 with
    | inl q => exact .inl q
    | inr q => exact .inr ⟨q, PySem.W.cellsFrom_some _ _ _ (.inl q)⟩
  refine codeAny_call_function hr.depth (inK _ _ lk) rfl S.co S.gen rfl (PySem.W.codeRec_of inK hcd) (hb _ _ _ _ ?_)
  refine wpAny_newFunctionEnv_cells S.kind kinds fun env he z1 entered => ?_
  subst he
  refine ⟨nolim.keeps entered.toInCall.keep, codeAny_func ?_⟩
  obtain ⟨t, ht, q0⟩ := body cv B callers z H vs Q hg (hr.deeper _) hsp
  have J := inv_start (CX := CX0) (E := E0) S hr.hd e0 many r entered
  refine wpAny_mono (ht.nox.run [] z1 (start N vs) H _ J q0) (fun fl z' ends => ?_) fun _ _ e => e
  cases fl with
  | ret u =>
    obtain ⟨v, σ', H', J', rv, q⟩ := ends
    exact ⟨v, H', J'.os, J'.bare, J'.base, J'.hok, rv, q⟩
  | next =>
    obtain ⟨σ', H', J', q⟩ := ends
    exact ⟨V.non, H', J'.os, J'.bare, J'.base, J'.hok, rfl, q⟩
  | brk =>
    obtain ⟨_, _, _, q⟩ := ends
    exact q.elim
  | cont =>
    obtain ⟨_, _, _, q⟩ := ends
    exact q.elim
end
section
variable {X : Cx} {k : Nat} {f : Addr} {fd : FuncData} {ps : List Str} {sp : Sp} {x : Str} {p pos : Pos} {e : Expr} {es : List Expr} {t : TA}
theorem g_run {pins : List (Addr × Obj)} {σ : L2.St} {H : Hp} {z : Shared} {Q : VK} {us : List Value} {vs : List V} (F : GnOk X.prog X.w X.K X.mg X.base k f fd ps sp) (hg : X.A.guards = some []) (hr : Room k X.A) (hb : Binds X.K fd ps [])
    (I : Inv X pins σ H z) (r : Vals vs us) (h : sp vs H Q E0) : wpAny (model X.prog X.w) X.A (call (.ref f) us) (EP X pins σ Q) X.xe z := by
  have hl : (us ++ []).length = ps.length := by
    rw [List.append_nil, ← r.length]
    exact F.many _ _ _ _ h
  have hb' := hb z us I.kIn hl
  rw [List.append_nil] at hb'
  refine wpAny_call (codeAny_mono (F.goes X.A X.stack z H ⟨us, []⟩ us vs Q hg hr I.env0 hb' r h) fun res z' q => ?_)
  match res, q with
  | .ok (.ret u), q => exact I.after q
  | .ok .next, q => exact q.elim
  | .ok .brk, q => exact q.elim
  | .ok .cont, q => exact q.elim
  | .error _, q => exact q.elim
/-- f(e, ..) where no repr is under way -/
theorem pe_gcall (F : GnOk X.prog X.w X.K X.mg X.base k f fd ps sp) (hG : X.A.guards = some []) (hr : Room k X.A) (hg : Gl X x) (hm : X.mg x = some (.ref f)) (hk : PySem.W.keepIn X.K (.ref f) = true) (hb : Binds X.K fd ps [])
    (ha : PA X (e :: es) t) (hdb : (x == ("__debug__" : Str)) = false := by decide) (he : starEach (e :: es) X.env = (false, eval e X.env) :: starEach es X.env := by rfl) (hpl : (backTo pos (starEach es X.env)).any (·.1) = false := by rfl) :
    PE X (.Call (.Name x p) (e :: es) [] pos) (fun σ H Q => t σ H fun vs H1 => sp vs H1 Q E0) := by
  refine ⟨fun pins z σ H Q I h => wpAny_Call_Name_kw (ld_glob I hg hm ?_ hdb)⟩
  refine PySem.W.callWith_K (h₀ := X.base) I.ok.mod.kin hk (thn (ha.run pos pins z σ H _ I h) ?_) he hpl
  rintro us z1 ⟨vs, H1, I1, r, q⟩
  exact ⟨I1.kIn, g_run F hG hr hb I1 r q⟩
end
end LG

set_option Elab.async false
set_option linter.all false
set_option maxRecDepth 100000
namespace LG
open PySem PySem.Spec PyProof.Rows L2
/-- the law's call from the heap behind the top, for a promise of the kind GnOk -/
theorem g_law {P : Program} {w : World} {K : PySem.W.Frag} {mg mb : Str → Option Value} {k : Nat} {fa a : Addr} {fd : FuncData} {x : Str} {sp : Sp} {z : Shared} {vs : List Value} {ns : List Int}
    (inK : K.In z.heap) (gl : z.heap.Ns mainGlobals mg) (bl : z.heap.Ns builtinsNs mb) (boot : ∀ x : Str, x ≠ "__name__" → mb x = bootBuiltins x) (nolim : z.heap.NoLimit) (nogen : z.gens = #[])
    (at_ : z.heap.get? a = some { cls := .type "list", data := .seq vs.toArray }) (isInts : IntsAre vs ns) (fits : ns.length ≤ sizeLine) (hr : Room k callerA)
    (F : ∀ base : Heap, K.In base → base.Ns mainGlobals mg → GnOk P w K mg base k fa fd [x] sp) (binds : ∀ (s : Shared) (u : Value), BindsTo s fd ⟨[u], []⟩ [(x, u)])
    (told : ∀ H : Hp, Only H → SqL K H a (ns.map V.int) → sp [.ref a] H (fun v _ => v = .bl true) E0) :
    codeAny (model P w) callerA (.call (.ref fa) ⟨[.ref a], []⟩) (fun r s' => r = .ok (.ret (.bool true)) ∧ OldK z.heap s'.heap ∧ s'.os = z.os ∧ AllBare s'.gens) z := by
  have vals := vals_ints isInts
  have many := isInts.length
  have go : ∀ H : Hp, Only H → SqL K H a (ns.map V.int) → HOk P w H z.heap → (∀ b, H b ≠ none → b = a) → (H a ≠ none → K.lookup a = none) →
      codeAny (model P w) callerA (.call (.ref fa) ⟨[.ref a], []⟩) (fun r s' => r = .ok (.ret (.bool true)) ∧ OldK z.heap s'.heap ∧ s'.os = z.os ∧ AllBare s'.gens) z := by
    intro H only seq hok just notK
    have dicts : ∀ {b : Addr} {o : Obj} {es : Array DictEntry} {ep : Nat}, z.heap.get? b = some o → o.data = .dict es ep → H b = none := by
      intro b o es ep e d
      cases q : H b with
      | none => rfl
      | some u =>
        have same : b = a := just b (by rw [q]; exact fun t => nomatch t)
        rw [same, at_] at e
        cases e
        exact nomatch (show Data.seq vs.toArray _ = Data.dict es ep from d)
    have nsH : ∀ {b : Addr} {m : Str → Option Value}, z.heap.Ns b m → (hidT z.heap H).Ns b m := by
      rintro b m ⟨o, es, ep, e, d, r⟩
      exact ⟨o, es, ep, hidT_get e (dicts e d), d, r⟩
    have inH : K.In (hidT z.heap H) := by
      intro b o e
      refine hidT_get (inK b o e) ?_
      cases q : H b with
      | none => rfl
      | some u =>
        have same : b = a := just b (by rw [q]; exact fun t => nomatch t)
        have no := notK (by rw [← same, q]; exact fun t => nomatch t)
        rw [same, no] at e
        cases e
    have M : Mod K mg (hidT z.heap H) := ⟨inH, nsH gl, ⟨mb, nsH bl, boot⟩, by
      obtain ⟨mc, n1, n2⟩ := nolim
      exact ⟨mc, nsH n1, n2⟩⟩
    have e0 : Env0 P w K mg (hidT z.heap H) callerA [] z H :=
      ⟨rfl, M, fun b o e => of_hidT e, Nat.le_of_eq (hidT_size _ _), trivial, fun b hb => absurd hb (by simp [frs]), hok, .of_eq nogen⟩
    refine codeAny_mono ((F _ inH (nsH gl)).goes callerA [] z H ⟨[.ref a], []⟩ [.ref a] [.ref a] _ rfl hr e0 (binds z (.ref a)) (.cons rfl .nil) (told H only seq)) fun r s' h => ?_
    match r, h with
    | .error _, h => exact h.elim
    | .ok .next, h => exact h.elim
    | .ok .brk, h => exact h.elim
    | .ok .cont, h => exact h.elim
    | .ok (.ret u), h =>
      obtain ⟨v, H', os, bare, un, hok', r', q⟩ := h
      have q' : v = .bl true := q
      subst q'
      have r2 : u = Value.bool true := r'
      subst r2
      refine ⟨rfl, OldK.of_keep fun b o e => ?_, os, bare⟩
      cases q : H b with
      | none => exact un.keep b o e q (by simp [frs]) (by simp)
      | some u =>
        rcases only b with t | ⟨ob, xs, t⟩
        · rw [q] at t
          cases t
        · obtain ⟨e1, _⟩ := hok b _ t
          obtain ⟨e2, _⟩ := hok' b _ (un.frzs b ob _ t)
          rw [e] at e1
          cases e1
          exact e2
  cases hk : K.lookup a with
  | some o =>
    have e := inK a o hk
    rw [at_] at e
    cases e
    refine go (fun _ => none) (fun _ => .inl rfl) (.inr ⟨_, vs.toArray, _, hk, rfl, rfl, rfl, ?_, ?_⟩) (fun b u t => nomatch (show (none : Option HO) = some u from t)) (fun b t => absurd rfl t) fun t => absurd rfl t
    · rw [List.size_toArray, many]
      exact fits
    · simpa using vals
  | none =>
    refine go (fun b => if b = a then some (.frz { cls := .type "list", data := .seq vs.toArray } (.lst (ns.map V.int))) else none) ?_ (.inl (.inr ⟨_, if_pos rfl⟩)) ?_ ?_ fun _ => hk
    · intro b
      by_cases same : b = a
      · exact .inr ⟨_, _, if_pos same⟩
      · exact .inl (if_neg same)
    · intro b u t
      by_cases same : b = a
      · have t' := (if_pos same).symm.trans t
        cases t'
        rw [same]
        exact ⟨at_, by rw [List.length_map]; exact fits, vs, _, vals, at_⟩
      · exact nomatch (if_neg same).symm.trans t
    · intro b t
      by_cases same : b = a
      · exact same
      · exact absurd (if_neg same) t
theorem g_walk {l : PySem.W.OpenLaw} {k : Nat} {q : Program} {loose : List Str} {XP : (Str → Option Value) → Heap → Prop} {YP : World → Heap → Prop} {d : DefRec} {K : Params → PySem.W.Frag} {sp : PySem.W.Frag → Sp} {x : Str}
    (most : l.most = some 63) (nodef : d.params.defaults = []) (hr : Room k callerA) (inK : ∀ (w : World) (h : Heap), YP w h → (K w.params).In h)
    (F : ∀ (w : World) (mg : Str → Option Value) (fa : Addr) (h : Heap), (K w.params).In h → h.Ns mainGlobals mg → mg d.name = some (.ref fa) →
      ∃ fd : FuncData, (∀ (s : Shared) (u : Value), BindsTo s fd ⟨[u], []⟩ [(x, u)]) ∧ ∀ base : Heap, (K w.params).In base → base.Ns mainGlobals mg → GnOk l.prog w (K w.params) mg base k fa fd [x] (sp (K w.params)))
    (told : ∀ (K : PySem.W.Frag) (H : Hp) (a : Addr) (ns : List Int), ns.length ≤ 63 → Only H → SqL K H a (ns.map V.int) → sp K [.ref a] H (fun v _ => v = .bl true) E0) :
    PySem.W.WalkO q loose XP YP l.row.toRowW d [] (fun f vs => PySem.call f vs) := by
  refine Att.attach_call most nodef fun w s₀ s₁ mg mb fa o pm cd doc a vs ns G Y ho hd hcd hmg hobj hints hlen hg => ?_
  have KX := inK w _ Y
  obtain ⟨fd, hb, hF⟩ := F w mg fa _ KX G.T.g hmg
  exact g_law KX G.T.g G.T.b G.T.builtins G.T.nolimit hg hobj hints (Nat.le_trans hlen (by decide)) hr hF hb fun H only seq => told _ H a ns hlen only seq
end LG

set_option Elab.async false
set_option linter.all false
set_option maxRecDepth 100000
set_option maxHeartbeats 1000000
namespace LG
open PySem PySem.Spec PyProof.Rows L2
/-! ### data that are small: their text fits -/
mutual
def small : Nat → PyData → Bool
  | _, .none => true
  | _, .bool _ => true
  | _, .int i => decide (i.natAbs < 10 ^ 12)
  | _, .str x => decide (x.length ≤ 40) && x.cps.toList.all fun c => decide (c < 16 ^ 8)
  | 0, .list _ => false
  | 0, .tuple _ => false
  | n + 1, .list xs => decide (xs.length ≤ 20) && smalls n xs
  | n + 1, .tuple xs => decide (xs.length ≤ 20) && smalls n xs
  | _, .dict kvs => smallKv kvs && decide (kvs.length ≤ 2)
def smalls : Nat → List PyData → Bool
  | _, [] => true
  | n, d :: ds => small n d && smalls n ds
def smallKv : List (PyData × PyData) → Bool
  | [] => true
  | (k, v) :: r => (match k with | .str x => decide (x.length ≤ 40) && x.cps.toList.all fun c => decide (c < 16 ^ 8) | _ => false) && (match v with | .int i => decide (i.natAbs < 10 ^ 12) | _ => false) && smallKv r
end
def signs : Nat → Nat
  | 0 => 1000
  | n + 1 => 20 * (signs n + 2) + 1000
theorem signs_ge (n : Nat) : 1000 ≤ signs n := by
  cases n with
  | zero => exact Nat.le_refl _
  | succ n => exact Nat.le_add_left _ _
theorem log2_small {i : Int} (h : i.natAbs < 10 ^ 12) : i.natAbs.log2 < 1920 := by
  by_cases z : i.natAbs = 0
  · rw [z]
    decide
  · have h2 := Nat.log2_lt z (k := 1920)
    refine h2.mpr (Nat.lt_trans h ?_)
    decide +kernel
theorem text_small {x : Str} (h : (decide (x.length ≤ 40) && x.cps.toList.all fun c => decide (c < 16 ^ 8)) = true) : (reprText x).length ≤ 410 := by
  rw [Bool.and_eq_true, decide_eq_true_eq, List.all_eq_true] at h
  have h2 := PySem.StrLaws.reprText_len x fun c hc => of_decide_eq_true (h.2 c hc)
  omega
theorem int_small {i : Int} (h : i.natAbs < 10 ^ 12) : (Str.ofString (toString i)).length ≤ 13 := by
  have h1 := int_text_length_le10 (a := i) (k := 12) (by decide) h
  rw [PySem.ofString_length]
  exact h1
theorem join_le {sep : Str} (hs : sep.length = 2) : ∀ {ts : List Str} {m : Nat}, (∀ t ∈ ts, t.length ≤ m) → (Str.join sep ts).length ≤ ts.length * (m + 2)
  | [], _, _ => by
    show (Str.empty).length ≤ _
    exact Nat.zero_le _
  | [x], m, h => by
    have h1 := h x (List.mem_singleton.mpr rfl)
    show x.length ≤ _
    simp only [List.length_cons, List.length_nil]
    omega
  | x :: y :: r, m, h => by
    have h1 := h x List.mem_cons_self
    have ih := join_le hs (ts := y :: r) (m := m) fun t ht => h t (List.mem_cons_of_mem _ ht)
    have e : Str.join sep (x :: y :: r) = x ++ sep ++ Str.join sep (y :: r) := rfl
    rw [e, strLen_append, strLen_append, hs]
    simp only [List.length_cons] at ih ⊢
    have e2 : (r.length + 1 + 1) * (m + 2) = (r.length + 1) * (m + 2) + (m + 2) := Nat.succ_mul _ _
    omega

theorem str_len (x : String) : (Str.ofString x).length = x.length := PySem.ofString_length x
theorem list_le {ts : List Str} {m : Nat} (h : ∀ t ∈ ts, t.length ≤ m) (hl : ts.length ≤ 20) : (listText ts).length ≤ 20 * (m + 2) + 2 := by
  rw [listText_eq_join, strLen_append, strLen_append]
  have h1 := join_le (sep := ", ") (by decide +kernel) h
  have e1 : ("[" : Str).length = 1 := by decide +kernel
  have e2 : ("]" : Str).length = 1 := by decide +kernel
  have h2 := Nat.mul_le_mul_right (m + 2) hl
  omega
theorem tuple_le {ts : List Str} {m : Nat} (h : ∀ t ∈ ts, t.length ≤ m) (hl : ts.length ≤ 20) : (tupleText ts).length ≤ 20 * (m + 2) + 3 := by
  unfold tupleText
  rw [strLen_append, strLen_append]
  have h1 := join_le (sep := ", ") (by decide +kernel) h
  have e1 : ("(" : Str).length = 1 := by decide +kernel
  have e2 : (Str.ofString (if (ts.length == 1) = true then ",)" else ")" : String)).length ≤ 2 := by
    split <;> decide +kernel
  have h2 := Nat.mul_le_mul_right (m + 2) hl
  omega
theorem dict_le {ts : List Str} {m : Nat} (h : ∀ t ∈ ts, t.length ≤ m) (hl : ts.length ≤ 2) : (dictText ts).length ≤ 2 * (m + 2) + 2 := by
  unfold dictText
  rw [strLen_append, strLen_append]
  have h1 := join_le (sep := ", ") (by decide +kernel) h
  have e1 : ("{" : Str).length = 1 := by decide +kernel
  have e2 : ("}" : Str).length = 1 := by decide +kernel
  have h2 := Nat.mul_le_mul_right (m + 2) hl
  omega
theorem shownAll_length : ∀ xs : List PyData, (PyData.shownAll xs).length = xs.length
  | [] => rfl
  | x :: xs => by
    simp only [PyData.shownAll, List.length_cons, shownAll_length xs]
theorem shownKv_length : ∀ xs : List (PyData × PyData), (PyData.shownKv xs).length = xs.length
  | [] => rfl
  | (k, v) :: xs => by
    simp only [PyData.shownKv, List.length_cons, shownKv_length xs]
theorem smallKv_shown : ∀ kvs : List (PyData × PyData), smallKv kvs = true → ∀ t ∈ PyData.shownKv kvs, t.length ≤ 430
  | [], _, t, ht => by
    simp only [PyData.shownKv] at ht
    cases ht
  | (k, v) :: r, h, t, ht => by
    simp only [smallKv, Bool.and_eq_true] at h
    obtain ⟨⟨h1, h2⟩, h3⟩ := h
    simp only [PyData.shownKv, List.mem_cons] at ht
    rcases ht with rfl | ht
    · cases k with
      | str x =>
        cases v with
        | int i =>
          have a1 := text_small (x := x) h1
          have a2 := int_small (i := i) (of_decide_eq_true h2)
          have e : (": " : Str).length = 2 := by decide +kernel
          simp only [PyData.shown]
          rw [strLen_append, strLen_append, e]
          omega
        | _ => cases h2
      | _ => cases h1
    · exact smallKv_shown r h3 t ht
mutual
theorem small_shown : ∀ (n : Nat) (d : PyData), small n d = true → d.shown.length ≤ signs n
  | n, .none, _ => by
    simp only [PyData.shown]
    have := signs_ge n
    have e : ("None" : Str).length = 4 := by decide +kernel
    omega
  | n, .bool b, _ => by
    simp only [PyData.shown]
    have := signs_ge n
    have e1 : (Str.ofString "True").length = 4 := by decide +kernel
    have e2 : (Str.ofString "False").length = 5 := by decide +kernel
    cases b
    · rw [if_neg (by decide)]
      omega
    · rw [if_pos rfl]
      omega
  | n, .int i, h => by
    have := signs_ge n
    have h' := int_small (i := i) (by
      simp only [small] at h
      exact of_decide_eq_true h)
    simp only [PyData.shown]
    omega
  | n, .str x, h => by
    have := signs_ge n
    have h' := text_small (x := x) (by
      simp only [small] at h
      exact h)
    simp only [PyData.shown]
    omega
  | 0, .list xs, h => by
    simp only [small] at h
    cases h
  | 0, .tuple xs, h => by
    simp only [small] at h
    cases h
  | n + 1, .list xs, h => by
    simp only [small, Bool.and_eq_true, decide_eq_true_eq] at h
    have h1 := list_le (small_shownAll n xs h.2) (by rw [shownAll_length]; exact h.1)
    simp only [PyData.shown, signs]
    omega
  | n + 1, .tuple xs, h => by
    simp only [small, Bool.and_eq_true, decide_eq_true_eq] at h
    have h1 := tuple_le (small_shownAll n xs h.2) (by rw [shownAll_length]; exact h.1)
    simp only [PyData.shown, signs]
    omega
  | n, .dict kvs, h => by
    have := signs_ge n
    have h : smallKv kvs = true ∧ kvs.length ≤ 2 := by
      cases n <;> (simp only [small, Bool.and_eq_true, decide_eq_true_eq] at h; exact h)
    have h1 := dict_le (m := 430) (smallKv_shown kvs h.1) (by rw [shownKv_length]; exact h.2)
    simp only [PyData.shown]
    omega
theorem small_shownAll : ∀ (n : Nat) (ds : List PyData), smalls n ds = true → ∀ t ∈ PyData.shownAll ds, t.length ≤ signs n
  | n, [], _, t, ht => by
    simp only [PyData.shownAll] at ht
    cases ht
  | n, d :: ds, h, t, ht => by
    simp only [smalls, Bool.and_eq_true] at h
    simp only [PyData.shownAll, List.mem_cons] at ht
    rcases ht with rfl | ht
    · exact small_shown n d h.1
    · exact small_shownAll n ds h.2 t ht
end
end LG

set_option Elab.async false
set_option linter.all false
set_option maxRecDepth 100000
set_option maxHeartbeats 1000000
namespace LG
open PySem PySem.Spec PyProof.Rows L2
mutual
theorem small_showable : ∀ (n : Nat) (d : PyData), small n d = true → d.showable = true
  | n, .none, _ => by simp only [PyData.showable]
  | n, .bool b, _ => by simp only [PyData.showable]
  | n, .int i, h => by
    simp only [small, decide_eq_true_eq] at h
    simp only [PyData.showable, decide_eq_true_eq]
    exact log2_small h
  | n, .str x, h => by simp only [PyData.showable]
  | 0, .list xs, h => by
    simp only [small] at h
    cases h
  | 0, .tuple xs, h => by
    simp only [small] at h
    cases h
  | n + 1, .list xs, h => by
    simp only [small, Bool.and_eq_true, decide_eq_true_eq] at h
    simp only [PyData.showable]
    exact smalls_showable n xs h.2
  | n + 1, .tuple xs, h => by
    simp only [small, Bool.and_eq_true, decide_eq_true_eq] at h
    simp only [PyData.showable]
    exact smalls_showable n xs h.2
  | n, .dict kvs, h => by
    have h : smallKv kvs = true ∧ kvs.length ≤ 2 := by
      cases n <;> (simp only [small, Bool.and_eq_true, decide_eq_true_eq] at h; exact h)
    simp only [PyData.showable]
    exact smallKv_showable kvs h.1
theorem smalls_showable : ∀ (n : Nat) (ds : List PyData), smalls n ds = true → PyData.showableAll ds = true
  | n, [], _ => by simp only [PyData.showableAll]
  | n, d :: ds, h => by
    simp only [smalls, Bool.and_eq_true] at h
    simp only [PyData.showableAll, small_showable n d h.1, smalls_showable n ds h.2, Bool.and_self]
theorem smallKv_showable : ∀ kvs : List (PyData × PyData), smallKv kvs = true → PyData.showableKv kvs = true
  | [], _ => by simp only [PyData.showableKv]
  | (k, v) :: r, h => by
    simp only [smallKv, Bool.and_eq_true] at h
    obtain ⟨⟨h1, h2⟩, h3⟩ := h
    cases k with
    | str x =>
      cases v with
      | int i =>
        have a2 := log2_small (i := i) (of_decide_eq_true h2)
        simp only [PyData.showableKv, PyData.showable, smallKv_showable r h3, decide_eq_true a2, Bool.and_self]
      | _ => cases h2
    | _ => cases h1
end
mutual
theorem small_depth : ∀ (n : Nat) (d : PyData), small n d = true → d.depth ≤ n + 1
  | n, .none, _ => by simp only [PyData.depth]; omega
  | n, .bool b, _ => by simp only [PyData.depth]; omega
  | n, .int i, h => by simp only [PyData.depth]; omega
  | n, .str x, h => by simp only [PyData.depth]; omega
  | 0, .list xs, h => by
    simp only [small] at h
    cases h
  | 0, .tuple xs, h => by
    simp only [small] at h
    cases h
  | n + 1, .list xs, h => by
    simp only [small, Bool.and_eq_true, decide_eq_true_eq] at h
    simp only [PyData.depth]
    have := smalls_depth n xs h.2
    omega
  | n + 1, .tuple xs, h => by
    simp only [small, Bool.and_eq_true, decide_eq_true_eq] at h
    simp only [PyData.depth]
    have := smalls_depth n xs h.2
    omega
  | n, .dict kvs, h => by
    have h : smallKv kvs = true ∧ kvs.length ≤ 2 := by
      cases n <;> (simp only [small, Bool.and_eq_true, decide_eq_true_eq] at h; exact h)
    simp only [PyData.depth]
    have := smallKv_depth kvs h.1
    omega
theorem smalls_depth : ∀ (n : Nat) (ds : List PyData), smalls n ds = true → PyData.depthAll ds ≤ n + 1
  | n, [], _ => by simp only [PyData.depthAll]; omega
  | n, d :: ds, h => by
    simp only [smalls, Bool.and_eq_true] at h
    simp only [PyData.depthAll]
    have := small_depth n d h.1
    have := smalls_depth n ds h.2
    omega
theorem smallKv_depth : ∀ kvs : List (PyData × PyData), smallKv kvs = true → PyData.depthKv kvs = 0
  | [], _ => by simp only [PyData.depthKv]
  | (k, v) :: r, h => by
    simp only [smallKv, Bool.and_eq_true] at h
    obtain ⟨⟨h1, h2⟩, h3⟩ := h
    cases k with
    | str x =>
      cases v with
      | int i => simp only [PyData.depthKv, PyData.depth, smallKv_depth r h3]; omega
      | _ => cases h2
    | _ => cases h1
end
mutual
theorem noDict {K : PySem.W.Frag} {H : Hp} : ∀ (d : PyData) (v : V), Dp K H v d → d.hasDict = false
  | .none, _, _ => by simp only [PyData.hasDict]
  | .bool _, _, _ => by simp only [PyData.hasDict]
  | .int _, _, _ => by simp only [PyData.hasDict]
  | .str _, _, _ => by simp only [PyData.hasDict]
  | .list ds, _, h => by
    cases h with
    | lst _ ha =>
      simp only [PyData.hasDict]
      exact noDicts ds _ ha
  | .tuple ds, _, h => by
    cases h with
    | tup _ ha =>
      simp only [PyData.hasDict]
      exact noDicts ds _ ha
  | .dict _, _, h => by cases h
theorem noDicts {K : PySem.W.Frag} {H : Hp} : ∀ (ds : List PyData) (vs : List V), DpAll K H vs ds → PyData.hasDictAll ds = false
  | [], _, _ => by simp only [PyData.hasDictAll]
  | d :: ds, _, h => by
    cases h with
    | cons h1 h2 => simp only [PyData.hasDictAll, noDict d _ h1, noDicts ds _ h2, Bool.or_self]
end
theorem same_tup {K : PySem.W.Frag} {H H' : Hp} {a : Addr} {xs : List V} (e : Same H H') (h : SqT K H a xs) : SqT K H' a xs := by
  rcases h with (h | ⟨o, h⟩) | h
  · exact .inl (.inl (e _ _ h))
  · exact .inl (.inr ⟨o, e _ _ h⟩)
  · exact .inr h
mutual
theorem Dp_same {K : PySem.W.Frag} {H H' : Hp} (e : Same H H') : ∀ (d : PyData) (v : V), Dp K H v d → Dp K H' v d
  | .none, _, h => by cases h; exact .non
  | .bool b, _, h => by cases h; exact .bl b
  | .int i, _, h => by cases h; exact .int i
  | .str x, _, h => by cases h; exact .str x
  | .list ds, _, h => by
    cases h with
    | lst hs ha => exact .lst (e.seq hs) (DpAll_same e ds _ ha)
  | .tuple ds, _, h => by
    cases h with
    | tup hs ha => exact .tup (same_tup e hs) (DpAll_same e ds _ ha)
  | .dict _, _, h => by cases h
theorem DpAll_same {K : PySem.W.Frag} {H H' : Hp} (e : Same H H') : ∀ (ds : List PyData) (vs : List V), DpAll K H vs ds → DpAll K H' vs ds
  | [], _, h => by cases h; exact .nil
  | d :: ds, _, h => by
    cases h with
    | cons h1 h2 => exact .cons (Dp_same e d _ h1) (DpAll_same e ds _ h2)
end
/-! ### data, or a dict of flat data -/
def keyD : Key → PyData
  | .inl i => .int i
  | .inr x => .str x
inductive PairsS : List (Key × V) → List (PyData × PyData) → Prop
  | nil : PairsS [] []
  | int {k : Key} {i : Int} {r : List (Key × V)} {D : List (PyData × PyData)} : PairsS r D → PairsS ((k, .int i) :: r) ((keyD k, .int i) :: D)
inductive Dx (K : PySem.W.Frag) (H : Hp) : V → PyData → Prop
  | flat {v : V} {d : PyData} : Dp K H v d → Dx K H v d
  | dct {a : Addr} {kvs : List (Key × V)} {D : List (PyData × PyData)} : H a = some (.dK kvs) → PairsS kvs D → Dx K H (.ref a) (.dict D)
theorem Dx_same {K : PySem.W.Frag} {H H' : Hp} (e : Same H H') {d : PyData} {v : V} (h : Dx K H v d) : Dx K H' v d := by
  cases h with
  | flat h => exact .flat (Dp_same e _ _ h)
  | dct h p => exact .dct (e _ _ h) p
theorem pairs_read {h : Heap} {kvs : List (Key × V)} {D : List (PyData × PyData)} {vs : List (Key × Value)} (p : PairsS kvs D) : KV kvs vs → PyProof.V.PairsRead h keyD vs D [] := by
  induction p generalizing vs with
  | nil =>
    intro r
    cases r
    exact .nil
  | int p ih =>
    intro r
    cases r with
    | @cons _ q _ r' r1 r2 =>
      obtain ⟨k', v'⟩ := q
      obtain ⟨e1, t, e2⟩ := r1
      subst e1
      subst e2
      exact .cons (.int _ _) (ih r2)
section
variable {X : Cx} {pins : List (Addr × Obj)} {σ : L2.St} {H : Hp} {s : Shared}
theorem Dx_reads (I : Inv X pins σ H s) {d : PyData} {v : V} {u : Value} (h : Dx X.K H v d) (r : RelV v u) : ∃ as, Reads s.heap u d as ∧ (d.hasDict = true → sysModules ∉ as) := by
  cases h with
  | flat h =>
    obtain ⟨as, q⟩ := Dp.reads I d v u h r
    exact ⟨as, q, PyData.noDict_hsm (noDict d v h)⟩
  | @dct a kvs D hd p =>
    have e : u = Value.ref a := r
    subst e
    obtain ⟨_, hne, vs, rk, D0⟩ := (show ObjOk X.prog X.w H s.heap a (.dK kvs) from I.hok a _ hd)
    refine ⟨_, PyProof.V.reads_dictOf (enc := keyD) (fun k key hk => ?_) D0 (pairs_read p rk), fun _ hm => ?_⟩
    · rcases keyIs_shape hk with ⟨i, t, rfl, rfl⟩ | ⟨x, t, rfl, rfl⟩
      · exact .int i t
      · exact .str x t
    · have z : sysModules = a := by simpa using hm
      rw [z] at hne
      simp at hne
/-- repr(x), x data that are small -/
def rRepr (K : PySem.W.Frag) : List V → Hp → VK → Prop := fun xs H Q => ∃ (v : V) (d : PyData) (n : Nat), xs = [v] ∧ Dx K H v d ∧ n ≤ 40 ∧ small n d = true ∧ signs n ≤ sizeLine ∧ Q (.str d.shown) H
end
section
variable {X : Cx}
theorem call_repr (hg : X.A.guards = some []) (hu : X.A.units + 64 < cLine) : CallR X (.builtin "repr") (rRepr X.K) := by
  intro pins s σ H xs us Q I r h
  obtain ⟨v, d, n, rfl, hd, hn, hs, hz, q⟩ := h
  obtain ⟨u, rfl, ru⟩ := vals1 r
  have fits := Nat.le_trans (small_shown n d hs) hz
  have deep := small_depth n d hs
  have show_ := small_showable n d hs
  obtain ⟨as, rd, sm⟩ := Dx_reads I hd ru
  cases rd with
  | none => exact PySem.P.repr_of_none ⟨.str _, H, I.tok _, ⟨_, rfl⟩, q⟩
  | bool b => 
    refine PySem.P.repr_of_bool ⟨.str _, H, I.tok _, ⟨_, rfl⟩, ?_⟩
    cases b <;> exact q
  | int i t => exact PySem.P.repr_of_int (of_decide_eq_true (by simpa only [PyData.showable] using show_)) ⟨.str _, H, I.tok _, ⟨_, rfl⟩, q⟩
  | str x t => exact PySem.P.repr_of_str ⟨.str _, H, I.tok _, ⟨_, rfl⟩, q⟩ fits
  | list a1 a2 a3 a4 => exact repr_of_reads' (.list a1 a2 a3 a4) show_ sm hg (by omega) (fun _ _ e => e) (fun h' w tk k => ⟨.str _, H, I.kept (t' := tk) k, ⟨w, rfl⟩, q⟩) fits
  | tuple a1 a2 a3 a4 => exact repr_of_reads' (.tuple a1 a2 a3 a4) show_ sm hg (by omega) (fun _ _ e => e) (fun h' w tk k => ⟨.str _, H, I.kept (t' := tk) k, ⟨w, rfl⟩, q⟩) fits
  | dict a1 a2 a3 a4 a5 => exact repr_of_reads' (.dict a1 a2 a3 a4 a5) show_ sm hg (by omega) (fun _ _ e => e) (fun h' w tk k => ⟨.str _, H, I.kept (t' := tk) k, ⟨w, rfl⟩, q⟩) fits
/-! ### powers -/
theorem op_powB : OpR X (binaryOp .Pow) (rI (fun i j => 0 ≤ j ∧ (Builtin.Int.intBits i : Int) * j ≤ 2 ^ 27) fun i j => .int (i ^ j.toNat)) := opI fun _ _ _ _ _ _ _ hc q => pow_int hc.1 hc.2 q
end
end LG

set_option Elab.async false
set_option linter.all false
set_option maxRecDepth 100000
set_option maxHeartbeats 1000000
namespace LG
open PySem PySem.Spec PyProof.Rows L2
section
variable {prog : Program} {w : World} {A : Around} {E : Value → Shared → Prop} {s : Shared}
theorem applied_back {sl : Addr} {n : Nat} {t : Tok} {Q : Int × Int × Nat → Shared → Prop} (hs : s.heap.IsSliceOf sl .none .none (.int (-1) t)) (h : Q ((n : Int) - 1, -1, n) s) :
    wpAny (model prog w) A (Builtin.Slice.sliceApplied (.ref sl) (pure (n : Int))) Q E s := by
  obtain ⟨os, hos, hcs, hds⟩ := id hs
  unfold Builtin.Slice.sliceApplied Builtin.Slice.sliceFields
  refine wpAny_bind (wpAny_bind (wpAny_field hos hds (x := .none) rfl (wpAny_bind (wpAny_field hos hds (x := .none) rfl (wpAny_bind (wpAny_field hos hds (x := .int (-1) t) rfl (wpAny_pure ?_)))))))
  refine wpAny_bind (slicePart_int ?_)
  show wpAny _ _ (if ((-1 : Int) == 0) = true then _ else _) _ _ s
  rw [if_neg (by decide)]
  refine wpAny_bind (slicePart_none (wpAny_bind (slicePart_none (wpAny_bind (wpAny_pure ?_)))))
  have e1 : Builtin.Slice.sliceAdjust none none (-1) (n : Int) = ((n : Int) - 1, -1) := rfl
  have e2 : Builtin.Slice.slicePlaces ((n : Int) - 1) (-1) (-1) = n := by
    unfold Builtin.Slice.slicePlaces
    rw [if_neg (by decide)]
    by_cases z : (n : Int) - 1 > -1
    · rw [if_pos z]
      have : ((n : Int) - 1 - -1 - 1) / (- -1) + 1 = n := by
        have e3 : (- -1 : Int) = 1 := by decide
        rw [e3, Int.ediv_one]
        omega
      rw [this]
      exact Int.toNat_natCast n
    · rw [if_neg z]
      omega
  show wpAny _ _ (match Builtin.Slice.sliceAdjust none none (-1) (n : Int) with | (lo, hi) => pure (lo, (-1 : Int), Builtin.Slice.slicePlaces lo hi (-1))) _ _ s
  rw [e1]
  show wpAny _ _ (pure ((n : Int) - 1, (-1 : Int), Builtin.Slice.slicePlaces ((n : Int) - 1) (-1) (-1))) _ _ s
  rw [e2]
  exact wpAny_pure h
theorem pick_back (xs : Array Value) : ((List.range xs.size).filterMap fun (k : Nat) => xs[((xs.size : Int) - 1 + (k : Int) * -1).toNat]?).toArray = xs.toList.reverse.toArray := by
  have e : (List.range xs.size).filterMap (fun (k : Nat) => xs[((xs.size : Int) - 1 + (k : Int) * -1).toNat]?) = ((List.range xs.size).map fun k => xs.size - 1 - k).filterMap (xs[·]?) := by
    rw [List.filterMap_map]
    have same : (fun (k : Nat) => xs[((xs.size : Int) - 1 + (k : Int) * -1).toNat]?) = ((xs[·]?) ∘ fun k => xs.size - 1 - k) := by
      funext k
      show _ = xs[xs.size - 1 - k]?
      have : ((xs.size : Int) - 1 + (k : Int) * -1).toNat = xs.size - 1 - k := by omega
      rw [this]
    rw [same]
  rw [e, PySem.W.krv_range, List.filterMap_reverse, PySem.W.krv_all]
theorem item_back {t sl : Addr} {items : Array Value} {tk : Tok} {Q : Value → Shared → Prop} (ht : IsTup s.heap t items) (hs : s.heap.IsSliceOf sl .none .none (.int (-1) tk)) (fits : items.size ≤ sizeLine)
    (h : Q (.ref s.heap.objs.size) { s with heap := s.heap.push { cls := .type "tuple", data := .seq items.toList.reverse.toArray } }) : wpAny (model prog w) A (getItem (.ref t) (.ref sl)) Q E s := by
  have fits2 : sizeOk (.seq items.toList.reverse.toArray) := by
    show items.toList.reverse.toArray.size ≤ sizeLine
    simpa using fits
  obtain ⟨os, hos, hcs, hds⟩ := id hs
  have isSlice : s.TypeIs (.ref sl) "slice" := ⟨os, hos, hcs⟩
  unfold getItem
  try with_reducible refine wpAny_holding ?_
  first | refine wpAny_bind (wpAny_pure ?_) | skip
  refine wpAny_bind (wpAny_sequenceKey ht.typeIs (by decide) ?_)
  refine wpAny_bind (wpAny_callSpecial?_slot (name := Str.ofString "__getitem__") ht.typeIs PyProof.Rows.slot_tuple_getitem
    (wpAny_call_entry PyProof.Rows.slot_tuple_getitem ht.typeIs entry_tuple_getitem ?_ (args_tuple_getitem _ _)))
  show wpAny _ _ (Builtin.Tuple.tupleItemsOf (.ref t) >>= _) _ _ s
  refine wpAny_bind (tupleItemsOf_ ht ?_)
  refine wpAny_bind (wpAny_typeOf isSlice ?_)
  rw [if_pos (by decide)]
  refine wpAny_bind (applied_back hs ?_)
  have no : ¬ ((((items.size : Int) - 1) == 0 && (-1 : Int) == 1 && items.size == items.size) = true) := by
    have : ((-1 : Int) == 1) = false := by decide
    rw [this]
    simp
  show wpAny _ _ (if (((items.size : Int) - 1) == 0 && (-1 : Int) == 1 && items.size == items.size) = true then _ else _) _ _ s
  rw [if_neg no, pick_back items]
  first
    | exact wpAny_bind (m := Builtin.Tuple.tupleExact _) (wpAny_newObj_type (wpAny_pure ⟨_, rfl, wpAny_pure h⟩) fits2)
    | exact wpAny_bind (m := Builtin.Tuple.tupleExact _) (wpAny_newObj_type (wpAny_bind (wpAny_pure (wpAny_pure ⟨_, rfl, wpAny_pure h⟩))) fits2)
    | exact wpAny_bind (wpAny_bind (m := Builtin.Tuple.tupleExact _) (wpAny_newObj_type (wpAny_pure (wpAny_pure ⟨_, rfl, wpAny_pure h⟩)) fits2))
    | exact wpAny_bind (wpAny_bind (m := Builtin.Tuple.tupleExact _) (wpAny_newObj_type (wpAny_pure ⟨_, rfl, wpAny_pure h⟩) fits2))
end
section
variable {X : Cx} {e st : Expr} {te ts : TE} {pos p2 : Pos}
/-- t[::-1], t a tuple -/
def tBack (K : PySem.W.Frag) (te ts : TE) : TE := fun σ H Q => te σ H fun x H1 => ts σ H1 fun k H2 => ∃ a xs, k = .int (-1) ∧ x = .ref a ∧ SqT K H2 a xs ∧ ∀ p, H2 p = none → Q (.ref p) (upd H2 p (.tup xs.reverse))
theorem vals_back {xs : List V} {us : List Value} (r : Vals xs us) : Vals xs.reverse us.reverse := by
  induction r with
  | nil => exact .nil
  | cons a b ih =>
    rw [List.reverse_cons, List.reverse_cons]
    exact Vals.append ih (.cons a .nil)
theorem pe_back (he : PE X e te) (hst : PE X st ts) : PE X (.Subscript e (.Slice none none (some st) p2) pos) (tBack X.K te ts) := by
  refine ⟨fun pins s σ H Q I h => ?_⟩
  refine Subscript_ (thn (he.run pins s σ H _ I h) fun v s1 ⟨x, H1, I1, r1, q1⟩ => ?_)
  refine wpAny_Slice ?_
  rw [evalPart_none]
  refine wpAny_pure (wpAny_pure ?_)
  rw [evalPart_some]
  refine thn (hst.run pins s1 σ H1 _ I1 q1) fun vs s2 ⟨k, H2, I2, r2, a, xs, ek, ex, hx, q⟩ => ?_
  subst ek
  subst ex
  obtain ⟨tk, rfl⟩ := r2
  have ev : v = Value.ref a := r1
  subst ev
  have I3 : Inv X pins σ H2 { s2 with heap := s2.heap.push { cls := .type "slice", data := .fields #[.none, .none, .int (-1) tk] } } := I2.kept (t' := s2.toks) fun b ob q => Heap.get?_push_of_some _ q
  obtain ⟨its, r, ht, hz⟩ := I3.tuple hx
  have fits : its.toArray.size ≤ sizeLine := by
    rw [List.size_toArray, ← r.length]
    exact hz
  refine tail_any (s := { s2 with heap := s2.heap.push { cls := .type "slice", data := .fields #[.none, .none, .int (-1) tk] } }) (ops := [.ref a, .ref s2.heap.objs.size]) ht.typeIs PyProof.Rows.slot_tuple_getitem.lookup ?_ (by with_unfolding_all rfl)
  refine item_back ht (Heap.IsSliceOf.new ..) fits ?_
  refine ⟨.ref _, _, I3.laid (t' := s2.toks) (o := .tup xs.reverse) (fun b ob q => Heap.get?_push_of_some _ q) (Nat.le_refl _) ?_, rfl, q _ (I3.hok.fresh (Nat.le_refl _))⟩
  refine ⟨by rw [List.length_reverse]; exact hz, _, vals_back r, ?_⟩
  have z := IsTup.new (s2.heap.push { cls := .type "slice", data := .fields #[.none, .none, .int (-1) tk] }) its.reverse.toArray
  exact z
end
end LG

set_option Elab.async false
set_option linter.all false
set_option maxRecDepth 100000
set_option maxHeartbeats 1000000
/-! Errors of own classes as values: made by their __init__, their fields, isinstance. -/
namespace LG
open PySem PySem.Spec PyProof.Rows L2
/-- what the written part says of a class of errors -/
structure ErrC (K : PySem.W.Frag) (C : Addr) : Prop where
  ox : OexC K C
  xf : XfC K C
  ca : PySem.W.findIn K (.ref C) "__class__" = some (some (.builtin "object.__class__"))
  mo : PySem.W.mroIn K C (.type "object") = some true
/-- of the descriptor __class__ -/
structure ClsD (K : PySem.W.Frag) : Prop where
  get : PySem.W.specialIn K (.builtin "object.__class__") "__get__" = some (some (.builtin "getset_descriptor.__get__"))
  set : PySem.W.takesIn K (.builtin "object.__class__") = some true
section
open PySem.W PySem.Calls
variable {prog : Program} {w : World} {A : Around} {E : Value → Shared → Prop} {s : Shared} {K : Frag} {x D : Addr} {ox : Obj} {od : Option Obj}
theorem data_found {C : Addr} {name : Str} {a g : Value} (hc : (clsIn K C).isSome = true) (ha : findIn K (.ref C) name = some (some a)) (hg : specialIn K a "__get__" = some (some g)) (ht : takesIn K a = some true) : findObj K C od name = some (.bind g a) := by
  obtain ⟨cd, e⟩ := Option.isSome_iff_exists.mp hc
  unfold findObj
  rw [e, Option.bind_some, ha, Option.bind_some]
  simp [hg, ht]
theorem class_of_err (T : ErrC K D) (U : ClsD K) {Q : Option Value → Shared → Prop} (X : K.In s.heap) (I : PySem.W.InstAt s.heap x ox D od) (h : Q (some (.ref D)) { s with toks := s.toks + 1 }) : wpAny (model prog w) A (getAttr? (.ref x) "__class__") Q E s := by
  have found : findObj K D od "__class__" = some (.bind (.builtin "getset_descriptor.__get__") (.builtin "object.__class__")) := data_found (by obtain ⟨cd, e, _⟩ := any_some T.xf.hdC; rw [e]; rfl) T.ca U.get U.set
  obtain ⟨hp, g, d, t, os⟩ := s
  have l0 := I.type (M := model prog w)
  have l1 := looks_findIn (M := model prog w) X T.xf.ga
  have l2 := looks_findIn (M := model prog w) X T.xf.gg
  have l3 := looks_find (M := model prog w) X I found
  have isB : Looks (model prog w) hp (isInstance (.ref x) (.type "BaseException")) true := l0.andThen (looks_subIn X T.xf.exC)
  have e2 : (Value.builtin "BaseException.__getattribute__" == Value.builtin "object.__getattribute__") = false := by decide +kernel
  have e1 : (onTheHeap (Value.ref D) && Value.builtin "BaseException.__getattribute__" == Value.builtin "object.__getattribute__") = false := by
    rw [e2]
    rfl
  have e0 : (false && onTheHeap (Value.builtin "BaseException.__getattribute__")) = false := rfl
  unfold getAttr? getAttrBy? getAttrBy
  refine wpAny_bind (wpAny_mkText (wpAny_bind (wpAny_attempt (wpAny_holding (wpAny_bind (l0.at (wpAny_bind (l1.at ?_))))))))
  show wpAny _ _ (if (onTheHeap (Value.ref D) && Value.builtin "BaseException.__getattribute__" == Value.builtin "object.__getattribute__") = true then _ else _) _ _ _
  rw [e1, if_neg Bool.false_ne_true]
  unfold getAttrByItsOwn hookBefore
  refine wpAny_bind ?_
  rw [if_pos (show onTheHeap (Value.ref D) = true from rfl)]
  refine l2.at (wpAny_bind (wpAny_attempt (wpAny_holding ?_)))
  unfold callGetattribute
  rw [e0, if_neg Bool.false_ne_true]
  unfold boundAndCalled
  rw [PySem.F.excAttr_ValueError.ga.bind (.ref x)]
  refine wpAny_bind (wpAny_pure ?_)
  show wpAny _ _ (call (.builtin "BaseException.__getattribute__") [.ref x, .str "__class__" t]) _ _ _
  refine wpAny_call (codeAny_call_builtin PySem.F.excAttr_ValueError.ga.plain PySem.F.entry_bexc_ga ?_)
  refine @check_slot (model prog w) _ _ ⟨hp, g, d, t + 1, os⟩ "BaseException.__getattribute__" "BaseException" "__getattribute__" (.ref x) [.str "__class__" t] [] _ (by decide +kernel) (by decide +kernel) isB (PySem.F.args_bexc_ga (.ref x) (.str "__class__" t)) ?_
  unfold Builtin.«object.__getattribute__»
  refine wpAny_bind (wpAny_of_eq (a := ((Value.ref x : Value), [Value.str "__class__" t])) (by first | rfl | (simp only [slotArgs]; rfl)) ?_)
  refine wpAny_bind (wpAny_pure (wpAny_bind (l0.at (wpAny_bind (l3.at ?_)))))
  show wpAny _ _ (holding [Value.builtin "object.__class__"] (call (.builtin "getset_descriptor.__get__") [.builtin "object.__class__", .ref x, .ref D]) >>= ret) _ _ _
  refine wpAny_bind (wpAny_holding (wpAny_call (class_get (s := ⟨hp, g, d, t + 1, os⟩) (ox := ox) (od := od) X I T.mo ?_)))
  refine wpAny_pure ?_
  show wpAny _ _ (handedOut (.ref D)) _ _ _
  rw [handedOut_of (v := .ref D) rfl]
  first
    | exact wpAny_pure (wpAny_pure h)
    | exact wpAny_pure h
    | exact wpAny_pure (wpAny_bind (wpAny_pure (wpAny_pure h)))
theorem kit_err (T : ErrC K D) (U : ClsD K) : KitX K (.ref x) (.ref D) (fun h => PySem.W.InstAt h x ox D od) where
  ty := fun _ _ _ I => I.type
  it := fun _ _ X _ => by
    obtain ⟨cd, e, _⟩ := any_some T.xf.hdC
    unfold clsIn at e
    split at e
    · rename_i c' d' cd' sl' ho
      intro A' Q' E' s' k q
      unfold isType loadHead
      exact wpAny_bind (wpAny_loadPart (k _ _ (X _ _ ho)) (wpAny_pure q))
    · cases e
  ne := (handS_kitx_exc (x := x) (ox := ox) T.xf.ga T.xf.gg T.xf.exC T.xf.hdC T.ca U.get U.set T.mo).ne
  ca := fun X I k => class_of_err T U X I k
end
section
variable {X : Cx} {pins : List (Addr × Obj)} {σ : L2.St} {H : Hp} {s : Shared}
/-- an error at a of the class at C, its dict at d holds fs -/
structure ErrAt (H : Hp) (a C d : Addr) (fs : List (Str × V)) : Prop where
  ob : H a = some (exo a C (some d))
  dc : H d = some (exd d fs)
theorem ErrAt.same {H' : Hp} {a C d : Addr} {fs : List (Str × V)} (e : Same H H') (h : ErrAt H a C d fs) : ErrAt H' a C d fs := ⟨e _ _ h.ob, e _ _ h.dc⟩
theorem err_inst {a C d : Addr} {fs : List (Str × V)} (I : Inv X pins σ H s) (h : ErrAt H a C d fs) : ∃ (ox od : Obj) (mA : Str → Option Value), PySem.W.InstAt s.heap a ox C (some od) ∧ (∀ f, RelO (fs.lookup f) (mA f)) ∧ ∀ f, PySem.W.lookIn f od = some (mA f) := by
  obtain ⟨t1, ho⟩ := exo_at I.hok h.ob
  obtain ⟨mA, hns, rel⟩ := exd_at I.hok h.dc
  obtain ⟨od, hod, hl⟩ := lookIn_ns hns
  exact ⟨_, od, mA, ⟨ho, rfl, rfl, hod⟩, rel, hl⟩
end
section
variable {X : Cx}
/-- isinstance(e, c), e an error of the class at C -/
def rIsErr (K : PySem.W.Frag) : List V → Hp → VK → Prop := fun xs H Q => ∃ (a C d : Addr) (fs : List (Str × V)) (c : V) (u : Value) (b : Bool), xs = [.ref a, c] ∧ ClsV c u ∧ ErrC K C ∧ ErrAt H a C d fs ∧ PySem.W.kitOne K (.ref C) u = some b ∧ Q (.bl b) H
theorem call_isErr (U : ClsD X.K) : CallR X (.builtin "isinstance") (rIsErr X.K) := by
  intro pins s σ H xs us Q I r h
  obtain ⟨a, C, d, fs, c, u, b, rfl, hc, T, at_, e, q⟩ := h
  obtain ⟨u1, u2, rfl, r1, r2⟩ := vals2 r
  have e1 : u1 = Value.ref a := r1
  subst e1
  have e2 := hc.eq r2
  subst e2
  obtain ⟨ox, od, mA, J, _, _⟩ := err_inst I at_
  exact PySem.W.kia_one (kit_err T U) I.kIn J e (fun z => nomatch z) fun tk => ⟨.bl b, H, I.kept (t' := tk) fun _ _ z => z, rfl, q⟩
/-- e.n, e an error -/
def tErrF (K : PySem.W.Frag) (n : Str) (te : TE) : TE := fun σ H Q => te σ H fun x H1 => ∃ (a C d : Addr) (fs : List (Str × V)) (v : V), x = .ref a ∧ ErrC K C ∧ PySem.W.findIn K (.ref C) n = some none ∧ ErrAt H1 a C d fs ∧ fs.lookup n = some v ∧ Q v H1
theorem pe_errf {e : Expr} {te : TE} {pos : Pos} {n : Str} (he : PE X e te) (hb : attributeBase e n X.env (eval e X.env) = eval e X.env := by rfl) : PE X (.Attribute e n pos) (tErrF X.K n te) := by
  refine ⟨fun pins s σ H Q I h => attr_of hb (thn (he.run pins s σ H _ I h) ?_)⟩
  rintro u s1 ⟨x, H1, I1, rx, a, C, d, fs, v, rfl, T, no, at_, l, q⟩
  have eu : u = Value.ref a := rx
  subst eu
  obtain ⟨ox, od, mA, J, rel, hl⟩ := err_inst I1 at_
  obtain ⟨u, hu, ru⟩ := RelO.some_of (v := v) (o := mA n) (by rw [← l]; exact rel n)
  exact HandSPX.exc_get I1.kIn J T.xf.ga T.xf.gg T.xf.exC (PySem.W.findObj_own T.xf.hdC no rfl (by rw [hl, hu])) (handed_of ru) ⟨v, H1, I1.tok _, ru, q⟩
/-- C(e, ..) as a value, C an error class whose __init__ keeps sp -/
def tErrV (K : PySem.W.Frag) (C : Addr) (sp : Sp) (ta : TA) : TE := fun σ H Q => ta σ H fun vs H1 => vs.length ≤ 1000 ∧ ∀ a, H1 a = none → sp (.ref a :: vs) (upd H1 a (exo a C none)) (fun v H2 => v = .non ∧ Q (.ref a) H2) E0
theorem pe_errv {x : Str} {C fI : Addr} {k : Nat} {fd : FuncData} {ps : List Str} {sp : Sp} {e : Expr} {es : List Expr} {ta : TA} {p pos : Pos} (T : OexC X.K C) (iC : PySem.W.findIn X.K (.ref C) "__init__" = some (some (.ref fI))) (tI : PySem.W.typeIn X.K (.ref fI) = some (.type "function"))
    (G : FnOk X.prog X.w X.K X.mg X.base CX0 k fI fd ps sp) (hr : Room (k + 1) X.A) (hb : Binds X.K fd ps []) (hg : Gl X x) (hm : X.mg x = some (.ref C)) (ha : PA X (e :: es) ta)
    (hdb : (x == ("__debug__" : Str)) = false := by decide) (he : starEach (e :: es) X.env = (false, eval e X.env) :: starEach es X.env := by rfl) (hpl : (backTo pos (starEach es X.env)).any (·.1) = false := by rfl) :
    PE X (.Call (.Name x p) (e :: es) [] pos) (tErrV X.K C sp ta) := by
  refine ⟨fun pins s σ H Q I h => wpAny_Call_Name_kw (ld_glob I hg hm ?_ hdb)⟩
  obtain ⟨nm, q, N, bs, bm, sn, sub, ab, col, dd, k0, k1, k2, k3, k5, hC, hbm⟩ := T.cls
  refine PySem.W.callWith_K (h₀ := X.base) I.ok.mod.kin T.kC (thn (ha.run pos pins s σ H _ I h) fun us s1 ⟨vs, H1, I1, r1, hz, q1⟩ => ⟨I1.kIn, ?_⟩) he hpl
  show wpAny _ _ (call (.ref C) us) _ _ _
  obtain ⟨hp, g, dr, tk, os⟩ := s1
  have above : hp.objs.size ≤ hp.objs.size + 1 := Nat.le_succ _
  have free : H1 (hp.objs.size + 1) = none := I1.hok.fresh above
  have hq := q1 (hp.objs.size + 1) free
  have keeps : ∀ b o, hp.get? b = some o → ((hp.push (PySem.W.kdv_tup us)).push (PySem.HandSPX.excO C hp.objs.size)).get? b = some o := fun b o e => Heap.get?_push_of_some _ (Heap.get?_push_of_some _ e)
  have there : ((hp.push (PySem.W.kdv_tup us)).push (PySem.HandSPX.excO C hp.objs.size)).get? (hp.objs.size + 1) = some (PySem.HandSPX.excO C hp.objs.size) := by heap_get
  have I2 : Inv X pins σ (upd H1 (hp.objs.size + 1) (exo (hp.objs.size + 1) C none)) ⟨(hp.push (PySem.W.kdv_tup us)).push (PySem.HandSPX.excO C hp.objs.size), g, dr, tk, os⟩ :=
    I1.laid (t' := tk) (a := hp.objs.size + 1) (o := exo (hp.objs.size + 1) C none) keeps above (exo_ok there)
  have r2 : Vals (V.ref (hp.objs.size + 1) :: vs) (Value.ref (hp.objs.size + 1) :: us) := .cons rfl r1
  have hl : ((Value.ref (hp.objs.size + 1) :: us) ++ []).length = ps.length := by
    rw [List.append_nil, ← r2.length]
    exact G.len _ _ _ _ hq
  have fits : us.length ≤ sizeLine := by
    rw [← r1.length, sizeLine_eq]
    omega
  have bd := hb _ (Value.ref (hp.objs.size + 1) :: us) I2.kIn hl
  rw [List.append_nil] at bd
  refine wpAny_call (PySem.HandSPX.call_own F.excBase_ValueError (fun Y => PySem.HandSPX.refsVE_contains Y bm hbm) (I1.kIn _ _ hC) (PySem.W.looks_findIn I1.kIn iC) (fun self => PySem.W.bind_fn I1.kIn self tI) fits
    (codeAny_mono (G.run _ X.stack _ _ ⟨Value.ref (hp.objs.size + 1) :: us, []⟩ (Value.ref (hp.objs.size + 1) :: us) _ _ E0 (hr.make C us []) (I2.env0.make C us []) bd r2 hq) fun r s' hq' => ?_))
  match r, hq' with
  | .error _, hq' => exact hq'.elim
  | .ok .next, hq' => exact hq'.elim
  | .ok .brk, hq' => exact hq'.elim
  | .ok .cont, hq' => exact hq'.elim
  | .ok (.ret u), hq' =>
    obtain ⟨v, H', I3, rv, ev, q3⟩ := I2.after hq'
    subst ev
    exact ⟨rv, ⟨V.ref (hp.objs.size + 1), H', I3, rfl, q3⟩⟩
end
end LG

set_option Elab.async false
set_option linter.all false
set_option maxRecDepth 100000
set_option maxHeartbeats 1000000
/-! The facts of classes of errors, by one look at the written part. -/
namespace LG
open PySem PySem.Spec PyProof.Rows L2
open PySem.HandSPX (veTail refsVE)
/-- the class at C stands there with the bases bm behind it -/
def clsB (K : PySem.W.Frag) (C : Addr) (bm : List Value) : Bool := match K.lookup C with
  | some ⟨.type "type", _, .cls cd, sl⟩ => (match cd.mro, sl.toList with
    | .ref D :: r, [_, _, _, _, some (.builtin n), _] => D == C && (n == "ValueError.__new__" && (!cd.hasDel && (cd.hasDict && decide (r = bm))))
    | _, _ => false)
  | _ => false
theorem clsB_ok {K : PySem.W.Frag} {C : Addr} {bm : List Value} (q : clsB K C bm = true) : ∃ nm qn N bs sn sub ab col dd k0 k1 k2 k3 k5, K.lookup C = some (excClassObj nm qn C N bs bm true sn sub ab col dd k0 k1 k2 k3 k5 "ValueError.__new__") := by
  unfold clsB at q
  split at q
  · rename_i dd cd sl ho
    split at q
    · rename_i D r k0 k1 k2 k3 n k5 hm hs
      simp only [Bool.and_eq_true, beq_iff_eq, Bool.not_eq_true', decide_eq_true_eq] at q
      obtain ⟨rfl, rfl, hdel, hdict, rfl⟩ := q
      obtain ⟨nm, bs, mro, ns, qn, hd, sn, sub, ab, col, del⟩ := cd
      dsimp only at hm hdel hdict
      subst hm hdel hdict
      obtain ⟨l⟩ := sl
      simp only at hs
      subst hs
      exact ⟨nm, qn, ns, bs, sn, sub, ab, col, dd, k0, k1, k2, k3, k5, ho⟩
    · cases q
  · cases q
def errB (K : PySem.W.Frag) (C : Addr) (bm : List Value) : Bool :=
  clsB K C bm && (refsVE bm && (decide (PySem.W.findIn K (.ref C) "__setattr__" = some (some (.builtin "object.__setattr__"))) && (decide (PySem.W.subIn K (.ref C) (.type "BaseException") = some true) &&
  (decide (PySem.W.typeIn K (.ref C) = some (.type "type")) && (PySem.W.keepIn K (.ref C) && (xfB K C && (decide (PySem.W.findIn K (.ref C) "__class__" = some (some (.builtin "object.__class__"))) && decide (PySem.W.mroIn K C (.type "object") = some true))))))))
theorem errB_ok {K : PySem.W.Frag} {C : Addr} {bm : List Value} (q : errB K C bm = true) : ErrC K C := by
  unfold errB at q
  simp only [Bool.and_eq_true, decide_eq_true_eq] at q
  obtain ⟨q1, q2, q3, q4, q5, q6, q7, q8, q9⟩ := q
  obtain ⟨nm, qn, N, bs, sn, sub, ab, col, dd, k0, k1, k2, k3, k5, ho⟩ := clsB_ok q1
  exact ⟨⟨⟨nm, qn, N, bs, bm, sn, sub, ab, col, dd, k0, k1, k2, k3, k5, ho, q2⟩, q3, q4, q5, q6⟩, xfB_ok q7, q8, q9⟩
theorem clsB_in {K : PySem.W.Frag} {C : Addr} {bm : List Value} (q : clsB K C bm = true) : ∃ cd, PySem.W.clsIn K C = some cd ∧ cd.mro = .ref C :: bm := by
  obtain ⟨nm, qn, N, bs, sn, sub, ab, col, dd, k0, k1, k2, k3, k5, ho⟩ := clsB_ok q
  unfold PySem.W.clsIn
  rw [ho]
  exact ⟨_, rfl, rfl⟩
/-- isinstance by the classes' bases -/
theorem kit_refs {K : PySem.W.Frag} {C D : Addr} {bm bmD : List Value} (q : errB K C bm = true) (qD : errB K D bmD = true) : PySem.W.kitOne K (.ref C) (.ref D) = some (decide (C = D) || bm.contains (.ref D)) := by
  have q1 : clsB K C bm = true := by
    unfold errB at q
    exact (Bool.and_eq_true_iff.mp q).1
  have q2 : clsB K D bmD = true := by
    unfold errB at qD
    exact (Bool.and_eq_true_iff.mp qD).1
  obtain ⟨cd, e1, m1⟩ := clsB_in q1
  obtain ⟨dd, e2, m2⟩ := clsB_in q2
  unfold PySem.W.kitOne
  by_cases same : C = D
  · subst same
    simp
  · have ne : ¬ ((Value.ref C == Value.ref D) = true) := by
      intro z
      exact same (Value.ref.inj (beq_iff_eq.mp z))
    rw [if_neg ne]
    have ty : PySem.W.typeIn K (.ref D) = some (.type "type") := (errB_ok qD).ox.tyC
    show (if ((PySem.W.clsIn K D).isSome && PySem.W.typeIn K (.ref D) == some (.type "type")) = true then PySem.W.subIn K (.ref C) (.ref D) else none) = _
    rw [e2, ty, if_pos (by simp)]
    show PySem.W.mroIn K C (.ref D) = _
    unfold PySem.W.mroIn
    rw [e1, Option.bind_some, m1, if_neg (by simp)]
    simp [same, List.contains_cons, Ne.symm same]
theorem kit_type {K : PySem.W.Frag} {C : Addr} {bm : List Value} {T : String} (q : errB K C bm = true) (hT : PySem.W.kitMeta T = true) : PySem.W.kitOne K (.ref C) (.type T) = some (bm.contains (.type T)) := by
  have q1 : clsB K C bm = true := by
    unfold errB at q
    exact (Bool.and_eq_true_iff.mp q).1
  obtain ⟨cd, e1, m1⟩ := clsB_in q1
  unfold PySem.W.kitOne
  rw [if_neg (by simp)]
  show (if PySem.W.kitMeta T = true then PySem.W.subIn K (.ref C) (.type T) else none) = _
  rw [if_pos hT]
  show PySem.W.mroIn K C (.type T) = _
  unfold PySem.W.mroIn
  rw [e1, Option.bind_some, m1, if_neg (by simp)]
  simp [List.contains_cons]
end LG

set_option Elab.async false
set_option linter.all false
set_option maxRecDepth 100000
set_option maxHeartbeats 2000000
/-! The law's own small defs: the pot, what is taken out of it, one of a list, the cells. -/
namespace K00
open PySem L2 LG
def top (i : Nat) : Stmt := PySem.Challenge.pw_toldboxes_k00_errors.main.body.getD i (.Pass ⟨0, 0, 0, 0⟩)
abbrev sInit : Stmt := inClass (top 1) 0
abbrev sPot : Stmt := top 37
abbrev sTake : Stmt := top 38
abbrev sOf : Stmt := top 39
abbrev sCells : Stmt := top 40
abbrev sOdd : Stmt := top 41
abbrev sBent : Stmt := top 42
abbrev sErrors : Stmt := top 43
abbrev sMarks : Stmt := top 44
abbrev sRight : Stmt := top 45
abbrev sLaw : Stmt := top 46
/-- the built-in names that the defs use -/
structure Names (mg : Str → Option Value) : Prop where
  len : mg "len" = none
  sum : mg "sum" = none
  int : mg "int" = none
  abs : mg "abs" = none
  list : mg "list" = none
  range : mg "range" = none
  max : mg "max" = none
  min : mg "min" = none
  isinstance : mg "isinstance" = none
  tuple : mg "tuple" = none
  bool : mg "bool" = none
  str : mg "str" = none
  enumerate : mg "enumerate" = none
  repr : mg "repr" = none
  all : mg "all" = none
  ve : mg "ValueError" = none
/-- a pot: own number, seed, how often it was asked (at most b times) -/
def PotAt (H : Hp) (p : Addr) (b : Nat) : Prop := ∃ own sm n : Int, H p = some (.lst [.int own, .int sm, .int n]) ∧ 0 ≤ own ∧ 0 ≤ sm ∧ sm < 2305843009213693951 ∧ 0 ≤ n ∧ n ≤ b
theorem PotAt.same {H H' : Hp} {p : Addr} {b : Nat} (e : Same H H') (h : PotAt H p b) : PotAt H' p b := by
  obtain ⟨own, sm, n, h1, h2⟩ := h
  exact ⟨own, sm, n, e _ _ h1, h2⟩
theorem PotAt.mono {H : Hp} {p : Addr} {b c : Nat} (h : PotAt H p b) (l : b ≤ c) : PotAt H p c := by
  obtain ⟨own, sm, n, h1, h2, h3, h4, h5, h6⟩ := h
  exact ⟨own, sm, n, h1, h2, h3, h4, h5, by omega⟩
/-- all but what stands at p is as it was -/
def But (p : Addr) (H H' : Hp) : Prop := ∀ c o, H c = some o → c ≠ p → H' c = some o
theorem But.trans {p : Addr} {H H1 H2 : Hp} (a : But p H H1) (b : But p H1 H2) : But p H H2 := fun c o h n => b c o (a c o h n) n
theorem But.of {p : Addr} {H H' : Hp} (a : Same H H') : But p H H' := fun c o h _ => a c o h
theorem same_new {H : Hp} {p : Addr} (h : H p = none) (o : HO) : Same H (upd H p o) := fun b u q => by rw [upd_ne (ne_of_none q h)]; exact q
theorem bits60 : (Builtin.Int.intBits ((10 : Int) ^ (60 : Int).toNat) : Int) * 5 ≤ 2 ^ 27 := by decide +kernel
def spPot (K : PySem.W.Frag) : Sp := fun vs H Q _ => ∃ (a : Addr) (ns : List Int) (j : Int), vs = [.ref a, .int j] ∧ SqL K H a (ns.map V.int) ∧ ns.length ≤ 63 ∧ 0 ≤ j ∧ j ≤ 1000 ∧
  ∀ (p : Addr) (H' : Hp), Same H H' → H p = none → PotAt H' p 0 → Q (.ref p) H'
section
variable {P : Program} {w : World} {K : PySem.W.Frag} {mg : Str → Option Value} {base : Heap}
theorem scPot : FnScope ["_law_script", "_law_place", "_law_cell", "_law_own", "_law_small"] ["_law_script", "_law_place"] (defScope sPot) := ⟨rfl, rfl, rfl, by decide +kernel, rfl, by decide +kernel, by decide +kernel⟩
theorem item_there {ns : List Int} {j : Int} (h0 : 0 ≤ j) (h : j < (ns.length : Int)) : ∃ v : Int, atI (ns.map V.int) j = some (.int v) := by
  have hk : j.toNat < ns.length := by omega
  have q : atI (ns.map V.int) ((j.toNat : Nat) : Int) = some (.int ns[j.toNat]) := atI_nat (by rw [List.getElem?_map, List.getElem?_eq_getElem hk] <;> rfl)
  have e : ((j.toNat : Nat) : Int) = j := by omega
  rw [e] at q
  exact ⟨_, q⟩
theorem cut_ints (ns : List Int) (lo hi : Option Int) : ∃ ms : List Int, cutV (ns.map V.int) lo hi = ms.map V.int := by
  unfold cutV
  rw [← List.map_drop, ← List.map_take]
  exact ⟨_, rfl⟩
/-- the three rows behind the first one -/
abbrev rInt1 : List V → Hp → VK → Prop := fun xs H Q => (∃ i, xs = [.int i] ∧ Q (.int i) H) ∨ ∃ k, xs = [.bl k] ∧ Q (.int (if k then 1 else 0)) H
abbrev rAbs : List V → Hp → VK → Prop := fun xs H Q => ∃ i, xs = [.int i] ∧ Q (.int (if i < 0 then -i else i)) H
def tPotRest : TS :=
  tSeq (tAsg (tOp (rI CMul fun i j => .int (i * j)) (tOp (rI (fun _ j => 0 < j) fun i j => .int (i % j)) (tCB rInt1 (tCons (tCB rAbs (tCons (tVar 2) tNil)) tNil))
      (tOp (rI (fun i j => 0 ≤ j ∧ (Builtin.Int.intBits i : Int) * j ≤ 2 ^ 27) fun i j => .int (i ^ j.toNat)) (tOp (rI CPow fun i j => .int (i ^ j.toNat)) (tC (.int 10)) (tC (.int 60))) (tC (.int 5))))
      (tCB rInt1 (tCons (tOp (rI0 fun i j => .bl (decide (i ≥ j))) (tCB rAbs (tCons (tVar 2) tNil)) (tOp (rI CPow fun i j => .int (i ^ j.toNat)) (tC (.int 10)) (tC (.int 18)))) tNil))) (gName 3))
  (tSeq (tAsg (tOp (rI (fun _ j => 0 < j) fun i j => .int (i % j)) (tCB rInt1 (tCons (tVar 2) tNil)) (tC (.int 2305843009213693951))) (gName 4))
  (tRet (tLst (tCons (tVar 3) (tCons (tOp (rI (fun _ j => 0 < j) fun i j => .int (i % j)) (tCB rInt1 (tCons (tOp (rI0 fun i j => .int (i + j)) (tOp (rI0 fun i j => .int (i + j)) (tOp (rI CMul fun i j => .int (i * j)) (tVar 4) (tC (.int 71003)))
      (tOp (rI CMul fun i j => .int (i * j)) (tOp (rI CMul fun i j => .int (i * j)) (tC (.int 6011)) (tVar 1)) (tVar 1))) (tC (.int 211))) tNil)) (tC (.int 2305843009213693921))) (tCons (tC (.int 0)) tNil))))))
theorem pot_rest {a : Addr} {j : Int} {H : Hp} {Q : VK} (z : Int) (H1 : Hp) (s1 : Same H H1) (f1 : ∀ p, H1 p = none → H p = none) (h0 : 0 ≤ j) (h1 : j ≤ 1000)
    (q : ∀ (p : Addr) (H' : Hp), Same H H' → H p = none → PotAt H' p 0 → Q (.ref p) H') : tPotRest { nx := fun _ H' => Q .non H', rt := Q } [some (.ref a), some (.int j), some (.int z), none, none] H1 := by
  have dec0 : (0 : Int) < (10 ^ (60 : Int).toNat) ^ (5 : Int).toNat := by decide +kernel
  refine ⟨_, rfl, _, rfl, .inl ⟨_, rfl, _, _, rfl, rfl, ⟨by decide, by decide, by decide⟩, _, _, rfl, rfl, ⟨by decide, bits60⟩, _, _, rfl, rfl, dec0, _, rfl, _, rfl, _, _, rfl, rfl, ⟨by decide, by decide, by decide⟩, _, _, rfl, rfl, .inr ⟨_, rfl, ?_⟩⟩⟩
  generalize hv : (if z < 0 then -z else z) % (10 ^ (60 : Int).toNat) ^ (5 : Int).toNat = own
  have own0 : 0 ≤ own := by rw [← hv]; exact Int.emod_nonneg _ (by omega)
  generalize hk : decide ((if z < 0 then -z else z) ≥ 10 ^ (18 : Int).toNat) = k
  clear hk
  have k01 : (if k = true then (1 : Int) else 0) = 0 ∨ (if k = true then (1 : Int) else 0) = 1 := by cases k <;> simp
  generalize (if k = true then (1 : Int) else 0) = kk at k01 ⊢
  have own1 : 0 ≤ own * kk := by
    rcases k01 with e | e
    · rw [e]; omega
    · rw [e]; omega
  refine ⟨_, _, rfl, rfl, .inr ⟨by omega, by omega⟩, ?_⟩
  refine ⟨_, rfl, .inl ⟨_, rfl, _, _, rfl, rfl, (by show (0 : Int) < 2305843009213693951; decide), ?_⟩⟩
  refine ⟨_, rfl, _, rfl, _, _, rfl, rfl, .inr ⟨by decide, by decide⟩, _, rfl, _, _, rfl, rfl, .inl ⟨by decide, by decide⟩, _, rfl, _, _, rfl, rfl, .inr ⟨by omega, by omega⟩, _, _, rfl, rfl, _, _, rfl, rfl, .inl ⟨_, rfl, _, _, rfl, rfl, (by show (0 : Int) < 2305843009213693921; decide), (by show 3 ≤ sizeLine; decide), fun p np => ?_⟩⟩
  refine q p _ (s1.trans (same_new np _)) (f1 p np) ⟨_, _, _, upd_same, (by rw [hv]; exact own1), ?_, ?_, by decide, by decide⟩
  · exact Int.emod_nonneg _ (by decide)
  · exact Int.lt_trans (Int.emod_lt_of_pos _ (by decide)) (by decide)
theorem ok_pot {f : Addr} {fd : FuncData} (F : Fun K "_law_pot" "_law_pot" sPot f fd) (T : Names mg) : FnOk P w K mg base CX0 1 f fd ["_law_script", "_law_place"] (spPot K) := by
  refine F.ok scPot (fun vs H Q E h => ?_) (fun cdv A outer s H vs Q E hr h => ?_)
  · obtain ⟨a, ns, j, rfl, _⟩ := h
    rfl
  obtain ⟨a, ns, j, rfl, hS, h63, h0, h1, q⟩ := h
  refine ⟨_, pss_cons (ps_set (i := 2) scPot.nd rfl (Or.inl rfl) (pe_ifExp (pt_cmpR op_lt (pv 1) (pe_callB call_len_seq rfl T.len PySem.boot_len (pa_cons (pv 0) pa_nil)) (nomark _)) (pe_ix ix_list (pv 0) (pv 1) (fun _ _ => rfl))
      (pe_op op_add (pe_op op_add (pe_op op_mod (pe_callB (cr_sum rfl) rfl T.sum (by decide +kernel) (pa_cons (pe_slice sl_list (pv 0) po_none (po_some pe_int)) pa_nil)) pe_int) (pe_op op_mul pe_int (pv 1))) pe_int)))
    (pss_cons (ps_set (i := 3) scPot.nd rfl (Or.inl rfl) (pe_op op_mul (pe_op op_mod (pe_callTy call_int1 rfl T.int (by decide +kernel) (pa_cons (pe_callB call_abs rfl T.abs (by decide +kernel) (pa_cons (pv 2) pa_nil)) pa_nil)) (pe_op op_powB (pe_op op_pow pe_int pe_int) pe_int))
      (pe_callTy call_int1 rfl T.int (by decide +kernel) (pa_cons (pe_cmpR op_ge (pe_callB call_abs rfl T.abs (by decide +kernel) (pa_cons (pv 2) pa_nil)) (pe_op op_pow pe_int pe_int) (nomark _)) pa_nil))))
    (pss_cons (ps_set (i := 4) scPot.nd rfl (Or.inl rfl) (pe_op op_mod (pe_callTy call_int1 rfl T.int (by decide +kernel) (pa_cons (pv 2) pa_nil)) pe_int))
    (pss_one (ps_ret (pe_lst (pa_cons (pv 3) (pa_cons (pe_op op_mod (pe_callTy call_int1 rfl T.int (by decide +kernel) (pa_cons (pe_op op_add (pe_op op_add (pe_op op_mul (pv 4) pe_int) (pe_op op_mul (pe_op op_mul pe_int (pv 1)) (pv 1))) pe_int) pa_nil)) pe_int) (pa_cons pe_int pa_nil)))))))), ?_⟩
  refine ⟨_, rfl, _, rfl, a, _, rfl, .inl hS, _, _, rfl, rfl, _, rfl, ?_⟩
  have dec0 : (0 : Int) < (10 ^ (60 : Int).toNat) ^ (5 : Int).toNat := by decide +kernel
  refine ite2 (fun c => ?_) (fun c => ?_)
  · have c' : j < (((ns.map V.int).length : Nat) : Int) := of_decide_eq_true c
    rw [List.length_map] at c'
    obtain ⟨z, hz⟩ := item_there h0 c'
    have H0 : Same H H := Same.refl H
    have free : ∀ p, H p = none → H p = none := fun _ e => e
    refine ⟨_, rfl, _, rfl, a, _, _, _, rfl, rfl, hS, hz, ?_⟩
    exact pot_rest z H H0 free h0 h1 q
  · obtain ⟨ms, em⟩ := cut_ints ns none (some 1)
    refine ⟨_, rfl, 1, rfl, a, _, rfl, hS, fun t nt => ?_⟩
    refine ⟨t, ms, rfl, SqL.of (by rw [upd_same, em]), _, _, rfl, rfl, (by show (0 : Int) < 1000003; decide), _, rfl, _, _, rfl, rfl, .inl ⟨by decide, by decide⟩, _, _, rfl, rfl, _, _, rfl, rfl, ?_⟩
    exact pot_rest _ _ (same_new nt _) (fun p e => (same_new nt _).free e) h0 h1 q
/-! ### one digit out of the pot -/
def spTake : Sp := fun vs H Q _ => ∃ (p : Addr) (u : Int) (b : Nat), vs = [.ref p, .int u] ∧ PotAt H p b ∧ b ≤ 100000 ∧ 1 ≤ u ∧ u < 1073741824 ∧
  ∀ (k : Int) (H' : Hp), 0 ≤ k → k < u → But p H H' → PotAt H' p (b + 1) → Q (.int k) H'
theorem scTake : FnScope ["_law_pot_here", "_law_upto", "_law_digit", "_law_prime", "_law_blend"] ["_law_pot_here", "_law_upto"] (defScope sTake) := ⟨rfl, rfl, rfl, by decide +kernel, rfl, by decide +kernel, by decide +kernel⟩
theorem prime_at {r : Int} (h0 : 0 ≤ r) (h : r < 5) : ∃ v : Int, atI ([.int 2147483647, .int 2147483629, .int 2147483587, .int 2147483579, .int 2147483563] : List V) r = some (.int v) ∧ 1 ≤ v ∧ v ≤ 2147483647 := by
  have e : r = 0 ∨ r = 1 ∨ r = 2 ∨ r = 3 ∨ r = 4 := by omega
  rcases e with rfl | rfl | rfl | rfl | rfl
  · exact ⟨_, rfl, by decide, by decide⟩
  · exact ⟨_, rfl, by decide, by decide⟩
  · exact ⟨_, rfl, by decide, by decide⟩
  · exact ⟨_, rfl, by decide, by decide⟩
  · exact ⟨_, rfl, by decide, by decide⟩
theorem sq_bound {n : Int} (h0 : 0 ≤ n) (h : n ≤ 200000) : 0 ≤ 93001 * n * n ∧ 93001 * n * n ≤ 3720040000000000 := by
  have h1 : 0 ≤ 93001 * n := by omega
  have h2 : 93001 * n ≤ 18600200000 := by omega
  have h3 := Int.mul_le_mul h2 h h0 (by decide)
  exact ⟨Int.mul_nonneg h1 h0, h3⟩
theorem ok_take {f : Addr} {fd : FuncData} (F : Fun K "_law_take" "_law_take" sTake f fd) (T : Names mg) : FnOk P w K mg base CX0 1 f fd ["_law_pot_here", "_law_upto"] spTake := by
  refine F.ok scTake (fun vs H Q E h => ?_) (fun cdv A outer s H vs Q E hr h => ?_)
  · obtain ⟨p, u, b, rfl, _⟩ := h
    rfl
  obtain ⟨p, u, b, rfl, ⟨own, sm, n, hp, hown, hs0, hs1, hn0, hn1⟩, hb, hu1, hu2, q⟩ := h
  refine ⟨_, pss_cons (ps_if (pt_cmpR op_gt (pe_ix ix_list (pv 0) pe_int (fun _ _ => rfl)) pe_int (nomark _))
      (pss_cons (ps_set (i := 2) scTake.nd rfl (Or.inl rfl) (pe_op op_mod (pe_callTy call_int1 rfl T.int (by decide +kernel) (pa_cons (pe_ix ix_list (pv 0) pe_int (fun _ _ => rfl)) pa_nil)) (pv 1)))
      (pss_cons (ps_asg (pe_op op_fdiv (pe_ix ix_list (pv 0) pe_int (fun _ _ => rfl)) (pv 1)) (pg_sub (pv 0) pe_int set_list))
      (pss_one (ps_ret (pv 2))))) pss_nil)
    (pss_cons (ps_asg (pe_op op_add (pe_ix ix_list (pv 0) pe_int (fun _ _ => rfl)) pe_int) (pg_sub (pv 0) pe_int set_list))
    (pss_cons (ps_set (i := 3) scTake.nd rfl (Or.inl rfl) (pe_ix ix_list (pe_lst (pa_cons pe_int (pa_cons pe_int (pa_cons pe_int (pa_cons pe_int (pa_cons pe_int pa_nil)))))) (pe_op op_mod (pe_callTy call_int1 rfl T.int (by decide +kernel) (pa_cons (pe_ix ix_list (pv 0) pe_int (fun _ _ => rfl)) pa_nil)) pe_int) (fun _ _ => rfl)))
    (pss_cons (ps_set (i := 4) scTake.nd rfl (Or.inl rfl) (pe_op op_mod (pe_callTy call_int1 rfl T.int (by decide +kernel) (pa_cons (pe_op op_pow (pe_callTy call_int1 rfl T.int (by decide +kernel) (pa_cons (pe_op op_add (pe_op op_add (pe_ix ix_list (pv 0) pe_int (fun _ _ => rfl)) (pe_op op_mul (pe_op op_mul pe_int (pe_ix ix_list (pv 0) pe_int (fun _ _ => rfl))) (pe_ix ix_list (pv 0) pe_int (fun _ _ => rfl)))) pe_int) pa_nil)) pe_int) pa_nil)) (pv 3)))
    (pss_one (ps_ret (pe_op op_mod (pe_callTy call_int1 rfl T.int (by decide +kernel) (pa_cons (pe_op op_fdiv (pe_op op_mul (pv 4) (pe_op op_add (pe_op op_mod (pe_callTy call_int1 rfl T.int (by decide +kernel) (pa_cons (pv 4) pa_nil)) pe_int) (pe_op op_mul pe_int (pe_ix ix_list (pv 0) pe_int (fun _ _ => rfl))))) pe_int) pa_nil)) (pv 1))))))), ?_⟩
  refine ⟨_, rfl, p, _, _, _, rfl, rfl, SqL.of hp, rfl, _, _, rfl, rfl, _, rfl, ?_⟩
  refine ite2 (fun c => ?_) (fun c => ?_)
  · refine ⟨_, rfl, p, _, _, _, rfl, rfl, SqL.of hp, rfl, .inl ⟨_, rfl, _, rfl, _, _, rfl, rfl, (by show 0 < u; omega), ?_⟩⟩
    refine ⟨_, rfl, p, _, _, _, rfl, rfl, SqL.of hp, rfl, _, rfl, _, _, rfl, rfl, ⟨by omega, by omega⟩, _, rfl, p, _, _, 0, rfl, rfl, hp, rfl, _, rfl, ?_⟩
    refine q _ _ (Int.emod_nonneg _ (by omega)) (Int.emod_lt_of_pos _ (by omega)) (fun c o e ne => by rw [upd_ne ne]; exact e) ⟨_, _, _, upd_same, ?_, hs0, hs1, hn0, by omega⟩
    exact Int.ediv_nonneg hown (by omega)
  · refine ⟨_, rfl, p, _, _, _, rfl, rfl, SqL.of hp, rfl, _, _, rfl, rfl, _, rfl, p, _, _, 2, rfl, rfl, hp, rfl, ?_⟩
    have hp1 : (upd H p (.lst [.int own, .int sm, .int (n + 1)])) p = some (.lst [.int own, .int sm, .int (n + 1)]) := upd_same
    have but1 : But p H (upd H p (.lst [.int own, .int sm, .int (n + 1)])) := fun c o e ne => by rw [upd_ne ne]; exact e
    show tSeq _ _ _ _ (upd H p (.lst [.int own, .int sm, .int (n + 1)]))
    generalize upd H p (.lst [.int own, .int sm, .int (n + 1)]) = H1 at hp1 but1 ⊢
    refine ⟨(by show 5 ≤ sizeLine; decide), fun t nt => ?_⟩
    have s2 : Same H1 (upd H1 t (.lst [.int 2147483647, .int 2147483629, .int 2147483587, .int 2147483579, .int 2147483563])) := same_new nt _
    have ht : (upd H1 t (.lst [.int 2147483647, .int 2147483629, .int 2147483587, .int 2147483579, .int 2147483563])) t = some (.lst [.int 2147483647, .int 2147483629, .int 2147483587, .int 2147483579, .int 2147483563]) := upd_same
    generalize upd H1 t (.lst [.int 2147483647, .int 2147483629, .int 2147483587, .int 2147483579, .int 2147483563]) = H2 at s2 ht ⊢
    have hp2 := s2 _ _ hp1
    obtain ⟨pr, hpr, pr1, pr2⟩ := prime_at (r := (n + 1) % 5) (Int.emod_nonneg _ (by decide)) (Int.emod_lt_of_pos _ (by decide))
    refine ⟨_, rfl, p, _, _, _, rfl, rfl, SqL.of hp2, rfl, .inl ⟨_, rfl, _, _, rfl, rfl, (by show (0 : Int) < 5; decide), t, _, _, _, rfl, rfl, SqL.of ht, hpr, ?_⟩⟩
    have sq := sq_bound (n := n + 1) (by omega) (by omega)
    refine ⟨_, rfl, p, _, _, _, rfl, rfl, SqL.of hp2, rfl, _, rfl, p, _, _, _, rfl, rfl, SqL.of hp2, rfl, _, _, rfl, rfl, .inl ⟨by decide, by decide⟩, _, rfl, p, _, _, _, rfl, rfl, SqL.of hp2, rfl, _, _, rfl, rfl, .inr ⟨by omega, by omega⟩,
      _, _, rfl, rfl, _, _, rfl, rfl, .inl ⟨_, rfl, _, _, rfl, rfl, ⟨by decide, by decide, ?_⟩, .inl ⟨_, rfl, _, rfl, _, _, rfl, rfl, (by show 0 < pr; omega), ?_⟩⟩⟩
    · show (sm + 93001 * (n + 1) * (n + 1) + 41).natAbs < 2 ^ 64
      omega
    · generalize hb2 : (sm + 93001 * (n + 1) * (n + 1) + 41) ^ (3 : Int).toNat % pr = bl
      have b0 : 0 ≤ bl := by rw [← hb2]; exact Int.emod_nonneg _ (by omega)
      have b1 : bl < pr := by rw [← hb2]; exact Int.emod_lt_of_pos _ (by omega)
      refine ⟨_, rfl, _, rfl, .inl ⟨_, rfl, _, _, rfl, rfl, (by show (0 : Int) < 10008; decide), _, rfl, p, _, _, _, rfl, rfl, SqL.of hp2, rfl, _, _, rfl, rfl, .inl ⟨by decide, by decide⟩, _, _, rfl, rfl, _, _, rfl, rfl, .inl ⟨by rw [hb2]; omega, by rw [hb2]; omega⟩,
        _, _, rfl, rfl, ⟨by decide, by decide⟩, .inl ⟨_, rfl, _, rfl, _, _, rfl, rfl, (by show 0 < u; omega), ?_⟩⟩⟩
      refine q _ _ (Int.emod_nonneg _ (by omega)) (Int.emod_lt_of_pos _ (by omega)) (but1.trans (But.of s2)) ⟨_, _, _, hp2, hown, hs0, hs1, by omega, by omega⟩
end
end K00

set_option Elab.async false
set_option linter.all false
set_option maxRecDepth 100000
set_option maxHeartbeats 2000000
namespace K00
open PySem L2 LG
section
variable {P : Program} {w : World} {K : PySem.W.Frag} {mg : Str → Option Value} {base : Heap}
/-! ### one of a list -/
def spOf (K : PySem.W.Frag) : Sp := fun vs H Q _ => ∃ (p l : Addr) (xs : List V) (b : Nat), vs = [.ref p, .ref l] ∧ PotAt H p b ∧ b ≤ 100000 ∧ SqL K H l xs ∧ 0 < xs.length ∧ xs.length ≤ 1000 ∧ l ≠ p ∧
  ∀ (x : V) (H' : Hp), x ∈ xs → But p H H' → PotAt H' p (b + 1) → Q x H'
theorem But.seq {H H' : Hp} {p a : Addr} {xs : List V} (e : But p H H') (ne : a ≠ p) (h : SqL K H a xs) : SqL K H' a xs := by
  rcases h with (h | ⟨o, h⟩) | h
  · exact .inl (.inl (e _ _ h ne))
  · exact .inl (.inr ⟨o, e _ _ h ne⟩)
  · exact .inr h
theorem scOf : FnScope ["_law_pot_here", "_law_some"] ["_law_pot_here", "_law_some"] (defScope sOf) := ⟨rfl, rfl, rfl, by decide +kernel, rfl, by decide +kernel, by decide +kernel⟩
theorem ok_of {f g : Addr} {fd gd : FuncData} (F : Fun K "_law_of" "_law_of" sOf f fd) (T : Names mg) (G : FnOk P w K mg base CX0 1 g gd ["_law_pot_here", "_law_upto"] spTake) (mG : mg "_law_take" = some (.ref g)) (kG : PySem.W.keepIn K (.ref g) = true) (bG : Binds K gd ["_law_pot_here", "_law_upto"] []) :
    FnOk P w K mg base CX0 2 f fd ["_law_pot_here", "_law_some"] (spOf K) := by
  refine F.ok scOf (fun vs H Q E h => ?_) (fun cdv A outer s H vs Q E hr h => ?_)
  · obtain ⟨p, l, xs, b, rfl, _⟩ := h
    rfl
  obtain ⟨p, l, xs, b, rfl, hp, hb, hl, x0, x1, ne, q⟩ := h
  refine ⟨_, pss_one (ps_ret (pe_ix ix_list (pv 1) (pe_call G hr rfl mG kG bG .nil pass0 (pa_cons (pv 0) (pa_cons (pe_callB call_len_seq rfl T.len PySem.boot_len (pa_cons (pv 1) pa_nil)) pa_nil))) (fun _ _ => rfl))), ?_⟩
  refine ⟨_, rfl, _, rfl, _, rfl, l, _, rfl, .inl hl, p, _, b, rfl, hp, hb, by omega, by omega, fun k H' k0 k1 but pot => ?_⟩
  have hk : k.toNat < xs.length := by omega
  have at_ : atI xs k = some xs[k.toNat] := at_of (j := k.toNat) (by omega) (List.getElem?_eq_getElem hk)
  exact ⟨l, xs, k, _, rfl, rfl, But.seq but ne hl, at_, q _ _ (List.getElem_mem hk) but pot⟩
/-! ### the cells -/
def spCells (K : PySem.W.Frag) : Sp := fun vs H Q _ => ∃ (a : Addr) (ns : List Int) (m : Int), vs = [.ref a, .int m] ∧ SqL K H a (ns.map V.int) ∧ ns.length ≤ 63 ∧ 1 ≤ m ∧ m ≤ 63 ∧
  ∀ (p : Addr) (n : Nat) (H' : Hp), Same H H' → H p = none → 1 ≤ n → n ≤ 63 → H' p = some (.lst ((List.range n).map fun i => V.int (i : Nat))) → Q (.ref p) H'
theorem scCells : FnScope ["_law_script", "_law_most"] ["_law_script", "_law_most"] (defScope sCells) := ⟨rfl, rfl, rfl, by decide +kernel, rfl, by decide +kernel, by decide +kernel⟩
theorem ok_cells {f : Addr} {fd : FuncData} (F : Fun K "_law_cells" "_law_cells" sCells f fd) (T : Names mg) : FnOk P w K mg base CX0 1 f fd ["_law_script", "_law_most"] (spCells K) := by
  refine F.ok scCells (fun vs H Q E h => ?_) (fun cdv A outer s H vs Q E hr h => ?_)
  · obtain ⟨a, ns, m, rfl, _⟩ := h
    rfl
  obtain ⟨a, ns, m, rfl, hS, h63, m0, m1, q⟩ := h
  refine ⟨_, pss_one (ps_ret (pe_listRg rfl rfl T.list (prg_1 rfl T.range (pe_callB (call_max2 rfl) rfl T.max (by decide +kernel) (pa_cons pe_int (pa_cons (pe_callB (call_min2 rfl) rfl T.min (by decide +kernel)
    (pa_cons (pv 1) (pa_cons (pe_callB call_len_seq rfl T.len PySem.boot_len (pa_cons (pv 0) pa_nil)) pa_nil))) pa_nil)))))), ?_⟩
  refine ⟨_, rfl, _, rfl, a, _, rfl, .inl hS, _, _, rfl, _, _, rfl, _, rfl, ?_⟩
  have hl : (ns.map V.int).length = ns.length := List.length_map _
  rw [hl]
  generalize hz : (if (if (ns.length : Int) < m then (ns.length : Int) else m) > 1 then (if (ns.length : Int) < m then (ns.length : Int) else m) else 1) = z
  have z0 : 1 ≤ z ∧ z ≤ 63 := by
    rw [← hz]
    split <;> split <;> omega
  refine ⟨RgOk.of_le (by decide) (by omega) (by decide) (by omega), fun p np => ?_⟩
  refine q p z.toNat _ (same_new np _) np (by omega) (by omega) ?_
  rw [upd_same]
  have e : rgV 0 z = (List.range z.toNat).map fun i => V.int (i : Nat) := by
    unfold rgV
    have e1 : (z - 0).toNat = z.toNat := by omega
    rw [e1]
    refine List.map_congr_left fun i _ => ?_
    rw [Int.zero_add]
  rw [e]
end
end K00

set_option Elab.async false
set_option linter.all false
set_option maxRecDepth 100000
set_option maxHeartbeats 2000000
namespace K00
open PySem L2 LG
/-! ### written values that are small data -/
theorem pe_imp {X : Cx} {e : Expr} {t t' : TE} (h : PE X e t) (w : ∀ σ H Q, t' σ H Q → t σ H Q) : PE X e t' := ⟨fun pins s σ H Q I q => h.run pins s σ H Q I (w σ H Q q)⟩
theorem pa_imp {X : Cx} {es : List Expr} {t t' : TA} (h : PA X es t) (w : ∀ σ H Q, t' σ H Q → t σ H Q) : PA X es t' := ⟨fun pos pins s σ H Q I q => h.run pos pins s σ H Q I (w σ H Q q)⟩
def Gd (K : PySem.W.Frag) (n : Nat) (H : Hp) (x : V) : Prop := ∃ d, Dp K H x d ∧ small n d = true
def Gds (K : PySem.W.Frag) (n : Nat) (H : Hp) (xs : List V) : Prop := ∃ ds, DpAll K H xs ds ∧ smalls n ds = true
def Gx (K : PySem.W.Frag) (n : Nat) (H : Hp) (x : V) : Prop := ∃ d, Dx K H x d ∧ small n d = true
theorem Gd.same {K : PySem.W.Frag} {n : Nat} {H H' : Hp} {x : V} (e : Same H H') (h : Gd K n H x) : Gd K n H' x := by
  obtain ⟨d, h1, h2⟩ := h
  exact ⟨d, Dp_same e _ _ h1, h2⟩
theorem Gds.same {K : PySem.W.Frag} {n : Nat} {H H' : Hp} {xs : List V} (e : Same H H') (h : Gds K n H xs) : Gds K n H' xs := by
  obtain ⟨d, h1, h2⟩ := h
  exact ⟨d, DpAll_same e _ _ h1, h2⟩
theorem Gx.same {K : PySem.W.Frag} {n : Nat} {H H' : Hp} {x : V} (e : Same H H') (h : Gx K n H x) : Gx K n H' x := by
  obtain ⟨d, h1, h2⟩ := h
  exact ⟨d, Dx_same e h1, h2⟩
mutual
theorem small_up : ∀ (n : Nat) (d : PyData), small n d = true → small (n + 1) d = true
  | n, .none, _ => by simp only [small]
  | n, .bool _, _ => by simp only [small]
  | n, .int i, h => by
    simp only [small] at h ⊢
    exact h
  | n, .str x, h => by
    simp only [small] at h ⊢
    exact h
  | 0, .list xs, h => by
    simp only [small] at h
    cases h
  | 0, .tuple xs, h => by
    simp only [small] at h
    cases h
  | n + 1, .list xs, h => by
    simp only [small, Bool.and_eq_true] at h ⊢
    exact ⟨h.1, smalls_up n xs h.2⟩
  | n + 1, .tuple xs, h => by
    simp only [small, Bool.and_eq_true] at h ⊢
    exact ⟨h.1, smalls_up n xs h.2⟩
  | n, .dict kvs, h => by
    have h : smallKv kvs = true ∧ kvs.length ≤ 2 := by
      cases n <;> (simp only [small, Bool.and_eq_true, decide_eq_true_eq] at h; exact h)
    simp only [small, Bool.and_eq_true, decide_eq_true_eq]
    exact h
theorem smalls_up : ∀ (n : Nat) (ds : List PyData), smalls n ds = true → smalls (n + 1) ds = true
  | n, [], _ => by simp only [smalls]
  | n, d :: ds, h => by
    simp only [smalls, Bool.and_eq_true] at h ⊢
    exact ⟨small_up n d h.1, smalls_up n ds h.2⟩
end
theorem small_le {n m : Nat} (h : n ≤ m) {d : PyData} (q : small n d = true) : small m d = true := by
  induction h with
  | refl => exact q
  | step _ ih => exact small_up _ _ ih
theorem smalls_le {n m : Nat} (h : n ≤ m) {d : List PyData} (q : smalls n d = true) : smalls m d = true := by
  induction h with
  | refl => exact q
  | step _ ih => exact smalls_up _ _ ih
theorem Gd.le {K : PySem.W.Frag} {n m : Nat} {H : Hp} {x : V} (l : n ≤ m) (h : Gd K n H x) : Gd K m H x := by
  obtain ⟨d, h1, h2⟩ := h
  exact ⟨d, h1, small_le l h2⟩
theorem Gx.le {K : PySem.W.Frag} {n m : Nat} {H : Hp} {x : V} (l : n ≤ m) (h : Gx K n H x) : Gx K m H x := by
  obtain ⟨d, h1, h2⟩ := h
  exact ⟨d, h1, small_le l h2⟩
theorem Gd.x {K : PySem.W.Frag} {n : Nat} {H : Hp} {x : V} (h : Gd K n H x) : Gx K n H x := by
  obtain ⟨d, h1, h2⟩ := h
  exact ⟨d, .flat h1, h2⟩
theorem DpAll_length {K : PySem.W.Frag} {H : Hp} : ∀ (ds : List PyData) (xs : List V), DpAll K H xs ds → ds.length = xs.length
  | [], _, h => by cases h; rfl
  | d :: ds, _, h => by
    cases h with
    | cons _ h2 => simp only [List.length_cons, DpAll_length ds _ h2]
theorem Gd.tup {K : PySem.W.Frag} {n : Nat} {H : Hp} {a : Addr} {xs : List V} (h : Gds K n H xs) (l : xs.length ≤ 20) (t : SqT K H a xs) : Gd K (n + 1) H (.ref a) := by
  obtain ⟨ds, h1, h2⟩ := h
  refine ⟨.tuple ds, .tup t h1, ?_⟩
  simp only [small, Bool.and_eq_true, decide_eq_true_eq]
  exact ⟨by rw [DpAll_length ds xs h1]; exact l, h2⟩
theorem Gd.lst {K : PySem.W.Frag} {n : Nat} {H : Hp} {a : Addr} {xs : List V} (h : Gds K n H xs) (l : xs.length ≤ 20) (t : SqL K H a xs) : Gd K (n + 1) H (.ref a) := by
  obtain ⟨ds, h1, h2⟩ := h
  refine ⟨.list ds, .lst t h1, ?_⟩
  simp only [small, Bool.and_eq_true, decide_eq_true_eq]
  exact ⟨by rw [DpAll_length ds xs h1]; exact l, h2⟩
theorem Gds.nil {K : PySem.W.Frag} {n : Nat} {H : Hp} : Gds K n H [] := ⟨[], .nil, by simp only [smalls]⟩
theorem Gds.cons {K : PySem.W.Frag} {n : Nat} {H : Hp} {x : V} {xs : List V} (h : Gd K n H x) (r : Gds K n H xs) : Gds K n H (x :: xs) := by
  obtain ⟨d, h1, h2⟩ := h
  obtain ⟨ds, h3, h4⟩ := r
  exact ⟨d :: ds, .cons h1 h3, by simp only [smalls, h2, h4, Bool.and_self]⟩
/-- what was made since H0 -/
def mn (H0 H : Hp) : Hp := fun b => match H0 b with
  | none => H b
  | some _ => none
theorem mn_some {H0 H : Hp} {b : Addr} {o : HO} (h : mn H0 H b = some o) : H0 b = none ∧ H b = some o := by
  unfold mn at h
  cases e : H0 b with
  | none =>
    rw [e] at h
    exact ⟨rfl, h⟩
  | some u =>
    rw [e] at h
    cases h
theorem mn_of {H0 H : Hp} {b : Addr} {o : HO} (h0 : H0 b = none) (h : H b = some o) : mn H0 H b = some o := by
  unfold mn
  rw [h0]
  exact h
theorem mn_up {H H1 H2 : Hp} (s : Same H1 H2) : Same (mn H H1) (mn H H2) := fun b o h => by
  obtain ⟨h0, h1⟩ := mn_some h
  exact mn_of h0 (s _ _ h1)
theorem mn_but {H H1 H2 : Hp} {p : Addr} (s : But p H1 H2) (hp : H p ≠ none) : Same (mn H H1) (mn H H2) := fun b o h => by
  obtain ⟨h0, h1⟩ := mn_some h
  exact mn_of h0 (s _ _ h1 fun z => hp (by rw [← z]; exact h0))
theorem mn_down {H H1 H2 : Hp} (s : Same H H1) : Same (mn H1 H2) (mn H H2) := fun b o h => by
  obtain ⟨h0, h1⟩ := mn_some h
  exact mn_of (s.free h0) h1
theorem mn_self (H0 H : Hp) : Same (mn H0 H) H := fun b o h => (mn_some h).2
def tGd (K : PySem.W.Frag) (n : Nat) : TE := fun _ H Q => ∀ x H', Same H H' → Gd K n (mn H H') x → Q x H'
def tGds (K : PySem.W.Frag) (n m : Nat) : TA := fun _ H Q => ∀ xs H', Same H H' → xs.length = m → Gds K n (mn H H') xs → Q xs H'
def tGx (K : PySem.W.Frag) (n : Nat) : TE := fun _ H Q => ∀ x H', Same H H' → Gx K n (mn H H') x → Q x H'
def tGxs (K : PySem.W.Frag) (n m : Nat) : TA := fun _ H Q => ∀ xs H', Same H H' → xs.length = m → (∀ x ∈ xs, Gx K n (mn H H') x) → Q xs H'
section
variable {X : Cx} {e : Expr} {es : List Expr} {n m : Nat} {pos : Pos}
theorem gd_none {j} : PE X (.Constant .none j pos) (tGd X.K n) := pe_imp pe_non fun _ H Q h => h _ _ (Same.refl H) ⟨.none, .non, by simp only [small]⟩
theorem gd_bool {b j} : PE X (.Constant (.bool b) j pos) (tGd X.K n) := pe_imp pe_bl fun _ H Q h => h _ _ (Same.refl H) ⟨.bool b, .bl b, by simp only [small]⟩
theorem gd_int {i j} (hi : i.natAbs < 10 ^ 12 := by decide) : PE X (.Constant (.int i) j pos) (tGd X.K n) := pe_imp pe_int fun _ H Q h => h _ _ (Same.refl H) ⟨.int i, .int i, by simp only [small, decide_eq_true hi]⟩
theorem gd_neg {i j p2} (hi : (-i).natAbs < 10 ^ 12 := by decide) : PE X (.UnaryOp .USub (.Constant (.int i) j p2) pos) (tGd X.K n) :=
  pe_imp (pe_un un_neg pe_int) fun _ H Q h => ⟨i, rfl, h _ _ (Same.refl H) ⟨.int (-i), .int (-i), by simp only [small, decide_eq_true hi]⟩⟩
theorem gd_str {x j} (hx : (decide (x.length ≤ 40) && x.cps.toList.all fun c => decide (c < 16 ^ 8)) = true := by decide +kernel) : PE X (.Constant (.str x) j pos) (tGd X.K n) :=
  pe_imp pe_str fun _ H Q h => h _ _ (Same.refl H) ⟨.str x, .str x, by simp only [small, hx]⟩
theorem gd_nil : PA X [] (tGds X.K n 0) := pa_imp pa_nil fun _ H Q h => h _ _ (Same.refl H) rfl .nil
theorem gd_cons (h : PE X e (tGd X.K n)) (r : PA X es (tGds X.K n m)) (hs : starEach (e :: es) X.env = (false, eval e X.env) :: starEach es X.env := by rfl) : PA X (e :: es) (tGds X.K n (m + 1)) :=
  pa_imp (pa_cons h r hs) fun _ H Q q x H1 s1 g1 xs H2 s2 l2 g2 => q _ _ (s1.trans s2) (by rw [List.length_cons, l2]) (.cons (g1.same (mn_up s2)) (g2.same (mn_down s1)))
theorem gd_tup {x1} (h : PA X es (tGds X.K n m)) (hm : m ≤ 20 := by decide) : PE X (.Tuple es x1 pos) (tGd X.K (n + 1)) :=
  pe_imp (pe_tup h) fun _ H Q q xs H1 s1 l1 g1 => ⟨Nat.le_trans (by omega : xs.length ≤ 20) (by decide), fun p np =>
    q _ _ (s1.trans (same_new np _)) (.tup (g1.same (mn_up (same_new np _))) (by omega) (.inl (.inl (mn_of (s1.free np) upd_same))))⟩
theorem gd_lst (h : PA X es (tGds X.K n m)) (hm : m ≤ 20 := by decide) : PE X (.List es pos) (tGd X.K (n + 1)) :=
  pe_imp (pe_lst h) fun _ H Q q xs H1 s1 l1 g1 => ⟨Nat.le_trans (by omega : xs.length ≤ 20) (by decide), fun p np =>
    q _ _ (s1.trans (same_new np _)) (.lst (g1.same (mn_up (same_new np _))) (by omega) (SqL.of (mn_of (s1.free np) upd_same)))⟩
theorem gx_of (h : PE X e (tGd X.K n)) : PE X e (tGx X.K n) := pe_imp h fun _ H Q q x H1 s1 g1 => q _ _ s1 g1.x
theorem gx_nil : PA X [] (tGxs X.K n 0) := pa_imp pa_nil fun _ H Q h => h _ _ (Same.refl H) rfl (fun _ m => nomatch m)
theorem gx_cons (h : PE X e (tGx X.K n)) (r : PA X es (tGxs X.K n m)) (hs : starEach (e :: es) X.env = (false, eval e X.env) :: starEach es X.env := by rfl) : PA X (e :: es) (tGxs X.K n (m + 1)) :=
  pa_imp (pa_cons h r hs) fun _ H Q q x H1 s1 g1 xs H2 s2 l2 g2 => q _ _ (s1.trans s2) (by rw [List.length_cons, l2]) fun y hy => by
    rcases List.mem_cons.mp hy with rfl | hy
    · exact g1.same (mn_up s2)
    · exact (g2 y hy).same (mn_down s1)
theorem gx_dict0 : PE X (.Dict [] [] pos) (tGx X.K n) := pe_imp pe_dnewK fun _ H Q q p np => q _ _ (same_new np _) ⟨.dict [], .dct (mn_of np upd_same) .nil, by cases n <;> rfl⟩
/-- {'k': i} -/
theorem gx_dict1 {k i j1 j2 p1 p2} (hk : (decide (k.length ≤ 40) && k.cps.toList.all fun c => decide (c < 16 ^ 8)) = true := by decide +kernel) (hi : i.natAbs < 10 ^ 12 := by decide) :
    PE X (.Dict [some (.Constant (.str k) j1 p1)] [.Constant (.int i) j2 p2] pos) (tGx X.K n) :=
  pe_imp (pe_disp (pps_cons pe_str pe_int pps_nil) (by rfl) (by rfl) (fun z => by cases z) (by show 1 ≤ 15; decide)) fun _ H Q q p np => by
    refine ⟨upd_same, [(.inr k, .int i)], rfl, (by show 1 ≤ 15; decide), ?_⟩
    have e : upd (upd H p (.dK [])) p (.dK (mergeK [] [((.inr k : Key), V.int i)])) = upd H p (.dK [((.inr k : Key), V.int i)]) := upd_upd
    rw [e]
    refine q _ _ (same_new np _) ⟨.dict [(.str k, .int i)], .dct (mn_of np upd_same) (.int .nil), ?_⟩
    have s1 : smallKv [(.str k, .int i)] = true := by
      simp only [smallKv, hk, decide_eq_true hi, Bool.and_self]
    cases n <;> simp only [small, s1, List.length_cons, List.length_nil] <;> rfl
end
/-! ### any odd value -/
def spOdd (K : PySem.W.Frag) : Sp := fun vs H Q _ => ∃ (p : Addr) (b : Nat), vs = [.ref p] ∧ PotAt H p b ∧ b ≤ 100000 ∧ ∀ (x : V) (H' : Hp), But p H H' → PotAt H' p (b + 1) → Gx K 2 (mn H H') x → Q x H'
section
variable {P : Program} {w : World} {K : PySem.W.Frag} {mg : Str → Option Value} {base : Heap}
theorem PotAt.there {H : Hp} {p : Addr} {b : Nat} (h : PotAt H p b) : H p ≠ none := by
  obtain ⟨own, sm, n, h1, _⟩ := h
  rw [h1]
  exact fun z => nomatch z
theorem scOdd : FnScope ["_law_pot_here", "_law_some"] ["_law_pot_here"] (defScope sOdd) := ⟨rfl, rfl, rfl, by decide +kernel, rfl, by decide +kernel, by decide +kernel⟩
theorem ok_odd {f g : Addr} {fd gd : FuncData} (F : Fun K "_law_odd" "_law_odd" sOdd f fd) (G : FnOk P w K mg base CX0 2 g gd ["_law_pot_here", "_law_some"] (spOf K)) (mG : mg "_law_of" = some (.ref g)) (kG : PySem.W.keepIn K (.ref g) = true) (bG : Binds K gd ["_law_pot_here", "_law_some"] []) :
    FnOk P w K mg base CX0 3 f fd ["_law_pot_here"] (spOdd K) := by
  refine F.ok scOdd (fun vs H Q E h => ?_) (fun cdv A outer s H vs Q E hr h => ?_)
  · obtain ⟨p, b, rfl, _⟩ := h
    rfl
  obtain ⟨p, b, rfl, hp, hb, q⟩ := h
  refine ⟨_, pss_cons (ps_set (i := 1) scOdd.nd rfl (Or.inl rfl) (pe_lst (gx_cons (n := 2) (gx_of gd_none) (gx_cons (gx_of gd_bool) (gx_cons (gx_of gd_bool) (gx_cons (gx_of gd_int) (gx_cons (gx_of gd_int) (gx_cons (gx_of gd_neg) (gx_cons (gx_of gd_int)
      (gx_cons (pe_imp (t' := tGx K 2) (pe_op op_pow pe_int pe_int) fun _ H Q h => ⟨_, _, rfl, rfl, ⟨by decide, by decide, by decide⟩, h _ _ (Same.refl H) ⟨.int _, .flat (.int _), by decide +kernel⟩⟩)
      (gx_cons (gx_of gd_str) (gx_cons (gx_of gd_str) (gx_cons (gx_of gd_str) (gx_cons (gx_of gd_str) (gx_cons (gx_of gd_str) (gx_cons (gx_of gd_str)
      (gx_cons (gx_of (gd_tup gd_nil)) (gx_cons (gx_of (gd_lst gd_nil)) (gx_cons gx_dict0 (gx_cons (gx_of (gd_tup (gd_cons gd_int gd_nil))) (gx_cons (gx_of (gd_tup (gd_cons (gd_tup gd_nil) gd_nil))) (gx_cons (gx_of (gd_lst (gd_cons gd_int gd_nil))) gx_nil))))))))))))))))))))))
    (pss_one (ps_ret (pe_call G hr rfl mG kG bG .nil pass0 (pa_cons (pv 0) (pa_cons (pe_op op_cat (pv 1) (pe_lst
      (gx_cons (n := 2) (gx_of (gd_tup (gd_cons gd_str gd_nil))) (gx_cons (gx_of (gd_tup (gd_cons gd_str (gd_cons gd_str gd_nil)))) (gx_cons (gx_of (gd_tup (gd_cons (gd_tup (gd_cons gd_str (gd_cons gd_str gd_nil))) gd_nil))) (gx_cons (gx_of (gd_tup (gd_cons (gd_tup (gd_cons gd_str gd_nil)) gd_nil)))
      (gx_cons (gx_of (gd_tup (gd_cons gd_none gd_nil))) (gx_cons gx_dict1 (gx_cons (gx_of (gd_tup (gd_cons gd_str (gd_cons gd_int gd_nil)))) (gx_cons (gx_of (gd_tup (gd_cons gd_bool gd_nil))) gx_nil)))))))))) pa_nil))))), ?_⟩
  intro xs H1 s1 l1 g1
  refine ⟨by rw [l1]; decide, fun l nl => ?_⟩
  have sl := same_new nl (.lst xs)
  have hl : (upd H1 l (.lst xs)) l = some (.lst xs) := upd_same
  show _
  generalize hH2 : upd H1 l (.lst xs) = H2 at sl hl
  refine ⟨_, rfl, _, rfl, ?_⟩
  intro ys H3 s3 l3 g3
  refine ⟨by rw [l3]; decide, fun l2 nl2 => ?_⟩
  have s4 := same_new nl2 (.lst ys)
  refine ⟨l, l2, _, _, rfl, rfl, s4 _ _ (s3 _ _ hl), upd_same, by rw [l1, l3]; decide, fun l5 nl5 => ?_⟩
  have s5 := same_new nl5 (.lst (xs ++ ys))
  have sAll : Same H (upd (upd H3 l2 (.lst ys)) l5 (.lst (xs ++ ys))) := (((s1.trans sl).trans s3).trans s4).trans s5
  refine ⟨p, l5, xs ++ ys, b, rfl, hp.same sAll, hb, SqL.of upd_same, by rw [List.length_append, l1, l3]; decide, by rw [List.length_append, l1, l3]; decide, ?_, fun x H' hx but pot => ?_⟩
  · intro z
    have := ((s1.trans sl).trans s3).trans s4
    have hpp := hp.same this
    exact hpp.there (by rw [← z]; exact nl5)
  · refine q x H' ((But.of sAll).trans but) pot ?_
    have up : Same (mn H (upd (upd H3 l2 (.lst ys)) l5 (.lst (xs ++ ys)))) (mn H H') := mn_but but hp.there
    rcases List.mem_append.mp hx with hx | hx
    · exact (g1 x hx).same ((mn_up (((sl.trans s3).trans s4).trans s5)).trans up)
    · exact (g3 x hx).same (((mn_down (s1.trans sl)).trans (mn_up (s4.trans s5))).trans up)
end
end K00

set_option Elab.async false
set_option linter.all false
set_option maxRecDepth 100000
set_option maxHeartbeats 2000000
namespace K00
open PySem L2 LG
/-! ### the heap without the pot -/
def mk (p : Addr) (H : Hp) : Hp := fun b => if b = p then none else H b
theorem mk_some {p b : Addr} {H : Hp} {o : HO} (h : mk p H b = some o) : b ≠ p ∧ H b = some o := by
  unfold mk at h
  by_cases e : b = p
  · rw [if_pos e] at h
    cases h
  · rw [if_neg e] at h
    exact ⟨e, h⟩
theorem mk_of {p b : Addr} {H : Hp} {o : HO} (ne : b ≠ p) (h : H b = some o) : mk p H b = some o := by
  unfold mk
  rw [if_neg ne]
  exact h
theorem mk_self (p : Addr) (H : Hp) : Same (mk p H) H := fun b o h => (mk_some h).2
theorem mk_but {p : Addr} {H H' : Hp} (s : But p H H') : Same (mk p H) (mk p H') := fun b o h => by
  obtain ⟨ne, e⟩ := mk_some h
  exact mk_of ne (s _ _ e ne)
theorem mk_up {p : Addr} {H H' : Hp} (s : Same H H') : Same (mk p H) (mk p H') := mk_but (But.of s)
theorem mn_mk {p : Addr} {H H' : Hp} (hp : H p ≠ none) : Same (mn H H') (mk p H') := fun b o h => by
  obtain ⟨h0, h1⟩ := mn_some h
  exact mk_of (fun z => hp (by rw [← z]; exact h0)) h1
theorem new_ne {p q : Addr} {H : Hp} (hp : H p ≠ none) (nq : H q = none) : q ≠ p := fun z => hp (by rw [← z]; exact nq)
theorem mk_new {p q : Addr} {H : Hp} {o : HO} (hp : H p ≠ none) (nq : H q = none) : mk p (upd H q o) q = some o := mk_of (new_ne hp nq) upd_same
theorem Same.there {H H' : Hp} {p : Addr} (s : Same H H') (hp : H p ≠ none) : H' p ≠ none := by
  cases e : H p with
  | none => exact absurd e hp
  | some o =>
    rw [s _ _ e]
    exact fun z => nomatch z
theorem But.same {p : Addr} {H H' : Hp} (s : Same H H') : But p H H' := But.of s
/-! ### values to be bent -/
def isAB (x : Str) : Bool := decide (x = "a") || decide (x = "b")
mutual
def bd : Nat → PyData → Bool
  | _, .int i => decide (i.natAbs < 10 ^ 9)
  | _, .str x => isAB x
  | 0, .tuple _ => false
  | n + 1, .tuple xs => decide (xs.length ≤ 4) && bds n xs
  | _, .none => false
  | _, .bool _ => false
  | _, .list _ => false
  | _, .dict _ => false
def bds : Nat → List PyData → Bool
  | _, [] => true
  | n, d :: ds => bd n d && bds n ds
end
theorem ab_cases {x : Str} (h : isAB x = true) : x = "a" ∨ x = "b" := by
  unfold isAB at h
  simp only [Bool.or_eq_true, decide_eq_true_eq] at h
  exact h
theorem ab_small {x : Str} (h : isAB x = true) : (decide (x.length ≤ 40) && x.cps.toList.all fun c => decide (c < 16 ^ 8)) = true := by
  rcases ab_cases h with rfl | rfl <;> decide +kernel
mutual
theorem bd_small : ∀ (n : Nat) (d : PyData), bd n d = true → small n d = true
  | n, .int i, h => by
    simp only [bd, decide_eq_true_eq] at h
    simp only [small, decide_eq_true_eq]
    omega
  | n, .str x, h => by
    simp only [bd] at h
    simp only [small]
    exact ab_small h
  | 0, .tuple _, h => by
    simp only [bd] at h
    cases h
  | n + 1, .tuple xs, h => by
    simp only [bd, Bool.and_eq_true, decide_eq_true_eq] at h
    simp only [small, Bool.and_eq_true, decide_eq_true_eq]
    exact ⟨by omega, bds_small n xs h.2⟩
  | n, .none, h => by simp only [small]
  | n, .bool _, h => by simp only [small]
  | n, .list _, h => by
    simp only [bd] at h
    cases h
  | n, .dict _, h => by
    simp only [bd] at h
    cases h
theorem bds_small : ∀ (n : Nat) (ds : List PyData), bds n ds = true → smalls n ds = true
  | n, [], _ => by simp only [smalls]
  | n, d :: ds, h => by
    simp only [bds, Bool.and_eq_true] at h
    simp only [smalls, bd_small n d h.1, bds_small n ds h.2, Bool.and_self]
end
mutual
theorem bd_lay : ∀ (n : Nat) (d : PyData), bd n d = true → d.canLay0 = true
  | n, .int i, h => by simp only [PyData.canLay0]
  | n, .str x, h => by
    simp only [bd] at h
    simp only [PyData.canLay0]
    rcases ab_cases h with rfl | rfl <;> decide +kernel
  | 0, .tuple _, h => by
    simp only [bd] at h
    cases h
  | n + 1, .tuple xs, h => by
    simp only [bd, Bool.and_eq_true, decide_eq_true_eq] at h
    simp only [PyData.canLay0]
    exact bds_lay n xs h.2
  | n, .none, h => by simp only [PyData.canLay0]
  | n, .bool _, h => by simp only [PyData.canLay0]
  | n, .list _, h => by
    simp only [bd] at h
    cases h
  | n, .dict _, h => by
    simp only [bd] at h
    cases h
theorem bds_lay : ∀ (n : Nat) (ds : List PyData), bds n ds = true → PyData.canLayAll0 ds = true
  | n, [], _ => by simp only [PyData.canLayAll0]
  | n, d :: ds, h => by
    simp only [bds, Bool.and_eq_true] at h
    simp only [PyData.canLayAll0, bd_lay n d h.1, bds_lay n ds h.2, Bool.and_self]
end
theorem bd_shaped {n : Nat} {d : PyData} (h : bd n d = true) (hn : n ≤ 40) : SeqAt.shaped d = true := by
  have h1 := bd_lay n d h
  have h2 := small_depth n d (bd_small n d h)
  unfold SeqAt.shaped
  rw [h1, decide_eq_true (show d.depth ≤ 64 by omega)] <;> rfl
/-! ### rules whose answers are told by the heap without the pot -/
theorem cut_whole {xs : List V} {lo hi : Option Int} (h : HT.sIx xs.length 0 lo = 0 ∧ HT.sIx xs.length xs.length hi = xs.length) : cutV xs lo hi = xs := by
  unfold cutV
  rw [h.1, h.2, List.drop_zero, Nat.sub_zero, List.take_length]
/-- the tuple of xs, out of the pot's reach -/
def TupM (K : PySem.W.Frag) (p : Addr) (H : Hp) (x : V) (xs : List V) : Prop := ∃ a, x = .ref a ∧ SqT K (mk p H) a xs
theorem TupM.same {K : PySem.W.Frag} {p : Addr} {H H' : Hp} {x : V} {xs : List V} (s : But p H H') (h : TupM K p H x xs) : TupM K p H' x xs := by
  obtain ⟨a, e, q⟩ := h
  exact ⟨a, e, same_tup (mk_but s) q⟩
section
variable {X : Cx}
def rCatM (K : PySem.W.Frag) : R2 := fun x y H Q => ∃ p xs ys, H p ≠ none ∧ TupM K p H x xs ∧ TupM K p H y ys ∧ xs.length + ys.length ≤ 1000 ∧ ∀ z H', Same H H' → TupM K p H' z (xs ++ ys) → Q z H'
theorem op_catM : OpR X (binaryOp .Add) (rCatM X.K) := by
  intro pins s σ H x y v u Q I rx ry h
  obtain ⟨p, xs, ys, hp, ⟨a, rfl, ha⟩, ⟨b, rfl, hb⟩, hl, q⟩ := h
  refine op_catA pins s σ H _ _ v u Q I rx ry ⟨a, b, xs, ys, rfl, rfl, same_tup (mk_self p H) ha, same_tup (mk_self p H) hb, Nat.le_trans hl (by decide), fun e => ?_, fun _ e => ?_, fun _ _ r nr => ?_⟩
  · subst e
    exact q _ _ (Same.refl H) ⟨b, rfl, hb⟩
  · subst e
    rw [List.append_nil] at q
    exact q _ _ (Same.refl H) ⟨a, rfl, ha⟩
  · exact q _ _ (same_new nr _) ⟨r, rfl, .inl (.inl (mk_new hp nr))⟩
def rSlM (K : PySem.W.Frag) : V → Option Int → Option Int → Hp → VK → Prop := fun x lo hi H Q => ∃ p xs, H p ≠ none ∧ TupM K p H x xs ∧ ∀ z H', Same H H' → TupM K p H' z (cutV xs lo hi) → Q z H'
theorem sl_tupM : SlR X (rSlM X.K) := by
  intro pins s σ H x v vl vu lo hi sl Q I rx hs pl pu h
  obtain ⟨p, xs, hp, ⟨a, rfl, ha⟩, q⟩ := h
  refine sl_tupA pins s σ H _ v vl vu lo hi sl Q I rx hs pl pu ⟨a, xs, rfl, same_tup (mk_self p H) ha, fun e => ?_, fun _ r nr => ?_⟩
  · rw [cut_whole e] at q
    exact q _ _ (Same.refl H) ⟨a, rfl, ha⟩
  · exact q _ _ (same_new nr _) ⟨r, rfl, .inl (.inl (mk_new hp nr))⟩
end
theorem ty_of {K : PySem.W.Frag} {H : Hp} {d : PyData} {v : V} (h : Dp K H v d) : ∃ T, TyX K H v (.type T) ∧ T = (match d with | .none => "NoneType" | .bool _ => "bool" | .int _ => "int" | .str _ => "str" | .list _ => "list" | .tuple _ => "tuple" | .dict _ => "dict") := by
  cases h with
  | non => exact ⟨_, .base .non, rfl⟩
  | bl b => exact ⟨_, .base (.bl b), rfl⟩
  | int i => exact ⟨_, .base (.int i), rfl⟩
  | str x => exact ⟨_, .base (.str x), rfl⟩
  | lst hs _ =>
    rcases hs with (h | ⟨o, h⟩) | ⟨o, its, n, h, c, _⟩
    · exact ⟨_, .base (.lst h), rfl⟩
    · exact ⟨_, .base (.frz h), rfl⟩
    · exact ⟨_, .kList h c, rfl⟩
  | tup hs _ =>
    rcases hs with (h | ⟨o, h⟩) | ⟨o, its, n, h, c, _⟩
    · exact ⟨_, .base (.tup h), rfl⟩
    · exact ⟨_, .fTuple h, rfl⟩
    · exact ⟨_, .kTuple h c, rfl⟩
theorem Gds.app {K : PySem.W.Frag} {n : Nat} {H : Hp} {xs ys : List V} (h : Gds K n H xs) (r : Gds K n H ys) : Gds K n H (xs ++ ys) := by
  induction xs with
  | nil => exact r
  | cons x xs ih =>
    obtain ⟨ds, h1, h2⟩ := h
    cases h1 with
    | cons a b =>
      simp only [smalls, Bool.and_eq_true] at h2
      exact .cons ⟨_, a, h2.1⟩ (ih ⟨_, b, h2.2⟩)
theorem Gds.of_mem {K : PySem.W.Frag} {n : Nat} {H : Hp} : ∀ {xs : List V}, (∀ x ∈ xs, Gd K n H x) → Gds K n H xs
  | [], _ => .nil
  | x :: xs, h => .cons (h x List.mem_cons_self) (Gds.of_mem fun y hy => h y (List.mem_cons_of_mem _ hy))
theorem Gds.mem {K : PySem.W.Frag} {n : Nat} {H : Hp} {xs : List V} (h : Gds K n H xs) : ∀ x ∈ xs, Gd K n H x := by
  induction xs with
  | nil => exact fun x hx => nomatch hx
  | cons y ys ih =>
    obtain ⟨ds, h1, h2⟩ := h
    cases h1 with
    | cons a b =>
      simp only [smalls, Bool.and_eq_true] at h2
      intro x hx
      rcases List.mem_cons.mp hx with rfl | hx
      · exact ⟨_, a, h2.1⟩
      · exact ih ⟨_, b, h2.2⟩ x hx
theorem Gds.cut {K : PySem.W.Frag} {n : Nat} {H : Hp} {xs : List V} (h : Gds K n H xs) (lo hi : Option Int) : Gds K n H (cutV xs lo hi) :=
  .of_mem fun x hx => h.mem x (by
    unfold cutV at hx
    exact List.mem_of_mem_drop (List.mem_of_mem_take hx))
theorem Gds.back {K : PySem.W.Frag} {n : Nat} {H : Hp} {xs : List V} (h : Gds K n H xs) : Gds K n H xs.reverse := .of_mem fun x hx => h.mem x (List.mem_reverse.mp hx)
theorem Gds.le {K : PySem.W.Frag} {n m : Nat} {H : Hp} {xs : List V} (l : n ≤ m) (h : Gds K n H xs) : Gds K m H xs := .of_mem fun x hx => (h.mem x hx).le l
end K00

set_option Elab.async false
set_option linter.all false
set_option maxRecDepth 100000
set_option maxHeartbeats 2000000
namespace K00
open PySem L2 LG
/-! ### items of the lists out of which a bent value is taken -/
def tM (K : PySem.W.Frag) (p : Addr) (k : Nat) (S : L2.St → Hp → Prop) : TE := fun σ H Q => S σ H ∧ ∀ x H', Same H H' → Gd K k (mk p H') x → Q x H'
def tMs (K : PySem.W.Frag) (p : Addr) (k m : Nat) (S : L2.St → Hp → Prop) : TA := fun σ H Q => S σ H ∧ ∀ xs H', Same H H' → xs.length = m → (∀ x ∈ xs, Gd K k (mk p H') x) → Q xs H'
def Stays (S : L2.St → Hp → Prop) : Prop := ∀ σ H H', Same H H' → S σ H → S σ H'
section
variable {X : Cx} {e : Expr} {es : List Expr} {p : Addr} {n k m : Nat} {pos : Pos} {S : L2.St → Hp → Prop}
theorem pm_nil : PA X [] (tMs X.K p k 0 S) := pa_imp pa_nil fun _ H Q h => h.2 _ _ (Same.refl H) rfl (fun _ m => nomatch m)
theorem pm_cons (hS : Stays S) (h : PE X e (tM X.K p k S)) (r : PA X es (tMs X.K p k m S)) (hs : starEach (e :: es) X.env = (false, eval e X.env) :: starEach es X.env := by rfl) : PA X (e :: es) (tMs X.K p k (m + 1) S) :=
  pa_imp (pa_cons h r hs) fun _ H Q q => ⟨q.1, fun x H1 s1 g1 => ⟨hS _ _ _ s1 q.1, fun xs H2 s2 l2 g2 => q.2 _ _ (s1.trans s2) (by rw [List.length_cons, l2]) fun y hy => by
    rcases List.mem_cons.mp hy with rfl | hy
    · exact g1.same (mk_up s2)
    · exact g2 y hy⟩⟩
theorem pm_of (hS : ∀ σ H, S σ H → H p ≠ none) (h : PE X e (tGd X.K k)) : PE X e (tM X.K p k S) := pe_imp h fun _ H Q q x H1 s1 g1 => q.2 _ _ s1 (g1.same (mn_mk (hS _ _ q.1)))
/-- a tuple stands in slot 1 -/
def ST (K : PySem.W.Frag) (p : Addr) (n : Nat) (xs : List V) : L2.St → Hp → Prop := fun σ H => ∃ v, σ[1]? = some (some v) ∧ H p ≠ none ∧ TupM K p H v xs ∧ Gds K n (mk p H) xs ∧ xs.length ≤ 4
theorem ST.stays {K : PySem.W.Frag} {xs : List V} : Stays (ST K p n xs) := fun σ H H' s ⟨v, h1, h2, h3, h4, h5⟩ => ⟨v, h1, Same.there s h2, h3.same (But.of s), h4.same (mk_up s), h5⟩
theorem tup_good {K : PySem.W.Frag} {H : Hp} {z : V} {zs : List V} (t : TupM K p H z zs) (g : Gds K n (mk p H) zs) (l : zs.length ≤ 20) : Gd K (n + 1) (mk p H) z := by
  obtain ⟨a, rfl, h⟩ := t
  exact .tup g l h
theorem cut_len {xs : List V} {lo hi : Option Int} (h : xs.length ≤ 4) : (cutV xs lo hi).length ≤ 4 := Nat.le_trans (cutV_length _ _ _) h
theorem m_list {xs : List V} {j p1} (hv : X.N[1]? = some ("_law_value" : Str)) (vis : Vis X.env.scope "_law_value") (hg : Gl X "list") (hm : X.mg "list" = none) :
    PE X (.Call (.Name "list" p1) [.Name "_law_value" j] [] pos) (tM X.K p (n + 1) (ST X.K p n xs)) :=
  pe_imp (pe_callTy call_list_of hg hm (by decide +kernel) (pa_cons (pe_var hv vis) pa_nil)) fun _ H Q q => by
    obtain ⟨⟨v, h1, h2, ⟨a, rfl, h3⟩, h4, h5⟩, q⟩ := q
    exact ⟨_, h1, a, xs, rfl, .inr (same_tup (mk_self p H) h3), fun l nl => q _ _ (same_new nl _) (.lst (h4.same (mk_up (same_new nl _))) (by omega) (SqL.of (mk_new h2 nl)))⟩
theorem m_from {xs : List V} {j c p1 p2} (hv : X.N[1]? = some ("_law_value" : Str)) (vis : Vis X.env.scope "_law_value") :
    PE X (.Subscript (.Name "_law_value" j) (.Slice (some (.Constant (.int 1) c p1)) none none p2) pos) (tM X.K p (n + 1) (ST X.K p n xs)) :=
  pe_imp (pe_slice sl_tupM (pe_var hv vis) (po_some pe_int) po_none) fun _ H Q q => by
    obtain ⟨⟨v, h1, h2, h3, h4, h5⟩, q⟩ := q
    exact ⟨_, h1, 1, rfl, p, xs, h2, h3, fun z H' s t => q _ _ s (tup_good t ((h4.same (mk_up s)).cut _ _) (Nat.le_trans (cut_len h5) (by decide)))⟩
theorem m_upto {xs : List V} {j c p1 p2 p3} (hv : X.N[1]? = some ("_law_value" : Str)) (vis : Vis X.env.scope "_law_value") :
    PE X (.Subscript (.Name "_law_value" j) (.Slice none (some (.UnaryOp .USub (.Constant (.int 1) c p1) p3)) none p2) pos) (tM X.K p (n + 1) (ST X.K p n xs)) :=
  pe_imp (pe_slice sl_tupM (pe_var hv vis) po_none (po_some (pe_un un_neg pe_int))) fun _ H Q q => by
    obtain ⟨⟨v, h1, h2, h3, h4, h5⟩, q⟩ := q
    exact ⟨_, h1, 1, rfl, -1, rfl, p, xs, h2, h3, fun z H' s t => q _ _ s (tup_good t ((h4.same (mk_up s)).cut _ _) (Nat.le_trans (cut_len h5) (by decide)))⟩
theorem m_last {xs : List V} {j j2 c p1 p2 p3 p4} (hv : X.N[1]? = some ("_law_value" : Str)) (vis : Vis X.env.scope "_law_value") :
    PE X (.BinOp (.Name "_law_value" j) .Add (.Subscript (.Name "_law_value" j2) (.Slice (some (.UnaryOp .USub (.Constant (.int 1) c p1) p3)) none none p2) p4) pos) (tM X.K p (n + 1) (ST X.K p n xs)) :=
  pe_imp (pe_op op_catM (pe_var hv vis) (pe_slice sl_tupM (pe_var hv vis) (po_some (pe_un un_neg pe_int)) po_none)) fun _ H Q q => by
    obtain ⟨⟨v, h1, h2, h3, h4, h5⟩, q⟩ := q
    refine ⟨_, h1, _, h1, 1, rfl, -1, rfl, p, xs, h2, h3, fun z H' s t => ⟨p, xs, _, Same.there s h2, h3.same (But.of s), t, ?_, fun z2 H2 s2 t2 => q _ _ (s.trans s2) (tup_good t2 ?_ ?_)⟩⟩
    · have := cut_len (lo := some (-1)) (hi := none) h5
      omega
    · exact (h4.same (mk_up (s.trans s2))).app ((h4.same (mk_up (s.trans s2))).cut _ _)
    · have := cut_len (lo := some (-1)) (hi := none) h5
      rw [List.length_append]
      omega
theorem m_back {xs : List V} {j c p1 p2 p3} (hv : X.N[1]? = some ("_law_value" : Str)) (vis : Vis X.env.scope "_law_value") :
    PE X (.Subscript (.Name "_law_value" j) (.Slice none none (some (.UnaryOp .USub (.Constant (.int 1) c p1) p3)) p2) pos) (tM X.K p (n + 1) (ST X.K p n xs)) :=
  pe_imp (pe_back (pe_var hv vis) (pe_un un_neg pe_int)) fun _ H Q q => by
    obtain ⟨⟨v, h1, h2, ⟨a, rfl, h3⟩, h4, h5⟩, q⟩ := q
    exact ⟨_, h1, 1, rfl, a, xs, rfl, rfl, same_tup (mk_self p H) h3, fun l nl => q _ _ (same_new nl _) (.tup ((h4.same (mk_up (same_new nl _))).back) (by rw [List.length_reverse]; omega) (.inl (.inl (mk_new h2 nl))))⟩
theorem m_zero {xs : List V} {j c p1 p2 x1} (hv : X.N[1]? = some ("_law_value" : Str)) (vis : Vis X.env.scope "_law_value") (hs : starEach [.Constant (.int 0) c p1] X.env = (false, eval (.Constant (.int 0) c p1) X.env) :: starEach [] X.env := by rfl) :
    PE X (.BinOp (.Name "_law_value" j) .Add (.Tuple [.Constant (.int 0) c p1] x1 p2) pos) (tM X.K p (n + 1) (ST X.K p n xs)) :=
  pe_imp (pe_op op_catM (pe_var hv vis) (pe_tup (pa_cons pe_int pa_nil hs))) fun _ H Q q => by
    obtain ⟨⟨v, h1, h2, h3, h4, h5⟩, q⟩ := q
    refine ⟨_, h1, (by show 1 ≤ sizeLine; decide), fun t nt => ⟨p, xs, [.int 0], Same.there (same_new nt _) h2, h3.same (But.of (same_new nt _)), ⟨t, rfl, .inl (.inl (mk_new h2 nt))⟩, by rw [List.length_singleton]; omega, fun z2 H2 s2 t2 => q _ _ ((same_new nt _).trans s2) (tup_good t2 ?_ ?_)⟩⟩
    · exact (h4.same (mk_up ((same_new nt _).trans s2))).app (.cons ⟨.int 0, .int 0, by simp only [small]; decide⟩ .nil)
    · rw [List.length_append, List.length_singleton]
      omega
/-- an int stands in slot 1 -/
def SI (p : Addr) (i : Int) : L2.St → Hp → Prop := fun σ H => σ[1]? = some (some (.int i)) ∧ H p ≠ none ∧ i.natAbs < 10 ^ 9
theorem SI.stays {i : Int} : Stays (SI p i) := fun σ H H' s ⟨h1, h2, h3⟩ => ⟨h1, Same.there s h2, h3⟩
theorem gd_of_int {K : PySem.W.Frag} {H : Hp} {i : Int} (h : i.natAbs < 10 ^ 12) : Gd K n H (.int i) := ⟨.int i, .int i, by simp only [small, decide_eq_true h]⟩
theorem m_inc {i : Int} {j c p1} (hv : X.N[1]? = some ("_law_value" : Str)) (vis : Vis X.env.scope "_law_value") : PE X (.BinOp (.Name "_law_value" j) .Add (.Constant (.int 1) c p1) pos) (tM X.K p k (SI p i)) :=
  pe_imp (pe_op op_add (pe_var hv vis) pe_int) fun _ H Q q => ⟨_, q.1.1, _, _, rfl, rfl, q.2 _ _ (Same.refl H) (gd_of_int (by have := q.1.2.2; omega))⟩
theorem m_dec {i : Int} {j c p1} (hv : X.N[1]? = some ("_law_value" : Str)) (vis : Vis X.env.scope "_law_value") : PE X (.BinOp (.Name "_law_value" j) .Sub (.Constant (.int 1) c p1) pos) (tM X.K p k (SI p i)) :=
  pe_imp (pe_op op_sub (pe_var hv vis) pe_int) fun _ H Q q => ⟨_, q.1.1, _, _, rfl, rfl, q.2 _ _ (Same.refl H) (gd_of_int (by have := q.1.2.2; omega))⟩
theorem m_one {i : Int} {j c p1} (hv : X.N[1]? = some ("_law_value" : Str)) (vis : Vis X.env.scope "_law_value") : PE X (.Compare (.Name "_law_value" j) [.Eq] [.Constant (.int 1) c p1] pos) (tM X.K p k (SI p i)) :=
  pe_imp (pe_cmpR op_eq (pe_var hv vis) pe_int (nomark _)) fun _ H Q q => ⟨_, q.1.1, rfl, q.2 _ _ (Same.refl H) ⟨.bool _, .bl _, by simp only [small]⟩⟩
theorem m_itup {i : Int} {j x1} (hv : X.N[1]? = some ("_law_value" : Str)) (vis : Vis X.env.scope "_law_value") (hs : starEach [.Name "_law_value" j] X.env = (false, eval (.Name "_law_value" j) X.env) :: starEach [] X.env := by rfl) : PE X (.Tuple [.Name "_law_value" j] x1 pos) (tM X.K p (k + 1) (SI p i)) :=
  pe_imp (pe_tup (pa_cons (pe_var hv vis) pa_nil hs)) fun _ H Q q => ⟨_, q.1.1, (by show 1 ≤ sizeLine; decide), fun t nt => q.2 _ _ (same_new nt _) (.tup (.cons (gd_of_int (by have := q.1.2.2; omega)) .nil) (by show 1 ≤ 20; decide) (.inl (.inl (mk_new q.1.2.1 nt))))⟩
/-- a text stands in slot 1 -/
def SS (p : Addr) (x : Str) : L2.St → Hp → Prop := fun σ H => σ[1]? = some (some (.str x)) ∧ H p ≠ none ∧ isAB x = true
theorem SS.stays {x : Str} : Stays (SS p x) := fun σ H H' s ⟨h1, h2, h3⟩ => ⟨h1, Same.there s h2, h3⟩
theorem gd_of_str {K : PySem.W.Frag} {H : Hp} {x : Str} (h : (decide (x.length ≤ 40) && x.cps.toList.all fun c => decide (c < 16 ^ 8)) = true) : Gd K n H (.str x) := ⟨.str x, .str x, by simp only [small, h]⟩
theorem m_x {x : Str} {j c p1} (hv : X.N[1]? = some ("_law_value" : Str)) (vis : Vis X.env.scope "_law_value") : PE X (.BinOp (.Name "_law_value" j) .Add (.Constant (.str "x") c p1) pos) (tM X.K p k (SS p x)) :=
  pe_imp (pe_op op_add_str (pe_var hv vis) pe_str) fun _ H Q q => by
    obtain ⟨⟨h1, h2, h3⟩, q⟩ := q
    refine ⟨_, h1, _, _, rfl, rfl, ?_, q _ _ (Same.refl H) (gd_of_str ?_)⟩
    · rcases ab_cases h3 with rfl | rfl <;> decide +kernel
    · rcases ab_cases h3 with rfl | rfl <;> decide +kernel
theorem m_supto {x : Str} {j c p1 p2 p3} (hv : X.N[1]? = some ("_law_value" : Str)) (vis : Vis X.env.scope "_law_value") :
    PE X (.Subscript (.Name "_law_value" j) (.Slice none (some (.UnaryOp .USub (.Constant (.int 1) c p1) p3)) none p2) pos) (tM X.K p k (SS p x)) :=
  pe_imp (pe_slice sl_str (pe_var hv vis) po_none (po_some (pe_un un_neg pe_int))) fun _ H Q q => by
    obtain ⟨⟨h1, h2, h3⟩, q⟩ := q
    refine ⟨_, h1, 1, rfl, -1, rfl, _, rfl, ?_, q _ _ (Same.refl H) (gd_of_str ?_)⟩
    · rcases ab_cases h3 with rfl | rfl <;> decide +kernel
    · rcases ab_cases h3 with rfl | rfl <;> decide +kernel
theorem m_up {x : Str} {j apos} (hv : X.N[1]? = some ("_law_value" : Str)) (vis : Vis X.env.scope "_law_value") (hbase : attributeBase (.Name "_law_value" j) "upper" X.env (eval (.Name "_law_value" j) X.env) = eval (.Name "_law_value" j) X.env := by rfl) (hline : (apos.endLine == pos.line) = true := by rfl) :
    PE X (.Call (.Attribute (.Name "_law_value" j) "upper" apos) [] [] pos) (tM X.K p k (SS p x)) :=
  pe_imp (pe_upper (pe_var hv vis) hbase hline) fun _ H Q q => by
    obtain ⟨⟨h1, h2, h3⟩, q⟩ := q
    refine ⟨_, h1, ⟨_, rfl⟩, _, rfl, rfl, ?_, q _ _ (Same.refl H) (gd_of_str ?_)⟩
    · rcases ab_cases h3 with rfl | rfl <;> decide +kernel
    · rcases ab_cases h3 with rfl | rfl <;> decide +kernel
theorem m_slst {x : Str} {j} (hv : X.N[1]? = some ("_law_value" : Str)) (vis : Vis X.env.scope "_law_value") (hs : starEach [.Name "_law_value" j] X.env = (false, eval (.Name "_law_value" j) X.env) :: starEach [] X.env := by rfl) : PE X (.List [.Name "_law_value" j] pos) (tM X.K p (k + 1) (SS p x)) :=
  pe_imp (pe_lst (pa_cons (pe_var hv vis) pa_nil hs)) fun _ H Q q => ⟨_, q.1.1, (by show 1 ≤ sizeLine; decide), fun t nt => q.2 _ _ (same_new nt _) (.lst (.cons (gd_of_str (ab_small q.1.2.2)) .nil) (by show 1 ≤ 20; decide) (SqL.of (mk_new q.1.2.1 nt)))⟩
end
end K00

set_option Elab.async false
set_option linter.all false
set_option maxRecDepth 100000
set_option maxHeartbeats 4000000
namespace K00
open PySem L2 LG
/-! ### a bent value -/
def spBent (K : PySem.W.Frag) (m : Nat) : Sp := fun vs H Q _ => ∃ (p : Addr) (v : V) (b n : Nat) (d : PyData), vs = [.ref p, v] ∧ m = n + 1 ∧ n ≤ 30 ∧ PotAt H p b ∧ b + 3 * m ≤ 100000 ∧ Dp K (mk p H) v d ∧ bd n d = true ∧
  ∀ (x : V) (H' : Hp), But p H H' → PotAt H' p (b + 3 * m) → Gd K (n + 1) (mk p H') x → Q x H'
section
variable {P : Program} {w : World} {K : PySem.W.Frag} {mg : Str → Option Value} {base : Heap}
theorem no_bent {f : Addr} {fd : FuncData} {k : Nat} : FnOk P w K mg base CX0 k f fd ["_law_pot_here", "_law_value"] (spBent K 0) := by
  have no : ∀ vs H Q E, ¬ spBent K 0 vs H Q E := fun vs H Q E h => by
    obtain ⟨p, v, b, n, d, _, e, _⟩ := h
    exact nomatch e
  exact ⟨fun vs H Q E h => absurd h (no vs H Q E), fun A outer s H args us vs Q E _ _ _ _ h => absurd h (no vs H Q E)⟩
theorem scBent : FnScope ["_law_pot_here", "_law_value", "_law_at", "_law_some"] ["_law_pot_here", "_law_value"] (defScope sBent) := ⟨rfl, rfl, rfl, by decide +kernel, rfl, by decide +kernel, by decide +kernel⟩
/-- what the callees are worth -/
structure Bent (P : Program) (w : World) (K : PySem.W.Frag) (mg : Str → Option Value) (base : Heap) : Prop where
  take : ∃ g gd, FnOk P w K mg base CX0 1 g gd ["_law_pot_here", "_law_upto"] spTake ∧ mg "_law_take" = some (.ref g) ∧ PySem.W.keepIn K (.ref g) = true ∧ Binds K gd ["_law_pot_here", "_law_upto"] []
  one : ∃ g gd, FnOk P w K mg base CX0 2 g gd ["_law_pot_here", "_law_some"] (spOf K) ∧ mg "_law_of" = some (.ref g) ∧ PySem.W.keepIn K (.ref g) = true ∧ Binds K gd ["_law_pot_here", "_law_some"] []
section
variable {X : Cx} {p1 p2 p3 pos : Pos}
theorem pt_is {T : String} {x : Str} (hx : x = Str.ofString T) (hv : X.N[1]? = some ("_law_value" : Str)) (vis : Vis X.env.scope "_law_value") (hI : Gl X "isinstance") (mI : X.mg "isinstance" = none) (hT : Gl X x) (mT : X.mg x = none) (bT : bootBuiltins x = some (.type T)) (hn : x ≠ "__name__") (hd : (x == ("__debug__" : Str)) = false)
    (hs : starEach [.Name "_law_value" p2, .Name x p3] X.env = (false, eval (.Name "_law_value" p2) X.env) :: starEach [.Name x p3] X.env := by rfl) (hs2 : starEach [.Name x p3] X.env = (false, eval (.Name x p3) X.env) :: starEach [] X.env := by rfl)
    (hpl : (backTo pos (starEach [.Name x p3] X.env)).any (·.1) = false := by rfl) :
    PT X (.Call (.Name "isinstance" p1) [.Name "_law_value" p2, .Name x p3] [] pos) (fun σ H Q => ∃ v t b, σ[1]? = some (some v) ∧ TyX X.K H v (.type t) ∧ kitB t T = some b ∧ Q b H) := by
  have h := pt_val (pe_callB (p := p1) (pos := pos) call_isi hI mI (by decide +kernel) (pa_cons (pe_var (pos := p2) hv vis) (pa_cons (pe_bltn (pos := p3) (v := .ty T) (u := .type T) hT mT bT rfl hn hd) pa_nil hs2) hs) (by decide) (by decide) hs hpl)
  refine ⟨fun pins s σ H Q I q => h.run pins s σ H Q I ?_⟩
  obtain ⟨v, t, b, e, ty, k, q⟩ := q
  exact ⟨v, e, v, _, _, _, _, rfl, .ty _, ty, kit_ty k, _, rfl, q⟩
end
theorem nextIf {c : Bool} {A B C : Prop} (hc : ¬ c = true) (h : C) : (if c = true then A else C) := by
  rw [if_neg hc]
  exact h
theorem ty_tup {H : Hp} {a : Addr} {xs : List V} (h : SqT K H a xs) : TyX K H (.ref a) (.type "tuple") := by
  rcases h with (h | ⟨o, h⟩) | ⟨o, its, n, h, c, _⟩
  · exact .base (.tup h)
  · exact .fTuple h
  · exact .kTuple h c
theorem pick {H : Hp} {n : Nat} : ∀ {ds : List PyData} {xs : List V}, DpAll K H xs ds → bds n ds = true → ∀ x ∈ xs, ∃ d, Dp K H x d ∧ bd n d = true
  | [], _, h, _, x, hx => by
    cases h
    cases hx
  | d :: ds, _, h, e, x, hx => by
    cases h with
    | cons h1 h2 =>
      simp only [bds, Bool.and_eq_true] at e
      rcases List.mem_cons.mp hx with rfl | hx
      · exact ⟨d, h1, e.1⟩
      · exact pick h2 e.2 x hx
theorem bent_pot {p : Addr} {H : Hp} {b n : Nat} (h : PotAt H p b) (hn : n + 1 ≤ 100001) : PotAt H p (b + 3 * (n + 1)) := h.mono (by omega)
theorem ok_bent {f : Addr} {fd : FuncData} {m : Nat} (F : Fun K "_law_bent" "_law_bent" sBent f fd) (T : Names mg) (B : Bent P w K mg base) (G : FnOk P w K mg base CX0 (m + 4) f fd ["_law_pot_here", "_law_value"] (spBent K m))
    (mG : mg "_law_bent" = some (.ref f)) (bG : Binds K fd ["_law_pot_here", "_law_value"] []) : FnOk P w K mg base CX0 (m + 5) f fd ["_law_pot_here", "_law_value"] (spBent K (m + 1)) := by
  obtain ⟨gt, gtd, GT, mT, kT, bT⟩ := B.take
  obtain ⟨go, god, GO, mO, kO, bO⟩ := B.one
  refine F.ok scBent (fun vs H Q E h => ?_) (fun cdv A outer s H vs Q E hr h => ?_)
  · obtain ⟨p, v, b, n, d, rfl, _⟩ := h
    rfl
  obtain ⟨p, v, b, n, d, rfl, em, hn, hp, hb, hd, hbd, q⟩ := h
  have e1 : n = m := by omega
  subst e1
  have r1 : Room 1 _ := hr.mono (by omega)
  have r2 : Room 2 _ := hr.mono (by omega)
  have hpt := hp.there
  have hdH : Dp K H v d := Dp_same (mk_self p H) d v hd
  obtain ⟨T0, ty, eT⟩ := ty_of hdH
  cases d with
  | none =>
    simp only [bd] at hbd
    cases hbd
  | bool _ =>
    simp only [bd] at hbd
    cases hbd
  | list _ =>
    simp only [bd] at hbd
    cases hbd
  | dict _ =>
    simp only [bd] at hbd
    cases hbd
  | int i =>
    cases hd
    have eT : T0 = "int" := eT
    subst eT
    simp only [bd, decide_eq_true_eq] at hbd
    refine ⟨_, pss_cons (ps_if (PW.pt (pw_and (pt_is (T := "tuple") rfl rfl (Or.inl rfl) rfl T.isinstance rfl T.tuple (by decide +kernel) (by decide) (by decide)) (pw_and (pt_cmpR (op_neD hr.units) (pv 1) (pe_tup pa_nil) (nomark _)) (pw_and1 (pt_cmpR op_gt (pe_call GT r1 rfl mT kT bT .nil pass0 (pa_cons (pv 0) (pa_cons pe_int pa_nil))) pe_int (nomark _)))))) pss_never pss_nil)
      (pss_cons (ps_if (pt_is (T := "tuple") rfl rfl (Or.inl rfl) rfl T.isinstance rfl T.tuple (by decide +kernel) (by decide) (by decide)) pss_never pss_nil)
      (pss_cons (ps_if (pt_is (T := "bool") rfl rfl (Or.inl rfl) rfl T.isinstance rfl T.bool (by decide +kernel) (by decide) (by decide)) pss_never pss_nil)
      (pss_cons (ps_if (pt_is (T := "int") rfl rfl (Or.inl rfl) rfl T.isinstance rfl T.int (by decide +kernel) (by decide) (by decide)) (pss_one (ps_ret (pe_call GO r2 rfl mO kO bO .nil pass0 (pa_cons (pv 0) (pa_cons (pe_lst
          (pm_cons (p := p) (k := n + 1) (S := SI p i) SI.stays (m_inc rfl (Or.inl rfl)) (pm_cons SI.stays (m_dec rfl (Or.inl rfl)) (pm_cons SI.stays (m_one rfl (Or.inl rfl)) (pm_cons SI.stays (pm_of (fun _ _ h => h.2.1) gd_str) (pm_cons SI.stays (pm_of (fun _ _ h => h.2.1) gd_none) (pm_cons SI.stays (m_itup rfl (Or.inl rfl)) pm_nil))))))) pa_nil))))) pss_nil)
      pss_never))), ?_⟩
    refine ⟨_, _, false, rfl, ty, by decide +kernel, iteF (iteF ?_)⟩
    refine ⟨_, _, false, rfl, ty, by decide +kernel, iteF ?_⟩
    refine ⟨_, _, false, rfl, ty, by decide +kernel, iteF ?_⟩
    refine ⟨_, _, true, rfl, ty, by decide +kernel, iteT ?_⟩
    refine ⟨_, rfl, ⟨rfl, hpt, hbd⟩, fun xs H1 s1 l1 g1 => ⟨by rw [l1]; decide, fun l nl => ?_⟩⟩
    have s2 := same_new nl (.lst xs)
    refine ⟨p, l, xs, b, rfl, hp.same (s1.trans s2), by omega, SqL.of upd_same, by rw [l1]; decide, by rw [l1]; decide, new_ne (hp.same s1).there nl, fun x H' hx but pot => ?_⟩
    exact q x H' ((But.of (s1.trans s2)).trans but) (pot.mono (by omega)) ((g1 x hx).same ((mk_up s2).trans (mk_but but)))
  | str x =>
    cases hd
    have eT : T0 = "str" := eT
    subst eT
    simp only [bd] at hbd
    refine ⟨_, pss_cons (ps_if (PW.pt (pw_and (pt_is (T := "tuple") rfl rfl (Or.inl rfl) rfl T.isinstance rfl T.tuple (by decide +kernel) (by decide) (by decide)) (pw_and (pt_cmpR (op_neD hr.units) (pv 1) (pe_tup pa_nil) (nomark _)) (pw_and1 (pt_cmpR op_gt (pe_call GT r1 rfl mT kT bT .nil pass0 (pa_cons (pv 0) (pa_cons pe_int pa_nil))) pe_int (nomark _)))))) pss_never pss_nil)
      (pss_cons (ps_if (pt_is (T := "tuple") rfl rfl (Or.inl rfl) rfl T.isinstance rfl T.tuple (by decide +kernel) (by decide) (by decide)) pss_never pss_nil)
      (pss_cons (ps_if (pt_is (T := "bool") rfl rfl (Or.inl rfl) rfl T.isinstance rfl T.bool (by decide +kernel) (by decide) (by decide)) pss_never pss_nil)
      (pss_cons (ps_if (pt_is (T := "int") rfl rfl (Or.inl rfl) rfl T.isinstance rfl T.int (by decide +kernel) (by decide) (by decide)) pss_never pss_nil)
      (pss_cons (ps_if (pt_is (T := "str") rfl rfl (Or.inl rfl) rfl T.isinstance rfl T.str (by decide +kernel) (by decide) (by decide)) (pss_one (ps_ret (pe_call GO r2 rfl mO kO bO .nil pass0 (pa_cons (pv 0) (pa_cons (pe_lst
          (pm_cons (p := p) (k := n + 1) (S := SS p x) SS.stays (m_x rfl (Or.inl rfl)) (pm_cons SS.stays (m_supto rfl (Or.inl rfl)) (pm_cons SS.stays (m_up rfl (Or.inl rfl)) (pm_cons SS.stays (pm_of (fun _ _ h => h.2.1) gd_str) (pm_cons SS.stays (pm_of (fun _ _ h => h.2.1) gd_str)
          (pm_cons SS.stays (m_slst rfl (Or.inl rfl)) (pm_cons SS.stays (pm_of (fun _ _ h => h.2.1) gd_none) (pm_cons SS.stays (pm_of (fun _ _ h => h.2.1) gd_int) pm_nil))))))))) pa_nil))))) pss_nil)
      pss_never)))), ?_⟩
    refine ⟨_, _, false, rfl, ty, by decide +kernel, iteF (iteF ?_)⟩
    refine ⟨_, _, false, rfl, ty, by decide +kernel, iteF ?_⟩
    refine ⟨_, _, false, rfl, ty, by decide +kernel, iteF ?_⟩
    refine ⟨_, _, false, rfl, ty, by decide +kernel, iteF ?_⟩
    refine ⟨_, _, true, rfl, ty, by decide +kernel, iteT ?_⟩
    refine ⟨_, rfl, ⟨rfl, hpt, hbd⟩, fun xs H1 s1 l1 g1 => ⟨by rw [l1]; decide, fun l nl => ?_⟩⟩
    have s2 := same_new nl (.lst xs)
    refine ⟨p, l, xs, b, rfl, hp.same (s1.trans s2), by omega, SqL.of upd_same, by rw [l1]; decide, by rw [l1]; decide, new_ne (hp.same s1).there nl, fun x H' hx but pot => ?_⟩
    exact q x H' ((But.of (s1.trans s2)).trans but) (pot.mono (by omega)) ((g1 x hx).same ((mk_up s2).trans (mk_but but)))
  | tuple ds =>
    cases n with
    | zero =>
      simp only [bd] at hbd
      cases hbd
    | succ n =>
      cases hd with
      | @tup a xs _ hx hds =>
      have eT : T0 = "tuple" := eT
      subst eT
      have hbd0 := hbd
      simp only [bd, Bool.and_eq_true, decide_eq_true_eq] at hbd
      have hlen := DpAll_length ds xs hds
      have hx4 : xs.length ≤ 4 := by omega
      have gxs : Gds K n (mk p H) xs := ⟨ds, hds, bds_small n ds hbd.2⟩
      refine ⟨_, pss_cons (ps_if (PW.pt (pw_and (pt_is (T := "tuple") rfl rfl (Or.inl rfl) rfl T.isinstance rfl T.tuple (by decide +kernel) (by decide) (by decide)) (pw_and (pt_cmpR (op_neD hr.units) (pv 1) (pe_tup pa_nil) (nomark _)) (pw_and1 (pt_cmpR op_gt (pe_call GT r1 rfl mT kT bT .nil pass0 (pa_cons (pv 0) (pa_cons pe_int pa_nil))) pe_int (nomark _))))))
          (pss_cons (ps_set (i := 2) scBent.nd rfl (Or.inl rfl) (pe_call GT r1 rfl mT kT bT .nil pass0 (pa_cons (pv 0) (pa_cons (pe_callB call_len_seq rfl T.len PySem.boot_len (pa_cons (pv 1) pa_nil)) pa_nil))))
          (pss_one (ps_ret (pe_op op_catM (pe_op op_catM (pe_slice sl_tupM (pv 1) po_none (po_some (pv 2))) (pe_tup (pa_cons (pe_call G hr rfl mG F.kp bG .nil pass0 (pa_cons (pv 0) (pa_cons (pe_ix ix_tup (pv 1) (pv 2) (fun _ _ => rfl)) pa_nil))) pa_nil)))
            (pe_slice sl_tupM (pv 1) (po_some (pe_op op_add (pv 2) pe_int)) po_none))))) pss_nil)
        (pss_cons (ps_if (pt_is (T := "tuple") rfl rfl (Or.inl rfl) rfl T.isinstance rfl T.tuple (by decide +kernel) (by decide) (by decide))
          (pss_cons (ps_set (i := 3) scBent.nd rfl (Or.inl rfl) (pe_lst
            (pm_cons (p := p) (k := n + 1) (S := ST K p n xs) ST.stays (m_list rfl (Or.inl rfl) rfl T.list) (pm_cons ST.stays (m_from rfl (Or.inl rfl)) (pm_cons ST.stays (m_upto rfl (Or.inl rfl)) (pm_cons ST.stays (m_last rfl (Or.inl rfl)) (pm_cons ST.stays (m_back rfl (Or.inl rfl))
            (pm_cons ST.stays (pm_of (fun _ _ h => by obtain ⟨_, _, h, _⟩ := h; exact h) (gd_tup gd_nil)) (pm_cons ST.stays (pm_of (fun _ _ h => by obtain ⟨_, _, h, _⟩ := h; exact h) gd_none) (pm_cons ST.stays (m_zero rfl (Or.inl rfl)) pm_nil))))))))))
          (pss_one (ps_ret (pe_call GO r2 rfl mO kO bO .nil pass0 (pa_cons (pv 0) (pa_cons (pv 3) pa_nil)))))) pss_nil)
        pss_never), ?_⟩
      refine ⟨_, _, true, rfl, ty, by decide +kernel, iteT ?_⟩
      refine ⟨_, rfl, (by show 0 ≤ sizeLine; decide), fun t nt => ?_⟩
      have st := same_new nt (.tup [])
      have butT : But p H (upd H t (.tup [])) := But.of st
      have potT : PotAt (upd H t (.tup [])) p b := hp.same st
      have hxT : SqT K (mk p (upd H t (.tup []))) a xs := same_tup (mk_but butT) hx
      refine ⟨.tuple ds, .tuple [], Dp_same (mk_self p _) _ _ (.tup hxT (DpAll_same (mk_but butT) _ _ hds)), .tup (.inl (.inl upd_same)) .nil, bd_shaped hbd0 (by omega), rfl, _, rfl, ?_⟩
      cases ds with
      | nil =>
        refine iteF (iteF ?_)
        refine ⟨_, _, true, rfl, ty_tup (same_tup (mk_self p (upd H t (.tup []))) (same_tup (mk_but butT) hx)), by decide +kernel, iteT ?_⟩
        refine ⟨⟨_, rfl, potT.there, TupM.same butT ⟨a, rfl, hx⟩, gxs.same (mk_but butT), hx4⟩, fun ys G2 s2 l2 g2 => ⟨by rw [l2]; decide, fun l nl => ?_⟩⟩
        have s3 := same_new nl (.lst ys)
        refine ⟨_, rfl, _, rfl, p, l, ys, b, rfl, potT.same (s2.trans s3), by omega, SqL.of upd_same, by rw [l2]; decide, by rw [l2]; decide, new_ne (potT.same s2).there nl, fun x H' hx' but pot => ?_⟩
        exact q x H' ((butT.trans (But.of (s2.trans s3))).trans but) (pot.mono (by omega)) (((g2 x hx').same ((mk_up s3).trans (mk_but but))).le (by omega))
      | cons d0 ds =>
        refine iteT ?_
        have x0 : 1 ≤ xs.length := by
          rw [← hlen, List.length_cons]
          omega
        refine ⟨_, rfl, p, 6, b, rfl, potT, by omega, by decide, by decide, fun k H2 k0 k1 but2 pot2 => ⟨_, _, rfl, rfl, _, rfl, ?_⟩⟩
        have but12 := butT.trans but2
        refine ite2 (fun c => ?_) (fun c => ?_)
        · have hx2 : SqT K (mk p H2) a xs := same_tup (mk_but but12) hx
          refine ⟨_, rfl, _, rfl, a, xs, rfl, .inr (same_tup (mk_self p H2) hx2), p, _, b + 1, rfl, pot2, by omega, by omega, by omega, fun j H3 j0 j1 but3 pot3 => ?_⟩
          have but13 := but12.trans but3
          have hx3 : SqT K (mk p H3) a xs := same_tup (mk_but but13) hx
          refine ⟨_, rfl, _, rfl, _, rfl, p, xs, pot3.there, ⟨a, rfl, hx3⟩, fun z1 H4 s4 t4 => ?_⟩
          have but14 := but13.trans (But.of s4)
          have pot4 := pot3.same s4
          have hx4' : SqT K (mk p H4) a xs := same_tup (mk_but but14) hx
          have jl : j.toNat < xs.length := by omega
          have at_ : atI xs j = some xs[j.toNat] := at_of (j := j.toNat) (by omega) (List.getElem?_eq_getElem jl)
          obtain ⟨dj, hdj, bdj⟩ := pick (DpAll_same (mk_but but14) _ _ hds) hbd.2 _ (List.getElem_mem jl)
          refine ⟨_, rfl, _, rfl, _, rfl, a, xs, j, _, rfl, rfl, same_tup (mk_self p H4) hx4', at_, p, _, b + 2, n, dj, rfl, rfl, by omega, pot4, by omega, hdj, bdj, fun y H5 but5 pot5 gy => ⟨(by show 1 ≤ sizeLine; decide), fun t5 nt5 => ?_⟩⟩
          have s5 := same_new nt5 (.tup [y])
          have but15 := (but14.trans but5).trans (But.of s5)
          have pot6 := pot5.same s5
          have len1 := cut_len (lo := none) (hi := some j) hx4
          have len2 := cut_len (lo := some (j + 1)) (hi := none) hx4
          refine ⟨p, _, [y], pot6.there, (t4.same but5).same (But.of s5), ⟨t5, rfl, .inl (.inl (mk_new pot5.there nt5))⟩, by rw [List.length_singleton]; omega, fun z2 H7 s7 t7 => ?_⟩
          have but17 := but15.trans (But.of s7)
          refine ⟨_, rfl, _, rfl, _, _, rfl, rfl, _, rfl, p, xs, (pot6.same s7).there, ⟨a, rfl, same_tup (mk_but but17) hx⟩, fun z3 H8 s8 t8 => ?_⟩
          have but18 := but17.trans (But.of s8)
          refine ⟨p, _, _, ((pot6.same s7).same s8).there, t7.same (But.of s8), t8, by rw [List.length_append, List.length_singleton]; omega, fun z4 H9 s9 t9 => ?_⟩
          have but19 := but18.trans (But.of s9)
          have s59 : Same H5 H9 := (s5.trans s7).trans (s8.trans s9)
          have gx9 : Gds K (n + 1) (mk p H9) xs := (gxs.same (mk_but but19)).le (by omega)
          refine q z4 H9 but19 ((pot5.same s59).mono (by omega)) (tup_good t9 (((gx9.cut _ _).app (.cons (gy.same (mk_up s59)) .nil)).app (gx9.cut _ _)) ?_)
          rw [List.length_append, List.length_append, List.length_singleton]
          omega
        · refine ⟨_, _, true, rfl, ty_tup (same_tup (mk_self p H2) (same_tup (mk_but but12) hx)), by decide +kernel, iteT ?_⟩
          refine ⟨⟨_, rfl, pot2.there, TupM.same but12 ⟨a, rfl, hx⟩, gxs.same (mk_but but12), hx4⟩, fun ys G2 s2 l2 g2 => ⟨by rw [l2]; decide, fun l nl => ?_⟩⟩
          have s3 := same_new nl (.lst ys)
          refine ⟨_, rfl, _, rfl, p, l, ys, (b + 1), rfl, pot2.same (s2.trans s3), by omega, SqL.of upd_same, by rw [l2]; decide, by rw [l2]; decide, new_ne (pot2.same s2).there nl, fun x H' hx' but pot => ?_⟩
          exact q x H' ((but12.trans (But.of (s2.trans s3))).trans but) (pot.mono (by omega)) (((g2 x hx').same ((mk_up s3).trans (mk_but but))).le (by omega))
end
end K00

set_option Elab.async false
set_option linter.all false
set_option maxRecDepth 100000
set_option maxHeartbeats 4000000
namespace K00
open PySem L2 LG
/-! ### the errors -/
def vf (v : V) : List (Str × V) := [(("value" : Str), v)]
theorem vf_get (v : V) : (vf v).lookup ("value" : Str) = some v := by
  unfold vf
  simp [List.lookup]
def spInit (K : PySem.W.Frag) : Sp := fun vs H Q _ => ∃ (a C : Addr) (v : V), vs = [.ref a, v] ∧ OexC K C ∧ PySem.W.findIn K (.ref C) "value" = some none ∧ H a = some (exo a C none) ∧
  ∀ d, H d = none → d ≠ a → Q .non (upd (upd H d (exd d (vf v))) a (exo a C (some d)))
/-- a class of errors by its name -/
structure ECl (K : PySem.W.Frag) (mg : Str → Option Value) (fI : Addr) (x : Str) (C : Addr) : Prop where
  mg : mg x = some (.ref C)
  er : ErrC K C
  ini : PySem.W.findIn K (.ref C) "__init__" = some (some (.ref fI))
  no : PySem.W.findIn K (.ref C) "value" = some none
section
variable {P : Program} {w : World} {K : PySem.W.Frag} {mg : Str → Option Value} {base : Heap}
theorem scInit : FnScope ["self", "value"] ["self", "value"] (defScope sInit) := ⟨rfl, rfl, rfl, by decide +kernel, rfl, by decide +kernel, by decide +kernel⟩
theorem ok_init {f : Addr} {fd : FuncData} (F : Fun K "__init__" "BoxError.__init__" sInit f fd) : FnOk P w K mg base CX0 1 f fd ["self", "value"] (spInit K) := by
  refine F.ok scInit (fun vs H Q E h => ?_) (fun cdv A outer s H vs Q E hr h => ?_)
  · obtain ⟨a, C, v, rfl, _⟩ := h
    rfl
  obtain ⟨a, C, v, rfl, T, no, ha, q⟩ := h
  refine ⟨_, pss_one (ps_ost (pv 0) (pv 1)), ?_⟩
  exact ⟨_, rfl, _, rfl, a, C, rfl, T, no, .inl ⟨ha, fun d nd ne => q d nd ne⟩⟩
end
/-- the init as a callee -/
structure Ini (P : Program) (w : World) (K : PySem.W.Frag) (mg : Str → Option Value) (base : Heap) (fI : Addr) : Prop where
  ex : ∃ fd, FnOk P w K mg base CX0 1 fI fd ["self", "value"] (spInit K) ∧ Binds K fd ["self", "value"] []
  ty : PySem.W.typeIn K (.ref fI) = some (.type "function")
def IsErr (H : Hp) (v : V) (C : Addr) (x : V) : Prop := ∃ a d, x = .ref a ∧ ErrAt H a C d (vf v)
theorem IsErr.same {H H' : Hp} {v x : V} {C : Addr} (s : Same H H') (h : IsErr H v C x) : IsErr H' v C x := by
  obtain ⟨a, d, e, q⟩ := h
  exact ⟨a, d, e, q.same s⟩
abbrev Errs (H : Hp) (v : V) : List Addr → List V → Prop := Paired fun C x => IsErr H v C x
theorem Errs.same {H H' : Hp} {v : V} (s : Same H H') {Cs : List Addr} {xs : List V} (h : Errs H v Cs xs) : Errs H' v Cs xs := by
  induction h with
  | nil => exact .nil
  | cons a _ ih => exact .cons (a.same s) ih
theorem Errs.app {H : Hp} {v : V} {Cs Ds : List Addr} {xs ys : List V} (h : Errs H v Cs xs) (r : Errs H v Ds ys) : Errs H v (Cs ++ Ds) (xs ++ ys) := by
  induction h with
  | nil => exact r
  | cons a _ ih => exact .cons a ih
theorem exd_lst {d : Addr} {fs : List (Str × V)} {xs : List V} : exd d fs ≠ .lst xs := fun z => by
  have z' : HO.ext _ = HO.lst xs := z
  cases z'
theorem exo_lst {e C : Addr} {d : Option Addr} {xs : List V} : exo e C d ≠ .lst xs := fun z => by
  have z' : HO.ext _ = HO.lst xs := z
  cases z'
theorem IsErr.put {H : Hp} {v x : V} {C l : Addr} {xs ys : List V} (hl : H l = some (.lst xs)) (h : IsErr H v C x) : IsErr (upd H l (.lst ys)) v C x := by
  obtain ⟨a, d, e, q⟩ := h
  refine ⟨a, d, e, ?_, ?_⟩
  · rw [upd_ne (ne_of q.ob hl exo_lst)]
    exact q.ob
  · rw [upd_ne (ne_of q.dc hl exd_lst)]
    exact q.dc
theorem Errs.put {H : Hp} {v : V} {l : Addr} {zs ys : List V} (hl : H l = some (.lst zs)) {Cs : List Addr} {xs : List V} (h : Errs H v Cs xs) : Errs (upd H l (.lst ys)) v Cs xs := by
  induction h with
  | nil => exact .nil
  | cons a _ ih => exact .cons (a.put hl) ih
/-- an error is made of what stands in slot i -/
def tErr (i : Nat) (C : Addr) : TE := fun σ H Q => ∃ v, σ[i]? = some (some v) ∧ ∀ x H', Same H H' → IsErr H' v C x → Q x H'
def tErrs (Cs : List Addr) : TA := fun σ H Q => ∃ v, σ[0]? = some (some v) ∧ ∀ xs H', Same H H' → Errs H' v Cs xs → Q xs H'
section
variable {X : Cx} {e : Expr} {es : List Expr} {C fI : Addr} {Cs : List Addr} {x : Str} {i : Nat} {p1 p2 pos : Pos}
theorem pe_err (I : Ini X.prog X.w X.K X.mg X.base fI) (c : ECl X.K X.mg fI x C) (hr : Room 2 X.A) (he : PE X e (tVar i)) (hg : Gl X x) (hdb : (x == ("__debug__" : Str)) = false := by decide) (hs : starEach [e] X.env = (false, eval e X.env) :: starEach [] X.env := by rfl)
    (hpl : (backTo pos (starEach [] X.env)).any (·.1) = false := by rfl) : PE X (.Call (.Name x p1) [e] [] pos) (tErr i C) := by
  obtain ⟨fd, G, bG⟩ := I.ex
  refine pe_imp (pe_errv c.er.ox c.ini I.ty G hr bG hg c.mg (pa_cons he pa_nil hs) hdb hs hpl) fun σ H Q q => ?_
  obtain ⟨v, e1, q⟩ := q
  refine ⟨v, e1, (by show 1 ≤ 1000; decide), fun a na => ⟨a, C, v, rfl, c.er.ox, c.no, upd_same, fun d nd ne => ⟨rfl, ?_⟩⟩⟩
  have ea : upd (upd (upd H a (exo a C none)) d (exd d (vf v))) a (exo a C (some d)) = upd (upd H d (exd d (vf v))) a (exo a C (some d)) := by
    funext b
    by_cases hb : b = a
    · rw [hb, upd_same, upd_same]
    · rw [upd_ne hb, upd_ne hb]
      by_cases hd : b = d
      · rw [hd, upd_same, upd_same]
      · rw [upd_ne hd, upd_ne hd, upd_ne hb]
  rw [ea]
  have nd' : H d = none := by
    rw [upd_ne ne] at nd
    exact nd
  have na2 : (upd H d (exd d (vf v))) a = none := by
    rw [upd_ne (Ne.symm ne)]
    exact na
  refine q _ _ ((same_new nd' _).trans (same_new na2 _)) ⟨a, d, rfl, upd_same, ?_⟩
  rw [upd_ne ne, upd_same]
theorem pa_err0 : PA X [] (tErrs []) := pa_imp pa_nil fun _ H Q h => by
  obtain ⟨v, _, q⟩ := h
  exact q _ _ (Same.refl H) .nil
theorem pa_err (h : PE X e (tErr 0 C)) (r : PA X es (tErrs Cs)) (hs : starEach (e :: es) X.env = (false, eval e X.env) :: starEach es X.env := by rfl) : PA X (e :: es) (tErrs (C :: Cs)) :=
  pa_imp (pa_cons h r hs) fun _ H Q q => by
    obtain ⟨v, e1, q⟩ := q
    exact ⟨v, e1, fun x H1 s1 g1 => ⟨v, e1, fun xs H2 s2 g2 => q _ _ (s1.trans s2) (.cons (g1.same s2) g2)⟩⟩
end
/-- many names with their classes -/
abbrev ECls (K : PySem.W.Frag) (mg : Str → Option Value) (fI : Addr) : List Str → List Addr → Prop := Paired fun x C => ECl K mg fI x C
def spErrors (Cs : List Addr) : Sp := fun vs H Q _ => ∃ v, vs = [v] ∧ ∀ (l : Addr) (xs : List V) (H' : Hp), Same H H' → H l = none → H' l = some (.lst xs) → Errs H' v Cs xs → Q (.ref l) H'
section
variable {P : Program} {w : World} {K : PySem.W.Frag} {mg : Str → Option Value} {base : Heap} {fI C0 C1 C2 C3 C4 C5 C6 C7 C8 C9 C10 C11 C12 C13 C14 C15 C16 C17 C18 C19 C20 C21 C22 C23 C24 C25 C26 C27 C28 C29 C30 C31 C32 C33 : Addr}
theorem scErrors : FnScope ["_law_value", "_law_found"] ["_law_value"] (defScope sErrors) := ⟨rfl, rfl, rfl, by decide +kernel, rfl, by decide +kernel, by decide +kernel⟩
theorem ok_errors {f : Addr} {fd : FuncData} (F : Fun K "_law_errors" "_law_errors" sErrors f fd) (I : Ini P w K mg base fI)
    (c0 : ECl K mg fI "BadDevice" C0) (c1 : ECl K mg fI "NoState" C1) (c2 : ECl K mg fI "NoCall" C2) (c3 : ECl K mg fI "NoAnswer" C3) (c4 : ECl K mg fI "BadWalk" C4) (c5 : ECl K mg fI "OtherCalls" C5) (c6 : ECl K mg fI "BadTests" C6) (c7 : ECl K mg fI "Quarrel" C7) (c8 : ECl K mg fI "Many" C8) (c9 : ECl K mg fI "NoNode" C9) (c10 : ECl K mg fI "BadTest" C10) (c11 : ECl K mg fI "Full" C11) (c12 : ECl K mg fI "NoTest" C12) (c13 : ECl K mg fI "BadWalks" C13) (c14 : ECl K mg fI "BadNumber" C14) (c15 : ECl K mg fI "Long" C15) (c16 : ECl K mg fI "Against" C16) (c17 : ECl K mg fI "Few" C17) (c18 : ECl K mg fI "Wide" C18) (c19 : ECl K mg fI "BadMenu" C19) (c20 : ECl K mg fI "BadLot" C20) (c21 : ECl K mg fI "NotLeast" C21) (c22 : ECl K mg fI "BadDevices" C22) (c23 : ECl K mg fI "BadLog" C23) (c24 : ECl K mg fI "BadTellings" C24) (c25 : ECl K mg fI "BadWatch" C25) (c26 : ECl K mg fI "Unfit" C26) (c27 : ECl K mg fI "BadBench" C27) (c28 : ECl K mg fI "Contrary" C28) (c29 : ECl K mg fI "NothingToUndo" C29) (c30 : ECl K mg fI "NothingToRedo" C30) (c31 : ECl K mg fI "NoTrial" C31) (c32 : ECl K mg fI "BadJournal" C32) (c33 : ECl K mg fI "BadLine" C33) :
    FnOk P w K mg base CX0 3 f fd ["_law_value"] (spErrors [C0, C1, C2, C3, C4, C5, C6, C7, C8, C9, C10, C11, C12, C13, C14, C15, C16, C17, C18, C19, C20, C21, C22, C23, C24, C25, C26, C27, C28, C29, C30, C31, C32, C33]) := by
  refine F.ok scErrors (fun vs H Q E h => ?_) (fun cdv A outer s H vs Q E hr h => ?_)
  · obtain ⟨v, rfl, _⟩ := h
    rfl
  obtain ⟨v, rfl, q⟩ := h
  refine ⟨_, pss_cons (ps_set (i := 1) scErrors.nd rfl (Or.inl rfl) (pe_lst (pa_err (pe_err I c0 hr (pv 0) rfl) (pa_err (pe_err I c1 hr (pv 0) rfl) (pa_err (pe_err I c2 hr (pv 0) rfl) (pa_err (pe_err I c3 hr (pv 0) rfl) (pa_err (pe_err I c4 hr (pv 0) rfl) (pa_err (pe_err I c5 hr (pv 0) rfl) pa_err0))))))))
    (pss_cons (ps_expr (pe_bm PySem.F.plainAttrs_list PySem.F.slot_list_extend PySem.F.type_list_extend mt_extend (pv 1) (pa_cons (pe_lst (pa_err (pe_err I c6 hr (pv 0) rfl) (pa_err (pe_err I c7 hr (pv 0) rfl) (pa_err (pe_err I c8 hr (pv 0) rfl) (pa_err (pe_err I c9 hr (pv 0) rfl) (pa_err (pe_err I c10 hr (pv 0) rfl) (pa_err (pe_err I c11 hr (pv 0) rfl) pa_err0))))))) pa_nil)))
    (pss_cons (ps_expr (pe_bm PySem.F.plainAttrs_list PySem.F.slot_list_extend PySem.F.type_list_extend mt_extend (pv 1) (pa_cons (pe_lst (pa_err (pe_err I c12 hr (pv 0) rfl) (pa_err (pe_err I c13 hr (pv 0) rfl) (pa_err (pe_err I c14 hr (pv 0) rfl) (pa_err (pe_err I c15 hr (pv 0) rfl) (pa_err (pe_err I c16 hr (pv 0) rfl) (pa_err (pe_err I c17 hr (pv 0) rfl) pa_err0))))))) pa_nil)))
    (pss_cons (ps_expr (pe_bm PySem.F.plainAttrs_list PySem.F.slot_list_extend PySem.F.type_list_extend mt_extend (pv 1) (pa_cons (pe_lst (pa_err (pe_err I c18 hr (pv 0) rfl) (pa_err (pe_err I c19 hr (pv 0) rfl) (pa_err (pe_err I c20 hr (pv 0) rfl) (pa_err (pe_err I c21 hr (pv 0) rfl) (pa_err (pe_err I c22 hr (pv 0) rfl) (pa_err (pe_err I c23 hr (pv 0) rfl) pa_err0))))))) pa_nil)))
    (pss_cons (ps_expr (pe_bm PySem.F.plainAttrs_list PySem.F.slot_list_extend PySem.F.type_list_extend mt_extend (pv 1) (pa_cons (pe_lst (pa_err (pe_err I c24 hr (pv 0) rfl) (pa_err (pe_err I c25 hr (pv 0) rfl) (pa_err (pe_err I c26 hr (pv 0) rfl) (pa_err (pe_err I c27 hr (pv 0) rfl) (pa_err (pe_err I c28 hr (pv 0) rfl) pa_err0)))))) pa_nil)))
    (pss_cons (ps_expr (pe_bm PySem.F.plainAttrs_list PySem.F.slot_list_extend PySem.F.type_list_extend mt_extend (pv 1) (pa_cons (pe_lst (pa_err (pe_err I c29 hr (pv 0) rfl) pa_err0)) pa_nil)))
    (pss_cons (ps_expr (pe_bm PySem.F.plainAttrs_list PySem.F.slot_list_extend PySem.F.type_list_extend mt_extend (pv 1) (pa_cons (pe_lst (pa_err (pe_err I c30 hr (pv 0) rfl) (pa_err (pe_err I c31 hr (pv 0) rfl) (pa_err (pe_err I c32 hr (pv 0) rfl) (pa_err (pe_err I c33 hr (pv 0) rfl) pa_err0))))) pa_nil)))
    (pss_one (ps_ret (pv 1))))))))), ?_⟩
  refine ⟨_, rfl, fun xs H0 s0 g0 => ⟨by rw [← Paired.length g0]; show 6 ≤ sizeLine; decide, fun l nl => ?_⟩⟩
  have nlH : H l = none := s0.free nl
  have k0 : (upd H0 l (.lst xs)) l = some (.lst xs) := upd_same
  have b0 : Same H (upd H0 l (.lst xs)) := s0.trans (same_new nl _)
  have e0 : Errs (upd H0 l (.lst xs)) v _ xs := g0.same (same_new nl _)
  have n0 := Paired.length e0
  generalize upd H0 l (.lst xs) = G0 at k0 b0 e0 ⊢
  refine ⟨_, rfl, .inl ⟨rfl, _, SqL.of k0⟩, _, rfl, fun ys1 H1 s1 g1 => ⟨by rw [← Paired.length g1]; show 6 ≤ sizeLine; decide, fun m1 nm1 => ?_⟩⟩
  have sm1 := same_new nm1 (.lst ys1)
  have ne1 : l ≠ m1 := fun z => by
    have z1 := s1 _ _ k0
    rw [z, nm1] at z1
    cases z1
  have lk1 := sm1 _ _ (s1 _ _ k0)
  have ln1 := Paired.length g1
  refine ⟨l, m1, _, _, rfl, rfl, lk1, upd_same, by rw [← n0, ← ln1]; show 12 ≤ sizeLine; decide, ?_⟩
  have k1 : (upd (upd H1 m1 (.lst ys1)) l (.lst (xs ++ ys1))) l = some (.lst (xs ++ ys1)) := upd_same
  have b1 : Same H (upd (upd H1 m1 (.lst ys1)) l (.lst (xs ++ ys1))) := fun c o hc => by
    rw [upd_ne (fun z => by rw [z, nlH] at hc; cases hc)]
    exact sm1 _ _ (s1 _ _ (b0 _ _ hc))
  have e1 : Errs (upd (upd H1 m1 (.lst ys1)) l (.lst (xs ++ ys1))) v _ (xs ++ ys1) := ((e0.same (s1.trans sm1)).put lk1).app ((g1.same sm1).put lk1)
  have n1 := Paired.length e1
  generalize upd (upd H1 m1 (.lst ys1)) l (.lst (xs ++ ys1)) = G1 at k1 b1 e1 ⊢
  generalize xs ++ ys1 = zs1 at k1 e1 n1 ⊢
  refine ⟨_, rfl, .inl ⟨rfl, _, SqL.of k1⟩, _, rfl, fun ys2 H2 s2 g2 => ⟨by rw [← Paired.length g2]; show 6 ≤ sizeLine; decide, fun m2 nm2 => ?_⟩⟩
  have sm2 := same_new nm2 (.lst ys2)
  have ne2 : l ≠ m2 := fun z => by
    have z1 := s2 _ _ k1
    rw [z, nm2] at z1
    cases z1
  have lk2 := sm2 _ _ (s2 _ _ k1)
  have ln2 := Paired.length g2
  refine ⟨l, m2, _, _, rfl, rfl, lk2, upd_same, by rw [← n1, ← ln2]; show 18 ≤ sizeLine; decide, ?_⟩
  have k2 : (upd (upd H2 m2 (.lst ys2)) l (.lst (zs1 ++ ys2))) l = some (.lst (zs1 ++ ys2)) := upd_same
  have b2 : Same H (upd (upd H2 m2 (.lst ys2)) l (.lst (zs1 ++ ys2))) := fun c o hc => by
    rw [upd_ne (fun z => by rw [z, nlH] at hc; cases hc)]
    exact sm2 _ _ (s2 _ _ (b1 _ _ hc))
  have e2 : Errs (upd (upd H2 m2 (.lst ys2)) l (.lst (zs1 ++ ys2))) v _ (zs1 ++ ys2) := ((e1.same (s2.trans sm2)).put lk2).app ((g2.same sm2).put lk2)
  have n2 := Paired.length e2
  generalize upd (upd H2 m2 (.lst ys2)) l (.lst (zs1 ++ ys2)) = G2 at k2 b2 e2 ⊢
  generalize zs1 ++ ys2 = zs2 at k2 e2 n2 ⊢
  refine ⟨_, rfl, .inl ⟨rfl, _, SqL.of k2⟩, _, rfl, fun ys3 H3 s3 g3 => ⟨by rw [← Paired.length g3]; show 6 ≤ sizeLine; decide, fun m3 nm3 => ?_⟩⟩
  have sm3 := same_new nm3 (.lst ys3)
  have ne3 : l ≠ m3 := fun z => by
    have z1 := s3 _ _ k2
    rw [z, nm3] at z1
    cases z1
  have lk3 := sm3 _ _ (s3 _ _ k2)
  have ln3 := Paired.length g3
  refine ⟨l, m3, _, _, rfl, rfl, lk3, upd_same, by rw [← n2, ← ln3]; show 24 ≤ sizeLine; decide, ?_⟩
  have k3 : (upd (upd H3 m3 (.lst ys3)) l (.lst (zs2 ++ ys3))) l = some (.lst (zs2 ++ ys3)) := upd_same
  have b3 : Same H (upd (upd H3 m3 (.lst ys3)) l (.lst (zs2 ++ ys3))) := fun c o hc => by
    rw [upd_ne (fun z => by rw [z, nlH] at hc; cases hc)]
    exact sm3 _ _ (s3 _ _ (b2 _ _ hc))
  have e3 : Errs (upd (upd H3 m3 (.lst ys3)) l (.lst (zs2 ++ ys3))) v _ (zs2 ++ ys3) := ((e2.same (s3.trans sm3)).put lk3).app ((g3.same sm3).put lk3)
  have n3 := Paired.length e3
  generalize upd (upd H3 m3 (.lst ys3)) l (.lst (zs2 ++ ys3)) = G3 at k3 b3 e3 ⊢
  generalize zs2 ++ ys3 = zs3 at k3 e3 n3 ⊢
  refine ⟨_, rfl, .inl ⟨rfl, _, SqL.of k3⟩, _, rfl, fun ys4 H4 s4 g4 => ⟨by rw [← Paired.length g4]; show 5 ≤ sizeLine; decide, fun m4 nm4 => ?_⟩⟩
  have sm4 := same_new nm4 (.lst ys4)
  have ne4 : l ≠ m4 := fun z => by
    have z1 := s4 _ _ k3
    rw [z, nm4] at z1
    cases z1
  have lk4 := sm4 _ _ (s4 _ _ k3)
  have ln4 := Paired.length g4
  refine ⟨l, m4, _, _, rfl, rfl, lk4, upd_same, by rw [← n3, ← ln4]; show 29 ≤ sizeLine; decide, ?_⟩
  have k4 : (upd (upd H4 m4 (.lst ys4)) l (.lst (zs3 ++ ys4))) l = some (.lst (zs3 ++ ys4)) := upd_same
  have b4 : Same H (upd (upd H4 m4 (.lst ys4)) l (.lst (zs3 ++ ys4))) := fun c o hc => by
    rw [upd_ne (fun z => by rw [z, nlH] at hc; cases hc)]
    exact sm4 _ _ (s4 _ _ (b3 _ _ hc))
  have e4 : Errs (upd (upd H4 m4 (.lst ys4)) l (.lst (zs3 ++ ys4))) v _ (zs3 ++ ys4) := ((e3.same (s4.trans sm4)).put lk4).app ((g4.same sm4).put lk4)
  have n4 := Paired.length e4
  generalize upd (upd H4 m4 (.lst ys4)) l (.lst (zs3 ++ ys4)) = G4 at k4 b4 e4 ⊢
  generalize zs3 ++ ys4 = zs4 at k4 e4 n4 ⊢
  refine ⟨_, rfl, .inl ⟨rfl, _, SqL.of k4⟩, _, rfl, fun ys5 H5 s5 g5 => ⟨by rw [← Paired.length g5]; show 1 ≤ sizeLine; decide, fun m5 nm5 => ?_⟩⟩
  have sm5 := same_new nm5 (.lst ys5)
  have ne5 : l ≠ m5 := fun z => by
    have z1 := s5 _ _ k4
    rw [z, nm5] at z1
    cases z1
  have lk5 := sm5 _ _ (s5 _ _ k4)
  have ln5 := Paired.length g5
  refine ⟨l, m5, _, _, rfl, rfl, lk5, upd_same, by rw [← n4, ← ln5]; show 30 ≤ sizeLine; decide, ?_⟩
  have k5 : (upd (upd H5 m5 (.lst ys5)) l (.lst (zs4 ++ ys5))) l = some (.lst (zs4 ++ ys5)) := upd_same
  have b5 : Same H (upd (upd H5 m5 (.lst ys5)) l (.lst (zs4 ++ ys5))) := fun c o hc => by
    rw [upd_ne (fun z => by rw [z, nlH] at hc; cases hc)]
    exact sm5 _ _ (s5 _ _ (b4 _ _ hc))
  have e5 : Errs (upd (upd H5 m5 (.lst ys5)) l (.lst (zs4 ++ ys5))) v _ (zs4 ++ ys5) := ((e4.same (s5.trans sm5)).put lk5).app ((g5.same sm5).put lk5)
  have n5 := Paired.length e5
  generalize upd (upd H5 m5 (.lst ys5)) l (.lst (zs4 ++ ys5)) = G5 at k5 b5 e5 ⊢
  generalize zs4 ++ ys5 = zs5 at k5 e5 n5 ⊢
  refine ⟨_, rfl, .inl ⟨rfl, _, SqL.of k5⟩, _, rfl, fun ys6 H6 s6 g6 => ⟨by rw [← Paired.length g6]; show 4 ≤ sizeLine; decide, fun m6 nm6 => ?_⟩⟩
  have sm6 := same_new nm6 (.lst ys6)
  have ne6 : l ≠ m6 := fun z => by
    have z1 := s6 _ _ k5
    rw [z, nm6] at z1
    cases z1
  have lk6 := sm6 _ _ (s6 _ _ k5)
  have ln6 := Paired.length g6
  refine ⟨l, m6, _, _, rfl, rfl, lk6, upd_same, by rw [← n5, ← ln6]; show 34 ≤ sizeLine; decide, ?_⟩
  have k6 : (upd (upd H6 m6 (.lst ys6)) l (.lst (zs5 ++ ys6))) l = some (.lst (zs5 ++ ys6)) := upd_same
  have b6 : Same H (upd (upd H6 m6 (.lst ys6)) l (.lst (zs5 ++ ys6))) := fun c o hc => by
    rw [upd_ne (fun z => by rw [z, nlH] at hc; cases hc)]
    exact sm6 _ _ (s6 _ _ (b5 _ _ hc))
  have e6 : Errs (upd (upd H6 m6 (.lst ys6)) l (.lst (zs5 ++ ys6))) v _ (zs5 ++ ys6) := ((e5.same (s6.trans sm6)).put lk6).app ((g6.same sm6).put lk6)
  have n6 := Paired.length e6
  generalize upd (upd H6 m6 (.lst ys6)) l (.lst (zs5 ++ ys6)) = G6 at k6 b6 e6 ⊢
  generalize zs5 ++ ys6 = zs6 at k6 e6 n6 ⊢
  exact ⟨_, rfl, q l zs6 G6 b6 nlH k6 e6⟩
end
end K00

set_option Elab.async false
set_option linter.all false
set_option maxRecDepth 100000
set_option maxHeartbeats 4000000
namespace K00
open PySem L2 LG
def spMarks (K : PySem.W.Frag) (Ds : List Addr) : Sp := fun vs H Q _ => ∃ (e C d : Addr) (fs : List (Str × V)) (m : Addr → Bool), vs = [.ref e] ∧ ErrC K C ∧ ErrAt H e C d fs ∧ (∀ D ∈ Ds, PySem.W.kitOne K (.ref C) (.ref D) = some (m D)) ∧
  ∀ (l : Addr) (H' : Hp), Same H H' → H l = none → H' l = some (.lst (Ds.map fun D => V.bl (m D))) → Q (.ref l) H'
def tMk (K : PySem.W.Frag) (D : Addr) : TE := fun σ H Q => ∃ (e C d : Addr) (fs : List (Str × V)) (m : Addr → Bool), σ[0]? = some (some (.ref e)) ∧ ErrC K C ∧ ErrAt H e C d fs ∧ PySem.W.kitOne K (.ref C) (.ref D) = some (m D) ∧ Q (.bl (m D)) H
def tMks (K : PySem.W.Frag) (Ds : List Addr) : TA := fun σ H Q => ∃ (e C d : Addr) (fs : List (Str × V)) (m : Addr → Bool), σ[0]? = some (some (.ref e)) ∧ ErrC K C ∧ ErrAt H e C d fs ∧ (∀ D ∈ Ds, PySem.W.kitOne K (.ref C) (.ref D) = some (m D)) ∧ Q (Ds.map fun D => V.bl (m D)) H
section
variable {X : Cx} {e : Expr} {es : List Expr} {D : Addr} {Ds : List Addr} {x : Str} {p1 p2 pos : Pos}
theorem pa_mk0 : PA X [] (tMks X.K []) := pa_imp pa_nil fun _ H Q h => by
  obtain ⟨_, _, _, _, _, _, _, _, _, q⟩ := h
  exact q
theorem pa_mk (U : ClsD X.K) (hI : Gl X "isinstance") (hT : Gl X x) (mI : X.mg "isinstance" = none) (he : PE X e (tVar 0)) (mT : X.mg x = some (.ref D)) (hd : (x == ("__debug__" : Str)) = false) (r : PA X es (tMks X.K Ds))
    (hs : starEach [e, .Name x p2] X.env = (false, eval e X.env) :: starEach [.Name x p2] X.env := by rfl) (hs2 : starEach [.Name x p2] X.env = (false, eval (.Name x p2) X.env) :: starEach [] X.env := by rfl) (hpl : (backTo pos (starEach [.Name x p2] X.env)).any (·.1) = false := by rfl)
    (hst : starEach (.Call (.Name "isinstance" p1) [e, .Name x p2] [] pos :: es) X.env = (false, eval (.Call (.Name "isinstance" p1) [e, .Name x p2] [] pos) X.env) :: starEach es X.env := by rfl) :
    PA X (.Call (.Name "isinstance" p1) [e, .Name x p2] [] pos :: es) (tMks X.K (D :: Ds)) := by
  refine pa_imp (pa_cons (pe_callB (call_isErr U) hI mI (by decide +kernel) (pa_cons he (pa_cons (pe_glob (v := .ref D) hT mT rfl hd) pa_nil hs2) hs) (by decide) (by decide) hs hpl) r hst) fun σ H Q q => ?_
  obtain ⟨a, C, d, fs, m, e1, T, at_, k, q⟩ := q
  exact ⟨_, e1, a, C, d, fs, _, _, _, rfl, .own D, T, at_, k D List.mem_cons_self, a, C, d, fs, m, e1, T, at_, fun D' h' => k D' (List.mem_cons_of_mem _ h'), q⟩
end
theorem sub_mem {D : Addr} {as bs : List Addr} (h : D ∈ as) (s : as.all (fun a => bs.contains a) = true) : D ∈ bs := by
  have := List.all_eq_true.mp s D h
  simpa using this
section
variable {P : Program} {w : World} {K : PySem.W.Frag} {mg : Str → Option Value} {base : Heap} {fI C0 C1 C2 C3 C4 C5 C6 C7 C8 C9 C10 C11 C12 C13 C14 C15 C16 C17 C18 C19 C20 C21 C22 C23 C24 C25 C26 C27 C28 C29 C30 C31 C32 C33 : Addr}
theorem scMarks : FnScope ["_law_error", "_law_found"] ["_law_error"] (defScope sMarks) := ⟨rfl, rfl, rfl, by decide +kernel, rfl, by decide +kernel, by decide +kernel⟩
theorem ok_marks {f : Addr} {fd : FuncData} (F : Fun K "_law_marks" "_law_marks" sMarks f fd) (T : Names mg) (U : ClsD K)
    (c0 : ECl K mg fI "BadDevice" C0) (c1 : ECl K mg fI "NoState" C1) (c2 : ECl K mg fI "NoCall" C2) (c3 : ECl K mg fI "NoAnswer" C3) (c4 : ECl K mg fI "BadWalk" C4) (c5 : ECl K mg fI "OtherCalls" C5) (c6 : ECl K mg fI "BadTests" C6) (c7 : ECl K mg fI "Quarrel" C7) (c8 : ECl K mg fI "Many" C8) (c9 : ECl K mg fI "NoNode" C9) (c10 : ECl K mg fI "BadTest" C10) (c11 : ECl K mg fI "Full" C11) (c12 : ECl K mg fI "NoTest" C12) (c13 : ECl K mg fI "BadWalks" C13) (c14 : ECl K mg fI "BadNumber" C14) (c15 : ECl K mg fI "Long" C15) (c16 : ECl K mg fI "Against" C16) (c17 : ECl K mg fI "Few" C17) (c18 : ECl K mg fI "Wide" C18) (c19 : ECl K mg fI "BadMenu" C19) (c20 : ECl K mg fI "BadLot" C20) (c21 : ECl K mg fI "NotLeast" C21) (c22 : ECl K mg fI "BadDevices" C22) (c23 : ECl K mg fI "BadLog" C23) (c24 : ECl K mg fI "BadTellings" C24) (c25 : ECl K mg fI "BadWatch" C25) (c26 : ECl K mg fI "Unfit" C26) (c27 : ECl K mg fI "BadBench" C27) (c28 : ECl K mg fI "Contrary" C28) (c29 : ECl K mg fI "NothingToUndo" C29) (c30 : ECl K mg fI "NothingToRedo" C30) (c31 : ECl K mg fI "NoTrial" C31) (c32 : ECl K mg fI "BadJournal" C32) (c33 : ECl K mg fI "BadLine" C33) :
    FnOk P w K mg base CX0 1 f fd ["_law_error"] (spMarks K [C0, C1, C2, C3, C4, C5, C6, C7, C8, C9, C10, C11, C12, C13, C14, C15, C16, C17, C18, C19, C20, C21, C22, C23, C24, C25, C26, C27, C28, C29, C30, C31, C32, C33]) := by
  refine F.ok scMarks (fun vs H Q E h => ?_) (fun cdv A outer s H vs Q E hr h => ?_)
  · obtain ⟨e, C, d, fs, m, rfl, _⟩ := h
    rfl
  obtain ⟨e, C, d, fs, m, rfl, TC, at_, hk, q⟩ := h
  refine ⟨_, pss_cons (ps_set (i := 1) scMarks.nd rfl (Or.inl rfl) (pe_lst (pa_mk U rfl rfl T.isinstance (pv 0) c0.mg rfl (pa_mk U rfl rfl T.isinstance (pv 0) c1.mg rfl (pa_mk U rfl rfl T.isinstance (pv 0) c2.mg rfl pa_mk0)))))
    (pss_cons (ps_expr (pe_bm PySem.F.plainAttrs_list PySem.F.slot_list_extend PySem.F.type_list_extend mt_extend (pv 1) (pa_cons (pe_lst (pa_mk U rfl rfl T.isinstance (pv 0) c3.mg rfl (pa_mk U rfl rfl T.isinstance (pv 0) c4.mg rfl (pa_mk U rfl rfl T.isinstance (pv 0) c5.mg rfl pa_mk0)))) pa_nil)))
    (pss_cons (ps_expr (pe_bm PySem.F.plainAttrs_list PySem.F.slot_list_extend PySem.F.type_list_extend mt_extend (pv 1) (pa_cons (pe_lst (pa_mk U rfl rfl T.isinstance (pv 0) c6.mg rfl (pa_mk U rfl rfl T.isinstance (pv 0) c7.mg rfl (pa_mk U rfl rfl T.isinstance (pv 0) c8.mg rfl pa_mk0)))) pa_nil)))
    (pss_cons (ps_expr (pe_bm PySem.F.plainAttrs_list PySem.F.slot_list_extend PySem.F.type_list_extend mt_extend (pv 1) (pa_cons (pe_lst (pa_mk U rfl rfl T.isinstance (pv 0) c9.mg rfl (pa_mk U rfl rfl T.isinstance (pv 0) c10.mg rfl (pa_mk U rfl rfl T.isinstance (pv 0) c11.mg rfl pa_mk0)))) pa_nil)))
    (pss_cons (ps_expr (pe_bm PySem.F.plainAttrs_list PySem.F.slot_list_extend PySem.F.type_list_extend mt_extend (pv 1) (pa_cons (pe_lst (pa_mk U rfl rfl T.isinstance (pv 0) c12.mg rfl (pa_mk U rfl rfl T.isinstance (pv 0) c13.mg rfl (pa_mk U rfl rfl T.isinstance (pv 0) c14.mg rfl pa_mk0)))) pa_nil)))
    (pss_cons (ps_expr (pe_bm PySem.F.plainAttrs_list PySem.F.slot_list_extend PySem.F.type_list_extend mt_extend (pv 1) (pa_cons (pe_lst (pa_mk U rfl rfl T.isinstance (pv 0) c15.mg rfl (pa_mk U rfl rfl T.isinstance (pv 0) c16.mg rfl (pa_mk U rfl rfl T.isinstance (pv 0) c17.mg rfl pa_mk0)))) pa_nil)))
    (pss_cons (ps_expr (pe_bm PySem.F.plainAttrs_list PySem.F.slot_list_extend PySem.F.type_list_extend mt_extend (pv 1) (pa_cons (pe_lst (pa_mk U rfl rfl T.isinstance (pv 0) c18.mg rfl (pa_mk U rfl rfl T.isinstance (pv 0) c19.mg rfl (pa_mk U rfl rfl T.isinstance (pv 0) c20.mg rfl pa_mk0)))) pa_nil)))
    (pss_cons (ps_expr (pe_bm PySem.F.plainAttrs_list PySem.F.slot_list_extend PySem.F.type_list_extend mt_extend (pv 1) (pa_cons (pe_lst (pa_mk U rfl rfl T.isinstance (pv 0) c21.mg rfl (pa_mk U rfl rfl T.isinstance (pv 0) c22.mg rfl (pa_mk U rfl rfl T.isinstance (pv 0) c23.mg rfl pa_mk0)))) pa_nil)))
    (pss_cons (ps_expr (pe_bm PySem.F.plainAttrs_list PySem.F.slot_list_extend PySem.F.type_list_extend mt_extend (pv 1) (pa_cons (pe_lst (pa_mk U rfl rfl T.isinstance (pv 0) c24.mg rfl (pa_mk U rfl rfl T.isinstance (pv 0) c25.mg rfl (pa_mk U rfl rfl T.isinstance (pv 0) c26.mg rfl pa_mk0)))) pa_nil)))
    (pss_cons (ps_expr (pe_bm PySem.F.plainAttrs_list PySem.F.slot_list_extend PySem.F.type_list_extend mt_extend (pv 1) (pa_cons (pe_lst (pa_mk U rfl rfl T.isinstance (pv 0) c27.mg rfl (pa_mk U rfl rfl T.isinstance (pv 0) c28.mg rfl (pa_mk U rfl rfl T.isinstance (pv 0) c29.mg rfl pa_mk0)))) pa_nil)))
    (pss_cons (ps_expr (pe_bm PySem.F.plainAttrs_list PySem.F.slot_list_extend PySem.F.type_list_extend mt_extend (pv 1) (pa_cons (pe_lst (pa_mk U rfl rfl T.isinstance (pv 0) c30.mg rfl (pa_mk U rfl rfl T.isinstance (pv 0) c31.mg rfl (pa_mk U rfl rfl T.isinstance (pv 0) c32.mg rfl pa_mk0)))) pa_nil)))
    (pss_cons (ps_expr (pe_bm PySem.F.plainAttrs_list PySem.F.slot_list_extend PySem.F.type_list_extend mt_extend (pv 1) (pa_cons (pe_lst (pa_mk U rfl rfl T.isinstance (pv 0) c33.mg rfl pa_mk0)) pa_nil)))
    (pss_one (ps_ret (pv 1)))))))))))))), ?_⟩
  refine ⟨e, C, d, fs, m, rfl, TC, at_, fun D hD => hk D (sub_mem hD (by simp)), (by show 3 ≤ sizeLine; decide), fun l nl => ?_⟩
  have b0 : Same H (upd H l (.lst ([C0, C1, C2].map fun D => V.bl (m D)))) := same_new nl _
  have k0 : (upd H l (.lst ([C0, C1, C2].map fun D => V.bl (m D)))) l = some (.lst ([C0, C1, C2].map fun D => V.bl (m D))) := upd_same
  generalize upd H l (.lst ([C0, C1, C2].map fun D => V.bl (m D))) = G0 at k0 b0 ⊢
  refine ⟨_, rfl, .inl ⟨rfl, _, SqL.of k0⟩, e, C, d, fs, m, rfl, TC, at_.same b0, fun D hD => hk D (sub_mem hD (by simp)), (by show 3 ≤ sizeLine; decide), fun m1 nm1 => ?_⟩
  have sm1 := same_new nm1 (.lst ([C3, C4, C5].map fun D => V.bl (m D)))
  have lk1 := sm1 _ _ k0
  refine ⟨l, m1, _, _, rfl, rfl, lk1, upd_same, (by show 6 ≤ sizeLine; decide), ?_⟩
  have k1 : (upd (upd G0 m1 (.lst ([C3, C4, C5].map fun D => V.bl (m D)))) l (.lst (([C0, C1, C2].map fun D => V.bl (m D)) ++ [C3, C4, C5].map fun D => V.bl (m D)))) l = some (.lst ([C0, C1, C2, C3, C4, C5].map fun D => V.bl (m D))) := upd_same
  have b1 : Same H (upd (upd G0 m1 (.lst ([C3, C4, C5].map fun D => V.bl (m D)))) l (.lst (([C0, C1, C2].map fun D => V.bl (m D)) ++ [C3, C4, C5].map fun D => V.bl (m D)))) := fun c o hc => by
    rw [upd_ne (fun z => by rw [z, nl] at hc; cases hc)]
    exact sm1 _ _ (b0 _ _ hc)
  generalize upd (upd G0 m1 (.lst ([C3, C4, C5].map fun D => V.bl (m D)))) l (.lst (([C0, C1, C2].map fun D => V.bl (m D)) ++ [C3, C4, C5].map fun D => V.bl (m D))) = G1 at k1 b1 ⊢
  refine ⟨_, rfl, .inl ⟨rfl, _, SqL.of k1⟩, e, C, d, fs, m, rfl, TC, at_.same b1, fun D hD => hk D (sub_mem hD (by simp)), (by show 3 ≤ sizeLine; decide), fun m2 nm2 => ?_⟩
  have sm2 := same_new nm2 (.lst ([C6, C7, C8].map fun D => V.bl (m D)))
  have lk2 := sm2 _ _ k1
  refine ⟨l, m2, _, _, rfl, rfl, lk2, upd_same, (by show 9 ≤ sizeLine; decide), ?_⟩
  have k2 : (upd (upd G1 m2 (.lst ([C6, C7, C8].map fun D => V.bl (m D)))) l (.lst (([C0, C1, C2, C3, C4, C5].map fun D => V.bl (m D)) ++ [C6, C7, C8].map fun D => V.bl (m D)))) l = some (.lst ([C0, C1, C2, C3, C4, C5, C6, C7, C8].map fun D => V.bl (m D))) := upd_same
  have b2 : Same H (upd (upd G1 m2 (.lst ([C6, C7, C8].map fun D => V.bl (m D)))) l (.lst (([C0, C1, C2, C3, C4, C5].map fun D => V.bl (m D)) ++ [C6, C7, C8].map fun D => V.bl (m D)))) := fun c o hc => by
    rw [upd_ne (fun z => by rw [z, nl] at hc; cases hc)]
    exact sm2 _ _ (b1 _ _ hc)
  generalize upd (upd G1 m2 (.lst ([C6, C7, C8].map fun D => V.bl (m D)))) l (.lst (([C0, C1, C2, C3, C4, C5].map fun D => V.bl (m D)) ++ [C6, C7, C8].map fun D => V.bl (m D))) = G2 at k2 b2 ⊢
  refine ⟨_, rfl, .inl ⟨rfl, _, SqL.of k2⟩, e, C, d, fs, m, rfl, TC, at_.same b2, fun D hD => hk D (sub_mem hD (by simp)), (by show 3 ≤ sizeLine; decide), fun m3 nm3 => ?_⟩
  have sm3 := same_new nm3 (.lst ([C9, C10, C11].map fun D => V.bl (m D)))
  have lk3 := sm3 _ _ k2
  refine ⟨l, m3, _, _, rfl, rfl, lk3, upd_same, (by show 12 ≤ sizeLine; decide), ?_⟩
  have k3 : (upd (upd G2 m3 (.lst ([C9, C10, C11].map fun D => V.bl (m D)))) l (.lst (([C0, C1, C2, C3, C4, C5, C6, C7, C8].map fun D => V.bl (m D)) ++ [C9, C10, C11].map fun D => V.bl (m D)))) l = some (.lst ([C0, C1, C2, C3, C4, C5, C6, C7, C8, C9, C10, C11].map fun D => V.bl (m D))) := upd_same
  have b3 : Same H (upd (upd G2 m3 (.lst ([C9, C10, C11].map fun D => V.bl (m D)))) l (.lst (([C0, C1, C2, C3, C4, C5, C6, C7, C8].map fun D => V.bl (m D)) ++ [C9, C10, C11].map fun D => V.bl (m D)))) := fun c o hc => by
    rw [upd_ne (fun z => by rw [z, nl] at hc; cases hc)]
    exact sm3 _ _ (b2 _ _ hc)
  generalize upd (upd G2 m3 (.lst ([C9, C10, C11].map fun D => V.bl (m D)))) l (.lst (([C0, C1, C2, C3, C4, C5, C6, C7, C8].map fun D => V.bl (m D)) ++ [C9, C10, C11].map fun D => V.bl (m D))) = G3 at k3 b3 ⊢
  refine ⟨_, rfl, .inl ⟨rfl, _, SqL.of k3⟩, e, C, d, fs, m, rfl, TC, at_.same b3, fun D hD => hk D (sub_mem hD (by simp)), (by show 3 ≤ sizeLine; decide), fun m4 nm4 => ?_⟩
  have sm4 := same_new nm4 (.lst ([C12, C13, C14].map fun D => V.bl (m D)))
  have lk4 := sm4 _ _ k3
  refine ⟨l, m4, _, _, rfl, rfl, lk4, upd_same, (by show 15 ≤ sizeLine; decide), ?_⟩
  have k4 : (upd (upd G3 m4 (.lst ([C12, C13, C14].map fun D => V.bl (m D)))) l (.lst (([C0, C1, C2, C3, C4, C5, C6, C7, C8, C9, C10, C11].map fun D => V.bl (m D)) ++ [C12, C13, C14].map fun D => V.bl (m D)))) l = some (.lst ([C0, C1, C2, C3, C4, C5, C6, C7, C8, C9, C10, C11, C12, C13, C14].map fun D => V.bl (m D))) := upd_same
  have b4 : Same H (upd (upd G3 m4 (.lst ([C12, C13, C14].map fun D => V.bl (m D)))) l (.lst (([C0, C1, C2, C3, C4, C5, C6, C7, C8, C9, C10, C11].map fun D => V.bl (m D)) ++ [C12, C13, C14].map fun D => V.bl (m D)))) := fun c o hc => by
    rw [upd_ne (fun z => by rw [z, nl] at hc; cases hc)]
    exact sm4 _ _ (b3 _ _ hc)
  generalize upd (upd G3 m4 (.lst ([C12, C13, C14].map fun D => V.bl (m D)))) l (.lst (([C0, C1, C2, C3, C4, C5, C6, C7, C8, C9, C10, C11].map fun D => V.bl (m D)) ++ [C12, C13, C14].map fun D => V.bl (m D))) = G4 at k4 b4 ⊢
  refine ⟨_, rfl, .inl ⟨rfl, _, SqL.of k4⟩, e, C, d, fs, m, rfl, TC, at_.same b4, fun D hD => hk D (sub_mem hD (by simp)), (by show 3 ≤ sizeLine; decide), fun m5 nm5 => ?_⟩
  have sm5 := same_new nm5 (.lst ([C15, C16, C17].map fun D => V.bl (m D)))
  have lk5 := sm5 _ _ k4
  refine ⟨l, m5, _, _, rfl, rfl, lk5, upd_same, (by show 18 ≤ sizeLine; decide), ?_⟩
  have k5 : (upd (upd G4 m5 (.lst ([C15, C16, C17].map fun D => V.bl (m D)))) l (.lst (([C0, C1, C2, C3, C4, C5, C6, C7, C8, C9, C10, C11, C12, C13, C14].map fun D => V.bl (m D)) ++ [C15, C16, C17].map fun D => V.bl (m D)))) l = some (.lst ([C0, C1, C2, C3, C4, C5, C6, C7, C8, C9, C10, C11, C12, C13, C14, C15, C16, C17].map fun D => V.bl (m D))) := upd_same
  have b5 : Same H (upd (upd G4 m5 (.lst ([C15, C16, C17].map fun D => V.bl (m D)))) l (.lst (([C0, C1, C2, C3, C4, C5, C6, C7, C8, C9, C10, C11, C12, C13, C14].map fun D => V.bl (m D)) ++ [C15, C16, C17].map fun D => V.bl (m D)))) := fun c o hc => by
    rw [upd_ne (fun z => by rw [z, nl] at hc; cases hc)]
    exact sm5 _ _ (b4 _ _ hc)
  generalize upd (upd G4 m5 (.lst ([C15, C16, C17].map fun D => V.bl (m D)))) l (.lst (([C0, C1, C2, C3, C4, C5, C6, C7, C8, C9, C10, C11, C12, C13, C14].map fun D => V.bl (m D)) ++ [C15, C16, C17].map fun D => V.bl (m D))) = G5 at k5 b5 ⊢
  refine ⟨_, rfl, .inl ⟨rfl, _, SqL.of k5⟩, e, C, d, fs, m, rfl, TC, at_.same b5, fun D hD => hk D (sub_mem hD (by simp)), (by show 3 ≤ sizeLine; decide), fun m6 nm6 => ?_⟩
  have sm6 := same_new nm6 (.lst ([C18, C19, C20].map fun D => V.bl (m D)))
  have lk6 := sm6 _ _ k5
  refine ⟨l, m6, _, _, rfl, rfl, lk6, upd_same, (by show 21 ≤ sizeLine; decide), ?_⟩
  have k6 : (upd (upd G5 m6 (.lst ([C18, C19, C20].map fun D => V.bl (m D)))) l (.lst (([C0, C1, C2, C3, C4, C5, C6, C7, C8, C9, C10, C11, C12, C13, C14, C15, C16, C17].map fun D => V.bl (m D)) ++ [C18, C19, C20].map fun D => V.bl (m D)))) l = some (.lst ([C0, C1, C2, C3, C4, C5, C6, C7, C8, C9, C10, C11, C12, C13, C14, C15, C16, C17, C18, C19, C20].map fun D => V.bl (m D))) := upd_same
  have b6 : Same H (upd (upd G5 m6 (.lst ([C18, C19, C20].map fun D => V.bl (m D)))) l (.lst (([C0, C1, C2, C3, C4, C5, C6, C7, C8, C9, C10, C11, C12, C13, C14, C15, C16, C17].map fun D => V.bl (m D)) ++ [C18, C19, C20].map fun D => V.bl (m D)))) := fun c o hc => by
    rw [upd_ne (fun z => by rw [z, nl] at hc; cases hc)]
    exact sm6 _ _ (b5 _ _ hc)
  generalize upd (upd G5 m6 (.lst ([C18, C19, C20].map fun D => V.bl (m D)))) l (.lst (([C0, C1, C2, C3, C4, C5, C6, C7, C8, C9, C10, C11, C12, C13, C14, C15, C16, C17].map fun D => V.bl (m D)) ++ [C18, C19, C20].map fun D => V.bl (m D))) = G6 at k6 b6 ⊢
  refine ⟨_, rfl, .inl ⟨rfl, _, SqL.of k6⟩, e, C, d, fs, m, rfl, TC, at_.same b6, fun D hD => hk D (sub_mem hD (by simp)), (by show 3 ≤ sizeLine; decide), fun m7 nm7 => ?_⟩
  have sm7 := same_new nm7 (.lst ([C21, C22, C23].map fun D => V.bl (m D)))
  have lk7 := sm7 _ _ k6
  refine ⟨l, m7, _, _, rfl, rfl, lk7, upd_same, (by show 24 ≤ sizeLine; decide), ?_⟩
  have k7 : (upd (upd G6 m7 (.lst ([C21, C22, C23].map fun D => V.bl (m D)))) l (.lst (([C0, C1, C2, C3, C4, C5, C6, C7, C8, C9, C10, C11, C12, C13, C14, C15, C16, C17, C18, C19, C20].map fun D => V.bl (m D)) ++ [C21, C22, C23].map fun D => V.bl (m D)))) l = some (.lst ([C0, C1, C2, C3, C4, C5, C6, C7, C8, C9, C10, C11, C12, C13, C14, C15, C16, C17, C18, C19, C20, C21, C22, C23].map fun D => V.bl (m D))) := upd_same
  have b7 : Same H (upd (upd G6 m7 (.lst ([C21, C22, C23].map fun D => V.bl (m D)))) l (.lst (([C0, C1, C2, C3, C4, C5, C6, C7, C8, C9, C10, C11, C12, C13, C14, C15, C16, C17, C18, C19, C20].map fun D => V.bl (m D)) ++ [C21, C22, C23].map fun D => V.bl (m D)))) := fun c o hc => by
    rw [upd_ne (fun z => by rw [z, nl] at hc; cases hc)]
    exact sm7 _ _ (b6 _ _ hc)
  generalize upd (upd G6 m7 (.lst ([C21, C22, C23].map fun D => V.bl (m D)))) l (.lst (([C0, C1, C2, C3, C4, C5, C6, C7, C8, C9, C10, C11, C12, C13, C14, C15, C16, C17, C18, C19, C20].map fun D => V.bl (m D)) ++ [C21, C22, C23].map fun D => V.bl (m D))) = G7 at k7 b7 ⊢
  refine ⟨_, rfl, .inl ⟨rfl, _, SqL.of k7⟩, e, C, d, fs, m, rfl, TC, at_.same b7, fun D hD => hk D (sub_mem hD (by simp)), (by show 3 ≤ sizeLine; decide), fun m8 nm8 => ?_⟩
  have sm8 := same_new nm8 (.lst ([C24, C25, C26].map fun D => V.bl (m D)))
  have lk8 := sm8 _ _ k7
  refine ⟨l, m8, _, _, rfl, rfl, lk8, upd_same, (by show 27 ≤ sizeLine; decide), ?_⟩
  have k8 : (upd (upd G7 m8 (.lst ([C24, C25, C26].map fun D => V.bl (m D)))) l (.lst (([C0, C1, C2, C3, C4, C5, C6, C7, C8, C9, C10, C11, C12, C13, C14, C15, C16, C17, C18, C19, C20, C21, C22, C23].map fun D => V.bl (m D)) ++ [C24, C25, C26].map fun D => V.bl (m D)))) l = some (.lst ([C0, C1, C2, C3, C4, C5, C6, C7, C8, C9, C10, C11, C12, C13, C14, C15, C16, C17, C18, C19, C20, C21, C22, C23, C24, C25, C26].map fun D => V.bl (m D))) := upd_same
  have b8 : Same H (upd (upd G7 m8 (.lst ([C24, C25, C26].map fun D => V.bl (m D)))) l (.lst (([C0, C1, C2, C3, C4, C5, C6, C7, C8, C9, C10, C11, C12, C13, C14, C15, C16, C17, C18, C19, C20, C21, C22, C23].map fun D => V.bl (m D)) ++ [C24, C25, C26].map fun D => V.bl (m D)))) := fun c o hc => by
    rw [upd_ne (fun z => by rw [z, nl] at hc; cases hc)]
    exact sm8 _ _ (b7 _ _ hc)
  generalize upd (upd G7 m8 (.lst ([C24, C25, C26].map fun D => V.bl (m D)))) l (.lst (([C0, C1, C2, C3, C4, C5, C6, C7, C8, C9, C10, C11, C12, C13, C14, C15, C16, C17, C18, C19, C20, C21, C22, C23].map fun D => V.bl (m D)) ++ [C24, C25, C26].map fun D => V.bl (m D))) = G8 at k8 b8 ⊢
  refine ⟨_, rfl, .inl ⟨rfl, _, SqL.of k8⟩, e, C, d, fs, m, rfl, TC, at_.same b8, fun D hD => hk D (sub_mem hD (by simp)), (by show 3 ≤ sizeLine; decide), fun m9 nm9 => ?_⟩
  have sm9 := same_new nm9 (.lst ([C27, C28, C29].map fun D => V.bl (m D)))
  have lk9 := sm9 _ _ k8
  refine ⟨l, m9, _, _, rfl, rfl, lk9, upd_same, (by show 30 ≤ sizeLine; decide), ?_⟩
  have k9 : (upd (upd G8 m9 (.lst ([C27, C28, C29].map fun D => V.bl (m D)))) l (.lst (([C0, C1, C2, C3, C4, C5, C6, C7, C8, C9, C10, C11, C12, C13, C14, C15, C16, C17, C18, C19, C20, C21, C22, C23, C24, C25, C26].map fun D => V.bl (m D)) ++ [C27, C28, C29].map fun D => V.bl (m D)))) l = some (.lst ([C0, C1, C2, C3, C4, C5, C6, C7, C8, C9, C10, C11, C12, C13, C14, C15, C16, C17, C18, C19, C20, C21, C22, C23, C24, C25, C26, C27, C28, C29].map fun D => V.bl (m D))) := upd_same
  have b9 : Same H (upd (upd G8 m9 (.lst ([C27, C28, C29].map fun D => V.bl (m D)))) l (.lst (([C0, C1, C2, C3, C4, C5, C6, C7, C8, C9, C10, C11, C12, C13, C14, C15, C16, C17, C18, C19, C20, C21, C22, C23, C24, C25, C26].map fun D => V.bl (m D)) ++ [C27, C28, C29].map fun D => V.bl (m D)))) := fun c o hc => by
    rw [upd_ne (fun z => by rw [z, nl] at hc; cases hc)]
    exact sm9 _ _ (b8 _ _ hc)
  generalize upd (upd G8 m9 (.lst ([C27, C28, C29].map fun D => V.bl (m D)))) l (.lst (([C0, C1, C2, C3, C4, C5, C6, C7, C8, C9, C10, C11, C12, C13, C14, C15, C16, C17, C18, C19, C20, C21, C22, C23, C24, C25, C26].map fun D => V.bl (m D)) ++ [C27, C28, C29].map fun D => V.bl (m D))) = G9 at k9 b9 ⊢
  refine ⟨_, rfl, .inl ⟨rfl, _, SqL.of k9⟩, e, C, d, fs, m, rfl, TC, at_.same b9, fun D hD => hk D (sub_mem hD (by simp)), (by show 3 ≤ sizeLine; decide), fun m10 nm10 => ?_⟩
  have sm10 := same_new nm10 (.lst ([C30, C31, C32].map fun D => V.bl (m D)))
  have lk10 := sm10 _ _ k9
  refine ⟨l, m10, _, _, rfl, rfl, lk10, upd_same, (by show 33 ≤ sizeLine; decide), ?_⟩
  have k10 : (upd (upd G9 m10 (.lst ([C30, C31, C32].map fun D => V.bl (m D)))) l (.lst (([C0, C1, C2, C3, C4, C5, C6, C7, C8, C9, C10, C11, C12, C13, C14, C15, C16, C17, C18, C19, C20, C21, C22, C23, C24, C25, C26, C27, C28, C29].map fun D => V.bl (m D)) ++ [C30, C31, C32].map fun D => V.bl (m D)))) l = some (.lst ([C0, C1, C2, C3, C4, C5, C6, C7, C8, C9, C10, C11, C12, C13, C14, C15, C16, C17, C18, C19, C20, C21, C22, C23, C24, C25, C26, C27, C28, C29, C30, C31, C32].map fun D => V.bl (m D))) := upd_same
  have b10 : Same H (upd (upd G9 m10 (.lst ([C30, C31, C32].map fun D => V.bl (m D)))) l (.lst (([C0, C1, C2, C3, C4, C5, C6, C7, C8, C9, C10, C11, C12, C13, C14, C15, C16, C17, C18, C19, C20, C21, C22, C23, C24, C25, C26, C27, C28, C29].map fun D => V.bl (m D)) ++ [C30, C31, C32].map fun D => V.bl (m D)))) := fun c o hc => by
    rw [upd_ne (fun z => by rw [z, nl] at hc; cases hc)]
    exact sm10 _ _ (b9 _ _ hc)
  generalize upd (upd G9 m10 (.lst ([C30, C31, C32].map fun D => V.bl (m D)))) l (.lst (([C0, C1, C2, C3, C4, C5, C6, C7, C8, C9, C10, C11, C12, C13, C14, C15, C16, C17, C18, C19, C20, C21, C22, C23, C24, C25, C26, C27, C28, C29].map fun D => V.bl (m D)) ++ [C30, C31, C32].map fun D => V.bl (m D))) = G10 at k10 b10 ⊢
  refine ⟨_, rfl, .inl ⟨rfl, _, SqL.of k10⟩, e, C, d, fs, m, rfl, TC, at_.same b10, fun D hD => hk D (sub_mem hD (by simp)), (by show 1 ≤ sizeLine; decide), fun m11 nm11 => ?_⟩
  have sm11 := same_new nm11 (.lst ([C33].map fun D => V.bl (m D)))
  have lk11 := sm11 _ _ k10
  refine ⟨l, m11, _, _, rfl, rfl, lk11, upd_same, (by show 34 ≤ sizeLine; decide), ?_⟩
  have k11 : (upd (upd G10 m11 (.lst ([C33].map fun D => V.bl (m D)))) l (.lst (([C0, C1, C2, C3, C4, C5, C6, C7, C8, C9, C10, C11, C12, C13, C14, C15, C16, C17, C18, C19, C20, C21, C22, C23, C24, C25, C26, C27, C28, C29, C30, C31, C32].map fun D => V.bl (m D)) ++ [C33].map fun D => V.bl (m D)))) l = some (.lst ([C0, C1, C2, C3, C4, C5, C6, C7, C8, C9, C10, C11, C12, C13, C14, C15, C16, C17, C18, C19, C20, C21, C22, C23, C24, C25, C26, C27, C28, C29, C30, C31, C32, C33].map fun D => V.bl (m D))) := upd_same
  have b11 : Same H (upd (upd G10 m11 (.lst ([C33].map fun D => V.bl (m D)))) l (.lst (([C0, C1, C2, C3, C4, C5, C6, C7, C8, C9, C10, C11, C12, C13, C14, C15, C16, C17, C18, C19, C20, C21, C22, C23, C24, C25, C26, C27, C28, C29, C30, C31, C32].map fun D => V.bl (m D)) ++ [C33].map fun D => V.bl (m D)))) := fun c o hc => by
    rw [upd_ne (fun z => by rw [z, nl] at hc; cases hc)]
    exact sm11 _ _ (b10 _ _ hc)
  generalize upd (upd G10 m11 (.lst ([C33].map fun D => V.bl (m D)))) l (.lst (([C0, C1, C2, C3, C4, C5, C6, C7, C8, C9, C10, C11, C12, C13, C14, C15, C16, C17, C18, C19, C20, C21, C22, C23, C24, C25, C26, C27, C28, C29, C30, C31, C32].map fun D => V.bl (m D)) ++ [C33].map fun D => V.bl (m D))) = G11 at k11 b11 ⊢
  exact ⟨_, rfl, q l G11 b11 nl k11⟩
end
end K00

set_option Elab.async false
set_option linter.all false
set_option maxRecDepth 100000
set_option maxHeartbeats 4000000
namespace K00
open PySem L2 LG
theorem for_enum {K : PySem.W.Frag} {a : Addr} {xs : List V} {g : TG} {tb : TS} {D : Ends} {σ : L2.St} {H : Hp} (Pv : Nat → L2.St → Hp → Prop) (h0 : Pv 0 σ H) (hq : ∀ i σ H, Pv i σ H → SqL K H a xs)
    (hs : ∀ (i : Nat) (x : V) (T : Addr) (σ : L2.St) (H : Hp), xs[i]? = some x → Pv i σ H → H T = none → g (.ref T) σ (upd H T (.tup [.int (i : Nat), x])) fun σ2 H2 => tb { D with nx := Pv (i + 1), ct := Pv (i + 1), bk := D.nx } σ2 H2) (hd : ∀ σ H, Pv xs.length σ H → D.nx σ H) :
    ∃ W : Nat → Nat → L2.St → Hp → Prop, (∃ m, W 0 m σ H) ∧ ∀ i m σ H, W i m σ H →
      ((Ite K a).stop i H ∧ D.nx σ H) ∨ ((Ite K a).go i H ∧ ∃ N : L2.St → Hp → Prop, (∀ σ' H', N σ' H' → ∃ m', m' < m ∧ W (i + 1) m' σ' H') ∧ ∀ v H', (Ite K a).yld i H v H' → g v σ H' fun σ2 H2 => tb { D with nx := N, ct := N, bk := D.nx } σ2 H2) := by
  refine ⟨fun i m σ H => m = xs.length - i ∧ i ≤ xs.length ∧ Pv i σ H, ⟨_, rfl, Nat.zero_le _, h0⟩, ?_⟩
  rintro i m σ H ⟨rfl, hi, pv⟩
  have seq := hq i σ H pv
  by_cases more : i < xs.length
  · have there : xs[i]? = some xs[i] := List.getElem?_eq_getElem more
    refine .inr ⟨⟨xs, _, seq, there⟩, Pv (i + 1), fun σ' H' p' => ⟨xs.length - (i + 1), by omega, rfl, more, p'⟩, fun v H' y => ?_⟩
    obtain ⟨T, x', rfl, free, rfl, same⟩ := y
    have e := same xs seq
    rw [there] at e
    cases e
    exact hs i _ T σ H there pv free
  · have e : i = xs.length := by omega
    subst e
    exact .inl ⟨⟨xs, seq, Nat.le_refl _⟩, hd σ H pv⟩
/-- what the top says of the classes: all errors and their base -/
structure AllC (K : PySem.W.Frag) (mg : Str → Option Value) (fI B : Addr) (Cs : List Addr) : Prop where
  base : errB K B PySem.HandSPX.veTail = true
  each : ∀ C ∈ Cs, errB K C (.ref B :: PySem.HandSPX.veTail) = true
  val : ∀ C ∈ B :: Cs, PySem.W.findIn K (.ref C) "value" = some none
  nd : Cs.Nodup
  out : B ∉ Cs
  many : Cs.length = 34
  box : ECl K mg fI "BoxError" B
  dsc : ClsD K
section
variable {K : PySem.W.Frag} {mg : Str → Option Value} {fI B : Addr} {Cs : List Addr}
theorem AllC.marks (A : AllC K mg fI B Cs) {C : Addr} (hC : C ∈ Cs) : ∀ D ∈ Cs, PySem.W.kitOne K (.ref C) (.ref D) = some (decide (C = D)) := fun D hD => by
  rw [kit_refs (A.each C hC) (A.each D hD)]
  have ne : ¬ D = B := fun e => A.out (e ▸ hD)
  simp [PySem.HandSPX.veTail, ne]
theorem AllC.marks0 (A : AllC K mg fI B Cs) : ∀ D ∈ Cs, PySem.W.kitOne K (.ref B) (.ref D) = some false := fun D hD => by
  rw [kit_refs A.base (A.each D hD)]
  have ne : ¬ B = D := fun e => A.out (e ▸ hD)
  simp [PySem.HandSPX.veTail, ne]
theorem AllC.isBox (A : AllC K mg fI B Cs) {C : Addr} (hC : C ∈ Cs) : PySem.W.kitOne K (.ref C) (.ref B) = some true := by
  rw [kit_refs (A.each C hC) A.base]
  simp
theorem meta_ve : PySem.W.kitMeta "ValueError" = true := by decide +kernel
theorem AllC.isVE (A : AllC K mg fI B Cs) {C : Addr} (hC : C ∈ Cs) : PySem.W.kitOne K (.ref C) (.type "ValueError") = some true := by
  rw [kit_type (A.each C hC) meta_ve]
  simp [PySem.HandSPX.veTail]
theorem AllC.boxVE (A : AllC K mg fI B Cs) : PySem.W.kitOne K (.ref B) (.type "ValueError") = some true := by
  rw [kit_type A.base meta_ve]
  simp [PySem.HandSPX.veTail]
theorem one_hot {Cs : List Addr} (nd : Cs.Nodup) {i : Nat} {C : Addr} (hi : Cs[i]? = some C) : (Cs.map fun D => V.bl (decide (C = D))) = (List.range Cs.length).map fun k => V.bl (decide (V.int (i : Nat) = V.int ((0 : Int) + (k : Nat)))) := by
  apply List.ext_getElem
  · simp
  · intro k h1 h2
    have hk : k < Cs.length := by simpa using h1
    have e : (C = Cs[k]) ↔ (V.int (i : Nat) = V.int ((0 : Int) + (k : Nat))) := by
      have hk' : Cs[k]? = some Cs[k] := List.getElem?_eq_getElem hk
      constructor
      · intro z
        have : i = k := nd_ix nd hi (by rw [hk', ← z])
        rw [this, Int.zero_add]
      · intro z
        have z1 : ((i : Nat) : Int) = (0 : Int) + (k : Nat) := V.int.inj z
        have : i = k := by omega
        rw [this, hk'] at hi
        exact (Option.some.inj hi).symm
    simp only [List.getElem_map, List.getElem_range]
    rw [decide_eq_decide.mpr e]
/-- a list of truth values as data -/
theorem bools_dp {H : Hp} {a : Addr} {bs : List Bool} (h : SqL K H a (bs.map V.bl)) : Dp K H (.ref a) (.list (bs.map PyData.bool)) := by
  refine .lst h ?_
  clear h
  induction bs with
  | nil => exact .nil
  | cons b bs ih => exact .cons (.bl b) ih
theorem bools_shaped (bs : List Bool) : SeqAt.shaped (.list (bs.map PyData.bool)) = true := by
  have h1 : PyData.canLayAll0 (bs.map PyData.bool) = true := by
    induction bs with
    | nil => simp only [List.map_nil, PyData.canLayAll0]
    | cons b bs ih => simp only [List.map_cons, PyData.canLayAll0, PyData.canLay0, ih, Bool.and_self]
  have h2 : PyData.depthAll (bs.map PyData.bool) = 0 := by
    induction bs with
    | nil => simp only [List.map_nil, PyData.depthAll]
    | cons b bs ih =>
      have ih := ih (by
        simp only [List.map_cons, PyData.canLayAll0, PyData.canLay0, Bool.true_and] at h1
        exact h1)
      simp only [List.map_cons, PyData.depthAll, PyData.depth, ih]
      omega
  unfold SeqAt.shaped
  simp only [PyData.canLay0, PyData.depth, h1, h2]
  decide
theorem bools_eqv (bs : List Bool) : PyData.eqv (.list (bs.map PyData.bool)) (.list (bs.map PyData.bool)) = true := by
  have h := SeqAt.canLay_of_shaped (bools_shaped bs)
  exact SeqAt.eqv_refl _ h
theorem no_true (n : Nat) : inV (.bl true) ((List.range n).map fun _ => V.bl false) = false := by
  unfold inV
  rw [List.any_eq_false]
  intro y hy
  obtain ⟨_, _, rfl⟩ := List.mem_map.mp hy
  decide
theorem no_true' (Cs : List Addr) : inV (.bl true) (Cs.map fun _ => V.bl false) = false := by
  unfold inV
  rw [List.any_eq_false]
  intro y hy
  obtain ⟨_, _, rfl⟩ := List.mem_map.mp hy
  decide
theorem flat_bools (Cs : List Addr) (m : Addr → Bool) : (Cs.map fun D => V.bl (m D)).all flatV = true := by
  rw [List.all_eq_true]
  intro y hy
  obtain ⟨_, _, rfl⟩ := List.mem_map.mp hy
  rfl
theorem signs3 : signs 3 ≤ sizeLine := by decide +kernel
end
end K00

set_option Elab.async false
set_option linter.all false
set_option maxRecDepth 100000
set_option maxHeartbeats 8000000
namespace K00
open PySem L2 LG
def spRight : Sp := fun vs H Q _ => ∃ (p : Addr) (b : Nat), vs = [.ref p] ∧ PotAt H p b ∧ b ≤ 1000 ∧ ∀ H' : Hp, But p H H' → Q (.bl true) H'
/-- the defs that right calls -/
structure Kit (P : Program) (w : World) (K : PySem.W.Frag) (mg : Str → Option Value) (base : Heap) (fI : Addr) (Cs : List Addr) : Prop where
  odd : ∃ g gd, FnOk P w K mg base CX0 3 g gd ["_law_pot_here"] (spOdd K) ∧ mg "_law_odd" = some (.ref g) ∧ PySem.W.keepIn K (.ref g) = true ∧ Binds K gd ["_law_pot_here"] []
  bent : ∃ g gd, FnOk P w K mg base CX0 7 g gd ["_law_pot_here", "_law_value"] (spBent K 3) ∧ mg "_law_bent" = some (.ref g) ∧ PySem.W.keepIn K (.ref g) = true ∧ Binds K gd ["_law_pot_here", "_law_value"] []
  errs : ∃ g gd, FnOk P w K mg base CX0 3 g gd ["_law_value"] (spErrors Cs) ∧ mg "_law_errors" = some (.ref g) ∧ PySem.W.keepIn K (.ref g) = true ∧ Binds K gd ["_law_value"] []
  marks : ∃ g gd, FnOk P w K mg base CX0 1 g gd ["_law_error"] (spMarks K Cs) ∧ mg "_law_marks" = some (.ref g) ∧ PySem.W.keepIn K (.ref g) = true ∧ Binds K gd ["_law_error"] []
  ini : Ini P w K mg base fI
section
variable {P : Program} {w : World} {K : PySem.W.Frag} {mg : Str → Option Value} {base : Heap} {fI B : Addr} {Cs : List Addr}
theorem errs_at {H : Hp} {v : V} : ∀ {Cs : List Addr} {xs : List V} {j : Nat} {e : V}, Errs H v Cs xs → xs[j]? = some e → ∃ C, Cs[j]? = some C ∧ IsErr H v C e
  | _, _, _, _, .nil, h => by simp at h
  | _, _, 0, _, .cons a _, h => by
    simp at h
    subst h
    exact ⟨_, rfl, a⟩
  | _, _, j + 1, _, .cons _ r, h => by
    obtain ⟨C, h1, h2⟩ := errs_at (j := j) r (by simpa using h)
    exact ⟨C, by simpa using h1, h2⟩
abbrev nR : List Str := ["_law_pot_here", "_law_values", "_law_value", "_law_errors_here", "_law_at", "_law_error", "_law_marks_here", "_law_bare", "_law_place"]
theorem scRight : FnScope nR ["_law_pot_here"] (defScope sRight) := ⟨rfl, rfl, rfl, by decide +kernel, rfl, by decide +kernel, by decide +kernel⟩
theorem ok_right {f : Addr} {fd : FuncData} (F : Fun K "_law_right" "_law_right" sRight f fd) (T : Names mg) (Z : Kit P w K mg base fI Cs) (A : AllC K mg fI B Cs) : GnOk P w K mg base 8 f fd ["_law_pot_here"] spRight := by
  obtain ⟨go, god, GO, mO, kO, bO⟩ := Z.odd
  obtain ⟨gb, gbd, GB, mB, kB, bB⟩ := Z.bent
  obtain ⟨ge, ged, GE, mE, kE, bE⟩ := Z.errs
  obtain ⟨gm, gmd, GM, mM, kM, bM⟩ := Z.marks
  refine gn_of F scRight (fun vs H Q E h => ?_) (fun cdv A0 outer s H vs Q hG hr h => ?_)
  · obtain ⟨p, b, rfl, _⟩ := h
    rfl
  obtain ⟨p, b, rfl, hp, hb, q⟩ := h
  have r3 : Room 3 _ := hr.mono (by decide)
  have r2 : Room 2 _ := hr.mono (by decide)
  have r1 : Room 1 _ := hr.mono (by decide)
  refine ⟨_, pss_cons (ps_set (i := 1) scRight.nd rfl (Or.inl rfl) (pe_lst (pa_cons (pe_call GO r3 rfl mO kO bO .nil pass0 (pa_cons (pv 0) pa_nil)) (pa_cons (pe_call GO r3 rfl mO kO bO .nil pass0 (pa_cons (pv 0) pa_nil))
        (pa_cons (pe_call GB hr rfl mB kB bB .nil pass0 (pa_cons (pv 0) (pa_cons (pe_tup (pa_cons pe_int (pa_cons (pe_tup (pa_cons pe_str (pa_cons pe_str pa_nil))) pa_nil))) pa_nil)))
        (pa_cons (pe_call GB hr rfl mB kB bB .nil pass0 (pa_cons (pv 0) (pa_cons (pe_tup (pa_cons (pe_tup (pa_cons pe_str pa_nil)) (pa_cons (pe_tup pa_nil) (pa_cons pe_int pa_nil)))) pa_nil))) pa_nil))))))
    (pss_cons (ps_for PassesOwn.never rfl (pi_list (pv 1)) (pg_name (i := 2) scRight.nd rfl (Or.inl rfl))
      (pss_cons (ps_set (i := 3) scRight.nd rfl (Or.inl rfl) (pe_call GE r3 rfl mE kE bE .nil pass0 (pa_cons (pv 2) pa_nil)))
      (pss_cons (ps_for PassesOwn.never rfl (pi_enum rfl T.enumerate (pa_cons (pv 3) pa_nil)) (pg_tup rfl (pgs_cons (pg_name (i := 4) scRight.nd rfl (Or.inr rfl)) (pgs_cons (pg_name (i := 5) scRight.nd rfl (Or.inl rfl)) pgs_nil)))
        (pss_cons (ps_if (PW.pt (pw_or (pt_not (pt_val (pe_callB (call_isErr A.dsc) rfl T.isinstance (by decide +kernel) (pa_cons (pv 5) (pa_cons (pe_glob (v := .ref B) rfl A.box.mg rfl) pa_nil)))))
            (pw_or1 (pt_not (pt_val (pe_callB (call_isErr A.dsc) rfl T.isinstance (by decide +kernel) (pa_cons (pv 5) (pa_cons (pe_bltn (v := .ty "ValueError") (u := .type "ValueError") rfl T.ve (by decide +kernel) rfl) pa_nil)))))))) (pss_one (ps_ret pe_bl)) pss_nil)
        (pss_cons (ps_setLc (i := 6) (own := [("_law_place", 8)]) (g := gName 8) (tt := tYes) rfl scRight.nd rfl rfl (sw_true rfl rfl rfl (by decide +kernel)) (pi_range1 rfl T.range (pa_cons (pe_callB call_len_seq rfl T.len PySem.boot_len (pa_cons (pv 3) pa_nil)) pa_nil))
            (blkOk_by (own := [("_law_place", 8)]) (N := nR) (sc := defScope sRight) (by decide +kernel)) (fun _ _ _ _ _ => pg_name (i := 8) scRight.nd rfl (Or.inl rfl)) (fun _ _ _ _ _ => pts_nil) (fun _ _ _ _ _ => pe_cmpR op_eq (pv 4) (pv 8) (nomark _)))
        (pss_one (ps_if (PW.pt (pw_or (pt_cmpR op_ne (pe_callB (call_repr hG hr.units) rfl T.repr (by decide +kernel) (pa_cons (pe_errf (pv 5)) pa_nil)) (pe_callB (call_repr hG hr.units) rfl T.repr (by decide +kernel) (pa_cons (pv 2) pa_nil)) (nomark _))
            (pw_or1 (pt_cmpR (op_neD hr.units) (pe_call GM r1 rfl mM kM bM .nil pass0 (pa_cons (pv 5) pa_nil)) (pv 6) (nomark _))))) (pss_one (ps_ret pe_bl)) pss_nil)))))
      (pss_cons (ps_set (i := 7) scRight.nd rfl (Or.inl rfl) (pe_err Z.ini A.box r2 (pv 2) rfl))
      (pss_one (ps_if (PW.pt (pw_or (pt_cmpR op_ne (pe_callB (call_repr hG hr.units) rfl T.repr (by decide +kernel) (pa_cons (pe_errf (pv 7)) pa_nil)) (pe_callB (call_repr hG hr.units) rfl T.repr (by decide +kernel) (pa_cons (pv 2) pa_nil)) (nomark _))
            (pw_or (pt_cmpR op_in_seq pe_bl (pe_call GM r1 rfl mM kM bM .nil pass0 (pa_cons (pv 7) pa_nil)) (by rfl))
            (pw_or1 (pt_not (pt_val (pe_callB (call_isErr A.dsc) rfl T.isinstance (by decide +kernel) (pa_cons (pv 7) (pa_cons (pe_bltn (v := .ty "ValueError") (u := .type "ValueError") rfl T.ve (by decide +kernel) rfl) pa_nil))))))))) (pss_one (ps_ret pe_bl)) pss_nil))))))
    (pss_one (ps_ret pe_bl))), ?_⟩
  have hpt := hp.there
  -- the four values
  refine ⟨_, rfl, p, b, rfl, hp, by omega, fun x0 H1 but1 pot1 g0 => ?_⟩
  refine ⟨_, rfl, p, b + 1, rfl, pot1, by omega, fun x1 H2 but2 pot2 g1 => ?_⟩
  have m0 : Gx K 2 (mk p H2) x0 := (g0.same (mn_mk hpt)).same (mk_but but2)
  have m1 : Gx K 2 (mk p H2) x1 := g1.same (mn_mk pot1.there)
  refine ⟨_, rfl, (by show 2 ≤ sizeLine; decide), fun t1 nt1 => ⟨(by show 2 ≤ sizeLine; decide), fun t2 nt2 => ?_⟩⟩
  have s1 := same_new nt1 (.tup [.str "a", .str "b"])
  have p1 := pot2.same s1
  have s2 := same_new nt2 (.tup [.int 2, .ref t1])
  have p2 := p1.same s2
  refine ⟨p, _, b + 1 + 1, 2, .tuple [.int 2, .tuple [.str "a", .str "b"]], rfl, rfl, by decide, p2, by omega, ?_, by decide +kernel, fun x2 H3 but3 pot3 g2 => ?_⟩
  · exact .tup (.inl (.inl (mk_new p1.there nt2))) (.cons (.int 2) (.cons (.tup (.inl (.inl (mk_up s2 _ _ (mk_new pot2.there nt1)))) (.cons (.str _) (.cons (.str _) .nil))) .nil))
  have up23 : Same (mk p H2) (mk p H3) := (mk_up (s1.trans s2)).trans (mk_but but3)
  refine ⟨_, rfl, (by show 1 ≤ sizeLine; decide), fun t3 nt3 => ⟨(by show 0 ≤ sizeLine; decide), fun t4 nt4 => ⟨(by show 3 ≤ sizeLine; decide), fun t5 nt5 => ?_⟩⟩⟩
  have s3 := same_new nt3 (.tup [.str "a"])
  have p3 := pot3.same s3
  have s4 := same_new nt4 (.tup [])
  have p4 := p3.same s4
  have s5 := same_new nt5 (.tup [.ref t3, .ref t4, .int 3])
  have p5 := p4.same s5
  refine ⟨p, _, b + 1 + 1 + 3 * 3, 2, .tuple [.tuple [.str "a"], .tuple [], .int 3], rfl, rfl, by decide, p5, by omega, ?_, by decide +kernel, fun x3 H4 but4 pot4 g3 => ?_⟩
  · exact .tup (.inl (.inl (mk_new p4.there nt5))) (.cons (.tup (.inl (.inl (mk_up (s4.trans s5) _ _ (mk_new pot3.there nt3)))) (.cons (.str _) .nil)) (.cons (.tup (.inl (.inl (mk_up s5 _ _ (mk_new p3.there nt4)))) .nil) (.cons (.int 3) .nil)))
  have up34 : Same (mk p H3) (mk p H4) := (mk_up ((s3.trans s4).trans s5)).trans (mk_but but4)
  refine ⟨(by show 4 ≤ sizeLine; decide), fun lv nlv => ?_⟩
  have s6 := same_new nlv (.lst [x0, x1, x2, x3])
  have butAll : But p H (upd H4 lv (.lst [x0, x1, x2, x3])) := (((((but1.trans but2).trans (But.of (s1.trans s2))).trans but3).trans (But.of ((s3.trans s4).trans s5))).trans but4).trans (But.of s6)
  have hlv : (upd H4 lv (.lst [x0, x1, x2, x3])) lv = some (.lst [x0, x1, x2, x3]) := upd_same
  have gs : ∀ x ∈ [x0, x1, x2, x3], Gx K 3 (upd H4 lv (.lst [x0, x1, x2, x3])) x := by
    have last : Same (mk p H4) (upd H4 lv (.lst [x0, x1, x2, x3])) := (mk_self p H4).trans s6
    intro x hx
    simp only [List.mem_cons, List.not_mem_nil, or_false] at hx
    rcases hx with rfl | rfl | rfl | rfl
    · exact (m0.same ((up23.trans up34).trans last)).le (by decide)
    · exact (m1.same ((up23.trans up34).trans last)).le (by decide)
    · exact (g2.same (up34.trans last)).x
    · exact (g3.same last).x
  generalize upd H4 lv (.lst [x0, x1, x2, x3]) = H5 at hlv butAll gs ⊢
  generalize [x0, x1, x2, x3] = xs at hlv gs
  clear g0 g1 m0 m1 g2 g3 up23 up34 s6 but4 pot4 p5 s5 p4 s4 p3 s3 but3 pot3 p2 s2 p1 s1 but2 pot2 but1 pot1
  refine ⟨_, rfl, lv, rfl, ⟨_, SqL.of hlv⟩, for_list (K := K) (a := lv) (xs := xs) (fun i σ G => Same H5 G ∧ ∃ v2 v3 v4 v5 v6 v7 : Option V, σ = [some (.ref p), some (.ref lv), v2, v3, v4, v5, v6, v7, none])
    ⟨Same.refl H5, _, _, _, _, _, _, rfl⟩ (fun i σ G _ ⟨sG, _⟩ => SqL.of (sG _ _ hlv)) ?_ ?_⟩
  · rintro i x σ G hi ⟨sG, v2, v3, v4, v5, v6, v7, rfl⟩
    have gx : Gx K 3 G x := (gs x (List.mem_of_getElem? hi)).same sG
    -- the errors of this value
    refine ⟨_, rfl, x, rfl, fun le es G1 sG1 nle hle hes => ?_⟩
    have gx1 := gx.same sG1
    have nes := Paired.length hes
    refine ⟨_, rfl, le, es, rfl, SqL.of hle, for_enum (K := K) (a := le) (xs := es) (fun j σ N => Same G1 N ∧ ∃ v4 v5 v6 : Option V, σ = [some (.ref p), some (.ref lv), some x, some (.ref le), v4, v5, v6, v7, none])
      ⟨Same.refl G1, _, _, _, rfl⟩ (fun j σ N ⟨sN, _⟩ => SqL.of (sN _ _ hle)) ?_ ?_⟩
    · rintro j ev T σ N hj ⟨sN, w4, w5, w6, rfl⟩ nT
      have sT := same_new nT (.tup [.int (j : Nat), ev])
      have hT : (upd N T (.tup [.int (j : Nat), ev])) T = some (.tup [.int (j : Nat), ev]) := upd_same
      have sN1 := sN.trans sT
      generalize upd N T (.tup [.int (j : Nat), ev]) = N1 at sN1 hT
      refine ⟨T, _, rfl, .inl (.inl hT), rfl, _, _, rfl, _, _, rfl, rfl, ?_⟩
      obtain ⟨C, hC, er0⟩ := errs_at hes hj
      have inC : C ∈ Cs := List.mem_of_getElem? hC
      have TC := errB_ok (A.each C inC)
      obtain ⟨ea, ed, rfl, at0⟩ := er0
      have at1 := at0.same sN1
      refine ⟨_, rfl, ea, C, ed, _, _, _, _, rfl, .own B, TC, at1, A.isBox inC, _, rfl, iteF ?_⟩
      refine ⟨_, rfl, ea, C, ed, _, _, _, _, rfl, .ty _, TC, at1, A.isVE inC, _, rfl, iteF ?_⟩
      -- the truth values that are right
      have hle1 := sN1 _ _ hle
      have hmany : es.length = 34 := by rw [← nes]; exact A.many
      refine ⟨_, rfl, le, es, rfl, .inl (SqL.of hle1), _, rfl, by omega, by omega, fun D nD => ?_⟩
      rw [hmany]
      refine lc_range (lo := 0) (n := 34) (fun k G => Same N1 G ∧ G D = some (.lst ((List.range k).map fun m => V.bl (decide (V.int (j : Nat) = V.int ((0 : Int) + (m : Nat))))))) ⟨same_new nD _, upd_same⟩ ?_ ?_
      · rintro k G2 hk ⟨sG2, hD⟩
        refine ⟨rfl, _, rfl, _, rfl, rfl, _, hD, by rw [List.length_map, List.length_range]; exact small1000 (by omega), fun c o hc => ?_, ?_⟩
        · rw [upd_ne (fun z => by rw [z, nD] at hc; cases hc)]
          exact sG2 _ _ hc
        · rw [upd_same, List.range_succ, List.map_append] <;> rfl
      · rintro G2 ⟨sG2, hD⟩
        have at2 := at1.same sG2
        have gx2 : Gx K 3 G2 x := gx1.same (sN1.trans sG2)
        obtain ⟨dx, hdx, sdx⟩ := gx2
        have no := A.val C (List.mem_cons_of_mem _ inC)
        refine ⟨_, rfl, ea, C, ed, _, _, rfl, TC, no, at2, vf_get x, x, dx, 3, rfl, hdx, by decide, sdx, signs3, _, rfl, x, dx, 3, rfl, hdx, by decide, sdx, signs3, rfl, _, rfl, ?_⟩
        refine iteNS rfl ?_
        refine ⟨_, rfl, ea, C, ed, _, fun D' => decide (C = D'), rfl, TC, at2, A.marks inC, fun lm G3 sG3 nlm hlm => ?_⟩
        have hD3 := sG3 _ _ hD
        have eqs := one_hot A.nd hC
        rw [A.many] at eqs
        rw [eqs] at hlm
        have as_bools : ((List.range 34).map fun m => V.bl (decide (V.int (j : Nat) = V.int ((0 : Int) + (m : Nat))))) = ((List.range 34).map fun m => decide (V.int (j : Nat) = V.int ((0 : Int) + (m : Nat)))).map V.bl := by
          rw [List.map_map] <;> rfl
        rw [as_bools] at hlm hD3
        refine ⟨_, rfl, _, _, bools_dp (SqL.of hlm), bools_dp (SqL.of hD3), bools_shaped _, bools_shaped _, _, rfl, ?_⟩
        rw [bools_eqv]
        refine iteF ?_
        exact ⟨(sN1.trans sG2).trans sG3, _, _, _, rfl⟩
    · rintro σ N ⟨sN, w4, w5, w6, rfl⟩
      -- the base itself
      refine ⟨_, rfl, fun bx N1 s1 er => ?_⟩
      obtain ⟨ea, ed, rfl, at1⟩ := er
      have TB := errB_ok A.base
      have gx2 : Gx K 3 N1 x := gx1.same (sN.trans s1)
      obtain ⟨dx, hdx, sdx⟩ := gx2
      have no := A.val B List.mem_cons_self
      refine ⟨_, rfl, ea, B, ed, _, _, rfl, TB, no, at1, vf_get x, x, dx, 3, rfl, hdx, by decide, sdx, signs3, _, rfl, x, dx, 3, rfl, hdx, by decide, sdx, signs3, rfl, _, rfl, ?_⟩
      refine iteNS rfl ?_
      refine ⟨_, rfl, ea, B, ed, _, fun _ => false, rfl, TB, at1, A.marks0, fun lm N2 s2 nlm hlm => ?_⟩
      refine ⟨lm, _, rfl, .inl (SqL.of hlm), rfl, flat_bools Cs _, _, rfl, ?_⟩
      rw [no_true' Cs]
      refine iteF ?_
      refine ⟨_, rfl, ea, B, ed, _, _, _, _, rfl, .ty _, TB, at1.same s2, A.boxVE, _, rfl, iteF ?_⟩
      exact ⟨((sG.trans sG1).trans sN).trans (s1.trans s2), _, _, _, _, _, _, rfl⟩
  · rintro σ G ⟨sG, v2, v3, v4, v5, v6, v7, rfl⟩
    exact q G (butAll.trans (But.of sG))
end
end K00

set_option Elab.async false
set_option linter.all false
set_option maxRecDepth 100000
set_option maxHeartbeats 8000000
namespace K00
open PySem L2 LG
def spLaw (K : PySem.W.Frag) : Sp := fun vs H Q _ => ∃ (a : Addr) (ns : List Int), vs = [.ref a] ∧ SqL K H a (ns.map V.int) ∧ ns.length ≤ 63 ∧ ∀ H', Q (.bl true) H'
section
variable {P : Program} {w : World} {K : PySem.W.Frag} {mg : Str → Option Value} {base : Heap}
abbrev nL : List Str := ["_law_script", "_law_place"]
theorem scLaw : FnScope nL ["_law_script"] (defScope sLaw) := ⟨rfl, rfl, rfl, by decide +kernel, rfl, by decide +kernel, by decide +kernel⟩
theorem all_true (n : Nat) : (List.replicate n true).all id = true := by
  rw [List.all_eq_true]
  intro b hb
  rw [(List.mem_replicate.mp hb).2] <;> rfl
theorem ok_law {f gr gp gc : Addr} {fd grd gpd gcd : FuncData} (F : Fun K "law" "law" sLaw f fd) (T : Names mg)
    (GR : GnOk P w K mg base 8 gr grd ["_law_pot_here"] spRight) (mR : mg "_law_right" = some (.ref gr)) (kR : PySem.W.keepIn K (.ref gr) = true) (bR : Binds K grd ["_law_pot_here"] [])
    (GP : FnOk P w K mg base CX0 1 gp gpd ["_law_script", "_law_place"] (spPot K)) (mP : mg "_law_pot" = some (.ref gp)) (kP : PySem.W.keepIn K (.ref gp) = true) (bP : Binds K gpd ["_law_script", "_law_place"] [])
    (GC : FnOk P w K mg base CX0 1 gc gcd ["_law_script", "_law_most"] (spCells K)) (mC : mg "_law_cells" = some (.ref gc)) (kC : PySem.W.keepIn K (.ref gc) = true) (bC : Binds K gcd ["_law_script", "_law_most"] []) :
    GnOk P w K mg base 9 f fd ["_law_script"] (spLaw K) := by
  refine gn_of F scLaw (fun vs H Q E h => ?_) (fun cdv A0 outer s H vs Q hG hr h => ?_)
  · obtain ⟨a, ns, rfl, _⟩ := h
    rfl
  obtain ⟨a, ns, rfl, hS, h63, q⟩ := h
  have r1 : Room 1 _ := hr.mono (by decide)
  refine ⟨_, pss_one (ps_ret (pe_callB (cr_all rfl) rfl T.all (by decide +kernel) (pa_cons (pe_lc (own := [("_law_place", 1)]) (g := gName 1) (tt := tYes) rfl scLaw.nd (pi_list (pe_call GC r1 rfl mC kC bC .nil pass0 (pa_cons (pv 0) (pa_cons pe_int pa_nil))))
      (blkOk_by (own := [("_law_place", 1)]) (N := nL) (sc := defScope sLaw) (by decide +kernel)) (fun _ _ _ _ _ => pg_name (i := 1) scLaw.nd rfl (Or.inl rfl)) (fun _ _ _ _ _ => pts_nil)
      (fun _ _ _ _ _ => pe_gcall GR hG hr rfl mR kR bR (pa_cons (pe_call GP r1 rfl mP kP bP .nil pass0 (pa_cons (pv 0) (pa_cons (pv 1) pa_nil))) pa_nil))) pa_nil))), ?_⟩
  refine ⟨_, rfl, a, ns, 4, rfl, hS, h63, by decide, by decide, fun lp n H1 s1 nlp n1 n63 hlp => ?_⟩
  refine ⟨lp, rfl, ⟨_, SqL.of hlp⟩, fun D nD => ?_⟩
  refine lc_list (K := K) (a := lp) (xs := (List.range n).map fun i => V.int (i : Nat)) (g := gName 1) (tt := tYes) (te := fun σ H Q => tCons (tCall (spPot K) [] E0 (tCons (tVar 0) (tCons (tVar 1) tNil))) tNil σ H fun vs H1 => spRight vs H1 Q E0) (vs := [1]) (σ := L2.start nL [V.ref a]) (Qd := fun G => rAll K [V.ref D] G Q) (fun i G => Same H1 G ∧ G D = some (.lst ((List.replicate i true).map V.bl))) ⟨same_new nD _, upd_same⟩ (fun i G _ ⟨sG, _⟩ => SqL.of (sG _ _ hlp)) ?_ ?_
  · rintro i x G hx ⟨sG, hD⟩
    have hi : i < n := by
      have := (List.getElem?_eq_some_iff.mp hx).1
      simpa using this
    have ex : x = V.int (i : Nat) := by
      rw [List.getElem?_map, List.getElem?_range hi] at hx
      exact (Option.some.inj hx).symm
    subst ex
    refine ⟨rfl, _, rfl, _, rfl, a, ns, (i : Nat), rfl, (s1.trans sG).seq hS, h63, by omega, by omega, fun pp G2 s2 npp pot => ⟨pp, 0, rfl, pot, by decide, fun G3 but3 => ?_⟩⟩
    have neD : D ≠ pp := fun z => by
      rw [← z, hD] at npp
      cases npp
    have hD3 := but3 _ _ (s2 _ _ hD) neD
    refine ⟨_, hD3, by rw [List.length_map, List.length_replicate]; exact small1000 (by omega), fun c o hc => ?_, ?_⟩
    · rw [upd_ne (fun z => by rw [z, nD] at hc; cases hc)]
      refine but3 _ _ (s2 _ _ (sG _ _ hc)) fun z => ?_
      have := sG _ _ hc
      rw [z, npp] at this
      cases this
    · rw [upd_same, List.replicate_succ', List.map_append] <;> rfl
  · rintro G ⟨sG, hD⟩
    have e : ((List.range n).map fun i => V.int (i : Nat)).length = n := by simp
    rw [e] at hD
    refine ⟨D, _, rfl, SqL.of hD, ?_⟩
    rw [all_true]
    exact q G
end
/-! ### what the top has written -/
def allB (K : PySem.W.Frag) (fI B : Addr) (Cs : List Addr) : Bool :=
  errB K B PySem.HandSPX.veTail && ((Cs.all fun C => errB K C (.ref B :: PySem.HandSPX.veTail)) && (((B :: Cs).all fun C => decide (PySem.W.findIn K (.ref C) "__init__" = some (some (.ref fI))) && decide (PySem.W.findIn K (.ref C) "value" = some none)) &&
  (decide Cs.Nodup && (!(Cs.contains B) && (decide (Cs.length = 34) && (decide (PySem.W.specialIn K (.builtin "object.__class__") "__get__" = some (some (.builtin "getset_descriptor.__get__"))) && (decide (PySem.W.takesIn K (.builtin "object.__class__") = some true) && decide (PySem.W.typeIn K (.ref fI) = some (.type "function"))))))))) 
structure AllF (K : PySem.W.Frag) (fI B : Addr) (Cs : List Addr) : Prop where
  base : errB K B PySem.HandSPX.veTail = true
  each : ∀ C ∈ Cs, errB K C (.ref B :: PySem.HandSPX.veTail) = true
  ini : ∀ C ∈ B :: Cs, PySem.W.findIn K (.ref C) "__init__" = some (some (.ref fI))
  val : ∀ C ∈ B :: Cs, PySem.W.findIn K (.ref C) "value" = some none
  nd : Cs.Nodup
  out : B ∉ Cs
  many : Cs.length = 34
  dsc : ClsD K
  fn : PySem.W.typeIn K (.ref fI) = some (.type "function")
theorem allB_ok {K : PySem.W.Frag} {fI B : Addr} {Cs : List Addr} (h : allB K fI B Cs = true) : AllF K fI B Cs := by
  unfold allB at h
  simp only [Bool.and_eq_true] at h
  obtain ⟨h1, h2, h3, h4, h5, h6, h7, h8, h9⟩ := h
  have h3' := List.all_eq_true.mp h3
  refine ⟨h1, fun C hC => List.all_eq_true.mp h2 C hC, fun C hC => ?_, fun C hC => ?_, of_decide_eq_true h4, ?_, of_decide_eq_true h6, ⟨of_decide_eq_true h7, of_decide_eq_true h8⟩, of_decide_eq_true h9⟩
  · exact of_decide_eq_true (Bool.and_eq_true_iff.mp (h3' C hC)).1
  · exact of_decide_eq_true (Bool.and_eq_true_iff.mp (h3' C hC)).2
  · intro z
    rw [List.contains_iff_mem.mpr z] at h5
    exact nomatch h5
end K00

set_option Elab.async false
set_option linter.all false
set_option maxRecDepth 100000
set_option maxHeartbeats 8000000
namespace K00
open PySem L2 LG
theorem all_mk {l : PySem.W.OpenLaw} {w : World} {K : PySem.W.Frag} {h : Heap} {mg : Str → Option Value} {fa B fI C0 C1 C2 C3 C4 C5 C6 C7 C8 C9 C10 C11 C12 C13 C14 C15 C16 C17 C18 C19 C20 C21 C22 C23 C24 C25 C26 C27 C28 C29 C30 C31 C32 C33 fPot fTake fOf fCells fOdd fBent fErrors fMarks fRight fLaw : Addr}
    {odPot anPot odTake anTake odOf anOf odCells anCells odOdd anOdd odBent anBent odErrors anErrors odMarks anMarks odRight anRight odLaw anLaw odI anI : Option Addr} {slPot slTake slOf slCells slOdd slBent slErrors slMarks slRight slLaw slI : Array (Option Value)} {ocPot kVPot dcPot pmPot cdPot ctPot ocTake kVTake dcTake pmTake cdTake ctTake ocOf kVOf dcOf pmOf cdOf ctOf ocCells kVCells dcCells pmCells cdCells ctCells ocOdd kVOdd dcOdd pmOdd cdOdd ctOdd ocBent kVBent dcBent pmBent cdBent ctBent ocErrors kVErrors dcErrors pmErrors cdErrors ctErrors ocMarks kVMarks dcMarks pmMarks cdMarks ctMarks ocRight kVRight dcRight pmRight cdRight ctRight ocLaw kVLaw dcLaw pmLaw cdLaw ctLaw ocI kVI dcI pmI cdI ctI : Value} (X : K.In h) (G : h.Ns mainGlobals mg) (hfa : mg "law" = some (.ref fa))
    (aB : PySem.W.nsIn K mainGlobals "BoxError" = some (some (.ref B))) (e0 : PySem.W.nsIn K mainGlobals "BadDevice" = some (some (.ref C0))) (e1 : PySem.W.nsIn K mainGlobals "NoState" = some (some (.ref C1))) (e2 : PySem.W.nsIn K mainGlobals "NoCall" = some (some (.ref C2))) (e3 : PySem.W.nsIn K mainGlobals "NoAnswer" = some (some (.ref C3))) (e4 : PySem.W.nsIn K mainGlobals "BadWalk" = some (some (.ref C4))) (e5 : PySem.W.nsIn K mainGlobals "OtherCalls" = some (some (.ref C5))) (e6 : PySem.W.nsIn K mainGlobals "BadTests" = some (some (.ref C6))) (e7 : PySem.W.nsIn K mainGlobals "Quarrel" = some (some (.ref C7))) (e8 : PySem.W.nsIn K mainGlobals "Many" = some (some (.ref C8))) (e9 : PySem.W.nsIn K mainGlobals "NoNode" = some (some (.ref C9))) (e10 : PySem.W.nsIn K mainGlobals "BadTest" = some (some (.ref C10))) (e11 : PySem.W.nsIn K mainGlobals "Full" = some (some (.ref C11))) (e12 : PySem.W.nsIn K mainGlobals "NoTest" = some (some (.ref C12))) (e13 : PySem.W.nsIn K mainGlobals "BadWalks" = some (some (.ref C13))) (e14 : PySem.W.nsIn K mainGlobals "BadNumber" = some (some (.ref C14))) (e15 : PySem.W.nsIn K mainGlobals "Long" = some (some (.ref C15))) (e16 : PySem.W.nsIn K mainGlobals "Against" = some (some (.ref C16))) (e17 : PySem.W.nsIn K mainGlobals "Few" = some (some (.ref C17))) (e18 : PySem.W.nsIn K mainGlobals "Wide" = some (some (.ref C18))) (e19 : PySem.W.nsIn K mainGlobals "BadMenu" = some (some (.ref C19))) (e20 : PySem.W.nsIn K mainGlobals "BadLot" = some (some (.ref C20))) (e21 : PySem.W.nsIn K mainGlobals "NotLeast" = some (some (.ref C21))) (e22 : PySem.W.nsIn K mainGlobals "BadDevices" = some (some (.ref C22))) (e23 : PySem.W.nsIn K mainGlobals "BadLog" = some (some (.ref C23))) (e24 : PySem.W.nsIn K mainGlobals "BadTellings" = some (some (.ref C24))) (e25 : PySem.W.nsIn K mainGlobals "BadWatch" = some (some (.ref C25))) (e26 : PySem.W.nsIn K mainGlobals "Unfit" = some (some (.ref C26))) (e27 : PySem.W.nsIn K mainGlobals "BadBench" = some (some (.ref C27))) (e28 : PySem.W.nsIn K mainGlobals "Contrary" = some (some (.ref C28))) (e29 : PySem.W.nsIn K mainGlobals "NothingToUndo" = some (some (.ref C29))) (e30 : PySem.W.nsIn K mainGlobals "NothingToRedo" = some (some (.ref C30))) (e31 : PySem.W.nsIn K mainGlobals "NoTrial" = some (some (.ref C31))) (e32 : PySem.W.nsIn K mainGlobals "BadJournal" = some (some (.ref C32))) (e33 : PySem.W.nsIn K mainGlobals "BadLine" = some (some (.ref C33)))
    (aI : PySem.W.findIn K (.ref B) "__init__" = some (some (.ref fI)))
    (lI : K.lookup fI = some ⟨ocI, odI, .func (PySem.W.fnOf "__init__" "BoxError.__init__" (defArgs sInit) (defBody sInit) (defScope sInit) .none kVI dcI pmI anI cdI ctI), slI⟩) (cI : PySem.W.codeIn K cdI "BoxError.__init__" = true) (kI : PySem.W.keepIn K (.ref fI) = true)
    (aPot : PySem.W.nsIn K mainGlobals "_law_pot" = some (some (.ref fPot))) (lPot : K.lookup fPot = some ⟨ocPot, odPot, .func (PySem.W.fnOf "_law_pot" "_law_pot" (defArgs sPot) (defBody sPot) (defScope sPot) .none kVPot dcPot pmPot anPot cdPot ctPot), slPot⟩) (cPot : PySem.W.codeIn K cdPot "_law_pot" = true) (kPot : PySem.W.keepIn K (.ref fPot) = true)
    (aTake : PySem.W.nsIn K mainGlobals "_law_take" = some (some (.ref fTake))) (lTake : K.lookup fTake = some ⟨ocTake, odTake, .func (PySem.W.fnOf "_law_take" "_law_take" (defArgs sTake) (defBody sTake) (defScope sTake) .none kVTake dcTake pmTake anTake cdTake ctTake), slTake⟩) (cTake : PySem.W.codeIn K cdTake "_law_take" = true) (kTake : PySem.W.keepIn K (.ref fTake) = true)
    (aOf : PySem.W.nsIn K mainGlobals "_law_of" = some (some (.ref fOf))) (lOf : K.lookup fOf = some ⟨ocOf, odOf, .func (PySem.W.fnOf "_law_of" "_law_of" (defArgs sOf) (defBody sOf) (defScope sOf) .none kVOf dcOf pmOf anOf cdOf ctOf), slOf⟩) (cOf : PySem.W.codeIn K cdOf "_law_of" = true) (kOf : PySem.W.keepIn K (.ref fOf) = true)
    (aCells : PySem.W.nsIn K mainGlobals "_law_cells" = some (some (.ref fCells))) (lCells : K.lookup fCells = some ⟨ocCells, odCells, .func (PySem.W.fnOf "_law_cells" "_law_cells" (defArgs sCells) (defBody sCells) (defScope sCells) .none kVCells dcCells pmCells anCells cdCells ctCells), slCells⟩) (cCells : PySem.W.codeIn K cdCells "_law_cells" = true) (kCells : PySem.W.keepIn K (.ref fCells) = true)
    (aOdd : PySem.W.nsIn K mainGlobals "_law_odd" = some (some (.ref fOdd))) (lOdd : K.lookup fOdd = some ⟨ocOdd, odOdd, .func (PySem.W.fnOf "_law_odd" "_law_odd" (defArgs sOdd) (defBody sOdd) (defScope sOdd) .none kVOdd dcOdd pmOdd anOdd cdOdd ctOdd), slOdd⟩) (cOdd : PySem.W.codeIn K cdOdd "_law_odd" = true) (kOdd : PySem.W.keepIn K (.ref fOdd) = true)
    (aBent : PySem.W.nsIn K mainGlobals "_law_bent" = some (some (.ref fBent))) (lBent : K.lookup fBent = some ⟨ocBent, odBent, .func (PySem.W.fnOf "_law_bent" "_law_bent" (defArgs sBent) (defBody sBent) (defScope sBent) .none kVBent dcBent pmBent anBent cdBent ctBent), slBent⟩) (cBent : PySem.W.codeIn K cdBent "_law_bent" = true) (kBent : PySem.W.keepIn K (.ref fBent) = true)
    (aErrors : PySem.W.nsIn K mainGlobals "_law_errors" = some (some (.ref fErrors))) (lErrors : K.lookup fErrors = some ⟨ocErrors, odErrors, .func (PySem.W.fnOf "_law_errors" "_law_errors" (defArgs sErrors) (defBody sErrors) (defScope sErrors) .none kVErrors dcErrors pmErrors anErrors cdErrors ctErrors), slErrors⟩) (cErrors : PySem.W.codeIn K cdErrors "_law_errors" = true) (kErrors : PySem.W.keepIn K (.ref fErrors) = true)
    (aMarks : PySem.W.nsIn K mainGlobals "_law_marks" = some (some (.ref fMarks))) (lMarks : K.lookup fMarks = some ⟨ocMarks, odMarks, .func (PySem.W.fnOf "_law_marks" "_law_marks" (defArgs sMarks) (defBody sMarks) (defScope sMarks) .none kVMarks dcMarks pmMarks anMarks cdMarks ctMarks), slMarks⟩) (cMarks : PySem.W.codeIn K cdMarks "_law_marks" = true) (kMarks : PySem.W.keepIn K (.ref fMarks) = true)
    (aRight : PySem.W.nsIn K mainGlobals "_law_right" = some (some (.ref fRight))) (lRight : K.lookup fRight = some ⟨ocRight, odRight, .func (PySem.W.fnOf "_law_right" "_law_right" (defArgs sRight) (defBody sRight) (defScope sRight) .none kVRight dcRight pmRight anRight cdRight ctRight), slRight⟩) (cRight : PySem.W.codeIn K cdRight "_law_right" = true) (kRight : PySem.W.keepIn K (.ref fRight) = true)
    (aLaw : PySem.W.nsIn K mainGlobals "law" = some (some (.ref fLaw))) (lLaw : K.lookup fLaw = some ⟨ocLaw, odLaw, .func (PySem.W.fnOf "law" "law" (defArgs sLaw) (defBody sLaw) (defScope sLaw) .none kVLaw dcLaw pmLaw anLaw cdLaw ctLaw), slLaw⟩) (cLaw : PySem.W.codeIn K cdLaw "law" = true) (kLaw : PySem.W.keepIn K (.ref fLaw) = true)
    (z0 : PySem.W.nsIn K mainGlobals "len" = some none) (z1 : PySem.W.nsIn K mainGlobals "sum" = some none) (z2 : PySem.W.nsIn K mainGlobals "int" = some none) (z3 : PySem.W.nsIn K mainGlobals "abs" = some none) (z4 : PySem.W.nsIn K mainGlobals "list" = some none) (z5 : PySem.W.nsIn K mainGlobals "range" = some none) (z6 : PySem.W.nsIn K mainGlobals "max" = some none) (z7 : PySem.W.nsIn K mainGlobals "min" = some none) (z8 : PySem.W.nsIn K mainGlobals "isinstance" = some none) (z9 : PySem.W.nsIn K mainGlobals "tuple" = some none) (z10 : PySem.W.nsIn K mainGlobals "bool" = some none) (z11 : PySem.W.nsIn K mainGlobals "str" = some none) (z12 : PySem.W.nsIn K mainGlobals "enumerate" = some none) (z13 : PySem.W.nsIn K mainGlobals "repr" = some none) (z14 : PySem.W.nsIn K mainGlobals "all" = some none) (z15 : PySem.W.nsIn K mainGlobals "ValueError" = some none) (ab : allB K fI B [C0, C1, C2, C3, C4, C5, C6, C7, C8, C9, C10, C11, C12, C13, C14, C15, C16, C17, C18, C19, C20, C21, C22, C23, C24, C25, C26, C27, C28, C29, C30, C31, C32, C33] = true) :
    ∃ fd : FuncData, (∀ (s : Shared) (v : Value), BindsTo s fd ⟨[v], []⟩ [("_law_script", v)]) ∧ ∀ base : Heap, K.In base → base.Ns mainGlobals mg → GnOk l.prog w K mg base 9 fa fd ["_law_script"] (spLaw K) := by
  have e := hfa.symm.trans (PySem.W.mg_of X G aLaw)
  cases e
  have T : Names mg := ⟨PySem.W.mg_none_of X G z0, PySem.W.mg_none_of X G z1, PySem.W.mg_none_of X G z2, PySem.W.mg_none_of X G z3, PySem.W.mg_none_of X G z4, PySem.W.mg_none_of X G z5, PySem.W.mg_none_of X G z6, PySem.W.mg_none_of X G z7, PySem.W.mg_none_of X G z8, PySem.W.mg_none_of X G z9, PySem.W.mg_none_of X G z10, PySem.W.mg_none_of X G z11, PySem.W.mg_none_of X G z12, PySem.W.mg_none_of X G z13, PySem.W.mg_none_of X G z14, PySem.W.mg_none_of X G z15⟩
  have A := allB_ok ab
  have FI := fun_mk (st := sInit) lI cI kI
  have bI := FI.binds (ps := ["self", "value"]) fun _ _ _ _ _ _ us hl => match us, hl with | [_, _], _ => rfl
  have FPot := fun_mk (st := sPot) lPot cPot kPot
  have bPot := FPot.binds (ps := ["_law_script", "_law_place"]) fun _ _ _ _ _ _ us hl => match us, hl with | [_, _], _ => rfl
  have FTake := fun_mk (st := sTake) lTake cTake kTake
  have bTake := FTake.binds (ps := ["_law_pot_here", "_law_upto"]) fun _ _ _ _ _ _ us hl => match us, hl with | [_, _], _ => rfl
  have FOf := fun_mk (st := sOf) lOf cOf kOf
  have bOf := FOf.binds (ps := ["_law_pot_here", "_law_some"]) fun _ _ _ _ _ _ us hl => match us, hl with | [_, _], _ => rfl
  have FCells := fun_mk (st := sCells) lCells cCells kCells
  have bCells := FCells.binds (ps := ["_law_script", "_law_most"]) fun _ _ _ _ _ _ us hl => match us, hl with | [_, _], _ => rfl
  have FOdd := fun_mk (st := sOdd) lOdd cOdd kOdd
  have bOdd := FOdd.binds (ps := ["_law_pot_here"]) fun _ _ _ _ _ _ us hl => match us, hl with | [_], _ => rfl
  have FBent := fun_mk (st := sBent) lBent cBent kBent
  have bBent := FBent.binds (ps := ["_law_pot_here", "_law_value"]) fun _ _ _ _ _ _ us hl => match us, hl with | [_, _], _ => rfl
  have FErrors := fun_mk (st := sErrors) lErrors cErrors kErrors
  have bErrors := FErrors.binds (ps := ["_law_value"]) fun _ _ _ _ _ _ us hl => match us, hl with | [_], _ => rfl
  have FMarks := fun_mk (st := sMarks) lMarks cMarks kMarks
  have bMarks := FMarks.binds (ps := ["_law_error"]) fun _ _ _ _ _ _ us hl => match us, hl with | [_], _ => rfl
  have FRight := fun_mk (st := sRight) lRight cRight kRight
  have bRight := FRight.binds (ps := ["_law_pot_here"]) fun _ _ _ _ _ _ us hl => match us, hl with | [_], _ => rfl
  have FLaw := fun_mk (st := sLaw) lLaw cLaw kLaw
  have bLaw := FLaw.binds (ps := ["_law_script"]) fun _ _ _ _ _ _ us hl => match us, hl with | [_], _ => rfl
  refine ⟨PySem.W.fnOf "law" "law" (defArgs sLaw) (defBody sLaw) (defScope sLaw) .none kVLaw dcLaw pmLaw anLaw cdLaw ctLaw, fun s v => .of_eq rfl, fun base _ _ => ?_⟩
  have cB : ECl K mg fI "BoxError" B := ⟨PySem.W.mg_of X G aB, errB_ok A.base, A.ini B List.mem_cons_self, A.val B List.mem_cons_self⟩
  have each : ∀ C ∈ [C0, C1, C2, C3, C4, C5, C6, C7, C8, C9, C10, C11, C12, C13, C14, C15, C16, C17, C18, C19, C20, C21, C22, C23, C24, C25, C26, C27, C28, C29, C30, C31, C32, C33], ∀ x : Str, mg x = some (.ref C) → ECl K mg fI x C := fun C hC x hx => ⟨hx, errB_ok (A.each C hC), A.ini C (List.mem_cons_of_mem _ hC), A.val C (List.mem_cons_of_mem _ hC)⟩
  have c0 : ECl K mg fI "BadDevice" C0 := each C0 (by simp) _ (PySem.W.mg_of X G e0)
  have c1 : ECl K mg fI "NoState" C1 := each C1 (by simp) _ (PySem.W.mg_of X G e1)
  have c2 : ECl K mg fI "NoCall" C2 := each C2 (by simp) _ (PySem.W.mg_of X G e2)
  have c3 : ECl K mg fI "NoAnswer" C3 := each C3 (by simp) _ (PySem.W.mg_of X G e3)
  have c4 : ECl K mg fI "BadWalk" C4 := each C4 (by simp) _ (PySem.W.mg_of X G e4)
  have c5 : ECl K mg fI "OtherCalls" C5 := each C5 (by simp) _ (PySem.W.mg_of X G e5)
  have c6 : ECl K mg fI "BadTests" C6 := each C6 (by simp) _ (PySem.W.mg_of X G e6)
  have c7 : ECl K mg fI "Quarrel" C7 := each C7 (by simp) _ (PySem.W.mg_of X G e7)
  have c8 : ECl K mg fI "Many" C8 := each C8 (by simp) _ (PySem.W.mg_of X G e8)
  have c9 : ECl K mg fI "NoNode" C9 := each C9 (by simp) _ (PySem.W.mg_of X G e9)
  have c10 : ECl K mg fI "BadTest" C10 := each C10 (by simp) _ (PySem.W.mg_of X G e10)
  have c11 : ECl K mg fI "Full" C11 := each C11 (by simp) _ (PySem.W.mg_of X G e11)
  have c12 : ECl K mg fI "NoTest" C12 := each C12 (by simp) _ (PySem.W.mg_of X G e12)
  have c13 : ECl K mg fI "BadWalks" C13 := each C13 (by simp) _ (PySem.W.mg_of X G e13)
  have c14 : ECl K mg fI "BadNumber" C14 := each C14 (by simp) _ (PySem.W.mg_of X G e14)
  have c15 : ECl K mg fI "Long" C15 := each C15 (by simp) _ (PySem.W.mg_of X G e15)
  have c16 : ECl K mg fI "Against" C16 := each C16 (by simp) _ (PySem.W.mg_of X G e16)
  have c17 : ECl K mg fI "Few" C17 := each C17 (by simp) _ (PySem.W.mg_of X G e17)
  have c18 : ECl K mg fI "Wide" C18 := each C18 (by simp) _ (PySem.W.mg_of X G e18)
  have c19 : ECl K mg fI "BadMenu" C19 := each C19 (by simp) _ (PySem.W.mg_of X G e19)
  have c20 : ECl K mg fI "BadLot" C20 := each C20 (by simp) _ (PySem.W.mg_of X G e20)
  have c21 : ECl K mg fI "NotLeast" C21 := each C21 (by simp) _ (PySem.W.mg_of X G e21)
  have c22 : ECl K mg fI "BadDevices" C22 := each C22 (by simp) _ (PySem.W.mg_of X G e22)
  have c23 : ECl K mg fI "BadLog" C23 := each C23 (by simp) _ (PySem.W.mg_of X G e23)
  have c24 : ECl K mg fI "BadTellings" C24 := each C24 (by simp) _ (PySem.W.mg_of X G e24)
  have c25 : ECl K mg fI "BadWatch" C25 := each C25 (by simp) _ (PySem.W.mg_of X G e25)
  have c26 : ECl K mg fI "Unfit" C26 := each C26 (by simp) _ (PySem.W.mg_of X G e26)
  have c27 : ECl K mg fI "BadBench" C27 := each C27 (by simp) _ (PySem.W.mg_of X G e27)
  have c28 : ECl K mg fI "Contrary" C28 := each C28 (by simp) _ (PySem.W.mg_of X G e28)
  have c29 : ECl K mg fI "NothingToUndo" C29 := each C29 (by simp) _ (PySem.W.mg_of X G e29)
  have c30 : ECl K mg fI "NothingToRedo" C30 := each C30 (by simp) _ (PySem.W.mg_of X G e30)
  have c31 : ECl K mg fI "NoTrial" C31 := each C31 (by simp) _ (PySem.W.mg_of X G e31)
  have c32 : ECl K mg fI "BadJournal" C32 := each C32 (by simp) _ (PySem.W.mg_of X G e32)
  have c33 : ECl K mg fI "BadLine" C33 := each C33 (by simp) _ (PySem.W.mg_of X G e33)
  have AC : AllC K mg fI B [C0, C1, C2, C3, C4, C5, C6, C7, C8, C9, C10, C11, C12, C13, C14, C15, C16, C17, C18, C19, C20, C21, C22, C23, C24, C25, C26, C27, C28, C29, C30, C31, C32, C33] := ⟨A.base, A.each, A.val, A.nd, A.out, A.many, cB, A.dsc⟩
  have II : Ini l.prog w K mg base fI := ⟨⟨_, ok_init FI, bI⟩, A.fn⟩
  have GTake := ok_take (P := l.prog) (w := w) (base := base) FTake T
  have GOf := ok_of (P := l.prog) (w := w) (base := base) FOf T GTake (PySem.W.mg_of X G aTake) kTake bTake
  have GOdd := ok_odd (P := l.prog) (w := w) (base := base) FOdd GOf (PySem.W.mg_of X G aOf) kOf bOf
  have BB : Bent l.prog w K mg base := ⟨⟨_, _, GTake, PySem.W.mg_of X G aTake, kTake, bTake⟩, ⟨_, _, GOf, PySem.W.mg_of X G aOf, kOf, bOf⟩⟩
  have B1 := ok_bent FBent T BB (no_bent (k := 4)) (PySem.W.mg_of X G aBent) bBent
  have B2 := ok_bent FBent T BB B1 (PySem.W.mg_of X G aBent) bBent
  have B3 := ok_bent FBent T BB B2 (PySem.W.mg_of X G aBent) bBent
  have GE := ok_errors (P := l.prog) (w := w) (base := base) FErrors II c0 c1 c2 c3 c4 c5 c6 c7 c8 c9 c10 c11 c12 c13 c14 c15 c16 c17 c18 c19 c20 c21 c22 c23 c24 c25 c26 c27 c28 c29 c30 c31 c32 c33
  have GM := ok_marks (P := l.prog) (w := w) (base := base) FMarks T A.dsc c0 c1 c2 c3 c4 c5 c6 c7 c8 c9 c10 c11 c12 c13 c14 c15 c16 c17 c18 c19 c20 c21 c22 c23 c24 c25 c26 c27 c28 c29 c30 c31 c32 c33
  have Z : Kit l.prog w K mg base fI [C0, C1, C2, C3, C4, C5, C6, C7, C8, C9, C10, C11, C12, C13, C14, C15, C16, C17, C18, C19, C20, C21, C22, C23, C24, C25, C26, C27, C28, C29, C30, C31, C32, C33] := ⟨⟨_, _, GOdd, PySem.W.mg_of X G aOdd, kOdd, bOdd⟩, ⟨_, _, B3, PySem.W.mg_of X G aBent, kBent, bBent⟩, ⟨_, _, GE, PySem.W.mg_of X G aErrors, kErrors, bErrors⟩, ⟨_, _, GM, PySem.W.mg_of X G aMarks, kMarks, bMarks⟩, II⟩
  have GR := ok_right FRight T Z AC
  exact ok_law FLaw T GR (PySem.W.mg_of X G aRight) kRight bRight (ok_pot FPot T) (PySem.W.mg_of X G aPot) kPot bPot (ok_cells FCells T) (PySem.W.mg_of X G aCells) kCells bCells
end K00

open PySem PySem.W PyProof.Rows
set_option Elab.async false
set_option maxRecDepth 100000 in
set_option maxHeartbeats 0 in
theorem PySem.Challenge.cw_toldboxes_k00_errors_holds : PySem.Challenge.rw_toldboxes_k00_errors.Holds := by
  w_on; o_law; k_head; (case hw => w_witness2)
  k_fill
  refine LG.g_walk (l := PySem.Challenge.rw_toldboxes_k00_errors) (k := 9) (x := "_law_script") (sp := K00.spLaw) rfl rfl ⟨rfl, by decide, by decide⟩ (fun w h Y => PySem.W.kIn_of Y) ?F (fun K H a ns hl _ hS => ⟨a, ns, rfl, hS, hl, fun _ => rfl⟩)
  case F =>
    intro w mg fa h KX G hmg
    refine' K00.all_mk KX G hmg ?aB ?e0 ?e1 ?e2 ?e3 ?e4 ?e5 ?e6 ?e7 ?e8 ?e9 ?e10 ?e11 ?e12 ?e13 ?e14 ?e15 ?e16 ?e17 ?e18 ?e19 ?e20 ?e21 ?e22 ?e23 ?e24 ?e25 ?e26 ?e27 ?e28 ?e29 ?e30 ?e31 ?e32 ?e33 ?aI ?lI ?cI ?kI ?aPot ?lPot ?cPot ?kPot ?aTake ?lTake ?cTake ?kTake ?aOf ?lOf ?cOf ?kOf ?aCells ?lCells ?cCells ?kCells ?aOdd ?lOdd ?cOdd ?kOdd ?aBent ?lBent ?cBent ?kBent ?aErrors ?lErrors ?cErrors ?kErrors ?aMarks ?lMarks ?cMarks ?kMarks ?aRight ?lRight ?cRight ?kRight ?aLaw ?lLaw ?cLaw ?kLaw ?z0 ?z1 ?z2 ?z3 ?z4 ?z5 ?z6 ?z7 ?z8 ?z9 ?z10 ?z11 ?z12 ?z13 ?z14 ?z15 ?ab
    (case aB => k_is)
    (case e0 => k_is)
    (case e1 => k_is)
    (case e2 => k_is)
    (case e3 => k_is)
    (case e4 => k_is)
    (case e5 => k_is)
    (case e6 => k_is)
    (case e7 => k_is)
    (case e8 => k_is)
    (case e9 => k_is)
    (case e10 => k_is)
    (case e11 => k_is)
    (case e12 => k_is)
    (case e13 => k_is)
    (case e14 => k_is)
    (case e15 => k_is)
    (case e16 => k_is)
    (case e17 => k_is)
    (case e18 => k_is)
    (case e19 => k_is)
    (case e20 => k_is)
    (case e21 => k_is)
    (case e22 => k_is)
    (case e23 => k_is)
    (case e24 => k_is)
    (case e25 => k_is)
    (case e26 => k_is)
    (case e27 => k_is)
    (case e28 => k_is)
    (case e29 => k_is)
    (case e30 => k_is)
    (case e31 => k_is)
    (case e32 => k_is)
    (case e33 => k_is)
    (case aI => k_is)
    (case lI => k_is)
    (case cI => k_is)
    (case kI => k_is)
    (case aPot => k_is)
    (case lPot => k_is)
    (case cPot => k_is)
    (case kPot => k_is)
    (case aTake => k_is)
    (case lTake => k_is)
    (case cTake => k_is)
    (case kTake => k_is)
    (case aOf => k_is)
    (case lOf => k_is)
    (case cOf => k_is)
    (case kOf => k_is)
    (case aCells => k_is)
    (case lCells => k_is)
    (case cCells => k_is)
    (case kCells => k_is)
    (case aOdd => k_is)
    (case lOdd => k_is)
    (case cOdd => k_is)
    (case kOdd => k_is)
    (case aBent => k_is)
    (case lBent => k_is)
    (case cBent => k_is)
    (case kBent => k_is)
    (case aErrors => k_is)
    (case lErrors => k_is)
    (case cErrors => k_is)
    (case kErrors => k_is)
    (case aMarks => k_is)
    (case lMarks => k_is)
    (case cMarks => k_is)
    (case kMarks => k_is)
    (case aRight => k_is)
    (case lRight => k_is)
    (case cRight => k_is)
    (case kRight => k_is)
    (case aLaw => k_is)
    (case lLaw => k_is)
    (case cLaw => k_is)
    (case kLaw => k_is)
    (case z0 => k_is)
    (case z1 => k_is)
    (case z2 => k_is)
    (case z3 => k_is)
    (case z4 => k_is)
    (case z5 => k_is)
    (case z6 => k_is)
    (case z7 => k_is)
    (case z8 => k_is)
    (case z9 => k_is)
    (case z10 => k_is)
    (case z11 => k_is)
    (case z12 => k_is)
    (case z13 => k_is)
    (case z14 => k_is)
    (case z15 => k_is)
    (case ab => kernel_rfl)
#print axioms PySem.Challenge.cw_toldboxes_k00_errors_holds
