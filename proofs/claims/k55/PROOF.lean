import PyProof.Rows.All
import Wide.All
import OpenK.AllK
import Wide.FinOn
import PyProof.EqAt
import PyProof.EqKinds
import PyProof.TupleCall
import PyProof.ReprRoads
import PyProof.Rows.NestShow
import PyProof.Rows.RuleB_pow
import HandS.Base
import HandS.Call
import HandS.List
import HandS.Ends
import HandS.Words
import HandS.Lambda
import HandS.EndTab
import PyProof.ReprText
import PyProof.StrLawsRepr
import PyProof.FitsInt
import PyProof.RowDictHeap
import HandS.Comp
import HandS.Dict
import HandS.Text
import HandS.TupAny
import HandS.Rev
import KE.KRevSl
import HandS.Exc
import HandS.ExcInit
import HandS.ExcField
import HandS.ExcIs
import HandS.IsInst
import KE.KExcInit
import KE.GoesMore
import PyProof.Draws
import HandS.Strs
import PyProof.Rows.SetFrom
import PyProof.InstNe
import HandS.NoneIn
import PyProof.AssignAttr
import KE.KAssignIn
import HandS.ForMost
import HandS.Conv
import HandS.Style
import HandS.Walk
import HandS.WordsExc
import HandS.TupLen
import KE.KDictWalk
import HandS.Deep
import HandS.DeepEq
import KE.KNest
import PySem.Challenge.RW_toldboxes_k55_watches_as_told_and_first
set_option Elab.async false
set_option linter.all false
set_option maxRecDepth 100000
/-! Promises that are kept where no repr is under way: calls within such bodies, the law's own end, repr of data. -/
namespace LG
open PySem PySem.Spec PyProof.Rows L2
/-- a promise of a def that is called where no guard of a repr stands around -/
structure GnOk (P : Program) (w : World) (K : PySem.W.Frag) (mg : Str → Option Value) (base : Heap) (k : Nat) (f : Addr) (fd : FuncData) (ps : List Str) (sp : Sp) : Prop where
  many : ∀ vs H Q E, sp vs H Q E → vs.length = ps.length
  goes : ∀ (B : Around) (callers : List Env) (z : Shared) (H : Hp) (args : Args) (us : List Value) (vs : List V) (Q : VK),
    B.guards = some [] → Room k B → Env0 P w K mg base B callers z H → BindsTo z fd args (ps.zip us) → Vals vs us → sp vs H Q E0 → codeAny (model P w) B (.call (.ref f) args) (CR CX0 callers P w H z Q E0) z
section
variable {P : Program} {w : World} {K : PySem.W.Frag} {mg : Str → Option Value} {base : Heap}
theorem GnOk.of {k : Nat} {f : Addr} {fd : FuncData} {ps : List Str} {sp : Sp} (F : FnOk P w K mg base CX0 k f fd ps sp) : GnOk P w K mg base k f fd ps sp :=
  ⟨F.len, fun B cs z H args us vs Q _ hr e0 hb r h => F.run B cs z H args us vs Q E0 hr e0 hb r h⟩
/-- a def's promise by its body, the guards known -/
theorem gn_of {x qual : Str} {st : Stmt} {f : Addr} {fd : FuncData} {N ps : List Str} {k : Nat} {sp : Sp} (F : Fun K x qual st f fd) (S : FnScope N ps (defScope st))
    (len : ∀ vs H Q E, sp vs H Q E → vs.length = ps.length)
    (body : ∀ (cv : Value) (B : Around) (callers : List Env) (z : Shared) (H : Hp) (vs : List V) (Q : VK), B.guards = some [] → Room k (B.deeper (envOfC qual (defScope st) z.heap.objs.size f cv)) → sp vs H Q E0 →
      ∃ t, PSs (cxOf CX0 P w K mg base N qual (defScope st) f cv B callers z H E0).nox (defBody st) t ∧ t { nx := fun _ H' => Q .non H', rt := Q } (start N vs) H) :
    GnOk P w K mg base (k + 1) f fd ps sp := by
  obtain ⟨oc, od, kV, doc, pm, an, cv, ct, osl, rfl, lk, hcd⟩ := F.ex
  refine ⟨len, fun B callers z H args us vs Q hg hr e0 hb r hsp => ?_⟩
  have many := len _ _ _ _ hsp
  have inK : K.In z.heap := e0.mod.kin.keeps fun b o e => (e0.bs b o e).1
  have nolim : z.heap.NoLimit := e0.mod.nolimit.keeps fun b o e => (e0.bs b o e).1
  have kinds : ∀ y ∈ ps.zip us, (defScope st).names.lookup y.1 = some .local ∨ ((defScope st).names.lookup y.1 = some .cell ∧ ((cellsFrom (z.heap.objs.size + 1) (defScope st).names []).lookup y.1).isSome = true) := by
    rintro ⟨n, v⟩ hy
    cases S.par n (List.of_mem_zip hy).1 with
    | inl q => exact .inl q
    | inr q => exact .inr ⟨q, PySem.W.cellsFrom_some _ _ _ (.inl q)⟩
  refine codeAny_call_function hr.depth (inK _ _ lk) rfl S.co S.gen rfl (PySem.W.codeRec_of inK hcd) (hb _ _ _ _ ?_)
  refine wpAny_newFunctionEnv_cells S.kind kinds fun env he z1 entered => ?_
  subst he
  refine ⟨nolim.keeps entered.toInCall.keep, codeAny_func ?_⟩
  obtain ⟨t, ht, q0⟩ := body cv B callers z H vs Q hg (hr.deeper _) hsp
  have J := inv_start (CX := CX0) (E := E0) S hr.hd e0 many r entered
  refine wpAny_mono (ht.nox.run [] z1 (start N vs) H _ J q0) (fun fl z' ends => ?_) fun _ _ e => e
  cases fl with
  | ret u =>
    obtain ⟨v, σ', H', J', rv, q⟩ := ends
    exact ⟨v, H', J'.os, J'.bare, J'.base, J'.hok, rv, q⟩
  | next =>
    obtain ⟨σ', H', J', q⟩ := ends
    exact ⟨V.non, H', J'.os, J'.bare, J'.base, J'.hok, rfl, q⟩
  | brk =>
    obtain ⟨_, _, _, q⟩ := ends
    exact q.elim
  | cont =>
    obtain ⟨_, _, _, q⟩ := ends
    exact q.elim
end
section
variable {X : Cx} {k : Nat} {f : Addr} {fd : FuncData} {ps : List Str} {sp : Sp} {x : Str} {p pos : Pos} {e : Expr} {es : List Expr} {t : TA}
theorem g_run {pins : List (Addr × Obj)} {σ : L2.St} {H : Hp} {z : Shared} {Q : VK} {us : List Value} {vs : List V} (F : GnOk X.prog X.w X.K X.mg X.base k f fd ps sp) (hg : X.A.guards = some []) (hr : Room k X.A) (hb : Binds X.K fd ps [])
    (I : Inv X pins σ H z) (r : Vals vs us) (h : sp vs H Q E0) : wpAny (model X.prog X.w) X.A (call (.ref f) us) (EP X pins σ Q) X.xe z := by
  have hl : (us ++ []).length = ps.length := by
    rw [List.append_nil, ← r.length]
    exact F.many _ _ _ _ h
  have hb' := hb z us I.kIn hl
  rw [List.append_nil] at hb'
  refine wpAny_call (codeAny_mono (F.goes X.A X.stack z H ⟨us, []⟩ us vs Q hg hr I.env0 hb' r h) fun res z' q => ?_)
  match res, q with
  | .ok (.ret u), q => exact I.after q
  | .ok .next, q => exact q.elim
  | .ok .brk, q => exact q.elim
  | .ok .cont, q => exact q.elim
  | .error _, q => exact q.elim
/-- f(e, ..) where no repr is under way -/
theorem pe_gcall (F : GnOk X.prog X.w X.K X.mg X.base k f fd ps sp) (hG : X.A.guards = some []) (hr : Room k X.A) (hg : Gl X x) (hm : X.mg x = some (.ref f)) (hk : PySem.W.keepIn X.K (.ref f) = true) (hb : Binds X.K fd ps [])
    (ha : PA X (e :: es) t) (hdb : (x == ("__debug__" : Str)) = false := by decide) (he : starEach (e :: es) X.env = (false, eval e X.env) :: starEach es X.env := by rfl) (hpl : (backTo pos (starEach es X.env)).any (·.1) = false := by rfl) :
    PE X (.Call (.Name x p) (e :: es) [] pos) (fun σ H Q => t σ H fun vs H1 => sp vs H1 Q E0) := by
  refine ⟨fun pins z σ H Q I h => wpAny_Call_Name_kw (ld_glob I hg hm ?_ hdb)⟩
  refine PySem.W.callWith_K (h₀ := X.base) I.ok.mod.kin hk (thn (ha.run pos pins z σ H _ I h) ?_) he hpl
  rintro us z1 ⟨vs, H1, I1, r, q⟩
  exact ⟨I1.kIn, g_run F hG hr hb I1 r q⟩
end
end LG
set_option Elab.async false
set_option linter.all false
set_option maxRecDepth 100000
namespace LG
open PySem PySem.Spec PyProof.Rows L2
/-- the law's call from the heap behind the top, for a promise of the kind GnOk -/
theorem g_law {P : Program} {w : World} {K : PySem.W.Frag} {mg mb : Str → Option Value} {k : Nat} {fa a : Addr} {fd : FuncData} {x : Str} {sp : Sp} {z : Shared} {vs : List Value} {ns : List Int}
    (inK : K.In z.heap) (gl : z.heap.Ns mainGlobals mg) (bl : z.heap.Ns builtinsNs mb) (boot : ∀ x : Str, x ≠ "__name__" → mb x = bootBuiltins x) (nolim : z.heap.NoLimit) (nogen : z.gens = #[])
    (at_ : z.heap.get? a = some { cls := .type "list", data := .seq vs.toArray }) (isInts : IntsAre vs ns) (fits : ns.length ≤ sizeLine) (hr : Room k callerA)
    (F : ∀ base : Heap, K.In base → base.Ns mainGlobals mg → GnOk P w K mg base k fa fd [x] sp) (binds : ∀ (s : Shared) (u : Value), BindsTo s fd ⟨[u], []⟩ [(x, u)])
    (told : ∀ H : Hp, Only H → SqL K H a (ns.map V.int) → sp [.ref a] H (fun v _ => v = .bl true) E0) :
    codeAny (model P w) callerA (.call (.ref fa) ⟨[.ref a], []⟩) (fun r s' => r = .ok (.ret (.bool true)) ∧ OldK z.heap s'.heap ∧ s'.os = z.os ∧ AllBare s'.gens) z := by
  have vals := vals_ints isInts
  have many := isInts.length
  have go : ∀ H : Hp, Only H → SqL K H a (ns.map V.int) → HOk P w H z.heap → (∀ b, H b ≠ none → b = a) → (H a ≠ none → K.lookup a = none) →
      codeAny (model P w) callerA (.call (.ref fa) ⟨[.ref a], []⟩) (fun r s' => r = .ok (.ret (.bool true)) ∧ OldK z.heap s'.heap ∧ s'.os = z.os ∧ AllBare s'.gens) z := by
    intro H only seq hok just notK
    have dicts : ∀ {b : Addr} {o : Obj} {es : Array DictEntry} {ep : Nat}, z.heap.get? b = some o → o.data = .dict es ep → H b = none := by
      intro b o es ep e d
      cases q : H b with
      | none => rfl
      | some u =>
        have same : b = a := just b (by rw [q]; exact fun t => nomatch t)
        rw [same, at_] at e
        cases e
        exact nomatch (show Data.seq vs.toArray _ = Data.dict es ep from d)
    have nsH : ∀ {b : Addr} {m : Str → Option Value}, z.heap.Ns b m → (hidT z.heap H).Ns b m := by
      rintro b m ⟨o, es, ep, e, d, r⟩
      exact ⟨o, es, ep, hidT_get e (dicts e d), d, r⟩
    have inH : K.In (hidT z.heap H) := by
      intro b o e
      refine hidT_get (inK b o e) ?_
      cases q : H b with
      | none => rfl
      | some u =>
        have same : b = a := just b (by rw [q]; exact fun t => nomatch t)
        have no := notK (by rw [← same, q]; exact fun t => nomatch t)
        rw [same, no] at e
        cases e
    have M : Mod K mg (hidT z.heap H) := ⟨inH, nsH gl, ⟨mb, nsH bl, boot⟩, by
      obtain ⟨mc, n1, n2⟩ := nolim
      exact ⟨mc, nsH n1, n2⟩⟩
    have e0 : Env0 P w K mg (hidT z.heap H) callerA [] z H :=
      ⟨rfl, M, fun b o e => of_hidT e, Nat.le_of_eq (hidT_size _ _), trivial, fun b hb => absurd hb (by simp [frs]), hok, .of_eq nogen⟩
    refine codeAny_mono ((F _ inH (nsH gl)).goes callerA [] z H ⟨[.ref a], []⟩ [.ref a] [.ref a] _ rfl hr e0 (binds z (.ref a)) (.cons rfl .nil) (told H only seq)) fun r s' h => ?_
    match r, h with
    | .error _, h => exact h.elim
    | .ok .next, h => exact h.elim
    | .ok .brk, h => exact h.elim
    | .ok .cont, h => exact h.elim
    | .ok (.ret u), h =>
      obtain ⟨v, H', os, bare, un, hok', r', q⟩ := h
      have q' : v = .bl true := q
      subst q'
      have r2 : u = Value.bool true := r'
      subst r2
      refine ⟨rfl, OldK.of_keep fun b o e => ?_, os, bare⟩
      cases q : H b with
      | none => exact un.keep b o e q (by simp [frs]) (by simp)
      | some u =>
        rcases only b with t | ⟨ob, xs, t⟩
        · rw [q] at t
          cases t
        · obtain ⟨e1, _⟩ := hok b _ t
          obtain ⟨e2, _⟩ := hok' b _ (un.frzs b ob _ t)
          rw [e] at e1
          cases e1
          exact e2
  cases hk : K.lookup a with
  | some o =>
    have e := inK a o hk
    rw [at_] at e
    cases e
    refine go (fun _ => none) (fun _ => .inl rfl) (.inr ⟨_, vs.toArray, _, hk, rfl, rfl, rfl, ?_, ?_⟩) (fun b u t => nomatch (show (none : Option HO) = some u from t)) (fun b t => absurd rfl t) fun t => absurd rfl t
    · rw [List.size_toArray, many]
      exact fits
    · simpa using vals
  | none =>
    refine go (fun b => if b = a then some (.frz { cls := .type "list", data := .seq vs.toArray } (.lst (ns.map V.int))) else none) ?_ (.inl (.inr ⟨_, if_pos rfl⟩)) ?_ ?_ fun _ => hk
    · intro b
      by_cases same : b = a
      · exact .inr ⟨_, _, if_pos same⟩
      · exact .inl (if_neg same)
    · intro b u t
      by_cases same : b = a
      · have t' := (if_pos same).symm.trans t
        cases t'
        rw [same]
        exact ⟨at_, by rw [List.length_map]; exact fits, vs, _, vals, at_⟩
      · exact nomatch (if_neg same).symm.trans t
    · intro b t
      by_cases same : b = a
      · exact same
      · exact absurd (if_neg same) t
theorem g_walk {l : PySem.W.OpenLaw} {k : Nat} {q : Program} {loose : List Str} {XP : (Str → Option Value) → Heap → Prop} {YP : World → Heap → Prop} {d : DefRec} {K : Params → PySem.W.Frag} {sp : PySem.W.Frag → Sp} {x : Str}
    (most : l.most = some 63) (nodef : d.params.defaults = []) (hr : Room k callerA) (inK : ∀ (w : World) (h : Heap), YP w h → (K w.params).In h)
    (F : ∀ (w : World) (mg : Str → Option Value) (fa : Addr) (h : Heap), (K w.params).In h → h.Ns mainGlobals mg → mg d.name = some (.ref fa) →
      ∃ fd : FuncData, (∀ (s : Shared) (u : Value), BindsTo s fd ⟨[u], []⟩ [(x, u)]) ∧ ∀ base : Heap, (K w.params).In base → base.Ns mainGlobals mg → GnOk l.prog w (K w.params) mg base k fa fd [x] (sp (K w.params)))
    (told : ∀ (K : PySem.W.Frag) (H : Hp) (a : Addr) (ns : List Int), ns.length ≤ 63 → Only H → SqL K H a (ns.map V.int) → sp K [.ref a] H (fun v _ => v = .bl true) E0) :
    PySem.W.WalkO q loose XP YP l.row.toRowW d [] (fun f vs => PySem.call f vs) := by
  refine Att.attach_call most nodef fun w s₀ s₁ mg mb fa o pm cd doc a vs ns G Y ho hd hcd hmg hobj hints hlen hg => ?_
  have KX := inK w _ Y
  obtain ⟨fd, hb, hF⟩ := F w mg fa _ KX G.T.g hmg
  exact g_law KX G.T.g G.T.b G.T.builtins G.T.nolimit hg hobj hints (Nat.le_trans hlen (by decide)) hr hF hb fun H only seq => told _ H a ns hlen only seq
end LG
set_option Elab.async false
set_option linter.all false
set_option maxRecDepth 100000
set_option maxHeartbeats 1000000
/-! The law's end for GnOk with tables of code objects. -/
namespace LG
open PySem PySem.Spec PyProof.Rows L2 LamX
theorem g_lawT {P : Program} {w : World} {K : PySem.W.Frag} {mg mb : Str → Option Value} {k : Nat} {fa a : Addr} {cs : List (Addr × Addr)} {fd : FuncData} {x : Str} {sp : Sp} {z : Shared} {vs : List Value} {ns : List Int}
    (inK : K.In z.heap) (gl : z.heap.Ns mainGlobals mg) (bl : z.heap.Ns builtinsNs mb) (boot : ∀ x : Str, x ≠ "__name__" → mb x = bootBuiltins x) (nolim : z.heap.NoLimit) (nogen : z.gens = #[])
    (tab : ∀ p ∈ cs, z.heap.get? p.2 = some { cls := .none, data := .fields #[] }) (tabK : ∀ p ∈ cs, K.lookup p.2 = none) (hd : ∀ p ∈ cs, PySem.W.CodeHd z.heap p.1 p.2)
    (bmod : ∃ (bm : Addr) (ob : Obj), mg "__builtins__" = some (.ref bm) ∧ bm ≠ builtinsNs ∧ z.heap.get? bm = some ob ∧ ob.cls = .type "module" ∧ ob.dict = some builtinsNs ∧ ob.data = .plain)
    (at_ : z.heap.get? a = some { cls := .type "list", data := .seq vs.toArray }) (isInts : IntsAre vs ns) (fits : ns.length ≤ sizeLine) (hr : Room k callerA)
    (F : ∀ base : Heap, K.In base → base.Ns mainGlobals mg → (∀ p ∈ cs, TabB base mg p.1 p.2) → GnOk P w K mg base k fa fd [x] sp) (binds : ∀ (s : Shared) (u : Value), BindsTo s fd ⟨[u], []⟩ [(x, u)])
    (told : ∀ H : Hp, (∀ p ∈ cs, H p.2 = some (.tbl #[])) → SqL K H a (ns.map V.int) → sp [.ref a] H (fun v _ => v = .bl true) E0) :
    codeAny (model P w) callerA (.call (.ref fa) ⟨[.ref a], []⟩) (fun r s' => r = .ok (.ret (.bool true)) ∧ OldK z.heap s'.heap ∧ s'.os = z.os ∧ AllBare s'.gens) z := by
  have vals := vals_ints isInts
  have many := isInts.length
  let T : Addr → Prop := fun b => ∃ p ∈ cs, p.2 = b
  have tabT : ∀ b, T b → z.heap.get? b = some { cls := .none, data := .fields #[] } := by
    rintro b ⟨p, hp, rfl⟩
    exact tab p hp
  have aT : ¬ T a := fun q => by
    have e := tabT a q
    rw [at_] at e
    exact nomatch (show Data.seq vs.toArray _ = Data.fields #[] from congrArg Obj.data (Option.some.inj e))
  have go : ∀ H : Hp, (∀ p ∈ cs, H p.2 = some (.tbl #[])) → (∀ b, H b = none ∨ T b ∨ ∃ o xs, H b = some (.frz o (.lst xs))) → SqL K H a (ns.map V.int) → HOk P w H z.heap → (∀ b, H b ≠ none → b = a ∨ T b) → (H a ≠ none → K.lookup a = none) →
      codeAny (model P w) callerA (.call (.ref fa) ⟨[.ref a], []⟩) (fun r s' => r = .ok (.ret (.bool true)) ∧ OldK z.heap s'.heap ∧ s'.os = z.os ∧ AllBare s'.gens) z := by
    intro H isT kinds seq hok just notK
    have out : ∀ {b : Addr} {o : Obj}, z.heap.get? b = some o → (∀ us n, o.data ≠ .seq us n) → o.data ≠ .fields #[] → H b = none := by
      intro b o e n1 n2
      cases q : H b with
      | none => rfl
      | some u =>
        rcases just b (by rw [q]; exact fun t => nomatch t) with r | r
        · rw [r, at_] at e
          cases e
          exact (n1 _ _ rfl).elim
        · rw [tabT b r] at e
          cases e
          exact (n2 rfl).elim
    have outD : ∀ {b : Addr} {o : Obj} {es : Array DictEntry} {ep : Nat}, z.heap.get? b = some o → o.data = .dict es ep → H b = none := by
      intro b o es ep e d
      exact out e (fun us n q => by rw [d] at q; cases q) (fun q => by rw [d] at q; cases q)
    have nsH : ∀ {b : Addr} {m : Str → Option Value}, z.heap.Ns b m → (hidT z.heap H).Ns b m := by
      rintro b m ⟨o, es, ep, e, d, r⟩
      exact ⟨o, es, ep, hidT_get e (outD e d), d, r⟩
    have inH : K.In (hidT z.heap H) := by
      intro b o e
      refine hidT_get (inK b o e) ?_
      cases q : H b with
      | none => rfl
      | some u =>
        have some_ : H b ≠ none := by rw [q]; exact fun t => nomatch t
        rcases just b some_ with r | ⟨p, hp, r⟩
        · rw [r] at e some_
          rw [notK some_] at e
          cases e
        · rw [← r, tabK p hp] at e
          cases e
    have M : Mod K mg (hidT z.heap H) := ⟨inH, nsH gl, ⟨mb, nsH bl, boot⟩, by
      obtain ⟨mc, n1, n2⟩ := nolim
      exact ⟨mc, nsH n1, n2⟩⟩
    have tabB : ∀ p ∈ cs, TabB (hidT z.heap H) mg p.1 p.2 := by
      intro p hp
      refine ⟨?_, ?_, fun same => ?_⟩
      · obtain ⟨o, us, file, tf, flags, tg, inF, text, tt, e1, r1, r2, r3, r4, r5, r6, r7, r8, ne⟩ := hd p hp
        refine ⟨o, us, file, tf, flags, tg, inF, text, tt, hidT_get e1 (out e1 (fun us n q => ?_) fun q => ?_), r1, r2, r3, r4, r5, r6, r7, r8, ne⟩
        · rw [r2] at q
          cases q
        · rw [r2] at q
          cases q
          simp at r3
      · obtain ⟨bm, ob, b1, b2, b3, b4, b5, b6⟩ := bmod
        have n1 : bm ≠ mainGlobals := fun q => by
          obtain ⟨o, es, ep, e, d, _⟩ := gl
          rw [q, e] at b3
          cases b3
          rw [d] at b6
          cases b6
        have n2 : bm ≠ p.2 := fun q => by
          rw [q, tab p hp] at b3
          cases b3
          cases b6
        refine ⟨bm, ob, b1, b2, n1, n2, hidT_get b3 (out b3 (fun us n q => ?_) fun q => ?_), b4, b5, b6⟩
        · rw [b6] at q
          cases q
        · rw [b6] at q
          cases q
      · obtain ⟨o, es, ep, e, d, _⟩ := gl
        rw [same, tab p hp] at e
        cases e
        cases d
    have e0 : Env0 P w K mg (hidT z.heap H) callerA [] z H :=
      ⟨rfl, M, fun b o e => of_hidT e, Nat.le_of_eq (hidT_size _ _), trivial, fun b hb => absurd hb (by simp [frs]), hok, .of_eq nogen⟩
    refine codeAny_mono ((F _ inH (nsH gl) tabB).goes callerA [] z H ⟨[.ref a], []⟩ [.ref a] [.ref a] _ rfl hr e0 (binds z (.ref a)) (.cons rfl .nil) (told H isT seq)) fun r s' h => ?_
    match r, h with
    | .error _, h => exact h.elim
    | .ok .next, h => exact h.elim
    | .ok .brk, h => exact h.elim
    | .ok .cont, h => exact h.elim
    | .ok (.ret u), h =>
      obtain ⟨v, H', os, bare, un, hok', r', q⟩ := h
      have q' : v = .bl true := q
      subst q'
      have r2 : u = Value.bool true := r'
      subst r2
      have stay : ∀ b o, ¬ T b → z.heap.get? b = some o → s'.heap.get? b = some o := by
        intro b o nb e
        cases q : H b with
        | none => exact un.keep b o e q (by simp [frs]) (by simp)
        | some u =>
          rcases kinds b with t | t | ⟨ob, xs, t⟩
          · rw [q] at t
            cases t
          · exact absurd t nb
          · obtain ⟨e1, _⟩ := hok b _ t
            obtain ⟨e2, _⟩ := hok' b _ (un.frzs b ob _ t)
            rw [e] at e1
            cases e1
            exact e2
      have grow : ∀ p ∈ cs, ∃ more : Array Value, s'.heap.get? p.2 = some { cls := .none, data := .fields more } := by
        intro p hp
        obtain ⟨more, t⟩ := un.tbls p.2 #[] (isT p hp)
        exact ⟨_, hok' p.2 _ t⟩
      refine ⟨rfl, ⟨fun b o e => ?_, fun b o e => ?_⟩, os, bare⟩
      · rcases Classical.em (T b) with t | t
        · obtain ⟨p, hp, rfl⟩ := t
          obtain ⟨more, m⟩ := grow p hp
          rw [tab p hp] at e
          cases e
          exact .inr (.inl ⟨((hd p hp).tab (tab p hp)).isCodeTable, rfl, #[], more, rfl, by rw [Array.empty_append]; exact m⟩)
        · exact .inl (stay b o t e)
      · rcases Classical.em (T b) with t | t
        · obtain ⟨p, hp, rfl⟩ := t
          obtain ⟨more, m⟩ := grow p hp
          exact ⟨_, m⟩
        · exact ⟨o, stay b o t e⟩
  classical
  cases hk : K.lookup a with
  | some o =>
    have e := inK a o hk
    rw [at_] at e
    cases e
    have hT : ∀ b, (if T b then some (HO.tbl #[]) else none) = none ∨ T b := fun b => if c : T b then .inr c else .inl (if_neg c)
    refine go (fun b => if T b then some (.tbl #[]) else none) (fun p hp => if_pos ⟨p, hp, rfl⟩) (fun b => (hT b).elim .inl fun t => .inr (.inl t)) (.inr ⟨_, vs.toArray, _, hk, rfl, rfl, rfl, ?_, ?_⟩) (fun b u t => ?_) (fun b t => ?_) fun t => absurd (if_neg aT) t
    · rw [List.size_toArray, many]
      exact fits
    · simpa using vals
    · by_cases c : T b
      · have t' := (if_pos c).symm.trans t
        cases t'
        exact tabT b c
      · exact nomatch (if_neg c).symm.trans t
    · exact (hT b).elim (fun q => absurd q t) .inr
  | none =>
    refine go (fun b => if b = a then some (.frz { cls := .type "list", data := .seq vs.toArray } (.lst (ns.map V.int))) else if T b then some (.tbl #[]) else none) (fun p hp => ?_) (fun b => ?_) (.inl (.inr ⟨_, if_pos rfl⟩)) (fun b u t => ?_) (fun b t => ?_) fun _ => hk
    · have ne : ¬ p.2 = a := fun q => aT ⟨p, hp, q⟩
      exact (if_neg ne).trans (if_pos ⟨p, hp, rfl⟩)
    · by_cases c : b = a
      · exact .inr (.inr ⟨_, _, if_pos c⟩)
      · by_cases c2 : T b
        · exact .inr (.inl c2)
        · exact .inl ((if_neg c).trans (if_neg c2))
    · by_cases c : b = a
      · have t' := (if_pos c).symm.trans t
        cases t'
        rw [c]
        exact ⟨at_, by rw [List.length_map]; exact fits, vs, _, vals, at_⟩
      · have t1 := (if_neg c).symm.trans t
        by_cases c2 : T b
        · have t' := (if_pos c2).symm.trans t1
          cases t'
          exact tabT b c2
        · exact nomatch (if_neg c2).symm.trans t1
    · by_cases c : b = a
      · exact .inl c
      · by_cases c2 : T b
        · exact .inr c2
        · exact absurd ((if_neg c).trans (if_neg c2)) t
/-- what is known of the law at the head's heap -/
def GLawAt (l : PySem.W.OpenLaw) (w : World) (K : PySem.W.Frag) (k : Nat) (x : Str) (mg : Str → Option Value) (fa : Addr) (h : Heap) : Prop :=
  ∃ (fd : FuncData) (cs : List (Addr × Addr)) (sp : Sp), (∀ p ∈ cs, h.get? p.2 = some { cls := .none, data := .fields #[] }) ∧ (∀ p ∈ cs, K.lookup p.2 = none) ∧ (∀ p ∈ cs, PySem.W.CodeHd h p.1 p.2) ∧ (∀ (s : Shared) (u : Value), BindsTo s fd ⟨[u], []⟩ [(x, u)]) ∧
    (∀ (H : Hp) (a : Addr) (ns : List Int), ns.length ≤ 63 → (∀ p ∈ cs, H p.2 = some (.tbl #[])) → SqL K H a (ns.map V.int) → sp [.ref a] H (fun v _ => v = .bl true) E0) ∧
    ∀ base : Heap, K.In base → base.Ns mainGlobals mg → (∀ p ∈ cs, TabB base mg p.1 p.2) → GnOk l.prog w K mg base k fa fd [x] sp
theorem g_walkT {l : PySem.W.OpenLaw} {k : Nat} {q : Program} {loose : List Str} {XP : (Str → Option Value) → Heap → Prop} {YP : World → Heap → Prop} {d : DefRec} {K : Params → PySem.W.Frag} {x : Str}
    (most : l.most = some 63) (nodef : d.params.defaults = []) (hr : Room k callerA) (inK : ∀ (w : World) (h : Heap), YP w h → (K w.params).In h)
    (F : ∀ (w : World) (mg : Str → Option Value) (fa : Addr) (h : Heap), YP w h → (K w.params).In h → h.Ns mainGlobals mg → mg d.name = some (.ref fa) → GLawAt l w (K w.params) k x mg fa h) :
    PySem.W.WalkO q loose XP YP l.row.toRowW d [] (fun f vs => PySem.call f vs) := by
  refine Att.attach_call most nodef fun w s₀ s₁ mg mb fa o pm cd doc a vs ns G Y ho hd hcd hmg hobj hints hlen hg => ?_
  have KX := inK w _ Y
  obtain ⟨fd, cs, sp, hT, nT, C, hb, hsp, hF⟩ := F w mg fa _ Y KX G.T.g hmg
  exact g_lawT KX G.T.g G.T.b G.T.builtins G.T.nolimit hg hT nT C G.T.bmain hobj hints (Nat.le_trans hlen (by decide)) hr hF hb fun H hH hS => hsp H a ns hlen hH hS
end LG
set_option Elab.async false
set_option linter.all false
set_option maxRecDepth 100000
set_option maxHeartbeats 1000000
namespace LG
open PySem PySem.Spec PyProof.Rows L2
/-! ### data that are small: their text fits -/
mutual
def small : Nat → PyData → Bool
  | _, .none => true
  | _, .bool _ => true
  | _, .int i => decide (i.natAbs < 10 ^ 12)
  | _, .str x => decide (x.length ≤ 20) && x.cps.toList.all fun c => decide (c < 16 ^ 8)
  | 0, .list _ => false
  | 0, .tuple _ => false
  | n + 1, .list xs => decide (xs.length ≤ 25) && smalls n xs
  | n + 1, .tuple xs => decide (xs.length ≤ 25) && smalls n xs
  | _, .dict kvs => smallKv kvs && decide (kvs.length ≤ 2)
def smalls : Nat → List PyData → Bool
  | _, [] => true
  | n, d :: ds => small n d && smalls n ds
def smallKv : List (PyData × PyData) → Bool
  | [] => true
  | (k, v) :: r => (match k with | .str x => decide (x.length ≤ 20) && x.cps.toList.all fun c => decide (c < 16 ^ 8) | _ => false) && (match v with | .int i => decide (i.natAbs < 10 ^ 12) | _ => false) && smallKv r
end
def signs : Nat → Nat
  | 0 => 1000
  | n + 1 => 25 * (signs n + 2) + 1000
theorem signs_ge (n : Nat) : 1000 ≤ signs n := by
  cases n with
  | zero => exact Nat.le_refl _
  | succ n => exact Nat.le_add_left _ _
theorem log2_small {i : Int} (h : i.natAbs < 10 ^ 12) : i.natAbs.log2 < 1920 := by
  by_cases z : i.natAbs = 0
  · rw [z]
    decide
  · have h2 := Nat.log2_lt z (k := 1920)
    refine h2.mpr (Nat.lt_trans h ?_)
    decide +kernel
theorem text_small {x : Str} (h : (decide (x.length ≤ 20) && x.cps.toList.all fun c => decide (c < 16 ^ 8)) = true) : (reprText x).length ≤ 410 := by
  rw [Bool.and_eq_true, decide_eq_true_eq, List.all_eq_true] at h
  have h2 := PySem.StrLaws.reprText_len x fun c hc => of_decide_eq_true (h.2 c hc)
  omega
theorem int_small {i : Int} (h : i.natAbs < 10 ^ 12) : (Str.ofString (toString i)).length ≤ 13 := by
  have h1 := int_text_length_le10 (a := i) (k := 12) (by decide) h
  rw [PySem.ofString_length]
  exact h1
theorem join_le {sep : Str} (hs : sep.length = 2) : ∀ {ts : List Str} {m : Nat}, (∀ t ∈ ts, t.length ≤ m) → (Str.join sep ts).length ≤ ts.length * (m + 2)
  | [], _, _ => by
    show (Str.empty).length ≤ _
    exact Nat.zero_le _
  | [x], m, h => by
    have h1 := h x (List.mem_singleton.mpr rfl)
    show x.length ≤ _
    simp only [List.length_cons, List.length_nil]
    omega
  | x :: y :: r, m, h => by
    have h1 := h x List.mem_cons_self
    have ih := join_le hs (ts := y :: r) (m := m) fun t ht => h t (List.mem_cons_of_mem _ ht)
    have e : Str.join sep (x :: y :: r) = x ++ sep ++ Str.join sep (y :: r) := rfl
    rw [e, strLen_append, strLen_append, hs]
    simp only [List.length_cons] at ih ⊢
    have e2 : (r.length + 1 + 1) * (m + 2) = (r.length + 1) * (m + 2) + (m + 2) := Nat.succ_mul _ _
    omega

theorem str_len (x : String) : (Str.ofString x).length = x.length := PySem.ofString_length x
theorem list_le {ts : List Str} {m : Nat} (h : ∀ t ∈ ts, t.length ≤ m) (hl : ts.length ≤ 25) : (listText ts).length ≤ 25 * (m + 2) + 2 := by
  rw [listText_eq_join, strLen_append, strLen_append]
  have h1 := join_le (sep := ", ") (by decide +kernel) h
  have e1 : ("[" : Str).length = 1 := by decide +kernel
  have e2 : ("]" : Str).length = 1 := by decide +kernel
  have h2 := Nat.mul_le_mul_right (m + 2) hl
  omega
theorem tuple_le {ts : List Str} {m : Nat} (h : ∀ t ∈ ts, t.length ≤ m) (hl : ts.length ≤ 25) : (tupleText ts).length ≤ 25 * (m + 2) + 3 := by
  unfold tupleText
  rw [strLen_append, strLen_append]
  have h1 := join_le (sep := ", ") (by decide +kernel) h
  have e1 : ("(" : Str).length = 1 := by decide +kernel
  have e2 : (Str.ofString (if (ts.length == 1) = true then ",)" else ")" : String)).length ≤ 2 := by
    split <;> decide +kernel
  have h2 := Nat.mul_le_mul_right (m + 2) hl
  omega
theorem dict_le {ts : List Str} {m : Nat} (h : ∀ t ∈ ts, t.length ≤ m) (hl : ts.length ≤ 2) : (dictText ts).length ≤ 2 * (m + 2) + 2 := by
  unfold dictText
  rw [strLen_append, strLen_append]
  have h1 := join_le (sep := ", ") (by decide +kernel) h
  have e1 : ("{" : Str).length = 1 := by decide +kernel
  have e2 : ("}" : Str).length = 1 := by decide +kernel
  have h2 := Nat.mul_le_mul_right (m + 2) hl
  omega
theorem shownAll_length : ∀ xs : List PyData, (PyData.shownAll xs).length = xs.length
  | [] => rfl
  | x :: xs => by
    simp only [PyData.shownAll, List.length_cons, shownAll_length xs]
theorem shownKv_length : ∀ xs : List (PyData × PyData), (PyData.shownKv xs).length = xs.length
  | [] => rfl
  | (k, v) :: xs => by
    simp only [PyData.shownKv, List.length_cons, shownKv_length xs]
theorem smallKv_shown : ∀ kvs : List (PyData × PyData), smallKv kvs = true → ∀ t ∈ PyData.shownKv kvs, t.length ≤ 430
  | [], _, t, ht => by
    simp only [PyData.shownKv] at ht
    cases ht
  | (k, v) :: r, h, t, ht => by
    simp only [smallKv, Bool.and_eq_true] at h
    obtain ⟨⟨h1, h2⟩, h3⟩ := h
    simp only [PyData.shownKv, List.mem_cons] at ht
    rcases ht with rfl | ht
    · cases k with
      | str x =>
        cases v with
        | int i =>
          have a1 := text_small (x := x) h1
          have a2 := int_small (i := i) (of_decide_eq_true h2)
          have e : (": " : Str).length = 2 := by decide +kernel
          simp only [PyData.shown]
          rw [strLen_append, strLen_append, e]
          omega
        | _ => cases h2
      | _ => cases h1
    · exact smallKv_shown r h3 t ht
mutual
theorem small_shown : ∀ (n : Nat) (d : PyData), small n d = true → d.shown.length ≤ signs n
  | n, .none, _ => by
    simp only [PyData.shown]
    have := signs_ge n
    have e : ("None" : Str).length = 4 := by decide +kernel
    omega
  | n, .bool b, _ => by
    simp only [PyData.shown]
    have := signs_ge n
    have e1 : (Str.ofString "True").length = 4 := by decide +kernel
    have e2 : (Str.ofString "False").length = 5 := by decide +kernel
    cases b
    · rw [if_neg (by decide)]
      omega
    · rw [if_pos rfl]
      omega
  | n, .int i, h => by
    have := signs_ge n
    have h' := int_small (i := i) (by
      simp only [small] at h
      exact of_decide_eq_true h)
    simp only [PyData.shown]
    omega
  | n, .str x, h => by
    have := signs_ge n
    have h' := text_small (x := x) (by
      simp only [small] at h
      exact h)
    simp only [PyData.shown]
    omega
  | 0, .list xs, h => by
    simp only [small] at h
    cases h
  | 0, .tuple xs, h => by
    simp only [small] at h
    cases h
  | n + 1, .list xs, h => by
    simp only [small, Bool.and_eq_true, decide_eq_true_eq] at h
    have h1 := list_le (small_shownAll n xs h.2) (by rw [shownAll_length]; exact h.1)
    simp only [PyData.shown, signs]
    omega
  | n + 1, .tuple xs, h => by
    simp only [small, Bool.and_eq_true, decide_eq_true_eq] at h
    have h1 := tuple_le (small_shownAll n xs h.2) (by rw [shownAll_length]; exact h.1)
    simp only [PyData.shown, signs]
    omega
  | n, .dict kvs, h => by
    have := signs_ge n
    have h : smallKv kvs = true ∧ kvs.length ≤ 2 := by
      cases n <;> (simp only [small, Bool.and_eq_true, decide_eq_true_eq] at h; exact h)
    have h1 := dict_le (m := 430) (smallKv_shown kvs h.1) (by rw [shownKv_length]; exact h.2)
    simp only [PyData.shown]
    omega
theorem small_shownAll : ∀ (n : Nat) (ds : List PyData), smalls n ds = true → ∀ t ∈ PyData.shownAll ds, t.length ≤ signs n
  | n, [], _, t, ht => by
    simp only [PyData.shownAll] at ht
    cases ht
  | n, d :: ds, h, t, ht => by
    simp only [smalls, Bool.and_eq_true] at h
    simp only [PyData.shownAll, List.mem_cons] at ht
    rcases ht with rfl | ht
    · exact small_shown n d h.1
    · exact small_shownAll n ds h.2 t ht
end
end LG
set_option Elab.async false
set_option linter.all false
set_option maxRecDepth 100000
set_option maxHeartbeats 1000000
namespace LG
open PySem PySem.Spec PyProof.Rows L2
mutual
theorem small_showable : ∀ (n : Nat) (d : PyData), small n d = true → d.showable = true
  | n, .none, _ => by simp only [PyData.showable]
  | n, .bool b, _ => by simp only [PyData.showable]
  | n, .int i, h => by
    simp only [small, decide_eq_true_eq] at h
    simp only [PyData.showable, decide_eq_true_eq]
    exact log2_small h
  | n, .str x, h => by simp only [PyData.showable]
  | 0, .list xs, h => by
    simp only [small] at h
    cases h
  | 0, .tuple xs, h => by
    simp only [small] at h
    cases h
  | n + 1, .list xs, h => by
    simp only [small, Bool.and_eq_true, decide_eq_true_eq] at h
    simp only [PyData.showable]
    exact smalls_showable n xs h.2
  | n + 1, .tuple xs, h => by
    simp only [small, Bool.and_eq_true, decide_eq_true_eq] at h
    simp only [PyData.showable]
    exact smalls_showable n xs h.2
  | n, .dict kvs, h => by
    have h : smallKv kvs = true ∧ kvs.length ≤ 2 := by
      cases n <;> (simp only [small, Bool.and_eq_true, decide_eq_true_eq] at h; exact h)
    simp only [PyData.showable]
    exact smallKv_showable kvs h.1
theorem smalls_showable : ∀ (n : Nat) (ds : List PyData), smalls n ds = true → PyData.showableAll ds = true
  | n, [], _ => by simp only [PyData.showableAll]
  | n, d :: ds, h => by
    simp only [smalls, Bool.and_eq_true] at h
    simp only [PyData.showableAll, small_showable n d h.1, smalls_showable n ds h.2, Bool.and_self]
theorem smallKv_showable : ∀ kvs : List (PyData × PyData), smallKv kvs = true → PyData.showableKv kvs = true
  | [], _ => by simp only [PyData.showableKv]
  | (k, v) :: r, h => by
    simp only [smallKv, Bool.and_eq_true] at h
    obtain ⟨⟨h1, h2⟩, h3⟩ := h
    cases k with
    | str x =>
      cases v with
      | int i =>
        have a2 := log2_small (i := i) (of_decide_eq_true h2)
        simp only [PyData.showableKv, PyData.showable, smallKv_showable r h3, decide_eq_true a2, Bool.and_self]
      | _ => cases h2
    | _ => cases h1
end
mutual
theorem small_depth : ∀ (n : Nat) (d : PyData), small n d = true → d.depth ≤ n + 1
  | n, .none, _ => by simp only [PyData.depth]; omega
  | n, .bool b, _ => by simp only [PyData.depth]; omega
  | n, .int i, h => by simp only [PyData.depth]; omega
  | n, .str x, h => by simp only [PyData.depth]; omega
  | 0, .list xs, h => by
    simp only [small] at h
    cases h
  | 0, .tuple xs, h => by
    simp only [small] at h
    cases h
  | n + 1, .list xs, h => by
    simp only [small, Bool.and_eq_true, decide_eq_true_eq] at h
    simp only [PyData.depth]
    have := smalls_depth n xs h.2
    omega
  | n + 1, .tuple xs, h => by
    simp only [small, Bool.and_eq_true, decide_eq_true_eq] at h
    simp only [PyData.depth]
    have := smalls_depth n xs h.2
    omega
  | n, .dict kvs, h => by
    have h : smallKv kvs = true ∧ kvs.length ≤ 2 := by
      cases n <;> (simp only [small, Bool.and_eq_true, decide_eq_true_eq] at h; exact h)
    simp only [PyData.depth]
    have := smallKv_depth kvs h.1
    omega
theorem smalls_depth : ∀ (n : Nat) (ds : List PyData), smalls n ds = true → PyData.depthAll ds ≤ n + 1
  | n, [], _ => by simp only [PyData.depthAll]; omega
  | n, d :: ds, h => by
    simp only [smalls, Bool.and_eq_true] at h
    simp only [PyData.depthAll]
    have := small_depth n d h.1
    have := smalls_depth n ds h.2
    omega
theorem smallKv_depth : ∀ kvs : List (PyData × PyData), smallKv kvs = true → PyData.depthKv kvs = 0
  | [], _ => by simp only [PyData.depthKv]
  | (k, v) :: r, h => by
    simp only [smallKv, Bool.and_eq_true] at h
    obtain ⟨⟨h1, h2⟩, h3⟩ := h
    cases k with
    | str x =>
      cases v with
      | int i => simp only [PyData.depthKv, PyData.depth, smallKv_depth r h3]; omega
      | _ => cases h2
    | _ => cases h1
end
mutual
theorem noDict {K : PySem.W.Frag} {H : Hp} : ∀ (d : PyData) (v : V), Dp K H v d → d.hasDict = false
  | .none, _, _ => by simp only [PyData.hasDict]
  | .bool _, _, _ => by simp only [PyData.hasDict]
  | .int _, _, _ => by simp only [PyData.hasDict]
  | .str _, _, _ => by simp only [PyData.hasDict]
  | .list ds, _, h => by
    cases h with
    | lst _ ha =>
      simp only [PyData.hasDict]
      exact noDicts ds _ ha
  | .tuple ds, _, h => by
    cases h with
    | tup _ ha =>
      simp only [PyData.hasDict]
      exact noDicts ds _ ha
  | .dict _, _, h => by cases h
theorem noDicts {K : PySem.W.Frag} {H : Hp} : ∀ (ds : List PyData) (vs : List V), DpAll K H vs ds → PyData.hasDictAll ds = false
  | [], _, _ => by simp only [PyData.hasDictAll]
  | d :: ds, _, h => by
    cases h with
    | cons h1 h2 => simp only [PyData.hasDictAll, noDict d _ h1, noDicts ds _ h2, Bool.or_self]
end
theorem same_tup {K : PySem.W.Frag} {H H' : Hp} {a : Addr} {xs : List V} (e : Same H H') (h : SqT K H a xs) : SqT K H' a xs := by
  rcases h with (h | ⟨o, h⟩) | h
  · exact .inl (.inl (e _ _ h))
  · exact .inl (.inr ⟨o, e _ _ h⟩)
  · exact .inr h
mutual
theorem Dp_same {K : PySem.W.Frag} {H H' : Hp} (e : Same H H') : ∀ (d : PyData) (v : V), Dp K H v d → Dp K H' v d
  | .none, _, h => by cases h; exact .non
  | .bool b, _, h => by cases h; exact .bl b
  | .int i, _, h => by cases h; exact .int i
  | .str x, _, h => by cases h; exact .str x
  | .list ds, _, h => by
    cases h with
    | lst hs ha => exact .lst (e.seq hs) (DpAll_same e ds _ ha)
  | .tuple ds, _, h => by
    cases h with
    | tup hs ha => exact .tup (same_tup e hs) (DpAll_same e ds _ ha)
  | .dict _, _, h => by cases h
theorem DpAll_same {K : PySem.W.Frag} {H H' : Hp} (e : Same H H') : ∀ (ds : List PyData) (vs : List V), DpAll K H vs ds → DpAll K H' vs ds
  | [], _, h => by cases h; exact .nil
  | d :: ds, _, h => by
    cases h with
    | cons h1 h2 => exact .cons (Dp_same e d _ h1) (DpAll_same e ds _ h2)
end
/-! ### data, or a dict of flat data -/
def keyD : Key → PyData
  | .inl i => .int i
  | .inr x => .str x
inductive PairsS : List (Key × V) → List (PyData × PyData) → Prop
  | nil : PairsS [] []
  | int {k : Key} {i : Int} {r : List (Key × V)} {D : List (PyData × PyData)} : PairsS r D → PairsS ((k, .int i) :: r) ((keyD k, .int i) :: D)
inductive Dx (K : PySem.W.Frag) (H : Hp) : V → PyData → Prop
  | flat {v : V} {d : PyData} : Dp K H v d → Dx K H v d
  | dct {a : Addr} {kvs : List (Key × V)} {D : List (PyData × PyData)} : H a = some (.dK kvs) → PairsS kvs D → Dx K H (.ref a) (.dict D)
theorem Dx_same {K : PySem.W.Frag} {H H' : Hp} (e : Same H H') {d : PyData} {v : V} (h : Dx K H v d) : Dx K H' v d := by
  cases h with
  | flat h => exact .flat (Dp_same e _ _ h)
  | dct h p => exact .dct (e _ _ h) p
theorem pairs_read {h : Heap} {kvs : List (Key × V)} {D : List (PyData × PyData)} {vs : List (Key × Value)} (p : PairsS kvs D) : KV kvs vs → PyProof.V.PairsRead h keyD vs D [] := by
  induction p generalizing vs with
  | nil =>
    intro r
    cases r
    exact .nil
  | int p ih =>
    intro r
    cases r with
    | @cons _ q _ r' r1 r2 =>
      obtain ⟨k', v'⟩ := q
      obtain ⟨e1, t, e2⟩ := r1
      subst e1
      subst e2
      exact .cons (.int _ _) (ih r2)
section
variable {X : Cx} {pins : List (Addr × Obj)} {σ : L2.St} {H : Hp} {s : Shared}
theorem Dx_reads (I : Inv X pins σ H s) {d : PyData} {v : V} {u : Value} (h : Dx X.K H v d) (r : RelV v u) : ∃ as, Reads s.heap u d as ∧ (d.hasDict = true → sysModules ∉ as) := by
  cases h with
  | flat h =>
    obtain ⟨as, q⟩ := Dp.reads I d v u h r
    exact ⟨as, q, PyData.noDict_hsm (noDict d v h)⟩
  | @dct a kvs D hd p =>
    have e : u = Value.ref a := r
    subst e
    obtain ⟨_, hne, vs, rk, D0⟩ := (show ObjOk X.prog X.w H s.heap a (.dK kvs) from I.hok a _ hd)
    refine ⟨_, PyProof.V.reads_dictOf (enc := keyD) (fun k key hk => ?_) D0 (pairs_read p rk), fun _ hm => ?_⟩
    · rcases keyIs_shape hk with ⟨i, t, rfl, rfl⟩ | ⟨x, t, rfl, rfl⟩
      · exact .int i t
      · exact .str x t
    · have z : sysModules = a := by simpa using hm
      rw [z] at hne
      simp at hne
/-- repr(x), x data that are small -/
def rRepr (K : PySem.W.Frag) : List V → Hp → VK → Prop := fun xs H Q => ∃ (v : V) (d : PyData) (n : Nat), xs = [v] ∧ Dx K H v d ∧ n ≤ 40 ∧ small n d = true ∧ signs n ≤ sizeLine ∧ Q (.str d.shown) H
end
section
variable {X : Cx}
theorem call_repr (hg : X.A.guards = some []) (hu : X.A.units + 64 < cLine) : CallR X (.builtin "repr") (rRepr X.K) := by
  intro pins s σ H xs us Q I r h
  obtain ⟨v, d, n, rfl, hd, hn, hs, hz, q⟩ := h
  obtain ⟨u, rfl, ru⟩ := vals1 r
  have fits := Nat.le_trans (small_shown n d hs) hz
  have deep := small_depth n d hs
  have show_ := small_showable n d hs
  obtain ⟨as, rd, sm⟩ := Dx_reads I hd ru
  cases rd with
  | none => exact PySem.P.repr_of_none ⟨.str _, H, I.tok _, ⟨_, rfl⟩, q⟩
  | bool b => 
    refine PySem.P.repr_of_bool ⟨.str _, H, I.tok _, ⟨_, rfl⟩, ?_⟩
    cases b <;> exact q
  | int i t => exact PySem.P.repr_of_int (of_decide_eq_true (by simpa only [PyData.showable] using show_)) ⟨.str _, H, I.tok _, ⟨_, rfl⟩, q⟩
  | str x t => exact PySem.P.repr_of_str ⟨.str _, H, I.tok _, ⟨_, rfl⟩, q⟩ fits
  | list a1 a2 a3 a4 => exact repr_of_reads' (.list a1 a2 a3 a4) show_ sm hg (by omega) (fun _ _ e => e) (fun h' w tk k => ⟨.str _, H, I.kept (t' := tk) k, ⟨w, rfl⟩, q⟩) fits
  | tuple a1 a2 a3 a4 => exact repr_of_reads' (.tuple a1 a2 a3 a4) show_ sm hg (by omega) (fun _ _ e => e) (fun h' w tk k => ⟨.str _, H, I.kept (t' := tk) k, ⟨w, rfl⟩, q⟩) fits
  | dict a1 a2 a3 a4 a5 => exact repr_of_reads' (.dict a1 a2 a3 a4 a5) show_ sm hg (by omega) (fun _ _ e => e) (fun h' w tk k => ⟨.str _, H, I.kept (t' := tk) k, ⟨w, rfl⟩, q⟩) fits
/-! ### powers -/
theorem op_powB : OpR X (binaryOp .Pow) (rI (fun i j => 0 ≤ j ∧ (Builtin.Int.intBits i : Int) * j ≤ 2 ^ 27) fun i j => .int (i ^ j.toNat)) := opI fun _ _ _ _ _ _ _ hc q => pow_int hc.1 hc.2 q
end
end LG
set_option Elab.async false
set_option linter.all false
set_option maxRecDepth 100000
set_option maxHeartbeats 1000000
namespace LG
open PySem PySem.Spec PyProof.Rows L2
section
variable {prog : Program} {w : World} {A : Around} {E : Value → Shared → Prop} {s : Shared}
theorem applied_back {sl : Addr} {n : Nat} {t : Tok} {Q : Int × Int × Nat → Shared → Prop} (hs : s.heap.IsSliceOf sl .none .none (.int (-1) t)) (h : Q ((n : Int) - 1, -1, n) s) :
    wpAny (model prog w) A (Builtin.Slice.sliceApplied (.ref sl) (pure (n : Int))) Q E s := by
  obtain ⟨os, hos, hcs, hds⟩ := id hs
  unfold Builtin.Slice.sliceApplied Builtin.Slice.sliceFields
  refine wpAny_bind (wpAny_bind (wpAny_field hos hds (x := .none) rfl (wpAny_bind (wpAny_field hos hds (x := .none) rfl (wpAny_bind (wpAny_field hos hds (x := .int (-1) t) rfl (wpAny_pure ?_)))))))
  refine wpAny_bind (slicePart_int ?_)
  show wpAny _ _ (if ((-1 : Int) == 0) = true then _ else _) _ _ s
  rw [if_neg (by decide)]
  refine wpAny_bind (slicePart_none (wpAny_bind (slicePart_none (wpAny_bind (wpAny_pure ?_)))))
  have e1 : Builtin.Slice.sliceAdjust none none (-1) (n : Int) = ((n : Int) - 1, -1) := rfl
  have e2 : Builtin.Slice.slicePlaces ((n : Int) - 1) (-1) (-1) = n := by
    unfold Builtin.Slice.slicePlaces
    rw [if_neg (by decide)]
    by_cases z : (n : Int) - 1 > -1
    · rw [if_pos z]
      have : ((n : Int) - 1 - -1 - 1) / (- -1) + 1 = n := by
        have e3 : (- -1 : Int) = 1 := by decide
        rw [e3, Int.ediv_one]
        omega
      rw [this]
      exact Int.toNat_natCast n
    · rw [if_neg z]
      omega
  show wpAny _ _ (match Builtin.Slice.sliceAdjust none none (-1) (n : Int) with | (lo, hi) => pure (lo, (-1 : Int), Builtin.Slice.slicePlaces lo hi (-1))) _ _ s
  rw [e1]
  show wpAny _ _ (pure ((n : Int) - 1, (-1 : Int), Builtin.Slice.slicePlaces ((n : Int) - 1) (-1) (-1))) _ _ s
  rw [e2]
  exact wpAny_pure h
theorem pick_back (xs : Array Value) : ((List.range xs.size).filterMap fun (k : Nat) => xs[((xs.size : Int) - 1 + (k : Int) * -1).toNat]?).toArray = xs.toList.reverse.toArray := by
  have e : (List.range xs.size).filterMap (fun (k : Nat) => xs[((xs.size : Int) - 1 + (k : Int) * -1).toNat]?) = ((List.range xs.size).map fun k => xs.size - 1 - k).filterMap (xs[·]?) := by
    rw [List.filterMap_map]
    have same : (fun (k : Nat) => xs[((xs.size : Int) - 1 + (k : Int) * -1).toNat]?) = ((xs[·]?) ∘ fun k => xs.size - 1 - k) := by
      funext k
      show _ = xs[xs.size - 1 - k]?
      have : ((xs.size : Int) - 1 + (k : Int) * -1).toNat = xs.size - 1 - k := by omega
      rw [this]
    rw [same]
  rw [e, PySem.W.krv_range, List.filterMap_reverse, PySem.W.krv_all]
theorem item_back {t sl : Addr} {items : Array Value} {tk : Tok} {Q : Value → Shared → Prop} (ht : IsTup s.heap t items) (hs : s.heap.IsSliceOf sl .none .none (.int (-1) tk)) (fits : items.size ≤ sizeLine)
    (h : Q (.ref s.heap.objs.size) { s with heap := s.heap.push { cls := .type "tuple", data := .seq items.toList.reverse.toArray } }) : wpAny (model prog w) A (getItem (.ref t) (.ref sl)) Q E s := by
  have fits2 : sizeOk (.seq items.toList.reverse.toArray) := by
    show items.toList.reverse.toArray.size ≤ sizeLine
    simpa using fits
  obtain ⟨os, hos, hcs, hds⟩ := id hs
  have isSlice : s.TypeIs (.ref sl) "slice" := ⟨os, hos, hcs⟩
  unfold getItem
  try with_reducible refine wpAny_holding ?_
  first | refine wpAny_bind (wpAny_pure ?_) | skip
  refine wpAny_bind (wpAny_sequenceKey ht.typeIs (by decide) ?_)
  refine wpAny_bind (wpAny_callSpecial?_slot (name := Str.ofString "__getitem__") ht.typeIs PyProof.Rows.slot_tuple_getitem
    (wpAny_call_entry PyProof.Rows.slot_tuple_getitem ht.typeIs entry_tuple_getitem ?_ (args_tuple_getitem _ _)))
  show wpAny _ _ (Builtin.Tuple.tupleItemsOf (.ref t) >>= _) _ _ s
  refine wpAny_bind (tupleItemsOf_ ht ?_)
  refine wpAny_bind (wpAny_typeOf isSlice ?_)
  rw [if_pos (by decide)]
  refine wpAny_bind (applied_back hs ?_)
  have no : ¬ ((((items.size : Int) - 1) == 0 && (-1 : Int) == 1 && items.size == items.size) = true) := by
    have : ((-1 : Int) == 1) = false := by decide
    rw [this]
    simp
  show wpAny _ _ (if (((items.size : Int) - 1) == 0 && (-1 : Int) == 1 && items.size == items.size) = true then _ else _) _ _ s
  rw [if_neg no, pick_back items]
  first
    | exact wpAny_bind (m := Builtin.Tuple.tupleExact _) (wpAny_newObj_type (wpAny_pure ⟨_, rfl, wpAny_pure h⟩) fits2)
    | exact wpAny_bind (m := Builtin.Tuple.tupleExact _) (wpAny_newObj_type (wpAny_bind (wpAny_pure (wpAny_pure ⟨_, rfl, wpAny_pure h⟩))) fits2)
    | exact wpAny_bind (wpAny_bind (m := Builtin.Tuple.tupleExact _) (wpAny_newObj_type (wpAny_pure (wpAny_pure ⟨_, rfl, wpAny_pure h⟩)) fits2))
    | exact wpAny_bind (wpAny_bind (m := Builtin.Tuple.tupleExact _) (wpAny_newObj_type (wpAny_pure ⟨_, rfl, wpAny_pure h⟩) fits2))
end
section
variable {X : Cx} {e st : Expr} {te ts : TE} {pos p2 : Pos}
/-- t[::-1], t a tuple -/
def tBack (K : PySem.W.Frag) (te ts : TE) : TE := fun σ H Q => te σ H fun x H1 => ts σ H1 fun k H2 => ∃ a xs, k = .int (-1) ∧ x = .ref a ∧ SqT K H2 a xs ∧ ∀ p, H2 p = none → Q (.ref p) (upd H2 p (.tup xs.reverse))
theorem vals_back {xs : List V} {us : List Value} (r : Vals xs us) : Vals xs.reverse us.reverse := by
  induction r with
  | nil => exact .nil
  | cons a b ih =>
    rw [List.reverse_cons, List.reverse_cons]
    exact Vals.append ih (.cons a .nil)
theorem pe_back (he : PE X e te) (hst : PE X st ts) : PE X (.Subscript e (.Slice none none (some st) p2) pos) (tBack X.K te ts) := by
  refine ⟨fun pins s σ H Q I h => ?_⟩
  refine Subscript_ (thn (he.run pins s σ H _ I h) fun v s1 ⟨x, H1, I1, r1, q1⟩ => ?_)
  refine wpAny_Slice ?_
  rw [evalPart_none]
  refine wpAny_pure (wpAny_pure ?_)
  rw [evalPart_some]
  refine thn (hst.run pins s1 σ H1 _ I1 q1) fun vs s2 ⟨k, H2, I2, r2, a, xs, ek, ex, hx, q⟩ => ?_
  subst ek
  subst ex
  obtain ⟨tk, rfl⟩ := r2
  have ev : v = Value.ref a := r1
  subst ev
  have I3 : Inv X pins σ H2 { s2 with heap := s2.heap.push { cls := .type "slice", data := .fields #[.none, .none, .int (-1) tk] } } := I2.kept (t' := s2.toks) fun b ob q => Heap.get?_push_of_some _ q
  obtain ⟨its, r, ht, hz⟩ := I3.tuple hx
  have fits : its.toArray.size ≤ sizeLine := by
    rw [List.size_toArray, ← r.length]
    exact hz
  refine tail_any (s := { s2 with heap := s2.heap.push { cls := .type "slice", data := .fields #[.none, .none, .int (-1) tk] } }) (ops := [.ref a, .ref s2.heap.objs.size]) ht.typeIs PyProof.Rows.slot_tuple_getitem.lookup ?_ (by with_unfolding_all rfl)
  refine item_back ht (Heap.IsSliceOf.new ..) fits ?_
  refine ⟨.ref _, _, I3.laid (t' := s2.toks) (o := .tup xs.reverse) (fun b ob q => Heap.get?_push_of_some _ q) (Nat.le_refl _) ?_, rfl, q _ (I3.hok.fresh (Nat.le_refl _))⟩
  refine ⟨by rw [List.length_reverse]; exact hz, _, vals_back r, ?_⟩
  have z := IsTup.new (s2.heap.push { cls := .type "slice", data := .fields #[.none, .none, .int (-1) tk] }) its.reverse.toArray
  exact z
end
end LG
set_option Elab.async false
set_option linter.all false
set_option maxRecDepth 100000
set_option maxHeartbeats 1000000
/-! Errors of own classes as values: made by their __init__, their fields, isinstance. -/
namespace LG
open PySem PySem.Spec PyProof.Rows L2
/-- what the written part says of a class of errors -/
structure ErrC (K : PySem.W.Frag) (C : Addr) : Prop where
  ox : OexC K C
  xf : XfC K C
  ca : PySem.W.findIn K (.ref C) "__class__" = some (some (.builtin "object.__class__"))
  mo : PySem.W.mroIn K C (.type "object") = some true
/-- of the descriptor __class__ -/
structure ClsD (K : PySem.W.Frag) : Prop where
  get : PySem.W.specialIn K (.builtin "object.__class__") "__get__" = some (some (.builtin "getset_descriptor.__get__"))
  set : PySem.W.takesIn K (.builtin "object.__class__") = some true
section
open PySem.W PySem.Calls
variable {prog : Program} {w : World} {A : Around} {E : Value → Shared → Prop} {s : Shared} {K : Frag} {x D : Addr} {ox : Obj} {od : Option Obj}
theorem data_found {C : Addr} {name : Str} {a g : Value} (hc : (clsIn K C).isSome = true) (ha : findIn K (.ref C) name = some (some a)) (hg : specialIn K a "__get__" = some (some g)) (ht : takesIn K a = some true) : findObj K C od name = some (.bind g a) := by
  obtain ⟨cd, e⟩ := Option.isSome_iff_exists.mp hc
  unfold findObj
  rw [e, Option.bind_some, ha, Option.bind_some]
  simp [hg, ht]
theorem class_of_err (T : ErrC K D) (U : ClsD K) {Q : Option Value → Shared → Prop} (X : K.In s.heap) (I : PySem.W.InstAt s.heap x ox D od) (h : Q (some (.ref D)) { s with toks := s.toks + 1 }) : wpAny (model prog w) A (getAttr? (.ref x) "__class__") Q E s := by
  have found : findObj K D od "__class__" = some (.bind (.builtin "getset_descriptor.__get__") (.builtin "object.__class__")) := data_found (by obtain ⟨cd, e, _⟩ := any_some T.xf.hdC; rw [e]; rfl) T.ca U.get U.set
  obtain ⟨hp, g, d, t, os⟩ := s
  have l0 := I.type (M := model prog w)
  have l1 := looks_findIn (M := model prog w) X T.xf.ga
  have l2 := looks_findIn (M := model prog w) X T.xf.gg
  have l3 := looks_find (M := model prog w) X I found
  have isB : Looks (model prog w) hp (isInstance (.ref x) (.type "BaseException")) true := l0.andThen (looks_subIn X T.xf.exC)
  have e2 : (Value.builtin "BaseException.__getattribute__" == Value.builtin "object.__getattribute__") = false := by decide +kernel
  have e1 : (onTheHeap (Value.ref D) && Value.builtin "BaseException.__getattribute__" == Value.builtin "object.__getattribute__") = false := by
    rw [e2]
    rfl
  have e0 : (false && onTheHeap (Value.builtin "BaseException.__getattribute__")) = false := rfl
  unfold getAttr? getAttrBy? getAttrBy
  refine wpAny_bind (wpAny_mkText (wpAny_bind (wpAny_attempt (wpAny_holding (wpAny_bind (l0.at (wpAny_bind (l1.at ?_))))))))
  show wpAny _ _ (if (onTheHeap (Value.ref D) && Value.builtin "BaseException.__getattribute__" == Value.builtin "object.__getattribute__") = true then _ else _) _ _ _
  rw [e1, if_neg Bool.false_ne_true]
  unfold getAttrByItsOwn hookBefore
  refine wpAny_bind ?_
  rw [if_pos (show onTheHeap (Value.ref D) = true from rfl)]
  refine l2.at (wpAny_bind (wpAny_attempt (wpAny_holding ?_)))
  unfold callGetattribute
  rw [e0, if_neg Bool.false_ne_true]
  unfold boundAndCalled
  rw [PySem.F.excAttr_ValueError.ga.bind (.ref x)]
  refine wpAny_bind (wpAny_pure ?_)
  show wpAny _ _ (call (.builtin "BaseException.__getattribute__") [.ref x, .str "__class__" t]) _ _ _
  refine wpAny_call (codeAny_call_builtin PySem.F.excAttr_ValueError.ga.plain PySem.F.entry_bexc_ga ?_)
  refine @check_slot (model prog w) _ _ ⟨hp, g, d, t + 1, os⟩ "BaseException.__getattribute__" "BaseException" "__getattribute__" (.ref x) [.str "__class__" t] [] _ (by decide +kernel) (by decide +kernel) isB (PySem.F.args_bexc_ga (.ref x) (.str "__class__" t)) ?_
  unfold Builtin.«object.__getattribute__»
  refine wpAny_bind (wpAny_of_eq (a := ((Value.ref x : Value), [Value.str "__class__" t])) (by first | rfl | (simp only [slotArgs]; rfl)) ?_)
  refine wpAny_bind (wpAny_pure (wpAny_bind (l0.at (wpAny_bind (l3.at ?_)))))
  show wpAny _ _ (holding [Value.builtin "object.__class__"] (call (.builtin "getset_descriptor.__get__") [.builtin "object.__class__", .ref x, .ref D]) >>= ret) _ _ _
  refine wpAny_bind (wpAny_holding (wpAny_call (class_get (s := ⟨hp, g, d, t + 1, os⟩) (ox := ox) (od := od) X I T.mo ?_)))
  refine wpAny_pure ?_
  show wpAny _ _ (handedOut (.ref D)) _ _ _
  rw [handedOut_of (v := .ref D) rfl]
  first
    | exact wpAny_pure (wpAny_pure h)
    | exact wpAny_pure h
    | exact wpAny_pure (wpAny_bind (wpAny_pure (wpAny_pure h)))
theorem kit_err (T : ErrC K D) (U : ClsD K) : KitX K (.ref x) (.ref D) (fun h => PySem.W.InstAt h x ox D od) where
  ty := fun _ _ _ I => I.type
  it := fun _ _ X _ => by
    obtain ⟨cd, e, _⟩ := any_some T.xf.hdC
    unfold clsIn at e
    split at e
    · rename_i c' d' cd' sl' ho
      intro A' Q' E' s' k q
      unfold isType loadHead
      exact wpAny_bind (wpAny_loadPart (k _ _ (X _ _ ho)) (wpAny_pure q))
    · cases e
  ne := (handS_kitx_exc (x := x) (ox := ox) T.xf.ga T.xf.gg T.xf.exC T.xf.hdC T.ca U.get U.set T.mo).ne
  ca := fun X I k => class_of_err T U X I k
end
section
variable {X : Cx} {pins : List (Addr × Obj)} {σ : L2.St} {H : Hp} {s : Shared}
/-- an error at a of the class at C, its dict at d holds fs -/
structure ErrAt (H : Hp) (a C d : Addr) (fs : List (Str × V)) : Prop where
  ob : H a = some (exo a C (some d))
  dc : H d = some (exd d fs)
theorem ErrAt.same {H' : Hp} {a C d : Addr} {fs : List (Str × V)} (e : Same H H') (h : ErrAt H a C d fs) : ErrAt H' a C d fs := ⟨e _ _ h.ob, e _ _ h.dc⟩
theorem err_inst {a C d : Addr} {fs : List (Str × V)} (I : Inv X pins σ H s) (h : ErrAt H a C d fs) : ∃ (ox od : Obj) (mA : Str → Option Value), PySem.W.InstAt s.heap a ox C (some od) ∧ (∀ f, RelO (fs.lookup f) (mA f)) ∧ ∀ f, PySem.W.lookIn f od = some (mA f) := by
  obtain ⟨t1, ho⟩ := exo_at I.hok h.ob
  obtain ⟨mA, hns, rel⟩ := exd_at I.hok h.dc
  obtain ⟨od, hod, hl⟩ := lookIn_ns hns
  exact ⟨_, od, mA, ⟨ho, rfl, rfl, hod⟩, rel, hl⟩
end
section
variable {X : Cx}
/-- isinstance(e, c), e an error of the class at C -/
def rIsErr (K : PySem.W.Frag) : List V → Hp → VK → Prop := fun xs H Q => ∃ (a C d : Addr) (fs : List (Str × V)) (c : V) (u : Value) (b : Bool), xs = [.ref a, c] ∧ ClsV c u ∧ ErrC K C ∧ ErrAt H a C d fs ∧ PySem.W.kitOne K (.ref C) u = some b ∧ Q (.bl b) H
theorem call_isErr (U : ClsD X.K) : CallR X (.builtin "isinstance") (rIsErr X.K) := by
  intro pins s σ H xs us Q I r h
  obtain ⟨a, C, d, fs, c, u, b, rfl, hc, T, at_, e, q⟩ := h
  obtain ⟨u1, u2, rfl, r1, r2⟩ := vals2 r
  have e1 : u1 = Value.ref a := r1
  subst e1
  have e2 := hc.eq r2
  subst e2
  obtain ⟨ox, od, mA, J, _, _⟩ := err_inst I at_
  exact PySem.W.kia_one (kit_err T U) I.kIn J e (fun z => nomatch z) fun tk => ⟨.bl b, H, I.kept (t' := tk) fun _ _ z => z, rfl, q⟩
/-- e.n, e an error -/
def tErrF (K : PySem.W.Frag) (n : Str) (te : TE) : TE := fun σ H Q => te σ H fun x H1 => ∃ (a C d : Addr) (fs : List (Str × V)) (v : V), x = .ref a ∧ ErrC K C ∧ PySem.W.findIn K (.ref C) n = some none ∧ ErrAt H1 a C d fs ∧ fs.lookup n = some v ∧ Q v H1
theorem pe_errf {e : Expr} {te : TE} {pos : Pos} {n : Str} (he : PE X e te) (hb : attributeBase e n X.env (eval e X.env) = eval e X.env := by rfl) : PE X (.Attribute e n pos) (tErrF X.K n te) := by
  refine ⟨fun pins s σ H Q I h => attr_of hb (thn (he.run pins s σ H _ I h) ?_)⟩
  rintro u s1 ⟨x, H1, I1, rx, a, C, d, fs, v, rfl, T, no, at_, l, q⟩
  have eu : u = Value.ref a := rx
  subst eu
  obtain ⟨ox, od, mA, J, rel, hl⟩ := err_inst I1 at_
  obtain ⟨u, hu, ru⟩ := RelO.some_of (v := v) (o := mA n) (by rw [← l]; exact rel n)
  exact HandSPX.exc_get I1.kIn J T.xf.ga T.xf.gg T.xf.exC (PySem.W.findObj_own T.xf.hdC no rfl (by rw [hl, hu])) (handed_of ru) ⟨v, H1, I1.tok _, ru, q⟩
/-- C(e, ..) as a value, C an error class whose __init__ keeps sp -/
def tErrV (K : PySem.W.Frag) (C : Addr) (sp : Sp) (ta : TA) : TE := fun σ H Q => ta σ H fun vs H1 => vs.length ≤ 1000 ∧ ∀ a, H1 a = none → sp (.ref a :: vs) (upd H1 a (exo a C none)) (fun v H2 => v = .non ∧ Q (.ref a) H2) E0
theorem pe_errv {x : Str} {C fI : Addr} {k : Nat} {fd : FuncData} {ps : List Str} {sp : Sp} {e : Expr} {es : List Expr} {ta : TA} {p pos : Pos} (T : OexC X.K C) (iC : PySem.W.findIn X.K (.ref C) "__init__" = some (some (.ref fI))) (tI : PySem.W.typeIn X.K (.ref fI) = some (.type "function"))
    (G : FnOk X.prog X.w X.K X.mg X.base CX0 k fI fd ps sp) (hr : Room (k + 1) X.A) (hb : Binds X.K fd ps []) (hg : Gl X x) (hm : X.mg x = some (.ref C)) (ha : PA X (e :: es) ta)
    (hdb : (x == ("__debug__" : Str)) = false := by decide) (he : starEach (e :: es) X.env = (false, eval e X.env) :: starEach es X.env := by rfl) (hpl : (backTo pos (starEach es X.env)).any (·.1) = false := by rfl) :
    PE X (.Call (.Name x p) (e :: es) [] pos) (tErrV X.K C sp ta) := by
  refine ⟨fun pins s σ H Q I h => wpAny_Call_Name_kw (ld_glob I hg hm ?_ hdb)⟩
  obtain ⟨nm, q, N, bs, bm, sn, sub, ab, col, dd, k0, k1, k2, k3, k5, hC, hbm⟩ := T.cls
  refine PySem.W.callWith_K (h₀ := X.base) I.ok.mod.kin T.kC (thn (ha.run pos pins s σ H _ I h) fun us s1 ⟨vs, H1, I1, r1, hz, q1⟩ => ⟨I1.kIn, ?_⟩) he hpl
  show wpAny _ _ (call (.ref C) us) _ _ _
  obtain ⟨hp, g, dr, tk, os⟩ := s1
  have above : hp.objs.size ≤ hp.objs.size + 1 := Nat.le_succ _
  have free : H1 (hp.objs.size + 1) = none := I1.hok.fresh above
  have hq := q1 (hp.objs.size + 1) free
  have keeps : ∀ b o, hp.get? b = some o → ((hp.push (PySem.W.kdv_tup us)).push (PySem.HandSPX.excO C hp.objs.size)).get? b = some o := fun b o e => Heap.get?_push_of_some _ (Heap.get?_push_of_some _ e)
  have there : ((hp.push (PySem.W.kdv_tup us)).push (PySem.HandSPX.excO C hp.objs.size)).get? (hp.objs.size + 1) = some (PySem.HandSPX.excO C hp.objs.size) := by heap_get
  have I2 : Inv X pins σ (upd H1 (hp.objs.size + 1) (exo (hp.objs.size + 1) C none)) ⟨(hp.push (PySem.W.kdv_tup us)).push (PySem.HandSPX.excO C hp.objs.size), g, dr, tk, os⟩ :=
    I1.laid (t' := tk) (a := hp.objs.size + 1) (o := exo (hp.objs.size + 1) C none) keeps above (exo_ok there)
  have r2 : Vals (V.ref (hp.objs.size + 1) :: vs) (Value.ref (hp.objs.size + 1) :: us) := .cons rfl r1
  have hl : ((Value.ref (hp.objs.size + 1) :: us) ++ []).length = ps.length := by
    rw [List.append_nil, ← r2.length]
    exact G.len _ _ _ _ hq
  have fits : us.length ≤ sizeLine := by
    rw [← r1.length, sizeLine_eq]
    omega
  have bd := hb _ (Value.ref (hp.objs.size + 1) :: us) I2.kIn hl
  rw [List.append_nil] at bd
  refine wpAny_call (PySem.HandSPX.call_own F.excBase_ValueError (fun Y => PySem.HandSPX.refsVE_contains Y bm hbm) (I1.kIn _ _ hC) (PySem.W.looks_findIn I1.kIn iC) (fun self => PySem.W.bind_fn I1.kIn self tI) fits
    (codeAny_mono (G.run _ X.stack _ _ ⟨Value.ref (hp.objs.size + 1) :: us, []⟩ (Value.ref (hp.objs.size + 1) :: us) _ _ E0 (hr.make C us []) (I2.env0.make C us []) bd r2 hq) fun r s' hq' => ?_))
  match r, hq' with
  | .error _, hq' => exact hq'.elim
  | .ok .next, hq' => exact hq'.elim
  | .ok .brk, hq' => exact hq'.elim
  | .ok .cont, hq' => exact hq'.elim
  | .ok (.ret u), hq' =>
    obtain ⟨v, H', I3, rv, ev, q3⟩ := I2.after hq'
    subst ev
    exact ⟨rv, ⟨V.ref (hp.objs.size + 1), H', I3, rfl, q3⟩⟩
end
end LG
set_option Elab.async false
set_option linter.all false
set_option maxRecDepth 100000
set_option maxHeartbeats 1000000
/-! The facts of classes of errors, by one look at the written part. -/
namespace LG
open PySem PySem.Spec PyProof.Rows L2
open PySem.HandSPX (veTail refsVE)
/-- the class at C stands there with the bases bm behind it -/
def clsB (K : PySem.W.Frag) (C : Addr) (bm : List Value) : Bool := match K.lookup C with
  | some ⟨.type "type", _, .cls cd, sl⟩ => (match cd.mro, sl.toList with
    | .ref D :: r, [_, _, _, _, some (.builtin n), _] => D == C && (n == "ValueError.__new__" && (!cd.hasDel && (cd.hasDict && decide (r = bm))))
    | _, _ => false)
  | _ => false
theorem clsB_ok {K : PySem.W.Frag} {C : Addr} {bm : List Value} (q : clsB K C bm = true) : ∃ nm qn N bs sn sub ab col dd k0 k1 k2 k3 k5, K.lookup C = some (excClassObj nm qn C N bs bm true sn sub ab col dd k0 k1 k2 k3 k5 "ValueError.__new__") := by
  unfold clsB at q
  split at q
  · rename_i dd cd sl ho
    split at q
    · rename_i D r k0 k1 k2 k3 n k5 hm hs
      simp only [Bool.and_eq_true, beq_iff_eq, Bool.not_eq_true', decide_eq_true_eq] at q
      obtain ⟨rfl, rfl, hdel, hdict, rfl⟩ := q
      obtain ⟨nm, bs, mro, ns, qn, hd, sn, sub, ab, col, del⟩ := cd
      dsimp only at hm hdel hdict
      subst hm hdel hdict
      obtain ⟨l⟩ := sl
      simp only at hs
      subst hs
      exact ⟨nm, qn, ns, bs, sn, sub, ab, col, dd, k0, k1, k2, k3, k5, ho⟩
    · cases q
  · cases q
def errB (K : PySem.W.Frag) (C : Addr) (bm : List Value) : Bool :=
  clsB K C bm && (refsVE bm && (decide (PySem.W.findIn K (.ref C) "__setattr__" = some (some (.builtin "object.__setattr__"))) && (decide (PySem.W.subIn K (.ref C) (.type "BaseException") = some true) &&
  (decide (PySem.W.typeIn K (.ref C) = some (.type "type")) && (PySem.W.keepIn K (.ref C) && (xfB K C && (decide (PySem.W.findIn K (.ref C) "__class__" = some (some (.builtin "object.__class__"))) && decide (PySem.W.mroIn K C (.type "object") = some true))))))))
theorem errB_ok {K : PySem.W.Frag} {C : Addr} {bm : List Value} (q : errB K C bm = true) : ErrC K C := by
  unfold errB at q
  simp only [Bool.and_eq_true, decide_eq_true_eq] at q
  obtain ⟨q1, q2, q3, q4, q5, q6, q7, q8, q9⟩ := q
  obtain ⟨nm, qn, N, bs, sn, sub, ab, col, dd, k0, k1, k2, k3, k5, ho⟩ := clsB_ok q1
  exact ⟨⟨⟨nm, qn, N, bs, bm, sn, sub, ab, col, dd, k0, k1, k2, k3, k5, ho, q2⟩, q3, q4, q5, q6⟩, xfB_ok q7, q8, q9⟩
theorem clsB_in {K : PySem.W.Frag} {C : Addr} {bm : List Value} (q : clsB K C bm = true) : ∃ cd, PySem.W.clsIn K C = some cd ∧ cd.mro = .ref C :: bm := by
  obtain ⟨nm, qn, N, bs, sn, sub, ab, col, dd, k0, k1, k2, k3, k5, ho⟩ := clsB_ok q
  unfold PySem.W.clsIn
  rw [ho]
  exact ⟨_, rfl, rfl⟩
/-- isinstance by the classes' bases -/
theorem kit_refs {K : PySem.W.Frag} {C D : Addr} {bm bmD : List Value} (q : errB K C bm = true) (qD : errB K D bmD = true) : PySem.W.kitOne K (.ref C) (.ref D) = some (decide (C = D) || bm.contains (.ref D)) := by
  have q1 : clsB K C bm = true := by
    unfold errB at q
    exact (Bool.and_eq_true_iff.mp q).1
  have q2 : clsB K D bmD = true := by
    unfold errB at qD
    exact (Bool.and_eq_true_iff.mp qD).1
  obtain ⟨cd, e1, m1⟩ := clsB_in q1
  obtain ⟨dd, e2, m2⟩ := clsB_in q2
  unfold PySem.W.kitOne
  by_cases same : C = D
  · subst same
    simp
  · have ne : ¬ ((Value.ref C == Value.ref D) = true) := by
      intro z
      exact same (Value.ref.inj (beq_iff_eq.mp z))
    rw [if_neg ne]
    have ty : PySem.W.typeIn K (.ref D) = some (.type "type") := (errB_ok qD).ox.tyC
    show (if ((PySem.W.clsIn K D).isSome && PySem.W.typeIn K (.ref D) == some (.type "type")) = true then PySem.W.subIn K (.ref C) (.ref D) else none) = _
    rw [e2, ty, if_pos (by simp)]
    show PySem.W.mroIn K C (.ref D) = _
    unfold PySem.W.mroIn
    rw [e1, Option.bind_some, m1, if_neg (by simp)]
    simp [same, List.contains_cons, Ne.symm same]
theorem kit_type {K : PySem.W.Frag} {C : Addr} {bm : List Value} {T : String} (q : errB K C bm = true) (hT : PySem.W.kitMeta T = true) : PySem.W.kitOne K (.ref C) (.type T) = some (bm.contains (.type T)) := by
  have q1 : clsB K C bm = true := by
    unfold errB at q
    exact (Bool.and_eq_true_iff.mp q).1
  obtain ⟨cd, e1, m1⟩ := clsB_in q1
  unfold PySem.W.kitOne
  rw [if_neg (by simp)]
  show (if PySem.W.kitMeta T = true then PySem.W.subIn K (.ref C) (.type T) else none) = _
  rw [if_pos hT]
  show PySem.W.mroIn K C (.type T) = _
  unfold PySem.W.mroIn
  rw [e1, Option.bind_some, m1, if_neg (by simp)]
  simp [List.contains_cons]
end LG
set_option Elab.async false
set_option linter.all false
set_option maxRecDepth 100000
set_option maxHeartbeats 2000000
/-! try .. except X as n, where the suite may keep the exception. -/
namespace LG
open PySem PySem.Spec PyProof.Rows L2
/-- a caught exception at a of the class cls, its dict d -/
def exq (a : Addr) (cls : Value) (d : Option Addr) : HO := .ext fun h => ∃ (o : Obj) (vs : Array Value), h.get? a = some o ∧ o.cls = cls ∧ o.dict = d ∧ o.data = .fields vs
theorem exq_ok {P : Program} {w : World} {H : Hp} {h : Heap} {a : Addr} {cls : Value} {d : Option Addr} {o : Obj} {vs : Array Value} (e : h.get? a = some o) (hc : o.cls = cls) (hd : o.dict = d) (hv : o.data = .fields vs) : ObjOk P w H h a (exq a cls d) :=
  ⟨⟨o, vs, e, hc, hd, hv⟩, ⟨o, e⟩, fun _ _ ⟨o, vs, q, r⟩ k => ⟨o, vs, k _ q, r⟩⟩
section
variable {X : Cx} {pins pins' : List (Addr × Obj)} {σ : L2.St} {H : Hp} {s s1 : Shared} {a : Addr} {cls : Value} {d : Option Addr}
/-- from the landing of an exception on it is tracked -/
theorem keep_exc {B : Heap} {h4 : Heap} {oe : Obj} {vs : Array Value} (hex : X.ex = []) (J : Inv X pins σ H s) (J4 : Inv X pins σ H { s1 with heap := h4 }) (nb : ∀ b o, s.heap.get? b = some o → b ∉ frs X.stack → B.get? b = some o) (hB : B.get? a = none)
    (nfr : a ∉ frs X.stack) (na : H a = none) (nL : a ≠ X.env.locals) (nF : a ∉ X.fs) (he : h4.get? a = some oe) (hz : Zc cls d oe) (hv : oe.data = .fields vs) :
    Inv (X.suite a (X.pn ++ pins)) [] σ (upd H a (exq a cls d)) { s1 with heap := h4 } := by
  have none_s : s.heap.get? a = none := by
    cases q : s.heap.get? a with
    | none => rfl
    | some o =>
      have := nb a o q nfr
      rw [hB] at this
      cases this
  have none_0 : X.s_0.heap.get? a = none := by
    cases q : X.s_0.heap.get? a with
    | none => rfl
    | some o =>
      obtain ⟨o', q'⟩ := J.base.there a o q (by rw [hex]; simp)
      rw [none_s] at q'
      cases q'
  have ne0 : ∀ {b : Addr} {u : HO}, H b = some u → b ≠ a := fun {b u} q => ne_of_none q na
  refine ⟨J4.ok.suite _ _, J4.os, J4.bare, ⟨J4.base.keep, J4.base.slot, fun b o e n hx => ?_, J4.base.there, fun b xs e => ?_, fun b o u e => ?_, fun b ps e => ?_⟩, J4.loc, J4.cell, ?_, fun y c e => ?_, fun p hp => ?_, fun b u e => ?_, J4.len⟩
  · have : b ≠ a := fun z => by
      rw [z] at e
      have e : X.s_0.heap.get? a = some o := e
      rw [none_0] at e
      cases e
    rw [upd_ne this]
    exact J4.base.free b o e n hx
  · have q := J4.base.tups b xs e
    rw [upd_ne (ne0 q)]
    exact q
  · have q := J4.base.frzs b o u e
    rw [upd_ne (ne0 q)]
    exact q
  · obtain ⟨more, q⟩ := J4.base.tbls b ps e
    exact ⟨more, by rw [upd_ne (ne0 q)]; exact q⟩
  · show upd H a (exq a cls d) X.env.locals = none
    rw [upd_ne (Ne.symm nL)]
    exact J4.free
  · have : c ≠ a := fun z => by
      obtain ⟨v, o, ho, hd⟩ := J4.cell y c e
      rw [z] at ho
      have ho : h4.get? a = some o := ho
      rw [he] at ho
      cases ho
      rw [hv] at hd
      cases hd
    rw [upd_ne this]
    exact J4.freeC y c e
  · have hp' : p ∈ X.pn ++ pins := by
      rw [List.append_nil] at hp
      exact hp
    obtain ⟨q1, q2, q3, q4, q5⟩ := J4.pin p hp'
    have : p.1 ≠ a := fun z => by
      obtain ⟨r1, _⟩ := J.pin p hp'
      rw [z, none_s] at r1
      cases r1
    exact ⟨q1, by rw [upd_ne this]; exact q2, q3, q4, q5⟩
  · by_cases hb : b = a
    · rw [hb, upd_same] at e
      cases e
      rw [hb]
      exact exq_ok he hz.1 hz.2 hv
    · rw [upd_ne hb] at e
      exact (J4.hok b u e).stay (fun c v _ q => q) (fun c q => by rw [upd_ne (ne0 q)]; exact q) fun c xs q => by rw [upd_ne (ne0 q)]; exact q
theorem unkeep {pn' : List (Addr × Obj)} (I : Inv (X.suite a (X.pn ++ pins)) pn' σ H s) (ok : X.Ok) : Inv X pins σ H s :=
  ⟨ok, I.os, I.bare, I.base, I.loc, I.cell, I.free, I.freeC, fun p hp => I.pin p (List.mem_append_left _ hp), I.hok, I.len⟩
end
/-- what the clause wishes of an exception of the body; the suite knows the exception as an object -/
def wKeep (K : PySem.W.Frag) (c : Value) (i : Nat) (ts : TS) (Wout : WX) (D : Ends) : WX := fun cls d σ H =>
  ∃ b, PySem.W.exmOne K cls c = some b ∧ (b = true → ∀ a, H a = none → ts { nx := fun σ' H' => D.nx (σ'.set i none) H', rt := D.rt, bk := fun σ' H' => D.bk (σ'.set i none) H', ct := fun σ' H' => D.ct (σ'.set i none) H' } (σ.set i (some (.ref a))) (upd H a (exq a cls d))) ∧
    (b = false → Wout cls d σ H)
section
variable {X : Cx} {x n : Str} {c : Value} {i : Nat} {body suite : List Stmt} {b₀ : Stmt} {np pos pos' : Pos} {tb : WX → TS} {ts : TS} {Wout : WX}
theorem ps_try_keep (hs : X.stack = X.env :: X.outer) (hf : X.env.frame = some X.env.locals) (hex : X.ex = []) (hN : X.N.Nodup) (hi : X.N[i]? = some n) (hln : X.env.kindOf n = some .local) (hc : L2.Names X x c) (tk : Takes X Wout)
    (hb : ∀ (W : WX) (pn : List (Addr × Obj)) (xe : Value → Shared → Prop), Takes (X.tr pn xe) W → PassesOwn (model X.prog X.w) X.A X.env xe → PSs (X.tr pn xe) body (tb W))
    (hsu : ∀ (a : Addr) (pn : List (Addr × Obj)), PSs (X.suite a pn) (b₀ :: suite) ts) :
    PS X (.Try body [.ExceptHandler (some (.Name x np)) (some n) (b₀ :: suite) pos'] [] [] pos) (fun D σ H => tb (wKeep X.K c i ts Wout D) D σ H) := by
  refine ⟨fun pins s σ H D I h => ?_⟩
  have ok := I.ok
  have hfr : X.A.frames = some (X.env :: X.outer) := by rw [ok.frames, hs]
  have hloc : Loc X.env.scope n := .inl hln
  refine wpAny_Try_except ?_
  refine wpAny_mono ((hb (wKeep X.K c i ts Wout D) (X.pn ++ pins) (fun e z1 => wpAny (model X.prog X.w) X.A (noteFrame e X.env) (fun _ z2 => wpAny (model X.prog X.w) X.A (setFlight e none) (fun _ z3 =>
    wpAny (model X.prog X.w) X.A (handleBy e X.env [.ExceptHandler (some (.Name x np)) (some n) (b₀ :: suite) pos']) (SP X pins D) X.xe z3) X.xe z2) X.xe z1) (fun u s' xx => ?_) PassesOwn.looking).run [] s σ H D (I.toTry _) h) (fun f s1 hsp => ?_) fun _ _ he => he
  · obtain ⟨a, B, sI, pins', σ', H', cls, d, rfl, J', nb, up, sky, na, os, ag, b, hb1, hyes, hno⟩ := xx
    have J : Inv X pins σ' H' sI := J'.ofTry ok
    have sky' : Sky B (X.env :: X.outer) a (Zc cls d) X.env.locals s'.heap := by rw [← hs]; exact sky
    show wpAny (model X.prog X.w) X.A (noteFrame (.ref a) X.env) _ _ _
    refine Sky.land Zc.steady hfr hf sky' fun g3 fl3 up3 => ?_
    have J3 : Inv X pins σ' H' { s' with heap := g3 } := J.landed nb fl3.1 (up.trans up3) os ag
    obtain ⟨oe3, vs3, he3, hz3, hd3⟩ := fl3.there
    have out : ∀ {g : Heap} {o : Obj} {us : Array Value}, g.FunFrames B (X.env :: X.outer) → g.get? a = some o → o.data = .fields us → a ∉ frs (X.env :: X.outer) := by
      intro g o us ff e dd hm
      obtain ⟨_, o', e', hnf⟩ := ff.mem hm
      rw [e] at e'
      cases e'
      exact hnf _ dd
    have nfr := out fl3.2.2.1 he3 hd3
    have nL : a ≠ X.env.locals := fun z => nfr (List.mem_filterMap.mpr ⟨X.env, List.mem_cons_self, by rw [hf, z]⟩)
    have nF : a ∉ X.fs := fun hm => by
      obtain ⟨e, he, q⟩ := List.mem_filterMap.mp hm
      exact nfr (List.mem_filterMap.mpr ⟨e, List.mem_cons_of_mem _ he, q⟩)
    have nfs : a ∉ frs X.stack := by rw [hs]; exact nfr
    have S3 := J3.suite he3 hd3 na nL nF
    refine wpAny_handleBy_cons (codeAny_handlers_test ?_) (by intro q; cases q)
    have LT : PySem.W.Looks (model X.prog X.w) g3 (typeOf (.ref a)) cls := fun A Q E s k q => wpAny_typeOf_ref (k _ _ he3) (by rw [hz3.1]; exact q)
    have LM := PySem.W.exm_one (M := model X.prog X.w) J3.kIn LT hb1
    have test : ∀ {Q : Value → Shared → Prop} {E : Value → Shared → Prop}, Q c { s' with heap := g3 } → wpAny (model X.prog X.w) (X.A.mark (some (.ref a))) (eval (.Name x np) X.env) Q E { s' with heap := g3 } := by
      intro Q E q
      obtain ⟨hg, hdbg, hm | ⟨hm, hv, hnn⟩⟩ := hc
      · exact ld_glob (X := X.suite a ((a, oe3) :: (X.pn ++ pins))) S3 hg hm q hdbg
      · exact ld_blt (X := X.suite a ((a, oe3) :: (X.pn ++ pins))) S3 hg hm hv q hnn hdbg
    refine test (LM.here ?_)
    cases b with
    | true =>
      refine codeAny_handlers_suite_as ?_
      refine HandSPX.lands_againZ fl3 fun g4 fl4 up4 => ?_
      have J4 : Inv X pins σ' H' { s' with heap := g4 } := J.landed nb fl4.1 ((up.trans up3).trans up4) os ag
      obtain ⟨oe4, vs4, he4, hz4, hd4⟩ := fl4.there
      have S4 := keep_exc hex J J4 nb fl4.2.1 nfs na nL nF he4 hz4 hd4
      refine store_ok (X := X.suite a (X.pn ++ pins)) (v := .ref a) S4 hN hi hloc rfl (fun s5 S5 => ?_) (.inr hln)
      refine wpAny_mono ((hsu a (X.pn ++ pins)).run [] s5 _ _ _ S5 (hyes rfl a na)) (fun f s6 hsp => ?_) (fun _ _ z => False.elim z)
      have end_ : ∀ {σ6 : L2.St} {H6 : Hp} {Q : Shared → Prop}, Inv (X.suite a (X.pn ++ pins)) [] σ6 H6 s6 → (∀ s7, Inv X pins (σ6.set i none) H6 s7 → Q s7) →
          wpAny (model X.prog X.w) X.A (do bindName X.env n .none; unbindBehindTheSuite X.env n pos') (fun _ s7 => Q s7) X.xe s6 := fun {σ6 H6 Q} S6 hq => gone_ok (unkeep S6 ok) hN hi hln hq
      match f, hsp with
      | .next, ⟨σ6, H6, S6, q6⟩ => exact end_ S6 fun s7 J7 => ⟨_, _, J7, q6⟩
      | .brk, ⟨σ6, H6, S6, q6⟩ => exact end_ S6 fun s7 J7 => ⟨_, _, J7, q6⟩
      | .cont, ⟨σ6, H6, S6, q6⟩ => exact end_ S6 fun s7 J7 => ⟨_, _, J7, q6⟩
      | .ret u, ⟨v6, σ6, H6, S6, r6, q6⟩ => exact end_ S6 fun s7 J7 => ⟨_, _, _, J7, r6, q6⟩
    | false =>
      show wpAny _ X.A (handleBy (.ref a) X.env []) _ _ _
      refine wpAny_handleBy_nil ?_
      obtain ⟨k1, k2, k3, oe, vs, T, oT, ts', he, hz, hd, h1, hr⟩ := id fl3
      unfold PySem.passOn
      refine wpAny_bind (wpAny_field he hd h1 ?_)
      rw [if_neg (show ¬ ((Value.ref T == Value.none) = true) from by simp)]
      have fin : wpAny (model X.prog X.w) X.A (setFlight (.ref a) X.env.frame) (fun _ s4 => wpAny (model X.prog X.w) X.A (throw (.ref a) : Sem Flow) (SP X pins D) X.xe s4) X.xe { s' with heap := g3 } := by
        rw [hf]
        refine HandSPX.setFlight_upZ fl3 fun g4 hh4 up4 => wpAny_throw (tk _ _ ?_)
        exact ⟨a, B, sI, pins, σ', H', cls, d, rfl, J, nb, (up.trans up3).trans up4, .inr (.inr (by rw [hs]; exact hh4)), na, os, ag, hno rfl⟩
      first
        | exact wpAny_bind (wpAny_pure (wpAny_bind fin))
        | exact wpAny_bind fin
  · match f, hsp with
    | .next, ⟨σ', H', J', q⟩ => exact wpAny_execs_nil ⟨σ', H', J'.ofTry ok, q⟩
    | .brk, ⟨σ', H', J', q⟩ => exact ⟨σ', H', J'.ofTry ok, q⟩
    | .cont, ⟨σ', H', J', q⟩ => exact ⟨σ', H', J'.ofTry ok, q⟩
    | .ret u, ⟨v, σ', H', J', r, q⟩ => exact ⟨v, σ', H', J'.ofTry ok, r, q⟩
end
end LG
set_option Elab.async false
set_option linter.all false
set_option maxRecDepth 100000
set_option maxHeartbeats 1000000
/-! Caught errors: isinstance, fields; anything that is no error. -/
namespace LG
open PySem PySem.Spec PyProof.Rows L2
/-- a caught error at a of the class at C; its own dict holds fs -/
structure ErrQ (H : Hp) (a C d : Addr) (fs : List (Str × V)) : Prop where
  ob : H a = some (exq a (.ref C) (some d))
  dc : H d = some (.xd fs)
theorem ErrQ.same {H H' : Hp} {a C d : Addr} {fs : List (Str × V)} (e : Same H H') (h : ErrQ H a C d fs) : ErrQ H' a C d fs := ⟨e _ _ h.ob, e _ _ h.dc⟩
section
variable {X : Cx} {pins : List (Addr × Obj)} {σ : L2.St} {H : Hp} {s : Shared}
theorem errq_inst {a C d : Addr} {fs : List (Str × V)} (I : Inv X pins σ H s) (h : ErrQ H a C d fs) : ∃ (ox od : Obj) (mA : Str → Option Value), PySem.W.InstAt s.heap a ox C (some od) ∧ (∀ f, RelO (fs.lookup f) (mA f)) ∧ ∀ f, PySem.W.lookIn f od = some (mA f) := by
  have x : ObjOk X.prog X.w H s.heap a (exq a (.ref C) (some d)) := I.hok a _ h.ob
  obtain ⟨⟨o, vs, e, hc, hd, hv⟩, _, _⟩ := x
  have y : ObjOk X.prog X.w H s.heap d (.xd fs) := I.hok d _ h.dc
  obtain ⟨mA, hns, rel⟩ := y
  obtain ⟨od, hod, hl⟩ := lookIn_ns hns
  obtain ⟨c0, d0, v0, sl⟩ := o
  simp only at hc hd hv
  subst hc hd hv
  exact ⟨_, od, mA, ⟨e, rfl, rfl, hod⟩, rel, hl⟩
end
section
variable {X : Cx}
/-- isinstance(e, c), e a caught error -/
def rIsErrQ (K : PySem.W.Frag) : List V → Hp → VK → Prop := fun xs H Q => ∃ (a C d : Addr) (fs : List (Str × V)) (c : V) (u : Value) (b : Bool), xs = [.ref a, c] ∧ ClsV c u ∧ ErrC K C ∧ ErrQ H a C d fs ∧ PySem.W.kitOne K (.ref C) u = some b ∧ Q (.bl b) H
theorem call_isErrQ (U : ClsD X.K) : CallR X (.builtin "isinstance") (rIsErrQ X.K) := by
  intro pins s σ H xs us Q I r h
  obtain ⟨a, C, d, fs, c, u, b, rfl, hc, T, at_, e, q⟩ := h
  obtain ⟨u1, u2, rfl, r1, r2⟩ := vals2 r
  have e1 : u1 = Value.ref a := r1
  subst e1
  have e2 := hc.eq r2
  subst e2
  obtain ⟨ox, od, mA, J, _, _⟩ := errq_inst I at_
  exact PySem.W.kia_one (kit_err T U) I.kIn J e (fun z => nomatch z) fun tk => ⟨.bl b, H, I.kept (t' := tk) fun _ _ z => z, rfl, q⟩
/-- e.n, e a caught error -/
def tErrQ (K : PySem.W.Frag) (n : Str) (te : TE) : TE := fun σ H Q => te σ H fun x H1 => ∃ (a C d : Addr) (fs : List (Str × V)) (v : V), x = .ref a ∧ ErrC K C ∧ PySem.W.findIn K (.ref C) n = some none ∧ ErrQ H1 a C d fs ∧ fs.lookup n = some v ∧ Q v H1
theorem pe_errq {e : Expr} {te : TE} {pos : Pos} {n : Str} (he : PE X e te) (hb : attributeBase e n X.env (eval e X.env) = eval e X.env := by rfl) : PE X (.Attribute e n pos) (tErrQ X.K n te) := by
  refine ⟨fun pins s σ H Q I h => attr_of hb (thn (he.run pins s σ H _ I h) ?_)⟩
  rintro u s1 ⟨x, H1, I1, rx, a, C, d, fs, v, rfl, T, no, at_, l, q⟩
  have eu : u = Value.ref a := rx
  subst eu
  obtain ⟨ox, od, mA, J, rel, hl⟩ := errq_inst I1 at_
  obtain ⟨u, hu, ru⟩ := RelO.some_of (v := v) (o := mA n) (by rw [← l]; exact rel n)
  exact HandSPX.exc_get I1.kIn J T.xf.ga T.xf.gg T.xf.exC (PySem.W.findObj_own T.xf.hdC no rfl (by rw [hl, hu])) (handed_of ru) ⟨v, H1, I1.tok _, ru, q⟩
end
end LG
set_option Elab.async false
set_option linter.all false
set_option maxRecDepth 100000
set_option maxHeartbeats 2000000
/-! enumerate over a tuple. -/
namespace PySem
open AutoSeq1 (wpAny_loadPart')
theorem meets_enumB {v : Value} {o : Obj} {G : Heap → Prop} (B : Begins v o G) :
    Meets (Builtin.«enumerate.__new__» ⟨[.type "enumerate", v], []⟩) (fun _ R s => G s.heap ∧
      R (.ok (.ret (.ref (s.heap.push o).objs.size))) { s with heap := (s.heap.push o).push { cls := .type "enumerate", data := .fields #[.none, .bool false, .ref s.heap.objs.size, rawInt 0, .none, .none] } }) :=
  .of_wp fun prog w A R s h => by
    obtain ⟨hp, g, d, tk, os⟩ := s
    obtain ⟨hG, h⟩ := h
    have hsub := sub_enumerate
    have it : ∀ {A' : Around} {E : Value → Shared → Prop} {Q : Value → Shared → Prop}, Q (.ref hp.objs.size) ⟨hp.push o, g, d, tk, os⟩ → wpAny (model prog w) A' (pyIter v) Q E ⟨hp, g, d, tk, os⟩ :=
      fun q => B.iter prog w _ _ ⟨hp, g, d, tk, os⟩ _ hG q
    wp_walk
    refine wpAny_stack_any fun st => wpAny_pure ?_
    split
    · rename_i c _ _ _ _ _
      cases (c == Value.type "enumerate")
      · wp_walk using it
        exact ⟨_, rfl, h⟩
      · wp_walk using it
        exact ⟨_, rfl, h⟩
    · wp_walk using it
      exact ⟨_, rfl, h⟩
theorem enum_tuple {prog : Program} {w : World} {A : Around} {E : Value → Shared → Prop} {s : Shared} {l : Addr} {items : Array Value} {Q : Value → Shared → Prop} (hL : s.heap.IsTuple l items)
    (h : ∀ h', IsEnum h' (s.heap.objs.size + 1) s.heap.objs.size 0 .none → h'.IsTupleIter s.heap.objs.size l 0 → h'.objs.size = s.heap.objs.size + 2 → (∀ b o, s.heap.get? b = some o → h'.get? b = some o) → Q (.ref (s.heap.objs.size + 1)) { s with heap := h' }) :
    wpAny (model prog w) A (call (.type "enumerate") [.ref l]) Q E s := by
  refine callType_new F.called_enumerate (by decide) (F.typeCall_enumerate_1 _) (F.newCall_enumerate_1 _) (fun obj => F.args_object_init_2 obj _) F.entry_enumerate_new (meets_enumB (begins_tuple l items)) ⟨hL, ?_⟩
  generalize ho : ({ cls := .type "tuple_iterator", data := .fields #[.ref l, .int 0 0] } : Obj) = io
  generalize hn : ({ cls := .type "enumerate", data := .fields #[.none, .bool false, .ref s.heap.objs.size, rawInt 0, .none, .none] } : Obj) = eo
  have z1 : (s.heap.push io).objs.size = s.heap.objs.size + 1 := Heap.size_push ..
  have he : ((s.heap.push io).push eo).get? (s.heap.objs.size + 1) = some eo := by
    rw [← z1]
    exact Heap.get?_push_size _ (by rw [← hn]; rfl)
  have hi : ((s.heap.push io).push eo).get? s.heap.objs.size = some io := Heap.get?_push_of_some _ (Heap.get?_push_size _ (by rw [← ho]; rfl))
  show _ ∧ _
  rw [z1]
  subst ho hn
  exact ⟨⟨_, he, rfl⟩, h _ he ⟨_, hi, rfl, rfl⟩ (by rw [Heap.size_push, z1]) fun b o x => Heap.get?_push_of_some _ (Heap.get?_push_of_some _ x)⟩
theorem enumT_end {prog : Program} {w : World} {A : Around} {E : Value → Shared → Prop} {s : Shared} {e it t : Addr} {i : Nat} {k : Int} {old : Value} {items : Array Value} {Q : Option Value → Shared → Prop} (hh : A.handled = none) (he : IsEnum s.heap e it k old) (hit : s.heap.IsTupleIter it t i) (ht : s.heap.IsTuple t items) (hx : items[i]? = none)
    (hQ : ∀ h', Heap.ExtBut it s.heap h' → Q none { s with heap := h' }) : wpAny (model prog w) A (pyNext (.ref e)) Q E s := by
  have hT : s.TypeIs (.ref e) "enumerate" := ⟨_, he, rfl⟩
  unfold pyNext
  refine wpAny_bind (wpAny_attempt (wpAny_callSpecial?_slot (name := Str.ofString "__next__") hT F.slot_enumerate_next (wpAny_call_entry F.slot_enumerate_next hT F.entry_enumerate_next ?_ (F.args_enumerate_next_1 _))))
  show wpAny _ _ (field (.ref e) 2 >>= _) _ _ _
  refine wpAny_bind (wpAny_field he rfl (x := .ref it) rfl ?_)
  refine wpAny_bind (wpAny_nextOf_tuple_end hh hit ht hx fun h' x he' hx' => ?_)
  obtain ⟨o, ho, hc⟩ := hx'
  exact wpAny_bind (wpAny_isInstance (T := "StopIteration") (b := true) ⟨o, ho, hc⟩ isSubtype_stop (wpAny_pure (hQ _ he')))
end PySem
namespace LG
open PySem PySem.Spec PyProof.Rows L2
/-- the tuple at a, each item in a new pair with its place -/
def Itet (K : PySem.W.Frag) (a : Addr) : It :=
  ⟨fun i H => ∃ (xs : List V) (x : V), SqT K H a xs ∧ xs[i]? = some x, fun i H v H' => ∃ T x, v = .ref T ∧ H T = none ∧ H' = upd H T (.tup [.int (i : Nat), x]) ∧ ∀ xs, SqT K H a xs → xs[i]? = some x, fun i H => ∃ xs : List V, SqT K H a xs ∧ xs.length ≤ i⟩
theorem turn_enumT {P : Program} {w : World} {K : PySem.W.Frag} {elts : List Expr} {kk : Nat} {tpos : Pos} (a e it : Addr) (nai : a ≠ it) (nea : e ≠ a) :
    Turn P w K (.Tuple elts kk tpos) (Itet K a) [e, it] e (fun i h => (∃ old, IsEnum h e it ((i : Nat) : Int) old) ∧ h.IsTupleIter it a i ∧ e ≠ it) where
  mem := by simp
  obj := fun i h st b hb => by
    obtain ⟨⟨old, he⟩, ⟨o, ho, hc, hd⟩, _⟩ := st
    have e' : b = e ∨ b = it := by simpa using hb
    rcases e' with z | z
    · rw [z]
      exact ⟨_, he, fun v q => nomatch q⟩
    · rw [z]
      exact ⟨o, ho, fun v q => by rw [hd] at q; cases q⟩
  keep := fun i h h' st k => by
    obtain ⟨⟨old, he⟩, hi, hne⟩ := st
    exact ⟨⟨old, k e (by simp) _ he⟩, hi.at fun o q => k it (by simp) o q, hne⟩
  item := by
    intro X hP hw hK hc i pins s σ H E I hf st hg
    subst hP hw hK
    obtain ⟨⟨old, he⟩, hit, hne⟩ := st
    obtain ⟨xs, x, hq, hx⟩ := hg
    obtain ⟨its, rv, p, hz⟩ := I.tuple hq
    obtain ⟨u, hu, ru⟩ := rv.get hx
    have hel : e < s.heap.objs.size := Heap.lt_size he
    have hil : it < s.heap.objs.size := by obtain ⟨_, q, _⟩ := hit; exact Heap.lt_size q
    have hlen : i < its.toArray.size := by
      have := (List.getElem?_eq_some_iff.mp hu).1
      simpa using this
    refine wpAny_pyNext_enum_itemD (Draws.tuple (A := X.A.in1) (show X.A.in1.handled = none from I.ok.hd hc) it a nai its.toArray) he ⟨hit, p⟩ hlen hne (by simp [hne, nea]) fun x2 h' tk hx2 ho hst' hT hsz hk => ?_
    have ex : x2 = u := by
      have q : its.toArray[i]? = some u := by simpa using hu
      exact Option.some.inj (hx2.symm.trans q)
    subst ex
    refine ⟨_, rfl, wpAny_letOwnedTupleGo_enum (s := { s with heap := h', toks := tk + 1 }) ho fun h'' he' sb => ?_⟩
    have hT2 : h''.get? s.heap.objs.size = some { cls := .type "tuple", data := .seq #[.int i tk, x2] } := (sb.2 _ (Nat.ne_of_gt hel)).trans hT
    have new : ObjOk X.prog X.w (upd H s.heap.objs.size (.tup [.int (i : Nat), x])) h'' s.heap.objs.size (.tup [.int (i : Nat), x]) :=
      ⟨by show 2 ≤ sizeLine; decide, [.int i tk, x2], .cons ⟨_, rfl⟩ (.cons ru .nil), ⟨_, hT2, rfl, _, rfl⟩⟩
    have I1 : Inv X pins σ (upd H s.heap.objs.size (.tup [.int (i : Nat), x])) { s with heap := h'', toks := tk + 1 } :=
      I.turnedNew (ch := [e, it]) (fun b ob hb q => (sb.2 b (fun z => hb (by simp [z]))).trans (hk b ob (fun z => hb (by simp [z])) (fun z => hb (by simp [z])) q)) hf (Nat.le_refl _) new
    refine ⟨.ref s.heap.objs.size, _, I1, rfl, ⟨_, x, rfl, I.hok.fresh (Nat.le_refl _), rfl, fun ys hy => by rw [I.tuple_inj hy hq]; exact hx⟩, ⟨⟨x2, ?_⟩, hst'.1.at fun o q => (sb.2 it (Ne.symm hne)).trans q, hne⟩, fun b hb => ?_⟩
    · have e1 : ((i + 1 : Nat) : Int) = (i : Int) + 1 := by omega
      rw [e1]
      exact he'
    · have hb' : b < s.heap.objs.size := by
        have e' : b = e ∨ b = it := by simpa using hb
        rcases e' with z | z
        · rw [z]
          exact hel
        · rw [z]
          exact hil
      rw [upd_ne (Nat.ne_of_lt hb')]
      exact (hf b hb).1
  done := by
    intro X hP hw hK hc i pins s σ H E I hf st hg
    subst hP hw hK
    obtain ⟨⟨old, he⟩, hit, hne⟩ := st
    obtain ⟨xs, hq, hx⟩ := hg
    obtain ⟨its, rv, p, hz⟩ := I.tuple hq
    obtain ⟨f0, f1, f2, f3, f4, f5⟩ := hf it (by simp)
    have hl := rv.length
    exact enumT_end (I.ok.hd hc) he hit p (by simp; omega) fun h' eb => ⟨rfl, I.turned (t' := s.toks) (fun b o hb q => eb b o hb q) f0 f1 f3 f4 f5⟩
  self := fun A i s Q E st h => let ⟨⟨_, he⟩, _⟩ := st; wpAny_pyIter_enum he h
def iEnumT (K : PySem.W.Frag) (ta : TA) : TI := fun σ H R => ta σ H fun vs H1 => ∃ a xs, vs = [.ref a] ∧ SqT K H1 a xs ∧ R (Itet K a) H1
theorem pi_enumT {X : Cx} {e : Expr} {ta : TA} {p pos tpos : Pos} {elts : List Expr} {kk : Nat} (hg : Gl X "enumerate") (hm : X.mg "enumerate" = none) (ha : PA X [e] ta) (hs : starEach [e] X.env = [(false, eval e X.env)] := by rfl) :
    PI X (.Tuple elts kk tpos) (.Call (.Name "enumerate" p) [e] [] pos) (iEnumT X.K ta) := by
  refine ⟨fun pins s σ H R I h => ?_⟩
  refine Call_ (ld_blt I hg hm boot_enumerate (PyProof.Rows.callWith_type1 (thn (ha.run pos pins s σ H _ I h) fun us s1 ⟨vs, H1, I1, r1, q1⟩ => ?_) hs rfl))
  obtain ⟨a, xs, rfl, hq, q⟩ := q1
  obtain ⟨u, rfl, ru⟩ := vals1 r1
  have eu : u = Value.ref a := ru
  subst eu
  obtain ⟨its, rv, pt, hz⟩ := I1.tuple hq
  have al : a < s1.heap.objs.size := by
    obtain ⟨o, ho, _⟩ := pt
    exact Heap.lt_size ho
  refine enum_tuple pt fun h' he hit hsz hk => wpAny_pyIter_enum he ?_
  have I2 : Inv X pins σ H1 { s1 with heap := h' } := I1.kept (t' := s1.toks) hk
  refine ⟨s1.heap.objs.size + 1, [s1.heap.objs.size + 1, s1.heap.objs.size], _, _, H1, rfl, I2, turn_enumT a (s1.heap.objs.size + 1) s1.heap.objs.size (Nat.ne_of_lt al) (Nat.ne_of_gt (Nat.lt_succ_of_lt al)), ⟨⟨.none, he⟩, hit, Nat.succ_ne_self _⟩, fun b hb => ?_, q⟩
  have hle : s1.heap.objs.size ≤ b := by
    have e' : b = s1.heap.objs.size + 1 ∨ b = s1.heap.objs.size := by simpa using hb
    rcases e' with z | z
    · rw [z]
      exact Nat.le_succ _
    · rw [z]
      exact Nat.le_refl _
  exact I1.fpOk hle (I1.hok.fresh hle)
end LG
set_option Elab.async false
set_option linter.all false
set_option maxRecDepth 100000
set_option maxHeartbeats 3200000
/-! len(set(xs)), xs a list of texts. -/
namespace LG
open PySem PySem.Spec PyProof.Rows L2
/-- unlike ones, as they are first met -/
def uniq1 (acc : List Str) (x : Str) : List Str := if acc.any (· == x) then acc else acc ++ [x]
def uniq (xs : List Str) : List Str := xs.foldl uniq1 []
theorem uniq_snoc (xs : List Str) (x : Str) : uniq (xs ++ [x]) = uniq1 (uniq xs) x := by
  unfold uniq
  rw [List.foldl_append]
  rfl
theorem uniq1_len (acc : List Str) (x : Str) : (uniq1 acc x).length = if acc.any (· == x) then acc.length else acc.length + 1 := by
  unfold uniq1
  split <;> simp
theorem uniq1_any (acc : List Str) (x k : Str) : (uniq1 acc x).any (· == k) = (acc.any (· == k) || decide (k = x)) := by
  unfold uniq1
  by_cases h : acc.any (· == x) = true
  · rw [if_pos h]
    by_cases e : k = x
    · subst e
      rw [h]
      simp
    · simp [e]
  · rw [if_neg h, List.any_append]
    by_cases e : k = x
    · subst e
      simp
    · have hb : (x == k) = false := by simpa [beq_iff_eq] using (fun q : x = k => e q.symm)
      simp [hb, e]
theorem uniq_take {xs : List Str} {i : Nat} (h : i < xs.length) : uniq (xs.take (i + 1)) = uniq1 (uniq (xs.take i)) (xs.getD i Str.empty) := by
  rw [List.take_add_one, List.getElem?_eq_getElem h, List.getD_eq_getElem?_getD, List.getElem?_eq_getElem h]
  exact uniq_snoc _ _
theorem uniq_le : ∀ (xs : List Str) (i : Nat), i ≤ xs.length → (uniq (xs.take i)).length ≤ i
  | xs, 0, _ => by simp [uniq]
  | xs, i + 1, h => by
    rw [uniq_take h, uniq1_len]
    have := uniq_le xs i (Nat.le_of_lt h)
    split <;> omega
/-- the set that is being filled -/
def Fills (P : Program) (w : World) (h : Heap) (S : Addr) (xs : List Str) (i : Nat) : Prop := h.SetOf (PySem.strKind P w) S (fun k => (uniq (xs.take i)).any (· == k)) (uniq (xs.take i)).length
section
variable {P : Program} {w : World} {A : Around} {R : Result → Shared → Prop} {I : Addr} {fp wr : List Addr} {G : Array GenState → Array GenState → Prop} {n : Nat} {Pv : Nat → Value → Prop} {St : Nat → Shared → Prop}
theorem fill_loop (W : WalksS P w A.in1 I fp wr G n Pv St) (S : Addr) (out : S ∉ fp) (xs : List Str) (len : xs.length = n) (room : n + 1 < scanBound) (val : ∀ i v, Pv i v → ∃ t, v = .str (xs.getD i Str.empty) t) :
    ∀ (k i : Nat) (s : Shared), n - i = k → i ≤ n → St i s → Fills P w s.heap S xs i → (∀ s', Moved (S :: wr) G s s' → Fills P w s'.heap S xs n → R (.ok (.ret .none)) s') →
      codeAny (model P w) A (.builtin "set.update.loop" ⟨[.ref S, .ref I], []⟩) R s := by
  have outW : S ∉ wr := fun h => out (W.sub _ h)
  have up : ∀ b ∈ wr, b ∈ S :: wr := fun b hb => List.mem_cons_of_mem _ hb
  have kept : ∀ {s s' : Shared} {i : Nat}, Moved wr G s s' → Fills P w s.heap S xs i → Fills P w s'.heap S xs i := by
    rintro s s' i m ⟨o, es, ep, t, ho, rest⟩
    exact ⟨o, es, ep, t, m.heap S _ outW ho, rest⟩
  intro k
  induction k with
  | zero =>
    intro i s hk hi hst hS hR
    have e : i = n := by omega
    subst e
    refine codeAny_builtin PyProof.Rows.F.entry_set_update_loop ?_
    rw [Around.under_plainId PyProof.Rows.F.plain_set_update_loop _]
    show wpAny _ A.in1 (pyNext (.ref I) >>= _) _ _ s
    refine wpAny_bind (W.done s _ _ hst fun s' m => ?_)
    show wpAny _ A.in1 (ret Value.none) _ _ s'
    exact wpAny_pure (hR s' (m.mono up) (kept m hS))
  | succ k ih =>
    intro i s hk hi hst hS hR
    have lt : i < n := by omega
    refine codeAny_builtin PyProof.Rows.F.entry_set_update_loop ?_
    rw [Around.under_plainId PyProof.Rows.F.plain_set_update_loop _]
    show wpAny _ A.in1 (pyNext (.ref I) >>= _) _ _ s
    refine wpAny_bind (W.item i s _ _ lt hst fun v s1 pv st1 m => ?_)
    obtain ⟨t, rfl⟩ := val i v pv
    have S1 := kept m hS
    show wpAny _ A.in1 (holding [Value.str (xs.getD i Str.empty) t] (setAdd S (.str (xs.getD i Str.empty) t)) >>= _) _ _ s1
    refine wpAny_bind (wpAny_holding ?_)
    unfold setAdd
    refine wpAny_holding (wpAny_bind ((PySem.strKind P w).pyHash (k := xs.getD i Str.empty) (strKind_is _ _ _ _) ?_))
    have few := uniq_le xs i (by omega)
    refine wpAny_setAddHashed_of (knd := PySem.strKind P w) (s := { s1 with toks := s1.toks + 1 }) (strKind_is _ _ _ _) rfl S1 (by omega) fun h' sb S2 => ?_
    have S3 : Fills P w h' S xs (i + 1) := by
      unfold Fills
      rw [uniq_take (by omega)]
      exact SetOf_congr S2 (fun k' => (uniq1_any _ _ _).symm) (uniq1_len _ _).symm
    refine wpAny_pure ⟨plainId_quiet PyProof.Rows.F.plain_set_update_loop _, ih (i + 1) _ (by omega) lt (W.frame _ s1 _ _ st1 (Nat.le_succ _) fun b hb o e => ?_) S3 fun s2 m2 S4 => ?_⟩
    · rw [sb.2 b (fun q : b = S => out (by rw [← q]; exact hb))]
      exact e
    · refine hR s2 (Moved.trans W.gtrans ((m.mono up).then_heap (Nat.le_succ _) fun b o hb e => ?_) m2) S4
      rw [sb.2 b (fun q : b = S => hb (by rw [q]; exact List.mem_cons_self))]
      exact e
end
/-- a new set -/
abbrev newSet (led : Bool) : Obj := { cls := .type "set", dict := none, data := .set #[] 0 (.fresh 0 0 led) }
section
variable {P : Program} {w : World} {A : Around} {E : Value → Shared → Prop} {s : Shared}
theorem set_of_strs {l : Addr} {items : Array Value} {xs : List Str} {Q : Value → Shared → Prop} (hh : A.handled = none) (hl : s.heap.IsList l items) (hi : StrsAre items.toList xs) (room : xs.length + 1 < scanBound)
    (h : ∀ (h' : Heap) (tk : Nat), Fills P w h' s.heap.objs.size xs xs.length → (∀ b o, b < s.heap.objs.size → s.heap.get? b = some o → h'.get? b = some o) → Q (.ref s.heap.objs.size) { s with heap := h', toks := tk }) :
    wpAny (model P w) A (call (.type "set") [.ref l]) Q E s := by
  obtain ⟨c, tl, hmro⟩ := PySem.F.called_set.mro
  have made := PySem.F.called_set.made
  have sub := PySem.F.called_set.sub
  refine wpAny_call (codeAny_of_tree ?_)
  show wpAny _ _ (callAny (.type "set") _) _ _ _
  refine wpAny_pure ⟨Code.quiet_builtin _ (by decide +kernel), codeAny_builtin PySem.F.entry_type_call ?_⟩
  rw [Around.under_plain (weight_type_call_type "set" [.ref l] []) rfl]
  have f1 := PySem.F.called_set.notType
  have f2 := PySem.F.called_set.canCreate
  have f3 := PySem.F.typeCall_set_1 (.ref l)
  repeat (any_goals (first | assumption | wp_step))
  refine codeAny_mono (code_set_new_1 (.ref l) (E := E) (Q₁ := fun obj z => ∃ led : Bool, obj = .ref s.heap.objs.size ∧ z = { s with heap := s.heap.push (newSet led) }) fun led => ⟨led, rfl, rfl⟩) fun r z hr => ?_
  match r, hr with
  | .error e, hr => exact hr
  | .ok .next, hr => exact hr.elim
  | .ok .brk, hr => exact hr.elim
  | .ok .cont, hr => exact hr.elim
  | .ok (.ret obj), hr =>
    obtain ⟨led, rfl, rfl⟩ := hr
    have new : (s.heap.push (newSet led)).get? s.heap.objs.size = some (newSet led) := Heap.get?_push_size _ rfl
    have hT : Shared.TypeIs { s with heap := s.heap.push (newSet led) } (.ref s.heap.objs.size) "set" := ⟨_, new, rfl⟩
    have g1 := PySem.F.called_set.init.lookup
    have g2 := PySem.F.called_set.init.bind (.ref s.heap.objs.size)
    repeat (any_goals (first | assumption | wp_step))
    refine codeAny_mono (codeAny_call_builtin (R := wants (fun r z => r = .none ∧ ∃ h' tk, z = { s with heap := h', toks := tk } ∧ Fills P w h' s.heap.objs.size xs xs.length ∧ (∀ b o, b < s.heap.objs.size → s.heap.get? b = some o → h'.get? b = some o)) E)
      PySem.F.called_set.init.plain PySem.F.entry_set_init (check_set_init_1 hT ?_)) fun r2 z2 hr2 => ?_
    · obtain ⟨⟨oc, od, dt, sl⟩, ol, cl, nl, dl⟩ := hl
      simp only at cl dl
      subst cl
      subst dl
      have ol1 : (s.heap.push (newSet led)).get? l = some { cls := .type "list", dict := od, data := .seq items nl, slots := sl } := Heap.get?_push_of_some _ ol
      have q1 := PySem.F.sub_list_set
      have q2 := PySem.F.sub_list_frozenset
      have q3 : (Value.type "list" == Value.type "dict") = false := by decide
      have hl1 : (s.heap.push (newSet led)).IsList l items := ⟨_, ol1, rfl, nl, rfl⟩
      unfold Builtin.«set.__init__» noKeywords Builtin.Frozenset.updateFrom
      generalize hPI : pyIter = PI
      wp_walk
      subst hPI
      refine wpAny_pyIter_list hl1 (wpAny_bind (wpAny_runValue ?_))
      have ltS : l < s.heap.objs.size := Heap.lt_size ol
      have zS : (s.heap.push (newSet led)).objs.size = s.heap.objs.size + 1 := Heap.size_push ..
      have h3 : A.in1.in1.in1.handled = none := by simp [hh]
      have n1 : l ≠ (s.heap.push (newSet led)).objs.size := by
        rw [zS]
        exact Nat.ne_of_lt (Nat.lt_succ_of_lt ltS)
      have n2 : s.heap.objs.size ∉ [(s.heap.push (newSet led)).objs.size, l] := by
        rw [zS]
        intro q
        rcases List.mem_cons.mp q with q | q
        · exact Nat.ne_of_lt (Nat.lt_succ_self _) q
        · exact Nat.ne_of_gt ltS (List.mem_singleton.mp q)
      have len : xs.length = items.size := by rw [← StrsAre.len_eq hi, Array.length_toList]
      have val : ∀ (i : Nat) (v : Value), items[i]? = some v → ∃ t, v = .str (xs.getD i Str.empty) t := fun i v hv => SS.strs_at hi i v (by rw [Array.getElem?_toList]; exact hv)
      refine fill_loop ((Walks.list h3 _ l n1 items).toS) s.heap.objs.size n2 xs len (by omega) val (items.size - 0) 0 _ (by omega) (Nat.zero_le _) ⟨⟨_, Heap.get?_push_size _ rfl, rfl, rfl⟩, (hl1.push _)⟩ ?start ?stop
      case start =>
        have at_ : ((s.heap.push (newSet led)).push { cls := .type "list_iterator", data := .fields #[.ref l, .int 0 0] }).get? s.heap.objs.size = some (newSet led) := Heap.get?_push_of_some _ new
        exact SetOf_congr ((PyProof.Rows.setObjOf_fresh (knd := PySem.strKind P w) led).setOf at_ (by unfold scanBound; omega)) (fun _ => rfl) rfl
      case stop =>
        intro s' m S'
        obtain ⟨h', g', d', tk', os'⟩ := s'
        have e1 : g' = s.gens := m.gens
        have e2 : d' = s.drawn := m.drawn
        have e3 : os' = s.os := m.os
        subst e1 e2 e3
        show wpAny _ _ _ _ _ _
        refine wpAny_pure ?_
        show wpAny _ _ (ret Value.none) _ _ _
        rw [← len] at S'
        refine wpAny_pure ⟨rfl, h', tk', rfl, S', fun b o hb e => ?_⟩
        refine m.heap b o (fun q => ?_) (Heap.get?_push_of_some _ (Heap.get?_push_of_some _ e))
        rcases List.mem_cons.mp q with q | q
        · exact Nat.ne_of_lt hb q
        · have := List.mem_singleton.mp q
          rw [this, zS] at hb
          omega
    · match r2, hr2 with
      | .error e, hr2 => exact hr2
      | .ok .next, hr2 => exact hr2.elim
      | .ok .brk, hr2 => exact hr2.elim
      | .ok .cont, hr2 => exact hr2.elim
      | .ok (.ret r), hr2 =>
        obtain ⟨rfl, h', tk, rfl, S', k'⟩ := hr2
        repeat (any_goals (first | assumption | wp_step))
        exact h _ _ S' k'
end
/-- len(set(xs)) -/
def tLenSetS (K : PySem.W.Frag) (ta : TE) : TE := fun σ H Q => ta σ H fun x H1 => ∃ (l : Addr) (xs : List Str), x = .ref l ∧ SqL K H1 l (xs.map V.str) ∧ xs.length ≤ 4000 ∧ Q (.int ((uniq xs).length : Nat)) H1
theorem pe_lenSetS {X : Cx} {a : Expr} {ta : TE} {p p2 q pos : Pos} (hg : Gl X "len") (hm : X.mg "len" = none) (hg2 : Gl X "set") (hm2 : X.mg "set" = none) (ha : PE X a ta) (hc : X.calm = true := by rfl)
    (na : starEach [a] X.env = (false, eval a X.env) :: starEach [] X.env := by rfl) : PE X (.Call (.Name "len" p) [.Call (.Name "set" p2) [a] [] q] [] pos) (tLenSetS X.K ta) := by
  refine ⟨fun pins s σ H Q I h => Call_ (ld_blt I hg hm boot_len (PyProof.Rows.callWith_builtin1 (PyProof.Rows.args_cons ?_ rfl) rfl rfl))⟩
  refine Call_ (ld_blt I hg2 hm2 boot_set (PyProof.Rows.callWith_type1 (PyProof.Rows.args_cons (thn (ha.run pins s σ H _ I h) fun v s1 ⟨x, H1, I1, r1, q1⟩ => PyProof.Rows.args_nil ?_) na) na rfl))
  obtain ⟨l, xs, rfl, hq, hl, q1⟩ := q1
  have ev : v = Value.ref l := r1
  subst ev
  obtain ⟨its, r, pl, hz⟩ := I1.list hq
  have few := uniq_le xs xs.length (Nat.le_refl _)
  have sb : scanBound = 4096 := rfl
  refine set_of_strs (I1.ok.hd hc) pl.isList (by simpa using strsAre_of r) (by omega) fun h' tk S' k' => PyProof.Rows.args_nil ?_
  unfold Fills at S'
  rw [List.take_length] at S' few
  obtain ⟨o, es, ep, t, ho, hex, hd, _, _, _, hf, hn⟩ := S'
  have I2 : Inv X pins σ H1 { s1 with heap := h', toks := tk } := I1.kept fun b o e => k' b o (Heap.lt_size e) e
  exact call_len_set ho hex hd hf (by rw [hn]; omega) ⟨.int ((uniq xs).length : Nat), H1, I2.tok _, ⟨_, by rw [hn]⟩, q1⟩
theorem uniq1_mem {acc : List Str} {x y : Str} : y ∈ uniq1 acc x ↔ y ∈ acc ∨ y = x := by
  have h := uniq1_any acc x y
  constructor
  · intro q
    have e : (uniq1 acc x).any (· == y) = true := List.any_eq_true.mpr ⟨y, q, beq_self_eq_true y⟩
    rw [h, Bool.or_eq_true] at e
    rcases e with e | e
    · obtain ⟨z, hz, ez⟩ := List.any_eq_true.mp e
      rw [beq_iff_eq] at ez
      exact .inl (ez ▸ hz)
    · exact .inr (of_decide_eq_true e)
  · intro q
    have e : (uniq1 acc x).any (· == y) = true := by
      rw [h, Bool.or_eq_true]
      rcases q with q | q
      · exact .inl (List.any_eq_true.mpr ⟨y, q, beq_self_eq_true y⟩)
      · exact .inr (decide_eq_true q)
    obtain ⟨z, hz, ez⟩ := List.any_eq_true.mp e
    rw [beq_iff_eq] at ez
    exact ez ▸ hz
theorem uniq_rev (ys : List Str) : ∀ xs : List Str, ys = xs.reverse → ((∀ y, y ∈ uniq xs ↔ y ∈ xs) ∧ (uniq xs).length ≤ xs.length ∧ ((uniq xs).length = xs.length ↔ xs.Nodup)) := by
  induction ys with
  | nil =>
    intro xs h
    have : xs = [] := by simpa using h.symm
    subst this
    simp [uniq]
  | cons y r ih =>
    intro xs h
    have e : xs = r.reverse ++ [y] := by
      have := congrArg List.reverse h
      simpa using this.symm
    obtain ⟨m, l, n⟩ := ih r.reverse (by simp)
    rw [e, uniq_snoc]
    generalize r.reverse = xs0 at m l n
    refine ⟨fun z => ?_, ?_, ?_⟩
    · rw [uniq1_mem, m z]
      simp
    · rw [uniq1_len, List.length_append, List.length_singleton]
      split <;> omega
    · rw [uniq1_len, List.length_append, List.length_singleton, List.nodup_append]
      by_cases c : (uniq xs0).any (· == y) = true
      · rw [if_pos c]
        obtain ⟨z, hz, ez⟩ := List.any_eq_true.mp c
        rw [beq_iff_eq] at ez
        subst ez
        have hz := (m z).mp hz
        constructor
        · intro q
          omega
        · rintro ⟨_, _, q⟩
          exact absurd rfl (q z hz z (by simp))
      · rw [if_neg c]
        have no : y ∉ xs0 := fun q => c (List.any_eq_true.mpr ⟨y, (m y).mpr q, beq_self_eq_true y⟩)
        constructor
        · intro q
          refine ⟨n.mp (by omega), by simp, fun a ha b hb => ?_⟩
          rw [List.mem_singleton.mp hb]
          exact fun z => no (z ▸ ha)
        · rintro ⟨q, _⟩
          have := n.mpr q
          omega
theorem uniq_len (xs : List Str) : (uniq xs).length ≤ xs.length ∧ ((uniq xs).length = xs.length ↔ xs.Nodup) := (uniq_rev xs.reverse xs (by simp)).2
end LG
set_option Elab.async false
set_option linter.all false
set_option maxRecDepth 100000
set_option maxHeartbeats 2000000
/-! len, in, ==, != by an own class's defs. -/
namespace LG
open PySem PySem.Spec PyProof.Rows L2
section
open PySem.W
variable {prog : Program} {w : World} {A : Around} {E : Value → Shared → Prop} {s : Shared} {K : Frag} {x C f : Addr} {ox : Obj} {od : Option Obj} {b tb : Value}
/-- x != b by the text's own ==, where no class behind says what != is -/
theorem ne_by_eq {Q : Value → Shared → Prop} (room : A.units + 1 < cLine) (X : K.In s.heap) (I : PySem.W.InstAt s.heap x ox C od) (tyb : Looks (model prog w) s.heap (typeOf b) tb) (nf : notFirst K C tb = true)
    (fne : findIn K (.ref C) "__ne__" = some (some (.builtin "object.__ne__"))) (isO : mroIn K C (.type "object") = some true) (feq : findIn K (.ref C) "__eq__" = some (some (.ref f))) (fn : isFn K (.ref f) = true)
    (h : wpAny (model prog w) A.in1 (call (.ref f) [.ref x, b]) (fun v z => ∃ r, v = .bool r ∧ Q (.bool (!r)) z) E s) : wpAny (model prog w) A (richCompare .NotEq (.ref x) b) Q E s := by
  have sub : Looks (model prog w) s.heap (isInstance (.ref x) (.type "object")) true := I.type.andThen (looks_mroIn X isO)
  have S := PySem.F.cmp_object.ne
  have body : ∀ {R : Fin → Shared → Prop}, (∀ r z, Q (.bool (!r)) z → R (.done (.ret (.bool (!r)))) z) → wpAny (model prog w) A.in1 (Builtin.«object.__ne__» ⟨[.ref x, b], []⟩) R E s := by
    intro R k
    unfold Builtin.«object.__ne__»
    have room1 : A.in1.units < cLine := room
    repeat (first
      | with_reducible refine wpAny_cRoomFor room1 ?_
      | (refine wpAny_bind (m := callSpecialIfBound? (.ref x) (Str.ofString "__eq__") [b]) (ifBound_K X I feq fn (wpAny_mono h (fun v z hv => ?_) fun _ _ e => e)))
      | wp_step)
    obtain ⟨r, rfl, q⟩ := hv
    repeat (first | exact k r _ q | exact wpAny_pure (k r _ q) | exact wpAny_truthy_bool (k r _ q) | (refine wpAny_bind (m := truthy (.bool _)) (wpAny_truthy_bool ?_)) | wp_step)
  have one : wpAny (model prog w) A (tryCompare (.ref x) "__ne__" b) (fun r z => ∃ v, r = some v ∧ Q v z) E s := by
    simp only [tryCompare]
    refine wpAny_bind ?_
    simp only [callSpecialIfBound?, bindSpecialIfBound?]
    refine wpAny_holding (wpAny_bind (wpAny_bind (wpAny_bind (I.type.here ((looks_findIn X fne).here ?_)))))
    simp only [S.bind]
    have run : wpAny (model prog w) A (call (.builtin "object.__ne__") ([.ref x] ++ [b]) >>= fun v => pure (some v)) (fun r z => wpAny (model prog w) A (match r with | some .notImplemented | none => pure none | some v => pure (some v)) (fun r z => ∃ v, r = some v ∧ Q v z) E z) E s := by
      refine wpAny_bind (wpAny_call (codeAny_call_builtin S.plain PySem.F.cmpEntry_ne (check_slot PySem.F.cmpKind_ne PySem.F.cmpSplit_ne sub (PySem.F.cmpArgs_ne _ _) (body fun r z q => ?_))))
      exact wpAny_pure (wpAny_pure ⟨_, rfl, q⟩)
    refine wpAny_bind (wpAny_askSetting (wpAny_ite ?_))
    split
    · exact wpAny_bind (wpAny_pure (wpAny_pure run))
    · exact wpAny_tryCatch (wpAny_bind (wpAny_pure (wpAny_pure run)))
  unfold richCompare
  simp only [oneThing_ref]
  refine wpAny_holding (wpAny_bind (wpAny_cRoomFor (Nat.lt_of_succ_lt room) ?_))
  rw [cmpInfo_NotEq]
  dsimp only
  refine wpAny_bind (I.type.here (wpAny_bind (tyb.here ?_)))
  have fin : wpAny (model prog w) A (tryCompare (.ref x) "__ne__" b) (fun r z => ∃ v, r = some v ∧ Q v z) E s := one
  by_cases q : (Value.ref C != tb) = true
  · rw [if_pos q]
    have e : subIn K tb (.ref C) = some false := by
      rcases Bool.or_eq_true_iff.mp nf with e | e
      · rw [beq_iff_eq.mp e] at q
        simp at q
      · exact beq_iff_eq.mp e
    refine wpAny_bind ((looks_subIn X e).here ?_)
    simp only [Bool.false_eq_true, if_false]
    refine wpAny_bind (wpAny_mono fin (fun r z hz => ?_) fun _ _ e => e)
    obtain ⟨v, rfl, hq⟩ := hz
    exact wpAny_pure hq
  · rw [if_neg q]
    refine wpAny_bind (wpAny_pure ?_)
    simp only [Bool.false_eq_true, if_false]
    refine wpAny_bind (wpAny_mono fin (fun r z hz => ?_) fun _ _ e => e)
    obtain ⟨v, rfl, hq⟩ := hz
    exact wpAny_pure hq
end
end LG
set_option Elab.async false
set_option linter.all false
set_option maxRecDepth 100000
set_option maxHeartbeats 2000000
namespace LG
open PySem PySem.Spec PyProof.Rows L2
section
variable {X : Cx} {pins : List (Addr × Obj)} {σ : L2.St} {H : Hp} {s : Shared} {k : Nat} {f C : Addr} {fd : FuncData} {ps : List Str} {sp : Sp}
/-- a def is run somewhere below the running body -/
theorem fn_at {A : Around} {Q : VK} {us : List Value} {vs : List V} (F : FnOk X.prog X.w X.K X.mg X.base CX0 k f fd ps sp) (hr : Room k A) (e0 : Env0 X.prog X.w X.K X.mg X.base A X.stack s H) (hb : Binds X.K fd ps []) (I : Inv X pins σ H s) (r : Vals vs us) (h : sp vs H Q E0) :
    wpAny (model X.prog X.w) A (call (.ref f) us) (EP X pins σ Q) X.xe s := by
  have hl : (us ++ []).length = ps.length := by
    rw [List.append_nil, ← r.length]
    exact F.len _ _ _ _ h
  have hb' := hb s us I.kIn hl
  rw [List.append_nil] at hb'
  refine wpAny_call (codeAny_mono (F.run A X.stack s H ⟨us, []⟩ us vs Q E0 hr e0 hb' r h) fun res z' q => ?_)
  match res, q with
  | .ok (.ret u), q => exact I.after q
  | .ok .next, q => exact q.elim
  | .ok .brk, q => exact q.elim
  | .ok .cont, q => exact q.elim
  | .error _, q => exact q.elim
theorem ins_look {a dx : Addr} {fs : List (Str × V)} (I : Inv X pins σ H s) (h : H a = some (.ins C dx fs)) : ∃ (ox : Obj) (od : Option Obj), PySem.W.InstAt s.heap a ox C od := by
  obtain ⟨mA, J, _⟩ := ins_get I.hok h
  obtain ⟨od, J, _⟩ := J.look
  exact ⟨_, _, J⟩
/-- len(x), x an instance of the class at C -/
def rOwnLen (C : Addr) (sp : Sp) : List V → Hp → VK → Prop := fun xs H Q => ∃ a dx fs, xs = [.ref a] ∧ H a = some (.ins C dx fs) ∧ sp [.ref a] H (fun v H' => ∃ n : Nat, v = .int n ∧ (n : Int) < 2 ^ 63 ∧ Q (.int n) H') E0
theorem call_ownLen (hs : PySem.W.findIn X.K (.ref C) "__len__" = some (some (.ref f))) (hf : PySem.W.isFn X.K (.ref f) = true) (F : FnOk X.prog X.w X.K X.mg X.base CX0 k f fd ps sp) (hb : Binds X.K fd ps []) (hr : Room (k + 1) X.A) : CallR X (.builtin "len") (rOwnLen C sp) := by
  intro pins s σ H xs us Q I r h
  obtain ⟨a, dx, fs, rfl, ha, q⟩ := h
  obtain ⟨u, rfl, ru⟩ := vals1 r
  have eu : u = Value.ref a := ru
  subst eu
  obtain ⟨ox, od, J⟩ := ins_look I ha
  obtain ⟨m, hF⟩ := I.fr
  refine PySem.W.len_K hF I.ok.mod.kin J hs hf (wpAny_mono (fn_at (vs := [.ref a]) F (Room.in1 hr) I.env0.in1 hb I (.cons rfl .nil) q) (fun w z hz => ?_) fun _ _ e => e)
  obtain ⟨v, H', I', rv, n, rfl, hn, q'⟩ := hz
  obtain ⟨t, rfl⟩ := rv
  exact ⟨⟨by omega, hn⟩, .int n, H', I'.tok _, ⟨_, rfl⟩, q'⟩
/-- y in x, x an instance of the class at C -/
def rOwnIn (C : Addr) (sp : Sp) (neg : Bool) : R2 := fun y x H Q => ∃ a dx fs, x = .ref a ∧ H a = some (.ins C dx fs) ∧ sp [.ref a, y] H (fun v H' => ∃ b, v = .bl b ∧ Q (.bl (if neg then !b else b)) H') E0
theorem op_ownIn (hs : PySem.W.findIn X.K (.ref C) "__contains__" = some (some (.ref f))) (hf : PySem.W.isFn X.K (.ref f) = true) (F : FnOk X.prog X.w X.K X.mg X.base CX0 k f fd ps sp) (hb : Binds X.K fd ps []) (hr : Room k X.A) : OpR X (compareOp .In) (rOwnIn C sp false) := by
  intro pins s σ H y x v u Q I ry rx h
  obtain ⟨a, dx, fs, rfl, ha, q⟩ := h
  have eu : u = Value.ref a := rx
  subst eu
  obtain ⟨ox, od, J⟩ := ins_look I ha
  obtain ⟨m, hF⟩ := I.fr
  refine PySem.W.in_K hF I.ok.mod.kin J hs hf (wpAny_mono (fn_at (vs := [.ref a, y]) F hr I.env0 hb I (.cons rfl (.cons ry .nil)) q) (fun w z hz => ?_) fun _ _ e => e)
  obtain ⟨v', H', I', rv, b, rfl, q'⟩ := hz
  have ew : w = Value.bool b := rv
  subst ew
  exact wpAny_truthy_bool ⟨.bl b, H', I', rfl, q'⟩
theorem op_ownNotIn (hs : PySem.W.findIn X.K (.ref C) "__contains__" = some (some (.ref f))) (hf : PySem.W.isFn X.K (.ref f) = true) (F : FnOk X.prog X.w X.K X.mg X.base CX0 k f fd ps sp) (hb : Binds X.K fd ps []) (hr : Room k X.A) : OpR X (compareOp .NotIn) (rOwnIn C sp true) := by
  intro pins s σ H y x v u Q I ry rx h
  obtain ⟨a, dx, fs, rfl, ha, q⟩ := h
  have eu : u = Value.ref a := rx
  subst eu
  obtain ⟨ox, od, J⟩ := ins_look I ha
  obtain ⟨m, hF⟩ := I.fr
  refine PySem.W.notIn_K hF I.ok.mod.kin J hs hf (wpAny_mono (fn_at (vs := [.ref a, y]) F hr I.env0 hb I (.cons rfl (.cons ry .nil)) q) (fun w z hz => ?_) fun _ _ e => e)
  obtain ⟨v', H', I', rv, b, rfl, q'⟩ := hz
  have ew : w = Value.bool b := rv
  subst ew
  exact wpAny_truthy_bool ⟨.bl (!b), H', I', rfl, q'⟩
/-- x == y, x != y, x an instance of the class at C, y of a type that is known -/
def rOwnEq (K : PySem.W.Frag) (C : Addr) (sp : Sp) (neg : Bool) : R2 := fun x y H Q => ∃ a dx fs t, x = .ref a ∧ H a = some (.ins C dx fs) ∧ TyX K H y t ∧ PySem.W.notFirst K C t = true ∧ sp [.ref a, y] H (fun v H' => ∃ b, v = .bl b ∧ Q (.bl (if neg then !b else b)) H') E0
theorem ty_looks {x : V} {u t : Value} (I : Inv X pins σ H s) (rx : RelV x u) (ty : TyX X.K H x t) : PySem.W.Looks (model X.prog X.w) s.heap (typeOf u) t := by
  obtain ⟨P, Z, p, _⟩ := kit_of I rx ty
  exact Z.ty _ _ I.kIn p
theorem op_ownEq (hs : PySem.W.findIn X.K (.ref C) "__eq__" = some (some (.ref f))) (hf : PySem.W.isFn X.K (.ref f) = true) (F : FnOk X.prog X.w X.K X.mg X.base CX0 k f fd ps sp) (hb : Binds X.K fd ps []) (hr : Room k X.A) : OpR X (compareOp .Eq) (rOwnEq X.K C sp false) := by
  intro pins s σ H x y v u Q I rx ry h
  obtain ⟨a, dx, fs, t, rfl, ha, ty, nf, q⟩ := h
  have ev : v = Value.ref a := rx
  subst ev
  obtain ⟨ox, od, J⟩ := ins_look I ha
  obtain ⟨m, hF⟩ := I.fr
  show wpAny _ _ (richCompare .Eq (.ref a) u) _ _ _
  refine PySem.W.cmp_K (op := .Eq) hr.units0 hF I.ok.mod.kin J (ty_looks I ry ty) nf hs hf (wpAny_mono (fn_at (vs := [.ref a, y]) F hr I.env0 hb I (.cons rfl (.cons ry .nil)) q) (fun w z hz => ?_) fun _ _ e => e)
  obtain ⟨v', H', I', rv, b, rfl, q'⟩ := hz
  have ew : w = Value.bool b := rv
  subst ew
  exact ⟨.bl b, H', I', rfl, q'⟩
theorem op_ownNe (hs : PySem.W.findIn X.K (.ref C) "__eq__" = some (some (.ref f))) (hf : PySem.W.isFn X.K (.ref f) = true) (hn : PySem.W.findIn X.K (.ref C) "__ne__" = some (some (.builtin "object.__ne__"))) (ho : PySem.W.mroIn X.K C (.type "object") = some true)
    (F : FnOk X.prog X.w X.K X.mg X.base CX0 k f fd ps sp) (hb : Binds X.K fd ps []) (hr : Room (k + 1) X.A) : OpR X (compareOp .NotEq) (rOwnEq X.K C sp true) := by
  intro pins s σ H x y v u Q I rx ry h
  obtain ⟨a, dx, fs, t, rfl, ha, ty, nf, q⟩ := h
  have ev : v = Value.ref a := rx
  subst ev
  obtain ⟨ox, od, J⟩ := ins_look I ha
  show wpAny _ _ (richCompare .NotEq (.ref a) u) _ _ _
  have r1 : Room k X.A.in1 := Room.in1 hr
  refine ne_by_eq r1.units0 I.kIn J (ty_looks I ry ty) nf hn ho hs hf (wpAny_mono (fn_at (vs := [.ref a, y]) F r1 I.env0.in1 hb I (.cons rfl (.cons ry .nil)) q) (fun w z hz => ?_) fun _ _ e => e)
  obtain ⟨v', H', I', rv, b, rfl, q'⟩ := hz
  have ew : w = Value.bool b := rv
  subst ew
  exact ⟨b, rfl, .bl (!b), H', I', rfl, q'⟩
end
end LG
set_option Elab.async false
set_option linter.all false
set_option maxRecDepth 100000
set_option maxHeartbeats 2000000
namespace LG
open PySem PySem.Spec PyProof.Rows L2
section
variable {X : Cx} {o : Expr} {f : Str} {pos : Pos} {to : TE}
/-- o.f as one of several targets -/
def gFld (K : PySem.W.Frag) (to : TE) (f : Str) : TG := fun v σ H Q => to σ H fun x H2 => ∃ a C dx fs, x = .ref a ∧ H2 a = some (.ins C dx fs) ∧ Cls K C ∧ NoAttr K C f ∧ fs.length < 1000 ∧ Q σ (upd H2 a (.ins C dx (putF f v fs)))
theorem assign_at {M : Model} {A : Around} {E : Value → Shared → Prop} {s : Shared} {env : Env} {u : Value} {Q : Unit → Shared → Prop} (h : wpAny M A (eval o env) (fun ov z => wpAny M A (setAttr ov f u) Q E z) E s) : wpAny M A (assign (.Attribute o f pos) env u) Q E s := fun Γ p hΓ => by
  simp only [PySem.assign_Attribute, Sem.wp_bind', Sem.wp_holding, Sem.wp_cmd_standAt, Sem.wp_release, Sem.wp_pure']
  exact Sem.wp_mono M Γ _ (fun ov _ z hz => hz Γ _ hΓ) (fun _ _ _ e => e) _ _ (h Γ _ hΓ)
theorem pg_fld (ho : PE X o to) : PG X (.Attribute o f pos) (gFld X.K to f) := by
  refine ⟨fun pins s σ H v u Q I r hw => assign_at (thn (ho.run pins s σ H _ I hw) fun ov s1 ⟨x, H2, I2, rx, a, C, dx, fs, ex, ea, c, n, l, q⟩ => ?_)⟩
  subst ex
  have eo : ov = Value.ref a := rx
  subst eo
  exact setattr_ok I2 ea c n l r fun s3 I3 => ⟨σ, _, I3, q⟩
end
theorem for_enumT {K : PySem.W.Frag} {a : Addr} {xs : List V} {g : TG} {tb : TS} {D : Ends} {σ : L2.St} {H : Hp} (Pv : Nat → L2.St → Hp → Prop) (h0 : Pv 0 σ H) (hq : ∀ i σ H, Pv i σ H → SqT K H a xs)
    (hs : ∀ (i : Nat) (x : V) (T : Addr) (σ : L2.St) (H : Hp), xs[i]? = some x → Pv i σ H → H T = none → g (.ref T) σ (upd H T (.tup [.int (i : Nat), x])) fun σ2 H2 => tb { D with nx := Pv (i + 1), ct := Pv (i + 1), bk := D.nx } σ2 H2) (hd : ∀ σ H, Pv xs.length σ H → D.nx σ H) :
    ∃ W : Nat → Nat → L2.St → Hp → Prop, (∃ m, W 0 m σ H) ∧ ∀ i m σ H, W i m σ H →
      ((Itet K a).stop i H ∧ D.nx σ H) ∨ ((Itet K a).go i H ∧ ∃ N : L2.St → Hp → Prop, (∀ σ' H', N σ' H' → ∃ m', m' < m ∧ W (i + 1) m' σ' H') ∧ ∀ v H', (Itet K a).yld i H v H' → g v σ H' fun σ2 H2 => tb { D with nx := N, ct := N, bk := D.nx } σ2 H2) := by
  refine ⟨fun i m σ H => m = xs.length - i ∧ i ≤ xs.length ∧ Pv i σ H, ⟨_, rfl, Nat.zero_le _, h0⟩, ?_⟩
  rintro i m σ H ⟨rfl, hi, pv⟩
  have seq := hq i σ H pv
  by_cases more : i < xs.length
  · have there : xs[i]? = some xs[i] := List.getElem?_eq_getElem more
    refine .inr ⟨⟨xs, _, seq, there⟩, Pv (i + 1), fun σ' H' p' => ⟨xs.length - (i + 1), by omega, rfl, more, p'⟩, fun v H' y => ?_⟩
    obtain ⟨T, x', rfl, free, rfl, same⟩ := y
    have e := same xs seq
    rw [there] at e
    cases e
    exact hs i _ T σ H there pv free
  · have e : i = xs.length := by omega
    subst e
    exact .inl ⟨⟨xs, seq, Nat.le_refl _⟩, hd σ H pv⟩
end LG
set_option Elab.async false
set_option linter.all false
set_option maxRecDepth 100000
set_option maxHeartbeats 2000000
/-! What the laws' own small defs have in common: the pot, drawn values that are data. -/
namespace LG
open PySem L2

/-- the built-in names that the defs use -/
structure Bltn (mg : Str → Option Value) : Prop where
  len : mg "len" = none
  sum : mg "sum" = none
  int : mg "int" = none
  abs : mg "abs" = none
  list : mg "list" = none
  range : mg "range" = none
  max : mg "max" = none
  min : mg "min" = none
  isinstance : mg "isinstance" = none
  tuple : mg "tuple" = none
  bool : mg "bool" = none
  str : mg "str" = none
  enumerate : mg "enumerate" = none
  repr : mg "repr" = none
  all : mg "all" = none
  ve : mg "ValueError" = none
  set : mg "set" = none
/-- a pot: own number, seed, how often it was asked (at most b times) -/
def PotAt (H : Hp) (p : Addr) (b : Nat) : Prop := ∃ own sm n : Int, H p = some (.lst [.int own, .int sm, .int n]) ∧ 0 ≤ own ∧ 0 ≤ sm ∧ sm < 2305843009213693951 ∧ 0 ≤ n ∧ n ≤ b
theorem PotAt.same {H H' : Hp} {p : Addr} {b : Nat} (e : Same H H') (h : PotAt H p b) : PotAt H' p b := by
  obtain ⟨own, sm, n, h1, h2⟩ := h
  exact ⟨own, sm, n, e _ _ h1, h2⟩
theorem PotAt.mono {H : Hp} {p : Addr} {b c : Nat} (h : PotAt H p b) (l : b ≤ c) : PotAt H p c := by
  obtain ⟨own, sm, n, h1, h2, h3, h4, h5, h6⟩ := h
  exact ⟨own, sm, n, h1, h2, h3, h4, h5, by omega⟩
/-- all but what stands at p is as it was -/
def But (p : Addr) (H H' : Hp) : Prop := ∀ c o, H c = some o → c ≠ p → H' c = some o
theorem But.trans {p : Addr} {H H1 H2 : Hp} (a : But p H H1) (b : But p H1 H2) : But p H H2 := fun c o h n => b c o (a c o h n) n
theorem But.of {p : Addr} {H H' : Hp} (a : Same H H') : But p H H' := fun c o h _ => a c o h
theorem same_new {H : Hp} {p : Addr} (h : H p = none) (o : HO) : Same H (upd H p o) := fun b u q => by rw [upd_ne (ne_of_none q h)]; exact q
theorem bits60 : (Builtin.Int.intBits ((10 : Int) ^ (60 : Int).toNat) : Int) * 5 ≤ 2 ^ 27 := by decide +kernel
def spPot (K : PySem.W.Frag) : Sp := fun vs H Q _ => ∃ (a : Addr) (ns : List Int) (j : Int), vs = [.ref a, .int j] ∧ SqL K H a (ns.map V.int) ∧ ns.length ≤ 63 ∧ 0 ≤ j ∧ j ≤ 1000 ∧
  ∀ (p : Addr) (H' : Hp), Same H H' → H p = none → PotAt H' p 0 → Q (.ref p) H'
theorem item_there {ns : List Int} {j : Int} (h0 : 0 ≤ j) (h : j < (ns.length : Int)) : ∃ v : Int, atI (ns.map V.int) j = some (.int v) := by
  have hk : j.toNat < ns.length := by omega
  have q : atI (ns.map V.int) ((j.toNat : Nat) : Int) = some (.int ns[j.toNat]) := atI_nat (by rw [List.getElem?_map, List.getElem?_eq_getElem hk] <;> rfl)
  have e : ((j.toNat : Nat) : Int) = j := by omega
  rw [e] at q
  exact ⟨_, q⟩
theorem cut_ints (ns : List Int) (lo hi : Option Int) : ∃ ms : List Int, cutV (ns.map V.int) lo hi = ms.map V.int := by
  unfold cutV
  rw [← List.map_drop, ← List.map_take]
  exact ⟨_, rfl⟩
abbrev rInt1 : List V → Hp → VK → Prop := fun xs H Q => (∃ i, xs = [.int i] ∧ Q (.int i) H) ∨ ∃ k, xs = [.bl k] ∧ Q (.int (if k then 1 else 0)) H
abbrev rAbs : List V → Hp → VK → Prop := fun xs H Q => ∃ i, xs = [.int i] ∧ Q (.int (if i < 0 then -i else i)) H
theorem prime_at {r : Int} (h0 : 0 ≤ r) (h : r < 5) : ∃ v : Int, atI ([.int 2147483647, .int 2147483629, .int 2147483587, .int 2147483579, .int 2147483563] : List V) r = some (.int v) ∧ 1 ≤ v ∧ v ≤ 2147483647 := by
  have e : r = 0 ∨ r = 1 ∨ r = 2 ∨ r = 3 ∨ r = 4 := by omega
  rcases e with rfl | rfl | rfl | rfl | rfl
  · exact ⟨_, rfl, by decide, by decide⟩
  · exact ⟨_, rfl, by decide, by decide⟩
  · exact ⟨_, rfl, by decide, by decide⟩
  · exact ⟨_, rfl, by decide, by decide⟩
  · exact ⟨_, rfl, by decide, by decide⟩
/-! ### one of a list -/
def spOf (K : PySem.W.Frag) : Sp := fun vs H Q _ => ∃ (p l : Addr) (xs : List V) (b : Nat), vs = [.ref p, .ref l] ∧ PotAt H p b ∧ b ≤ 100000 ∧ SqL K H l xs ∧ 0 < xs.length ∧ xs.length ≤ 1000 ∧ l ≠ p ∧
  ∀ (x : V) (H' : Hp), x ∈ xs → But p H H' → PotAt H' p (b + 1) → Q x H'
theorem But.seq {H H' : Hp} {p a : Addr} {xs : List V} (e : But p H H') (ne : a ≠ p) (h : SqL K H a xs) : SqL K H' a xs := by
  rcases h with (h | ⟨o, h⟩) | h
  · exact .inl (.inl (e _ _ h ne))
  · exact .inl (.inr ⟨o, e _ _ h ne⟩)
  · exact .inr h
/-! ### written values that are small data -/
theorem pe_imp {X : Cx} {e : Expr} {t t' : TE} (h : PE X e t) (w : ∀ σ H Q, t' σ H Q → t σ H Q) : PE X e t' := ⟨fun pins s σ H Q I q => h.run pins s σ H Q I (w σ H Q q)⟩
theorem pa_imp {X : Cx} {es : List Expr} {t t' : TA} (h : PA X es t) (w : ∀ σ H Q, t' σ H Q → t σ H Q) : PA X es t' := ⟨fun pos pins s σ H Q I q => h.run pos pins s σ H Q I (w σ H Q q)⟩
def Gd (K : PySem.W.Frag) (n : Nat) (H : Hp) (x : V) : Prop := ∃ d, Dp K H x d ∧ small n d = true
def Gds (K : PySem.W.Frag) (n : Nat) (H : Hp) (xs : List V) : Prop := ∃ ds, DpAll K H xs ds ∧ smalls n ds = true
def Gx (K : PySem.W.Frag) (n : Nat) (H : Hp) (x : V) : Prop := ∃ d, Dx K H x d ∧ small n d = true
theorem Gd.same {K : PySem.W.Frag} {n : Nat} {H H' : Hp} {x : V} (e : Same H H') (h : Gd K n H x) : Gd K n H' x := by
  obtain ⟨d, h1, h2⟩ := h
  exact ⟨d, Dp_same e _ _ h1, h2⟩
theorem Gds.same {K : PySem.W.Frag} {n : Nat} {H H' : Hp} {xs : List V} (e : Same H H') (h : Gds K n H xs) : Gds K n H' xs := by
  obtain ⟨d, h1, h2⟩ := h
  exact ⟨d, DpAll_same e _ _ h1, h2⟩
theorem Gx.same {K : PySem.W.Frag} {n : Nat} {H H' : Hp} {x : V} (e : Same H H') (h : Gx K n H x) : Gx K n H' x := by
  obtain ⟨d, h1, h2⟩ := h
  exact ⟨d, Dx_same e h1, h2⟩
mutual
theorem small_up : ∀ (n : Nat) (d : PyData), small n d = true → small (n + 1) d = true
  | n, .none, _ => by simp only [small]
  | n, .bool _, _ => by simp only [small]
  | n, .int i, h => by
    simp only [small] at h ⊢
    exact h
  | n, .str x, h => by
    simp only [small] at h ⊢
    exact h
  | 0, .list xs, h => by
    simp only [small] at h
    cases h
  | 0, .tuple xs, h => by
    simp only [small] at h
    cases h
  | n + 1, .list xs, h => by
    simp only [small, Bool.and_eq_true] at h ⊢
    exact ⟨h.1, smalls_up n xs h.2⟩
  | n + 1, .tuple xs, h => by
    simp only [small, Bool.and_eq_true] at h ⊢
    exact ⟨h.1, smalls_up n xs h.2⟩
  | n, .dict kvs, h => by
    have h : smallKv kvs = true ∧ kvs.length ≤ 2 := by
      cases n <;> (simp only [small, Bool.and_eq_true, decide_eq_true_eq] at h; exact h)
    simp only [small, Bool.and_eq_true, decide_eq_true_eq]
    exact h
theorem smalls_up : ∀ (n : Nat) (ds : List PyData), smalls n ds = true → smalls (n + 1) ds = true
  | n, [], _ => by simp only [smalls]
  | n, d :: ds, h => by
    simp only [smalls, Bool.and_eq_true] at h ⊢
    exact ⟨small_up n d h.1, smalls_up n ds h.2⟩
end
theorem small_le {n m : Nat} (h : n ≤ m) {d : PyData} (q : small n d = true) : small m d = true := by
  induction h with
  | refl => exact q
  | step _ ih => exact small_up _ _ ih
theorem smalls_le {n m : Nat} (h : n ≤ m) {d : List PyData} (q : smalls n d = true) : smalls m d = true := by
  induction h with
  | refl => exact q
  | step _ ih => exact smalls_up _ _ ih
theorem Gd.le {K : PySem.W.Frag} {n m : Nat} {H : Hp} {x : V} (l : n ≤ m) (h : Gd K n H x) : Gd K m H x := by
  obtain ⟨d, h1, h2⟩ := h
  exact ⟨d, h1, small_le l h2⟩
theorem Gx.le {K : PySem.W.Frag} {n m : Nat} {H : Hp} {x : V} (l : n ≤ m) (h : Gx K n H x) : Gx K m H x := by
  obtain ⟨d, h1, h2⟩ := h
  exact ⟨d, h1, small_le l h2⟩
theorem Gd.x {K : PySem.W.Frag} {n : Nat} {H : Hp} {x : V} (h : Gd K n H x) : Gx K n H x := by
  obtain ⟨d, h1, h2⟩ := h
  exact ⟨d, .flat h1, h2⟩
theorem DpAll_length {K : PySem.W.Frag} {H : Hp} : ∀ (ds : List PyData) (xs : List V), DpAll K H xs ds → ds.length = xs.length
  | [], _, h => by cases h; rfl
  | d :: ds, _, h => by
    cases h with
    | cons _ h2 => simp only [List.length_cons, DpAll_length ds _ h2]
theorem Gd.tup {K : PySem.W.Frag} {n : Nat} {H : Hp} {a : Addr} {xs : List V} (h : Gds K n H xs) (l : xs.length ≤ 25) (t : SqT K H a xs) : Gd K (n + 1) H (.ref a) := by
  obtain ⟨ds, h1, h2⟩ := h
  refine ⟨.tuple ds, .tup t h1, ?_⟩
  simp only [small, Bool.and_eq_true, decide_eq_true_eq]
  exact ⟨by rw [DpAll_length ds xs h1]; exact l, h2⟩
theorem Gd.lst {K : PySem.W.Frag} {n : Nat} {H : Hp} {a : Addr} {xs : List V} (h : Gds K n H xs) (l : xs.length ≤ 25) (t : SqL K H a xs) : Gd K (n + 1) H (.ref a) := by
  obtain ⟨ds, h1, h2⟩ := h
  refine ⟨.list ds, .lst t h1, ?_⟩
  simp only [small, Bool.and_eq_true, decide_eq_true_eq]
  exact ⟨by rw [DpAll_length ds xs h1]; exact l, h2⟩
theorem Gds.nil {K : PySem.W.Frag} {n : Nat} {H : Hp} : Gds K n H [] := ⟨[], .nil, by simp only [smalls]⟩
theorem Gds.cons {K : PySem.W.Frag} {n : Nat} {H : Hp} {x : V} {xs : List V} (h : Gd K n H x) (r : Gds K n H xs) : Gds K n H (x :: xs) := by
  obtain ⟨d, h1, h2⟩ := h
  obtain ⟨ds, h3, h4⟩ := r
  exact ⟨d :: ds, .cons h1 h3, by simp only [smalls, h2, h4, Bool.and_self]⟩
/-- what was made since H0 -/
def mn (H0 H : Hp) : Hp := fun b => match H0 b with
  | none => H b
  | some _ => none
theorem mn_some {H0 H : Hp} {b : Addr} {o : HO} (h : mn H0 H b = some o) : H0 b = none ∧ H b = some o := by
  unfold mn at h
  cases e : H0 b with
  | none =>
    rw [e] at h
    exact ⟨rfl, h⟩
  | some u =>
    rw [e] at h
    cases h
theorem mn_of {H0 H : Hp} {b : Addr} {o : HO} (h0 : H0 b = none) (h : H b = some o) : mn H0 H b = some o := by
  unfold mn
  rw [h0]
  exact h
theorem mn_up {H H1 H2 : Hp} (s : Same H1 H2) : Same (mn H H1) (mn H H2) := fun b o h => by
  obtain ⟨h0, h1⟩ := mn_some h
  exact mn_of h0 (s _ _ h1)
theorem mn_but {H H1 H2 : Hp} {p : Addr} (s : But p H1 H2) (hp : H p ≠ none) : Same (mn H H1) (mn H H2) := fun b o h => by
  obtain ⟨h0, h1⟩ := mn_some h
  exact mn_of h0 (s _ _ h1 fun z => hp (by rw [← z]; exact h0))
theorem mn_down {H H1 H2 : Hp} (s : Same H H1) : Same (mn H1 H2) (mn H H2) := fun b o h => by
  obtain ⟨h0, h1⟩ := mn_some h
  exact mn_of (s.free h0) h1
theorem mn_self (H0 H : Hp) : Same (mn H0 H) H := fun b o h => (mn_some h).2
def tGd (K : PySem.W.Frag) (n : Nat) : TE := fun _ H Q => ∀ x H', Same H H' → Gd K n (mn H H') x → Q x H'
def tGds (K : PySem.W.Frag) (n m : Nat) : TA := fun _ H Q => ∀ xs H', Same H H' → xs.length = m → Gds K n (mn H H') xs → Q xs H'
def tGx (K : PySem.W.Frag) (n : Nat) : TE := fun _ H Q => ∀ x H', Same H H' → Gx K n (mn H H') x → Q x H'
def tGxs (K : PySem.W.Frag) (n m : Nat) : TA := fun _ H Q => ∀ xs H', Same H H' → xs.length = m → (∀ x ∈ xs, Gx K n (mn H H') x) → Q xs H'
section
variable {X : Cx} {e : Expr} {es : List Expr} {n m : Nat} {pos : Pos}
theorem gd_none {j} : PE X (.Constant .none j pos) (tGd X.K n) := pe_imp pe_non fun _ H Q h => h _ _ (Same.refl H) ⟨.none, .non, by simp only [small]⟩
theorem gd_bool {b j} : PE X (.Constant (.bool b) j pos) (tGd X.K n) := pe_imp pe_bl fun _ H Q h => h _ _ (Same.refl H) ⟨.bool b, .bl b, by simp only [small]⟩
theorem gd_int {i j} (hi : i.natAbs < 10 ^ 12 := by decide) : PE X (.Constant (.int i) j pos) (tGd X.K n) := pe_imp pe_int fun _ H Q h => h _ _ (Same.refl H) ⟨.int i, .int i, by simp only [small, decide_eq_true hi]⟩
theorem gd_neg {i j p2} (hi : (-i).natAbs < 10 ^ 12 := by decide) : PE X (.UnaryOp .USub (.Constant (.int i) j p2) pos) (tGd X.K n) :=
  pe_imp (pe_un un_neg pe_int) fun _ H Q h => ⟨i, rfl, h _ _ (Same.refl H) ⟨.int (-i), .int (-i), by simp only [small, decide_eq_true hi]⟩⟩
theorem gd_str {x j} (hx : (decide (x.length ≤ 20) && x.cps.toList.all fun c => decide (c < 16 ^ 8)) = true := by decide +kernel) : PE X (.Constant (.str x) j pos) (tGd X.K n) :=
  pe_imp pe_str fun _ H Q h => h _ _ (Same.refl H) ⟨.str x, .str x, by simp only [small, hx]⟩
theorem gd_nil : PA X [] (tGds X.K n 0) := pa_imp pa_nil fun _ H Q h => h _ _ (Same.refl H) rfl .nil
theorem gd_cons (h : PE X e (tGd X.K n)) (r : PA X es (tGds X.K n m)) (hs : starEach (e :: es) X.env = (false, eval e X.env) :: starEach es X.env := by rfl) : PA X (e :: es) (tGds X.K n (m + 1)) :=
  pa_imp (pa_cons h r hs) fun _ H Q q x H1 s1 g1 xs H2 s2 l2 g2 => q _ _ (s1.trans s2) (by rw [List.length_cons, l2]) (.cons (g1.same (mn_up s2)) (g2.same (mn_down s1)))
theorem gd_tup {x1} (h : PA X es (tGds X.K n m)) (hm : m ≤ 25 := by decide) : PE X (.Tuple es x1 pos) (tGd X.K (n + 1)) :=
  pe_imp (pe_tup h) fun _ H Q q xs H1 s1 l1 g1 => ⟨Nat.le_trans (by omega : xs.length ≤ 25) (by decide), fun p np =>
    q _ _ (s1.trans (same_new np _)) (.tup (g1.same (mn_up (same_new np _))) (by omega) (.inl (.inl (mn_of (s1.free np) upd_same))))⟩
theorem gd_lst (h : PA X es (tGds X.K n m)) (hm : m ≤ 25 := by decide) : PE X (.List es pos) (tGd X.K (n + 1)) :=
  pe_imp (pe_lst h) fun _ H Q q xs H1 s1 l1 g1 => ⟨Nat.le_trans (by omega : xs.length ≤ 25) (by decide), fun p np =>
    q _ _ (s1.trans (same_new np _)) (.lst (g1.same (mn_up (same_new np _))) (by omega) (SqL.of (mn_of (s1.free np) upd_same)))⟩
theorem gx_of (h : PE X e (tGd X.K n)) : PE X e (tGx X.K n) := pe_imp h fun _ H Q q x H1 s1 g1 => q _ _ s1 g1.x
theorem gx_nil : PA X [] (tGxs X.K n 0) := pa_imp pa_nil fun _ H Q h => h _ _ (Same.refl H) rfl (fun _ m => nomatch m)
theorem gx_cons (h : PE X e (tGx X.K n)) (r : PA X es (tGxs X.K n m)) (hs : starEach (e :: es) X.env = (false, eval e X.env) :: starEach es X.env := by rfl) : PA X (e :: es) (tGxs X.K n (m + 1)) :=
  pa_imp (pa_cons h r hs) fun _ H Q q x H1 s1 g1 xs H2 s2 l2 g2 => q _ _ (s1.trans s2) (by rw [List.length_cons, l2]) fun y hy => by
    rcases List.mem_cons.mp hy with rfl | hy
    · exact g1.same (mn_up s2)
    · exact (g2 y hy).same (mn_down s1)
theorem gx_dict0 : PE X (.Dict [] [] pos) (tGx X.K n) := pe_imp pe_dnewK fun _ H Q q p np => q _ _ (same_new np _) ⟨.dict [], .dct (mn_of np upd_same) .nil, by cases n <;> rfl⟩
/-- {'k': i} -/
theorem gx_dict1 {k i j1 j2 p1 p2} (hk : (decide (k.length ≤ 20) && k.cps.toList.all fun c => decide (c < 16 ^ 8)) = true := by decide +kernel) (hi : i.natAbs < 10 ^ 12 := by decide) :
    PE X (.Dict [some (.Constant (.str k) j1 p1)] [.Constant (.int i) j2 p2] pos) (tGx X.K n) :=
  pe_imp (pe_disp (pps_cons pe_str pe_int pps_nil) (by rfl) (by rfl) (fun z => by cases z) (by show 1 ≤ 15; decide)) fun _ H Q q p np => by
    refine ⟨upd_same, [(.inr k, .int i)], rfl, (by show 1 ≤ 15; decide), ?_⟩
    have e : upd (upd H p (.dK [])) p (.dK (mergeK [] [((.inr k : Key), V.int i)])) = upd H p (.dK [((.inr k : Key), V.int i)]) := upd_upd
    rw [e]
    refine q _ _ (same_new np _) ⟨.dict [(.str k, .int i)], .dct (mn_of np upd_same) (.int .nil), ?_⟩
    have s1 : smallKv [(.str k, .int i)] = true := by
      simp only [smallKv, hk, decide_eq_true hi, Bool.and_self]
    cases n <;> simp only [small, s1, List.length_cons, List.length_nil] <;> rfl
end
/-! ### any odd value -/
def spOdd (K : PySem.W.Frag) : Sp := fun vs H Q _ => ∃ (p : Addr) (b : Nat), vs = [.ref p] ∧ PotAt H p b ∧ b ≤ 100000 ∧ ∀ (x : V) (H' : Hp), But p H H' → PotAt H' p (b + 1) → Gx K 2 (mn H H') x → Q x H'
theorem PotAt.there {H : Hp} {p : Addr} {b : Nat} (h : PotAt H p b) : H p ≠ none := by
  obtain ⟨own, sm, n, h1, _⟩ := h
  rw [h1]
  exact fun z => nomatch z
open PySem L2 LG
/-! ### the heap without the pot -/
def mk (p : Addr) (H : Hp) : Hp := fun b => if b = p then none else H b
theorem mk_some {p b : Addr} {H : Hp} {o : HO} (h : mk p H b = some o) : b ≠ p ∧ H b = some o := by
  unfold mk at h
  by_cases e : b = p
  · rw [if_pos e] at h
    cases h
  · rw [if_neg e] at h
    exact ⟨e, h⟩
theorem mk_of {p b : Addr} {H : Hp} {o : HO} (ne : b ≠ p) (h : H b = some o) : mk p H b = some o := by
  unfold mk
  rw [if_neg ne]
  exact h
theorem mk_self (p : Addr) (H : Hp) : Same (mk p H) H := fun b o h => (mk_some h).2
theorem mk_but {p : Addr} {H H' : Hp} (s : But p H H') : Same (mk p H) (mk p H') := fun b o h => by
  obtain ⟨ne, e⟩ := mk_some h
  exact mk_of ne (s _ _ e ne)
theorem mk_up {p : Addr} {H H' : Hp} (s : Same H H') : Same (mk p H) (mk p H') := mk_but (But.of s)
theorem mn_mk {p : Addr} {H H' : Hp} (hp : H p ≠ none) : Same (mn H H') (mk p H') := fun b o h => by
  obtain ⟨h0, h1⟩ := mn_some h
  exact mk_of (fun z => hp (by rw [← z]; exact h0)) h1
theorem new_ne {p q : Addr} {H : Hp} (hp : H p ≠ none) (nq : H q = none) : q ≠ p := fun z => hp (by rw [← z]; exact nq)
theorem mk_new {p q : Addr} {H : Hp} {o : HO} (hp : H p ≠ none) (nq : H q = none) : mk p (upd H q o) q = some o := mk_of (new_ne hp nq) upd_same
theorem Same.there {H H' : Hp} {p : Addr} (s : Same H H') (hp : H p ≠ none) : H' p ≠ none := by
  cases e : H p with
  | none => exact absurd e hp
  | some o =>
    rw [s _ _ e]
    exact fun z => nomatch z
theorem But.same {p : Addr} {H H' : Hp} (s : Same H H') : But p H H' := But.of s
theorem cut_whole {xs : List V} {lo hi : Option Int} (h : HT.sIx xs.length 0 lo = 0 ∧ HT.sIx xs.length xs.length hi = xs.length) : cutV xs lo hi = xs := by
  unfold cutV
  rw [h.1, h.2, List.drop_zero, Nat.sub_zero, List.take_length]
/-- the tuple of xs, out of the pot's reach -/
def TupM (K : PySem.W.Frag) (p : Addr) (H : Hp) (x : V) (xs : List V) : Prop := ∃ a, x = .ref a ∧ SqT K (mk p H) a xs
theorem TupM.same {K : PySem.W.Frag} {p : Addr} {H H' : Hp} {x : V} {xs : List V} (s : But p H H') (h : TupM K p H x xs) : TupM K p H' x xs := by
  obtain ⟨a, e, q⟩ := h
  exact ⟨a, e, same_tup (mk_but s) q⟩
section
variable {X : Cx}
def rCatM (K : PySem.W.Frag) : R2 := fun x y H Q => ∃ p xs ys, H p ≠ none ∧ TupM K p H x xs ∧ TupM K p H y ys ∧ xs.length + ys.length ≤ 1000 ∧ ∀ z H', Same H H' → TupM K p H' z (xs ++ ys) → Q z H'
theorem op_catM : OpR X (binaryOp .Add) (rCatM X.K) := by
  intro pins s σ H x y v u Q I rx ry h
  obtain ⟨p, xs, ys, hp, ⟨a, rfl, ha⟩, ⟨b, rfl, hb⟩, hl, q⟩ := h
  refine op_catA pins s σ H _ _ v u Q I rx ry ⟨a, b, xs, ys, rfl, rfl, same_tup (mk_self p H) ha, same_tup (mk_self p H) hb, Nat.le_trans hl (by decide), fun e => ?_, fun _ e => ?_, fun _ _ r nr => ?_⟩
  · subst e
    exact q _ _ (Same.refl H) ⟨b, rfl, hb⟩
  · subst e
    rw [List.append_nil] at q
    exact q _ _ (Same.refl H) ⟨a, rfl, ha⟩
  · exact q _ _ (same_new nr _) ⟨r, rfl, .inl (.inl (mk_new hp nr))⟩
def rSlM (K : PySem.W.Frag) : V → Option Int → Option Int → Hp → VK → Prop := fun x lo hi H Q => ∃ p xs, H p ≠ none ∧ TupM K p H x xs ∧ ∀ z H', Same H H' → TupM K p H' z (cutV xs lo hi) → Q z H'
theorem sl_tupM : SlR X (rSlM X.K) := by
  intro pins s σ H x v vl vu lo hi sl Q I rx hs pl pu h
  obtain ⟨p, xs, hp, ⟨a, rfl, ha⟩, q⟩ := h
  refine sl_tupA pins s σ H _ v vl vu lo hi sl Q I rx hs pl pu ⟨a, xs, rfl, same_tup (mk_self p H) ha, fun e => ?_, fun _ r nr => ?_⟩
  · rw [cut_whole e] at q
    exact q _ _ (Same.refl H) ⟨a, rfl, ha⟩
  · exact q _ _ (same_new nr _) ⟨r, rfl, .inl (.inl (mk_new hp nr))⟩
end
theorem ty_of {K : PySem.W.Frag} {H : Hp} {d : PyData} {v : V} (h : Dp K H v d) : ∃ T, TyX K H v (.type T) ∧ T = (match d with | .none => "NoneType" | .bool _ => "bool" | .int _ => "int" | .str _ => "str" | .list _ => "list" | .tuple _ => "tuple" | .dict _ => "dict") := by
  cases h with
  | non => exact ⟨_, .base .non, rfl⟩
  | bl b => exact ⟨_, .base (.bl b), rfl⟩
  | int i => exact ⟨_, .base (.int i), rfl⟩
  | str x => exact ⟨_, .base (.str x), rfl⟩
  | lst hs _ =>
    rcases hs with (h | ⟨o, h⟩) | ⟨o, its, n, h, c, _⟩
    · exact ⟨_, .base (.lst h), rfl⟩
    · exact ⟨_, .base (.frz h), rfl⟩
    · exact ⟨_, .kList h c, rfl⟩
  | tup hs _ =>
    rcases hs with (h | ⟨o, h⟩) | ⟨o, its, n, h, c, _⟩
    · exact ⟨_, .base (.tup h), rfl⟩
    · exact ⟨_, .fTuple h, rfl⟩
    · exact ⟨_, .kTuple h c, rfl⟩
theorem Gds.app {K : PySem.W.Frag} {n : Nat} {H : Hp} {xs ys : List V} (h : Gds K n H xs) (r : Gds K n H ys) : Gds K n H (xs ++ ys) := by
  induction xs with
  | nil => exact r
  | cons x xs ih =>
    obtain ⟨ds, h1, h2⟩ := h
    cases h1 with
    | cons a b =>
      simp only [smalls, Bool.and_eq_true] at h2
      exact .cons ⟨_, a, h2.1⟩ (ih ⟨_, b, h2.2⟩)
theorem Gds.of_mem {K : PySem.W.Frag} {n : Nat} {H : Hp} : ∀ {xs : List V}, (∀ x ∈ xs, Gd K n H x) → Gds K n H xs
  | [], _ => .nil
  | x :: xs, h => .cons (h x List.mem_cons_self) (Gds.of_mem fun y hy => h y (List.mem_cons_of_mem _ hy))
theorem Gds.mem {K : PySem.W.Frag} {n : Nat} {H : Hp} {xs : List V} (h : Gds K n H xs) : ∀ x ∈ xs, Gd K n H x := by
  induction xs with
  | nil => exact fun x hx => nomatch hx
  | cons y ys ih =>
    obtain ⟨ds, h1, h2⟩ := h
    cases h1 with
    | cons a b =>
      simp only [smalls, Bool.and_eq_true] at h2
      intro x hx
      rcases List.mem_cons.mp hx with rfl | hx
      · exact ⟨_, a, h2.1⟩
      · exact ih ⟨_, b, h2.2⟩ x hx
theorem Gds.cut {K : PySem.W.Frag} {n : Nat} {H : Hp} {xs : List V} (h : Gds K n H xs) (lo hi : Option Int) : Gds K n H (cutV xs lo hi) :=
  .of_mem fun x hx => h.mem x (by
    unfold cutV at hx
    exact List.mem_of_mem_drop (List.mem_of_mem_take hx))
theorem Gds.back {K : PySem.W.Frag} {n : Nat} {H : Hp} {xs : List V} (h : Gds K n H xs) : Gds K n H xs.reverse := .of_mem fun x hx => h.mem x (List.mem_reverse.mp hx)
theorem Gds.le {K : PySem.W.Frag} {n m : Nat} {H : Hp} {xs : List V} (l : n ≤ m) (h : Gds K n H xs) : Gds K m H xs := .of_mem fun x hx => (h.mem x hx).le l
theorem no_true (n : Nat) : inV (.bl true) ((List.range n).map fun _ => V.bl false) = false := by
  unfold inV
  rw [List.any_eq_false]
  intro y hy
  obtain ⟨_, _, rfl⟩ := List.mem_map.mp hy
  decide
theorem signs3 : signs 3 ≤ sizeLine := by decide +kernel
end LG
set_option Elab.async false
set_option linter.all false
set_option maxRecDepth 100000
set_option maxHeartbeats 2000000
namespace LG
open PySem L2
/-! ### comprehensions that only make objects -/
theorem lc_all {J : It} {n : Nat} {G : Hp → Prop} {Y : Nat → Hp → V → Hp → Prop} (w : Walk J n G Y) {g : TG} {te : TE} {vs : List Nat} {σ : L2.St} {H1 : Hp} {D : Addr} {Qd : Hp → Prop} (nD : H1 D = none) (fv : Nat → V) (hn : n ≤ sizeLine) (hG : ∀ H, Same H1 H → G H)
    (hs : ∀ (i : Nat) (x : V) (H H' : Hp) (Kt : VK), i < n → Same H1 H → Y i H x H' → (∀ H4, Same H H4 → Kt (fv i) H4) → g x (wipe σ vs) H' fun σ2 H2 => wipe σ2 vs = wipe σ vs ∧ te σ2 H2 Kt)
    (hd : ∀ H, Same H1 H → H D = some (.lst ((List.range n).map fv)) → Qd H) :
    ∃ W : Nat → Nat → Hp → Prop, (∃ m, W 0 m (upd H1 D (.lst []))) ∧ ∀ i m H, W i m H →
      (J.stop i H ∧ Qd H) ∨ (J.go i H ∧ ∃ Nx : Hp → Prop, (∀ H', Nx H' → ∃ m', m' < m ∧ W (i + 1) m' H') ∧ ∀ x H', J.yld i H x H' → g x (wipe σ vs) H' fun σ2 H2 => wipe σ2 vs = wipe σ vs ∧ tYes σ2 H2 fun b H3 =>
        if b = true then te σ2 H3 fun y H4 => ∃ acc, H4 D = some (.lst acc) ∧ acc.length < sizeLine ∧ Nx (upd H4 D (.lst (acc ++ [y]))) else Nx H3) := by
  refine lc_it w (fun i H => Same H1 H ∧ H D = some (.lst ((List.range i).map fv))) ⟨same_new nD _, upd_same⟩ (fun i H _ h => hG H h.1) ?_ (fun H h => hd H h.1 h.2)
  rintro i x H H' hi ⟨s, hD⟩ y
  refine hs i x H H' _ hi s y fun H4 s4 => ⟨_, s4 _ _ hD, by simp; omega, fun b o h => ?_, ?_⟩
  · rw [upd_ne (ne_of_none h nD)]
    exact s4 _ _ (s _ _ h)
  · rw [upd_same, List.range_succ, List.map_append]
    rfl
/-! ### names -/
def LET : Str := "abcdefghijklmnopqrstuvwxyz"
def FIG : Str := "0123456789"
def inL (c : Nat) : Bool := decide (c ∈ LET.cps.toList)
def inF (c : Nat) : Bool := decide (c ∈ FIG.cps.toList)
def isNameB (w : Str) : Bool := (decide (1 ≤ w.length) && decide (w.length ≤ 8) && inL (w.cps.toList.headD 0)) && w.cps.toList.all fun c => inL c || inF c
def sp1 : Str := " "
def nl1 : Str := "\n"
/-- the names behind the word head; none of them: [] -/
def namesIn (line head : Str) (few most : Int) : List Str :=
  let ws := Txt.split line sp1
  let ns := ws.tail
  if ws.headD Str.empty ≠ head ∨ ¬ (few ≤ (ns.length : Int) ∧ (ns.length : Int) ≤ most) then []
  else if (uniq ns).length < ns.length ∨ ¬ (ns.all isNameB = true) then [] else ns
structure Dev where
  calls : List Str
  answers : List Str
  states : List Str
  goals : List ((Str × Str) × (Str × Str))
def headsL : List (Str × Int × Int) := [("calls", 1, 3), ("answers", 2, 3), ("marks", 1, 4)]
def headAt (lines : List Str) (i : Nat) : List Str := match headsL[i]?, lines[i]? with
  | some (h, f, m), some l => namesIn l h f m
  | _, _ => []
/-- the names of the first lines, and the number of the bad one or 0 -/
def readHeads (lines : List Str) : List (List Str) × Nat :=
  if headAt lines 0 = [] then ([], 1)
  else if headAt lines 1 = [] then ([headAt lines 0], 2)
  else if headAt lines 2 = [] then ([headAt lines 0, headAt lines 1], 3)
  else ([headAt lines 0, headAt lines 1, headAt lines 2], 0)
abbrev Steps := List ((Str × Str × Str) × Str)
/-- what a watch's text tells -/
structure Wat where
  calls : List Str
  answers : List Str
  marks : List Str
  steps : Steps
def BRK : Str := "broken"
def isLine (ws : List Str) (C A S : List Str) : Bool :=
  match ws with
  | [r, s, c, a, g] => decide (r = "step") && (S.contains s && (C.contains c && (A.contains a && (S ++ [BRK]).contains g)))
  | _ => false
def goalStep (C A S : List Str) (g : Steps) (line : Str) : Option Steps :=
  match Txt.split line sp1 with
  | [r, s, c, a, t] => if isLine [r, s, c, a, t] C A S = true ∧ (g.lookup (s, c, a)).isNone = true then some (g ++ [((s, c, a), t)]) else none
  | _ => none
def goalsFrom (C A S : List Str) : List Str → Nat → Steps → Sum Nat Steps
  | [], _, g => .inr g
  | l :: r, at_, g => match goalStep C A S g l with
    | none => .inl (at_ + 1)
    | some g' => goalsFrom C A S r (at_ + 1) g'
def readGoals (lines : List Str) (C A S : List Str) : Sum Nat Steps := goalsFrom C A S (lines.drop 3) 3 []
def parse (text : Str) : Sum Nat Wat :=
  let lines := Txt.split text nl1
  match readHeads lines with
  | ([c, a, s], 0) => if s.contains BRK = true then .inl 3 else (match readGoals lines c a s with
    | .inl n => .inl n
    | .inr g => .inr ⟨c, a, s, g⟩)
  | (_, n) => .inl n
end LG
set_option Elab.async false
set_option linter.all false
set_option maxRecDepth 100000
set_option maxHeartbeats 2000000
namespace LG
open PySem L2 TL
theorem spl_some (S : List Nat) : ∀ (l : List Nat) (k : Nat) (acc : List Nat), spl S k acc l ≠ []
  | [], k, acc => by
    rw [spl_nil]
    simp
  | c :: r, 0, acc => by
    cases h : pre S (c :: r) with
    | true =>
      rw [spl_hit h]
      simp
    | false =>
      rw [spl_miss h]
      exact spl_some S r 0 _
  | c :: r, k + 1, acc => by
    show spl S k acc r ≠ []
    exact spl_some S r k acc
theorem split_some (x : Str) {y : Str} (hy : tl y ≠ []) (hk : y.cps.all (· < 256) = true) : Txt.split x y ≠ [] := by
  intro z
  have h := split_spl x y hy (kind_ok hk)
  rw [z] at h
  exact spl_some _ _ _ _ h.symm
theorem join_size (y : Str) : ∀ {ts : List Str}, ts ≠ [] → (Str.join y ts).length + y.length = (ts.map fun t => t.length + y.length).sum
  | [], h => absurd rfl h
  | [x], _ => by
    show x.length + y.length = _
    simp
  | x :: z :: r, _ => by
    have ih := join_size y (ts := z :: r) (by simp)
    have e : Str.join y (x :: z :: r) = x ++ y ++ Str.join y (z :: r) := rfl
    rw [e, strLen_append, strLen_append, List.map_cons, List.sum_cons]
    omega
theorem sum_bounds {ts : List Str} {k : Nat} : (∀ t ∈ ts, t.length + k ≤ (ts.map fun t => t.length + k).sum) ∧ ts.length * k ≤ (ts.map fun t => t.length + k).sum := by
  induction ts with
  | nil => simp
  | cons x r ih =>
    obtain ⟨h1, h2⟩ := ih
    refine ⟨fun t ht => ?_, ?_⟩
    · rw [List.map_cons, List.sum_cons]
      rcases List.mem_cons.mp ht with rfl | ht
      · omega
      · have := h1 t ht
        omega
    · rw [List.map_cons, List.sum_cons, List.length_cons, Nat.succ_mul]
      omega
theorem split_bounds (x : Str) {y : Str} (hy : tl y ≠ []) (hk : y.cps.all (· < 256) = true) (h1 : y.length = 1) : (∀ t ∈ Txt.split x y, t.length ≤ x.length) ∧ (Txt.split x y).length ≤ x.length + 1 := by
  have e := join_size y (split_some x hy hk)
  rw [PySem.StrLaws.join_split, h1] at e
  obtain ⟨b1, b2⟩ := sum_bounds (ts := Txt.split x y) (k := 1)
  refine ⟨fun t ht => ?_, ?_⟩
  · have := b1 t ht
    omega
  · omega
theorem sp1_ne : tl sp1 ≠ [] := by decide +kernel
theorem sp1_k : sp1.cps.all (· < 256) = true := by decide +kernel
theorem sp1_1 : sp1.length = 1 := by decide +kernel
theorem nl1_ne : tl nl1 ≠ [] := by decide +kernel
theorem nl1_k : nl1.cps.all (· < 256) = true := by decide +kernel
theorem nl1_1 : nl1.length = 1 := by decide +kernel
theorem words_some (x : Str) : Txt.split x sp1 ≠ [] := split_some x sp1_ne sp1_k
theorem words_bounds (x : Str) : (∀ t ∈ Txt.split x sp1, t.length ≤ x.length) ∧ (Txt.split x sp1).length ≤ x.length + 1 := split_bounds x sp1_ne sp1_k sp1_1
theorem lines_bounds (x : Str) : (∀ t ∈ Txt.split x nl1, t.length ≤ x.length) ∧ (Txt.split x nl1).length ≤ x.length + 1 := split_bounds x nl1_ne nl1_k nl1_1
theorem cut_from (xs : List V) (k : Nat) : cutV xs (some (k : Int)) none = xs.drop k := by
  unfold cutV
  rw [HT.sIx_nat, HT.sIx_none]
  by_cases h : k ≤ xs.length
  · rw [Nat.min_eq_left h]
    exact List.take_of_length_le (by rw [List.length_drop]; exact Nat.le_refl _)
  · rw [Nat.min_eq_right (by omega), List.drop_of_length_le (Nat.le_refl _), List.drop_of_length_le (by omega)]
    simp
theorem cut_upto (xs : List V) (k : Nat) : cutV xs none (some (k : Int)) = xs.take k := by
  unfold cutV
  rw [HT.sIx_nat, HT.sIx_none, List.drop_zero, Nat.sub_zero]
  by_cases h : k ≤ xs.length
  · rw [Nat.min_eq_left h]
  · rw [Nat.min_eq_right (by omega), List.take_of_length_le (Nat.le_refl _), List.take_of_length_le (by omega)]
end LG
set_option Elab.async false
set_option linter.all false
set_option maxRecDepth 100000
set_option maxHeartbeats 2000000
namespace K55
open PySem L2 LG
def top (i : Nat) : Stmt := PySem.Challenge.pw_toldboxes_k55_watches_as_told_and_first.main.body.getD i (.Pass ⟨0, 0, 0, 0⟩)
abbrev sInit : Stmt := inClass (top 1) 0
abbrev sIsName : Stmt := top 7
abbrev sNamesIn : Stmt := top 8
abbrev sReadHeads : Stmt := top 9
abbrev sIsAmong : Stmt := top 10
abbrev sDInit : Stmt := inClass (top 17) 0
abbrev sDRow : Stmt := inClass (top 17) 1
abbrev sDLen : Stmt := inClass (top 17) 3
abbrev sDContains : Stmt := inClass (top 17) 4
abbrev sDEq : Stmt := inClass (top 17) 5
abbrev sDAsk : Stmt := inClass (top 17) 9
abbrev sReadGoals : Stmt := top 18
abbrev sIsLine : Stmt := top 19
abbrev sReadSteps : Stmt := top 18
abbrev sPot : Stmt := top 24
abbrev sTake : Stmt := top 21
abbrev sOf : Stmt := top 22
abbrev sSome : Stmt := top 23
abbrev sAny : Stmt := top 25
abbrev sCells : Stmt := top 26
abbrev sTold : Stmt := top 27
abbrev sOdd : Stmt := top 28
abbrev sWatch : Stmt := top 29
abbrev sWText : Stmt := top 30
abbrev sName2 : Stmt := top 31
abbrev sHeadIn : Stmt := top 32
abbrev sWrong : Stmt := top 33
abbrev sIsRead : Stmt := top 34
abbrev sSpoilt : Stmt := top 35
abbrev sThrees : Stmt := top 36
abbrev sByHand : Stmt := top 37
abbrev sRight : Stmt := top 38
abbrev sLaw : Stmt := top 39
section
variable {P : Program} {w : World} {K : PySem.W.Frag} {mg : Str → Option Value} {base : Heap}
theorem scPot : FnScope ["_law_script", "_law_place", "_law_cell", "_law_own", "_law_small"] ["_law_script", "_law_place"] (defScope sPot) := ⟨rfl, rfl, rfl, by decide +kernel, rfl, by decide +kernel, by decide +kernel⟩
def tPotRest : TS :=
  tSeq (tAsg (tOp (rI CMul fun i j => .int (i * j)) (tOp (rI (fun _ j => 0 < j) fun i j => .int (i % j)) (tCB rInt1 (tCons (tCB rAbs (tCons (tVar 2) tNil)) tNil))
      (tOp (rI (fun i j => 0 ≤ j ∧ (Builtin.Int.intBits i : Int) * j ≤ 2 ^ 27) fun i j => .int (i ^ j.toNat)) (tOp (rI CPow fun i j => .int (i ^ j.toNat)) (tC (.int 10)) (tC (.int 60))) (tC (.int 5))))
      (tCB rInt1 (tCons (tOp (rI0 fun i j => .bl (decide (i ≥ j))) (tCB rAbs (tCons (tVar 2) tNil)) (tOp (rI CPow fun i j => .int (i ^ j.toNat)) (tC (.int 10)) (tC (.int 18)))) tNil))) (gName 3))
  (tSeq (tAsg (tOp (rI (fun _ j => 0 < j) fun i j => .int (i % j)) (tCB rInt1 (tCons (tVar 2) tNil)) (tC (.int 2305843009213693951))) (gName 4))
  (tRet (tLst (tCons (tVar 3) (tCons (tOp (rI (fun _ j => 0 < j) fun i j => .int (i % j)) (tCB rInt1 (tCons (tOp (rI0 fun i j => .int (i + j)) (tOp (rI0 fun i j => .int (i + j)) (tOp (rI CMul fun i j => .int (i * j)) (tVar 4) (tC (.int 85051)))
      (tOp (rI CMul fun i j => .int (i * j)) (tOp (rI CMul fun i j => .int (i * j)) (tC (.int 9937)) (tVar 1)) (tVar 1))) (tC (.int 663))) tNil)) (tC (.int 2305843009213693921))) (tCons (tC (.int 0)) tNil))))))
theorem pot_rest {a : Addr} {j : Int} {H : Hp} {Q : VK} (z : Int) (H1 : Hp) (s1 : Same H H1) (f1 : ∀ p, H1 p = none → H p = none) (h0 : 0 ≤ j) (h1 : j ≤ 1000)
    (q : ∀ (p : Addr) (H' : Hp), Same H H' → H p = none → PotAt H' p 0 → Q (.ref p) H') : tPotRest { nx := fun _ H' => Q .non H', rt := Q } [some (.ref a), some (.int j), some (.int z), none, none] H1 := by
  have dec0 : (0 : Int) < (10 ^ (60 : Int).toNat) ^ (5 : Int).toNat := by decide +kernel
  refine ⟨_, rfl, _, rfl, .inl ⟨_, rfl, _, _, rfl, rfl, ⟨by decide, by decide, by decide⟩, _, _, rfl, rfl, ⟨by decide, bits60⟩, _, _, rfl, rfl, dec0, _, rfl, _, rfl, _, _, rfl, rfl, ⟨by decide, by decide, by decide⟩, _, _, rfl, rfl, .inr ⟨_, rfl, ?_⟩⟩⟩
  generalize hv : (if z < 0 then -z else z) % (10 ^ (60 : Int).toNat) ^ (5 : Int).toNat = own
  have own0 : 0 ≤ own := by rw [← hv]; exact Int.emod_nonneg _ (by omega)
  generalize hk : decide ((if z < 0 then -z else z) ≥ 10 ^ (18 : Int).toNat) = k
  clear hk
  have k01 : (if k = true then (1 : Int) else 0) = 0 ∨ (if k = true then (1 : Int) else 0) = 1 := by cases k <;> simp
  generalize (if k = true then (1 : Int) else 0) = kk at k01 ⊢
  have own1 : 0 ≤ own * kk := by
    rcases k01 with e | e
    · rw [e]; omega
    · rw [e]; omega
  refine ⟨_, _, rfl, rfl, .inr ⟨by omega, by omega⟩, ?_⟩
  refine ⟨_, rfl, .inl ⟨_, rfl, _, _, rfl, rfl, (by show (0 : Int) < 2305843009213693951; decide), ?_⟩⟩
  refine ⟨_, rfl, _, rfl, _, _, rfl, rfl, .inr ⟨by decide, by decide⟩, _, rfl, _, _, rfl, rfl, .inl ⟨by decide, by decide⟩, _, rfl, _, _, rfl, rfl, .inr ⟨by omega, by omega⟩, _, _, rfl, rfl, _, _, rfl, rfl, .inl ⟨_, rfl, _, _, rfl, rfl, (by show (0 : Int) < 2305843009213693921; decide), (by show 3 ≤ sizeLine; decide), fun p np => ?_⟩⟩
  refine q p _ (s1.trans (same_new np _)) (f1 p np) ⟨_, _, _, upd_same, (by rw [hv]; exact own1), ?_, ?_, by decide, by decide⟩
  · exact Int.emod_nonneg _ (by decide)
  · exact Int.lt_trans (Int.emod_lt_of_pos _ (by decide)) (by decide)
theorem ok_pot {f : Addr} {fd : FuncData} (F : Fun K "_law_pot" "_law_pot" sPot f fd) (T : Bltn mg) : FnOk P w K mg base CX0 1 f fd ["_law_script", "_law_place"] (spPot K) := by
  refine F.ok scPot (fun vs H Q E h => ?_) (fun cdv A outer s H vs Q E hr h => ?_)
  · obtain ⟨a, ns, j, rfl, _⟩ := h
    rfl
  obtain ⟨a, ns, j, rfl, hS, h63, h0, h1, q⟩ := h
  refine ⟨_, pss_cons (ps_set (i := 2) scPot.nd rfl (Or.inl rfl) (pe_ifExp (pt_cmpR op_lt (pv 1) (pe_callB call_len_seq rfl T.len PySem.boot_len (pa_cons (pv 0) pa_nil)) (nomark _)) (pe_ix ix_list (pv 0) (pv 1) (fun _ _ => rfl))
      (pe_op op_add (pe_op op_add (pe_op op_mod (pe_callB (cr_sum rfl) rfl T.sum (by decide +kernel) (pa_cons (pe_slice sl_list (pv 0) po_none (po_some pe_int)) pa_nil)) pe_int) (pe_op op_mul pe_int (pv 1))) pe_int)))
    (pss_cons (ps_set (i := 3) scPot.nd rfl (Or.inl rfl) (pe_op op_mul (pe_op op_mod (pe_callTy call_int1 rfl T.int (by decide +kernel) (pa_cons (pe_callB call_abs rfl T.abs (by decide +kernel) (pa_cons (pv 2) pa_nil)) pa_nil)) (pe_op op_powB (pe_op op_pow pe_int pe_int) pe_int))
      (pe_callTy call_int1 rfl T.int (by decide +kernel) (pa_cons (pe_cmpR op_ge (pe_callB call_abs rfl T.abs (by decide +kernel) (pa_cons (pv 2) pa_nil)) (pe_op op_pow pe_int pe_int) (nomark _)) pa_nil))))
    (pss_cons (ps_set (i := 4) scPot.nd rfl (Or.inl rfl) (pe_op op_mod (pe_callTy call_int1 rfl T.int (by decide +kernel) (pa_cons (pv 2) pa_nil)) pe_int))
    (pss_one (ps_ret (pe_lst (pa_cons (pv 3) (pa_cons (pe_op op_mod (pe_callTy call_int1 rfl T.int (by decide +kernel) (pa_cons (pe_op op_add (pe_op op_add (pe_op op_mul (pv 4) pe_int) (pe_op op_mul (pe_op op_mul pe_int (pv 1)) (pv 1))) pe_int) pa_nil)) pe_int) (pa_cons pe_int pa_nil)))))))), ?_⟩
  refine ⟨_, rfl, _, rfl, a, _, rfl, .inl hS, _, _, rfl, rfl, _, rfl, ?_⟩
  have dec0 : (0 : Int) < (10 ^ (60 : Int).toNat) ^ (5 : Int).toNat := by decide +kernel
  refine ite2 (fun c => ?_) (fun c => ?_)
  · have c' : j < (((ns.map V.int).length : Nat) : Int) := of_decide_eq_true c
    rw [List.length_map] at c'
    obtain ⟨z, hz⟩ := item_there h0 c'
    have H0 : Same H H := Same.refl H
    have free : ∀ p, H p = none → H p = none := fun _ e => e
    refine ⟨_, rfl, _, rfl, a, _, _, _, rfl, rfl, hS, hz, ?_⟩
    exact pot_rest z H H0 free h0 h1 q
  · obtain ⟨ms, em⟩ := cut_ints ns none (some 1)
    refine ⟨_, rfl, 1, rfl, a, _, rfl, hS, fun t nt => ?_⟩
    refine ⟨t, ms, rfl, SqL.of (by rw [upd_same, em]), _, _, rfl, rfl, (by show (0 : Int) < 1000003; decide), _, rfl, _, _, rfl, rfl, .inl ⟨by decide, by decide⟩, _, _, rfl, rfl, _, _, rfl, rfl, ?_⟩
    exact pot_rest _ _ (same_new nt _) (fun p e => (same_new nt _).free e) h0 h1 q
/-! ### one digit out of the pot -/
def spTake : Sp := fun vs H Q _ => ∃ (p : Addr) (u : Int) (b : Nat), vs = [.ref p, .int u] ∧ PotAt H p b ∧ b ≤ 100000 ∧ 1 ≤ u ∧ u < 1073741824 ∧
  ∀ (k : Int) (H' : Hp), 0 ≤ k → k < u → But p H H' → PotAt H' p (b + 1) → Q (.int k) H'
theorem scTake : FnScope ["_law_pot_here", "_law_upto", "_law_digit", "_law_prime", "_law_blend"] ["_law_pot_here", "_law_upto"] (defScope sTake) := ⟨rfl, rfl, rfl, by decide +kernel, rfl, by decide +kernel, by decide +kernel⟩
theorem sq_bound {n : Int} (h0 : 0 ≤ n) (h : n ≤ 200000) : 0 ≤ 99967 * n * n ∧ 99967 * n * n ≤ 3998680000000000 := by
  have h1 : 0 ≤ 99967 * n := by omega
  have h2 : 99967 * n ≤ 19993400000 := by omega
  have h3 := Int.mul_le_mul h2 h h0 (by decide)
  exact ⟨Int.mul_nonneg h1 h0, h3⟩
theorem ok_take {f : Addr} {fd : FuncData} (F : Fun K "_law_take" "_law_take" sTake f fd) (T : Bltn mg) : FnOk P w K mg base CX0 1 f fd ["_law_pot_here", "_law_upto"] spTake := by
  refine F.ok scTake (fun vs H Q E h => ?_) (fun cdv A outer s H vs Q E hr h => ?_)
  · obtain ⟨p, u, b, rfl, _⟩ := h
    rfl
  obtain ⟨p, u, b, rfl, ⟨own, sm, n, hp, hown, hs0, hs1, hn0, hn1⟩, hb, hu1, hu2, q⟩ := h
  refine ⟨_, pss_cons (ps_if (pt_cmpR op_gt (pe_ix ix_list (pv 0) pe_int (fun _ _ => rfl)) pe_int (nomark _))
      (pss_cons (ps_set (i := 2) scTake.nd rfl (Or.inl rfl) (pe_op op_mod (pe_callTy call_int1 rfl T.int (by decide +kernel) (pa_cons (pe_ix ix_list (pv 0) pe_int (fun _ _ => rfl)) pa_nil)) (pv 1)))
      (pss_cons (ps_asg (pe_op op_fdiv (pe_ix ix_list (pv 0) pe_int (fun _ _ => rfl)) (pv 1)) (pg_sub (pv 0) pe_int set_list))
      (pss_one (ps_ret (pv 2))))) pss_nil)
    (pss_cons (ps_asg (pe_op op_add (pe_ix ix_list (pv 0) pe_int (fun _ _ => rfl)) pe_int) (pg_sub (pv 0) pe_int set_list))
    (pss_cons (ps_set (i := 3) scTake.nd rfl (Or.inl rfl) (pe_ix ix_list (pe_lst (pa_cons pe_int (pa_cons pe_int (pa_cons pe_int (pa_cons pe_int (pa_cons pe_int pa_nil)))))) (pe_op op_mod (pe_callTy call_int1 rfl T.int (by decide +kernel) (pa_cons (pe_ix ix_list (pv 0) pe_int (fun _ _ => rfl)) pa_nil)) pe_int) (fun _ _ => rfl)))
    (pss_cons (ps_set (i := 4) scTake.nd rfl (Or.inl rfl) (pe_op op_mod (pe_callTy call_int1 rfl T.int (by decide +kernel) (pa_cons (pe_op op_pow (pe_callTy call_int1 rfl T.int (by decide +kernel) (pa_cons (pe_op op_add (pe_op op_add (pe_ix ix_list (pv 0) pe_int (fun _ _ => rfl)) (pe_op op_mul (pe_op op_mul pe_int (pe_ix ix_list (pv 0) pe_int (fun _ _ => rfl))) (pe_ix ix_list (pv 0) pe_int (fun _ _ => rfl)))) pe_int) pa_nil)) pe_int) pa_nil)) (pv 3)))
    (pss_one (ps_ret (pe_op op_mod (pe_callTy call_int1 rfl T.int (by decide +kernel) (pa_cons (pe_op op_fdiv (pe_op op_mul (pv 4) (pe_op op_add (pe_op op_mod (pe_callTy call_int1 rfl T.int (by decide +kernel) (pa_cons (pv 4) pa_nil)) pe_int) (pe_op op_mul pe_int (pe_ix ix_list (pv 0) pe_int (fun _ _ => rfl))))) pe_int) pa_nil)) (pv 1))))))), ?_⟩
  refine ⟨_, rfl, p, _, _, _, rfl, rfl, SqL.of hp, rfl, _, _, rfl, rfl, _, rfl, ?_⟩
  refine ite2 (fun c => ?_) (fun c => ?_)
  · refine ⟨_, rfl, p, _, _, _, rfl, rfl, SqL.of hp, rfl, .inl ⟨_, rfl, _, rfl, _, _, rfl, rfl, (by show 0 < u; omega), ?_⟩⟩
    refine ⟨_, rfl, p, _, _, _, rfl, rfl, SqL.of hp, rfl, _, rfl, _, _, rfl, rfl, ⟨by omega, by omega⟩, _, rfl, p, _, _, 0, rfl, rfl, hp, rfl, _, rfl, ?_⟩
    refine q _ _ (Int.emod_nonneg _ (by omega)) (Int.emod_lt_of_pos _ (by omega)) (fun c o e ne => by rw [upd_ne ne]; exact e) ⟨_, _, _, upd_same, ?_, hs0, hs1, hn0, by omega⟩
    exact Int.ediv_nonneg hown (by omega)
  · refine ⟨_, rfl, p, _, _, _, rfl, rfl, SqL.of hp, rfl, _, _, rfl, rfl, _, rfl, p, _, _, 2, rfl, rfl, hp, rfl, ?_⟩
    have hp1 : (upd H p (.lst [.int own, .int sm, .int (n + 1)])) p = some (.lst [.int own, .int sm, .int (n + 1)]) := upd_same
    have but1 : But p H (upd H p (.lst [.int own, .int sm, .int (n + 1)])) := fun c o e ne => by rw [upd_ne ne]; exact e
    show tSeq _ _ _ _ (upd H p (.lst [.int own, .int sm, .int (n + 1)]))
    generalize upd H p (.lst [.int own, .int sm, .int (n + 1)]) = H1 at hp1 but1 ⊢
    refine ⟨(by show 5 ≤ sizeLine; decide), fun t nt => ?_⟩
    have s2 : Same H1 (upd H1 t (.lst [.int 2147483647, .int 2147483629, .int 2147483587, .int 2147483579, .int 2147483563])) := same_new nt _
    have ht : (upd H1 t (.lst [.int 2147483647, .int 2147483629, .int 2147483587, .int 2147483579, .int 2147483563])) t = some (.lst [.int 2147483647, .int 2147483629, .int 2147483587, .int 2147483579, .int 2147483563]) := upd_same
    generalize upd H1 t (.lst [.int 2147483647, .int 2147483629, .int 2147483587, .int 2147483579, .int 2147483563]) = H2 at s2 ht ⊢
    have hp2 := s2 _ _ hp1
    obtain ⟨pr, hpr, pr1, pr2⟩ := prime_at (r := (n + 1) % 5) (Int.emod_nonneg _ (by decide)) (Int.emod_lt_of_pos _ (by decide))
    refine ⟨_, rfl, p, _, _, _, rfl, rfl, SqL.of hp2, rfl, .inl ⟨_, rfl, _, _, rfl, rfl, (by show (0 : Int) < 5; decide), t, _, _, _, rfl, rfl, SqL.of ht, hpr, ?_⟩⟩
    have sq := sq_bound (n := n + 1) (by omega) (by omega)
    refine ⟨_, rfl, p, _, _, _, rfl, rfl, SqL.of hp2, rfl, _, rfl, p, _, _, _, rfl, rfl, SqL.of hp2, rfl, _, _, rfl, rfl, .inl ⟨by decide, by decide⟩, _, rfl, p, _, _, _, rfl, rfl, SqL.of hp2, rfl, _, _, rfl, rfl, .inr ⟨by omega, by omega⟩,
      _, _, rfl, rfl, _, _, rfl, rfl, .inl ⟨_, rfl, _, _, rfl, rfl, ⟨by decide, by decide, ?_⟩, .inl ⟨_, rfl, _, rfl, _, _, rfl, rfl, (by show 0 < pr; omega), ?_⟩⟩⟩
    · show (sm + 99967 * (n + 1) * (n + 1) + 1101).natAbs < 2 ^ 64
      omega
    · generalize hb2 : (sm + 99967 * (n + 1) * (n + 1) + 1101) ^ (3 : Int).toNat % pr = bl
      have b0 : 0 ≤ bl := by rw [← hb2]; exact Int.emod_nonneg _ (by omega)
      have b1 : bl < pr := by rw [← hb2]; exact Int.emod_lt_of_pos _ (by omega)
      refine ⟨_, rfl, _, rfl, .inl ⟨_, rfl, _, _, rfl, rfl, (by show (0 : Int) < 11233; decide), _, rfl, p, _, _, _, rfl, rfl, SqL.of hp2, rfl, _, _, rfl, rfl, .inl ⟨by decide, by decide⟩, _, _, rfl, rfl, _, _, rfl, rfl, .inl ⟨by rw [hb2]; omega, by rw [hb2]; omega⟩,
        _, _, rfl, rfl, ⟨by decide, by decide⟩, .inl ⟨_, rfl, _, rfl, _, _, rfl, rfl, (by show 0 < u; omega), ?_⟩⟩⟩
      refine q _ _ (Int.emod_nonneg _ (by omega)) (Int.emod_lt_of_pos _ (by omega)) (but1.trans (But.of s2)) ⟨_, _, _, hp2, hown, hs0, hs1, by omega, by omega⟩
theorem scOf : FnScope ["_law_pot_here", "_law_some_here"] ["_law_pot_here", "_law_some_here"] (defScope sOf) := ⟨rfl, rfl, rfl, by decide +kernel, rfl, by decide +kernel, by decide +kernel⟩
theorem ok_of {f g : Addr} {fd gd : FuncData} (F : Fun K "_law_of" "_law_of" sOf f fd) (T : Bltn mg) (G : FnOk P w K mg base CX0 1 g gd ["_law_pot_here", "_law_upto"] spTake) (mG : mg "_law_take" = some (.ref g)) (kG : PySem.W.keepIn K (.ref g) = true) (bG : Binds K gd ["_law_pot_here", "_law_upto"] []) :
    FnOk P w K mg base CX0 2 f fd ["_law_pot_here", "_law_some_here"] (spOf K) := by
  refine F.ok scOf (fun vs H Q E h => ?_) (fun cdv A outer s H vs Q E hr h => ?_)
  · obtain ⟨p, l, xs, b, rfl, _⟩ := h
    rfl
  obtain ⟨p, l, xs, b, rfl, hp, hb, hl, x0, x1, ne, q⟩ := h
  refine ⟨_, pss_one (ps_ret (pe_ix ix_list (pv 1) (pe_call G hr rfl mG kG bG .nil pass0 (pa_cons (pv 0) (pa_cons (pe_callB call_len_seq rfl T.len PySem.boot_len (pa_cons (pv 1) pa_nil)) pa_nil))) (fun _ _ => rfl))), ?_⟩
  refine ⟨_, rfl, _, rfl, _, rfl, l, _, rfl, .inl hl, p, _, b, rfl, hp, hb, by omega, by omega, fun k H' k0 k1 but pot => ?_⟩
  have hk : k.toNat < xs.length := by omega
  have at_ : atI xs k = some xs[k.toNat] := at_of (j := k.toNat) (by omega) (List.getElem?_eq_getElem hk)
  exact ⟨l, xs, k, _, rfl, rfl, But.seq but ne hl, at_, q _ _ (List.getElem_mem hk) but pot⟩
/-! ### the cells -/
def spCells (K : PySem.W.Frag) : Sp := fun vs H Q _ => ∃ (a : Addr) (ns : List Int) (m : Int), vs = [.ref a, .int m] ∧ SqL K H a (ns.map V.int) ∧ ns.length ≤ 63 ∧ 1 ≤ m ∧ m ≤ 63 ∧
  ∀ (p : Addr) (n : Nat) (H' : Hp), Same H H' → H p = none → 1 ≤ n → n ≤ 63 → H' p = some (.lst ((List.range n).map fun i => V.int (i : Nat))) → Q (.ref p) H'
theorem scCells : FnScope ["_law_script", "_law_limit"] ["_law_script", "_law_limit"] (defScope sCells) := ⟨rfl, rfl, rfl, by decide +kernel, rfl, by decide +kernel, by decide +kernel⟩
theorem ok_cells {f : Addr} {fd : FuncData} (F : Fun K "_law_cells" "_law_cells" sCells f fd) (T : Bltn mg) : FnOk P w K mg base CX0 1 f fd ["_law_script", "_law_limit"] (spCells K) := by
  refine F.ok scCells (fun vs H Q E h => ?_) (fun cdv A outer s H vs Q E hr h => ?_)
  · obtain ⟨a, ns, m, rfl, _⟩ := h
    rfl
  obtain ⟨a, ns, m, rfl, hS, h63, m0, m1, q⟩ := h
  refine ⟨_, pss_one (ps_ret (pe_listRg rfl rfl T.list (prg_1 rfl T.range (pe_callB (call_max2 rfl) rfl T.max (by decide +kernel) (pa_cons pe_int (pa_cons (pe_callB (call_min2 rfl) rfl T.min (by decide +kernel)
    (pa_cons (pv 1) (pa_cons (pe_callB call_len_seq rfl T.len PySem.boot_len (pa_cons (pv 0) pa_nil)) pa_nil))) pa_nil)))))), ?_⟩
  refine ⟨_, rfl, _, rfl, a, _, rfl, .inl hS, _, _, rfl, _, _, rfl, _, rfl, ?_⟩
  have hl : (ns.map V.int).length = ns.length := List.length_map _
  rw [hl]
  generalize hz : (if (if (ns.length : Int) < m then (ns.length : Int) else m) > 1 then (if (ns.length : Int) < m then (ns.length : Int) else m) else 1) = z
  have z0 : 1 ≤ z ∧ z ≤ 63 := by
    rw [← hz]
    split <;> split <;> omega
  refine ⟨RgOk.of_le (by decide) (by omega) (by decide) (by omega), fun p np => ?_⟩
  refine q p z.toNat _ (same_new np _) np (by omega) (by omega) ?_
  rw [upd_same]
  have e : rgV 0 z = (List.range z.toNat).map fun i => V.int (i : Nat) := by
    unfold rgV
    have e1 : (z - 0).toNat = z.toNat := by omega
    rw [e1]
    refine List.map_congr_left fun i _ => ?_
    rw [Int.zero_add]
  rw [e]
end
end K55
set_option Elab.async false
set_option linter.all false
set_option maxRecDepth 100000
set_option maxHeartbeats 4000000
namespace K55
open PySem L2 LG
section
variable {P : Program} {w : World} {K : PySem.W.Frag} {mg : Str → Option Value} {base : Heap}
/-- the module's own constants -/
structure Consts (K : PySem.W.Frag) (mg : Str → Option Value) : Prop where
  let_ : ∃ t, mg "LETTERS" = some (.str LET t)
  brk : ∃ t, mg "BROKEN" = some (.str BRK t)
  fig : ∃ t, mg "FIGURES" = some (.str FIG t)
def spName : Sp := fun vs H Q _ => ∃ (x : Str), vs = [.str x] ∧ x.length ≤ 100000 ∧ ∀ H', Same H H' → Q (.bl (isNameB x)) H'
theorem scName : FnScope ["word", "sign"] ["word"] (defScope sIsName) := ⟨rfl, rfl, rfl, by decide +kernel, rfl, by decide +kernel, by decide +kernel⟩
theorem name_bits (x : Str) : (List.range x.cps.size).map (fun i => V.bl (inL (x.cps.getD i 0) || inF (x.cps.getD i 0))) = (x.cps.toList.map fun c => inL c || inF c).map V.bl := by
  apply List.ext_getElem
  · simp
  · intro k h1 h2
    have hk : k < x.cps.size := by simpa using h1
    simp [Array.getD, hk]
theorem ok_name {f : Addr} {fd : FuncData} (F : Fun K "is_name" "is_name" sIsName f fd) (T : Bltn mg) (C : Consts K mg) : FnOk P w K mg base CX0 1 f fd ["word"] spName := by
  obtain ⟨tL, mL⟩ := C.let_
  obtain ⟨tF, mF⟩ := C.fig
  refine F.ok scName (fun vs H Q E h => ?_) (fun cdv A outer s H vs Q E hr h => ?_)
  · obtain ⟨x, rfl, _⟩ := h
    rfl
  obtain ⟨x, rfl, hx, q⟩ := h
  refine ⟨_, pss_cons (ps_if (PW.pt (pw_or (pt_not (pt_chain op_le op_le pe_int (pe_callB call_len_str rfl T.len PySem.boot_len (pa_cons (pv 0) pa_nil)) pe_int)) (pw_or1 (pt_cmpR op_notIn_sign (pe_ix ix_str (pv 0) pe_int (fun _ _ => rfl)) (pe_glob (v := .str LET) rfl mL ⟨_, rfl⟩) (by rfl)))))
      (pss_one (ps_ret pe_bl)) pss_nil)
    (pss_one (ps_ret (pe_callB (cr_all rfl) rfl T.all (by decide +kernel) (pa_cons (pe_lc (own := [("sign", 1)]) (g := gName 1) (tt := tYes) rfl scName.nd (pi_str (pv 0)) (blkOk_by (own := [("sign", 1)]) (N := ["word", "sign"]) (sc := defScope sIsName) (by decide +kernel))
      (fun _ _ _ _ _ => pg_name (i := 1) scName.nd rfl (Or.inl rfl)) (fun _ _ _ _ _ => pts_nil)
      (fun _ _ _ _ _ => pe_or (pe_cmpR op_in_sign (pv 1) (pe_glob (v := .str LET) rfl mL ⟨_, rfl⟩) (by rfl)) (pe_one (pe_cmpR op_in_sign (pv 1) (pe_glob (v := .str FIG) rfl mF ⟨_, rfl⟩) (by rfl))))) pa_nil)))), ?_⟩
  have len0 : x.length ≤ sizeLine := Nat.le_trans hx (by rw [sizeLine_eq]; decide)
  have no : isNameB x = false → Q (.bl false) H := fun e => by
    have := q H (Same.refl H)
    rw [e] at this
    exact this
  refine ⟨_, rfl, _, rfl, len0, _, _, rfl, rfl, _, rfl, ?_⟩
  refine ite2 (fun c1 => ?_) (fun c1 => ?_)
  · refine ⟨_, _, rfl, rfl, _, rfl, ?_⟩
    have l1 : 1 ≤ x.length := by
      have := of_decide_eq_true c1
      omega
    show (if (!decide ((x.length : Int) ≤ 8)) = true then _ else _)
    by_cases c2 : (x.length : Int) ≤ 8
    · rw [if_neg (by simp [c2])]
      have hc : x.cps[0]? = some (x.cps.getD 0 0) := by
        have : 0 < x.cps.size := l1
        simp [Array.getD, this]
      have hd0 : x.cps.toList.headD 0 = x.cps.getD 0 0 := by
        have : 0 < x.cps.size := l1
        rw [List.headD_eq_head?_getD, List.head?_eq_getElem?, Array.getElem?_toList, hc]
        rfl
      refine ⟨_, rfl, x, 0, x.cps.getD 0 0, rfl, rfl, len0, ?_, _, _, rfl, rfl, _, rfl, ?_⟩
      · have z : atI x.cps.toList ((0 : Nat) : Int) = some (x.cps.getD 0 0) := atI_nat (by rw [Array.getElem?_toList]; exact hc)
        exact z
      refine ite2 (fun c3 => ?_) (fun c3 => ?_)
      · refine no ?_
        have c3' : inL (x.cps.getD 0 0) = false := by
          unfold inL
          simpa using c3
        rw [show isNameB x = ((decide (1 ≤ x.length) && decide (x.length ≤ 8) && inL (x.cps.toList.headD 0)) && x.cps.toList.all fun c => inL c || inF c) from rfl, hd0, c3']
        simp
      · refine ⟨_, rfl, x, rfl, fun D nD => ?_⟩
        refine lc_all walk_str nD (fun i => V.bl (inL (x.cps.getD i 0) || inF (x.cps.getD i 0))) (Nat.le_trans (show x.cps.size ≤ _ from len0) (Nat.le_refl _)) (fun _ _ => trivial) ?_ ?_
        · rintro i y H0 H' Kt hi s0 ⟨rfl, c, hc, rfl⟩ hK
          have ec : x.cps.getD i 0 = c := by
            rw [Array.getD_eq_getD_getElem?, hc]
            rfl
          refine ⟨rfl, _, rfl, _, _, rfl, rfl, _, rfl, ?_⟩
          have hK := hK H' (Same.refl _)
          rw [ec] at hK
          unfold inL inF at hK
          by_cases m : c ∈ LET.cps.toList
          · simp only [m, decide_true, Bool.true_or, if_true] at hK ⊢
            exact hK
          · simp only [m, decide_false, Bool.false_or, if_neg, Bool.false_eq_true, if_false] at hK ⊢
            exact ⟨_, rfl, _, _, rfl, rfl, hK⟩
        · intro H2 s2 hD
          rw [name_bits] at hD
          refine ⟨D, _, rfl, SqL.of hD, ?_⟩
          have c3' : inL (x.cps.getD 0 0) = true := by
            unfold inL
            simpa using c3
          have e : isNameB x = (x.cps.toList.map fun c => inL c || inF c).all id := by
            rw [show isNameB x = ((decide (1 ≤ x.length) && decide (x.length ≤ 8) && inL (x.cps.toList.headD 0)) && x.cps.toList.all fun c => inL c || inF c) from rfl, hd0, c3', decide_eq_true l1, decide_eq_true (by omega : x.length ≤ 8), List.all_map]
            rfl
          rw [← e]
          exact q H2 s2
    · rw [if_pos (by simp [c2])]
      refine no ?_
      have : ¬ x.length ≤ 8 := by omega
      simp [isNameB, this]
  · refine ⟨_, rfl, iteT (iteT (no ?_))⟩
    have : ¬ 1 ≤ x.length := fun h => c1 (decide_eq_true (by omega))
    simp [isNameB, this]
end
end K55
set_option Elab.async false
set_option linter.all false
set_option maxRecDepth 100000
set_option maxHeartbeats 4000000
namespace K55
open PySem L2 LG
section
variable {P : Program} {w : World} {K : PySem.W.Frag} {mg : Str → Option Value} {base : Heap}
def spNames (K : PySem.W.Frag) : Sp := fun vs H Q _ => ∃ (l h : Str) (a b : Int), vs = [.str l, .str h, .int a, .int b] ∧ l.length ≤ 3900 ∧ ∀ (p : Addr) (H' : Hp), Same H H' → SqT K H' p ((namesIn l h a b).map V.str) → Q (.ref p) H'
abbrev nN : List Str := ["line", "head", "fewest", "most", "words", "names", "name"]
theorem scNames : FnScope nN ["line", "head", "fewest", "most"] (defScope sNamesIn) := ⟨rfl, rfl, rfl, by decide +kernel, rfl, by decide +kernel, by decide +kernel⟩
theorem cut_tail (ws : List Str) : cutV (ws.map V.str) (some 1) none = ws.tail.map V.str := by
  rw [show (1 : Int) = ((1 : Nat) : Int) from rfl, cut_from, List.drop_one, List.map_tail]
theorem names_bits (ns : List Str) : (List.range ns.length).map (fun i => V.bl (isNameB (ns.getD i Str.empty))) = (ns.map isNameB).map V.bl := by
  apply List.ext_getElem
  · simp
  · intro k h1 h2
    have hk : k < ns.length := by simpa using h1
    simp [List.getD, hk]
theorem ok_names {f g : Addr} {fd gd : FuncData} (F : Fun K "names_in" "names_in" sNamesIn f fd) (T : Bltn mg) (G : FnOk P w K mg base CX0 1 g gd ["word"] spName) (mG : mg "is_name" = some (.ref g)) (kG : PySem.W.keepIn K (.ref g) = true) (bG : Binds K gd ["word"] []) :
    FnOk P w K mg base CX0 2 f fd ["line", "head", "fewest", "most"] (spNames K) := by
  refine F.ok scNames (fun vs H Q E h => ?_) (fun cdv A outer s H vs Q E hr h => ?_)
  · obtain ⟨l, h, a, b, rfl, _⟩ := h
    rfl
  obtain ⟨l, h, a, b, rfl, hl, q⟩ := h
  refine ⟨_, pss_cons (ps_set (i := 4) scNames.nd rfl (Or.inl rfl) (pe_split (pv 0) pe_str))
    (pss_cons (ps_set (i := 5) scNames.nd rfl (Or.inl rfl) (pe_slice sl_list (pv 4) (po_some pe_int) po_none))
    (pss_cons (ps_if (PW.pt (pw_or (pt_cmpR op_ne (pe_ix ix_list (pv 4) pe_int (fun _ _ => rfl)) (pv 1) (nomark _)) (pw_or1 (pt_not (pt_chain op_le op_le (pv 2) (pe_callB call_len_seq rfl T.len PySem.boot_len (pa_cons (pv 5) pa_nil)) (pv 3))))))
      (pss_one (ps_ret (pe_tup pa_nil))) pss_nil)
    (pss_cons (ps_if (PW.pt (pw_or (pt_cmpR op_lt (pe_lenSetS rfl T.len rfl T.set (pv 5)) (pe_callB call_len_seq rfl T.len PySem.boot_len (pa_cons (pv 5) pa_nil)) (nomark _))
        (pw_or1 (pt_not (pt_val (pe_callB (cr_all rfl) rfl T.all (by decide +kernel) (pa_cons (pe_lc (own := [("name", 6)]) (g := gName 6) (tt := tYes) rfl scNames.nd (pi_list (pv 5)) (blkOk_by (own := [("name", 6)]) (N := nN) (sc := defScope sNamesIn) (by decide +kernel))
          (fun _ _ _ _ _ => pg_name (i := 6) scNames.nd rfl (Or.inl rfl)) (fun _ _ _ _ _ => pts_nil)
          (fun _ _ _ _ _ => pe_call G hr rfl mG kG bG .nil pass0 (pa_cons (pv 6) pa_nil))) pa_nil)))))))
      (pss_one (ps_ret (pe_tup pa_nil))) pss_nil)
    (pss_one (ps_ret (pe_callTy call_tuple_of rfl T.tuple (by decide +kernel) (pa_cons (pv 5) pa_nil))))))), ?_⟩
  refine ⟨_, rfl, ⟨_, rfl⟩, l, sp1, rfl, rfl, rfl, ?_, fun p np => ?_⟩
  · rw [sizeLine_eq]
    omega
  obtain ⟨wb1, wb2⟩ := words_bounds l
  have wne := words_some l
  generalize hws : Txt.split l sp1 = ws at wb1 wb2 wne
  have hp : (upd H p (.lst (ws.map V.str))) p = some (.lst (ws.map V.str)) := upd_same
  have s1 := same_new np (.lst (ws.map V.str))
  generalize upd H p (.lst (ws.map V.str)) = H1 at hp s1 ⊢
  refine ⟨_, rfl, 1, rfl, p, _, rfl, SqL.of hp, fun p2 np2 => ?_⟩
  rw [cut_tail]
  have hp2 : (upd H1 p2 (.lst (ws.tail.map V.str))) p2 = some (.lst (ws.tail.map V.str)) := upd_same
  have s2 := s1.trans (same_new np2 (.lst (ws.tail.map V.str)))
  have hp' := same_new np2 (.lst (ws.tail.map V.str)) _ _ hp
  generalize upd H1 p2 (.lst (ws.tail.map V.str)) = H2 at hp2 s2 hp' ⊢
  have hlen : (ws.tail.map V.str).length = ws.tail.length := List.length_map _
  have tl3 : ws.tail.length ≤ 3901 := by
    rw [List.length_tail]
    omega
  have h0 : atI (ws.map V.str) ((0 : Nat) : Int) = some (.str (ws.headD Str.empty)) := by
    cases ws with
    | nil => exact absurd rfl wne
    | cons x r => exact atI_nat (by simp)
  have bad : LG.namesIn l h a b = [] → ∀ G, Same H2 G → ∀ t, G t = none → Q (.ref t) (upd G t (.tup [])) := by
    intro e G sG t nt
    refine q t _ ((s2.trans sG).trans (same_new nt _)) ?_
    rw [e]
    exact .inl (.inl upd_same)
  have hN : LG.namesIn l h a b = if ws.headD Str.empty ≠ h ∨ ¬ (a ≤ (ws.tail.length : Int) ∧ (ws.tail.length : Int) ≤ b) then [] else if (uniq ws.tail).length < ws.tail.length ∨ ¬ (ws.tail.all isNameB = true) then [] else ws.tail := by
    unfold LG.namesIn
    rw [hws]
  generalize ws.headD Str.empty = hd at h0 hN
  refine ⟨_, rfl, p, _, _, _, rfl, rfl, SqL.of hp', h0, _, rfl, rfl, _, rfl, ?_⟩
  refine ite2 (fun c1 => ?_) (fun c1 => ?_)
  · refine ⟨(by show 0 ≤ sizeLine; decide), fun t nt => bad ?_ _ (Same.refl _) t nt⟩
    rw [hN, if_pos]
    left
    intro e
    rw [e] at c1
    simp at c1
  have hh : hd = h := Classical.byContradiction fun ne => c1 (by simp [ne])
  refine ⟨_, rfl, _, rfl, p2, _, rfl, .inl (SqL.of hp2), _, _, rfl, rfl, _, rfl, ?_⟩
  rw [hlen]
  have good : (a ≤ (ws.tail.length : Int) ∧ (ws.tail.length : Int) ≤ b) → LG.namesIn l h a b = if (uniq ws.tail).length < ws.tail.length ∨ ¬ (ws.tail.all isNameB = true) then [] else ws.tail := fun c => by
    rw [hN, if_neg]
    rintro (e | e)
    · exact e hh
    · exact e c
  have worse : ¬ (a ≤ (ws.tail.length : Int) ∧ (ws.tail.length : Int) ≤ b) → LG.namesIn l h a b = [] := fun c => by
    rw [hN, if_pos (.inr c)]
  refine ite2 (fun c2 => ?_) (fun c2 => ?_)
  · refine ⟨_, rfl, _, _, rfl, rfl, _, rfl, ?_⟩
    by_cases c3 : (ws.tail.length : Int) ≤ b
    · rw [decide_eq_true c3]
      refine iteF ?_
      have gd2 := good ⟨of_decide_eq_true c2, c3⟩
      clear good worse
      refine ⟨_, rfl, p2, ws.tail, rfl, SqL.of hp2, by omega, _, rfl, p2, _, rfl, .inl (SqL.of hp2), _, _, rfl, rfl, _, rfl, ?_⟩
      rw [hlen]
      refine ite2 (fun c4 => ?_) (fun c4 => ?_)
      · refine ⟨(by show 0 ≤ sizeLine; decide), fun t nt => bad ?_ _ (Same.refl _) t nt⟩
        rw [gd2, if_pos]
        left
        have := of_decide_eq_true c4
        omega
      have c4' : ¬ (uniq ws.tail).length < ws.tail.length := fun z => c4 (decide_eq_true (by omega))
      refine ⟨_, rfl, p2, rfl, ⟨_, SqL.of hp2⟩, fun D nD => ?_⟩
      refine lc_all walk_list nD (fun i => V.bl (isNameB (ws.tail.getD i Str.empty))) ?_ (fun G sG => SqL.of (sG _ _ hp2)) ?_ ?_
      · rw [hlen, sizeLine_eq]
        omega
      · rintro i x G G' Kt hi sG ⟨rfl, hx⟩ hK
        rw [hlen] at hi
        rw [List.getElem?_map, List.getElem?_eq_getElem hi] at hx
        have ex : x = .str ws.tail[i] := (Option.some.inj hx).symm
        subst ex
        refine ⟨rfl, _, rfl, _, rfl, ?_, fun G4 s4 => ?_⟩
        · have := wb1 _ (List.mem_of_mem_tail (List.getElem_mem hi))
          omega
        · have := hK G4 s4
          rw [List.getD_eq_getElem?_getD, List.getElem?_eq_getElem hi] at this
          exact this
      · intro G sG hD
        rw [hlen, names_bits] at hD
        refine ⟨D, _, rfl, SqL.of hD, _, rfl, ?_⟩
        have ea : (ws.tail.map isNameB).all id = ws.tail.all isNameB := by
          rw [List.all_map]
          rfl
        rw [ea]
        by_cases c5 : ws.tail.all isNameB = true
        · rw [c5]
          refine iteF ⟨_, rfl, p2, _, rfl, .inl ⟨SqL.of (sG _ _ hp2), fun t nt => q t _ ((s2.trans sG).trans (same_new nt _)) ?_⟩⟩
          rw [gd2, if_neg (by rintro (z | z); exact c4' z; exact z c5)]
          exact .inl (.inl upd_same)
        · have c5' : ws.tail.all isNameB = false := by simpa using c5
          rw [c5']
          refine iteT ⟨(by show 0 ≤ sizeLine; decide), fun t nt => bad ?_ _ sG t nt⟩
          rw [gd2, if_pos (.inr c5)]
    · rw [decide_eq_false c3]
      refine iteT ⟨(by show 0 ≤ sizeLine; decide), fun t nt => bad (worse fun z => c3 z.2) _ (Same.refl _) t nt⟩
  · refine ⟨_, rfl, iteT ⟨(by show 0 ≤ sizeLine; decide), fun t nt => bad (worse fun z => c2 (decide_eq_true z.1)) _ (Same.refl _) t nt⟩⟩
end
end K55
set_option Elab.async false
set_option linter.all false
set_option maxRecDepth 100000
set_option maxHeartbeats 4000000
namespace LG
open PySem L2
/-- texts' tuples -/
def TxtT (K : PySem.W.Frag) (H : Hp) (v : V) (ns : List Str) : Prop := ∃ t, v = .ref t ∧ SqT K H t (ns.map V.str)
theorem TxtT.same {K : PySem.W.Frag} {H H' : Hp} {v : V} {ns : List Str} (e : Same H H') (h : TxtT K H v ns) : TxtT K H' v ns := by
  obtain ⟨t, h1, h2⟩ := h
  exact ⟨t, h1, same_tup e h2⟩
theorem tup_lst {K : PySem.W.Frag} {H : Hp} {p t : Addr} {xs ys zs : List V} (h : H p = some (.lst xs)) (q : SqT K H t zs) : SqT K (upd H p (.lst ys)) t zs := by
  rcases q with (q | ⟨o, q⟩) | q
  · exact .inl (.inl (by rw [upd_ne (fun z => by rw [z, h] at q; cases q)]; exact q))
  · exact .inl (.inr ⟨o, by rw [upd_ne (fun z => by rw [z, h] at q; cases q)]; exact q⟩)
  · exact .inr q
theorem TxtT.lst {K : PySem.W.Frag} {H : Hp} {p : Addr} {xs ys : List V} {v : V} {ns : List Str} (hp : H p = some (.lst xs)) (h : TxtT K H v ns) : TxtT K (upd H p (.lst ys)) v ns := by
  obtain ⟨t, h1, h2⟩ := h
  exact ⟨t, h1, tup_lst hp h2⟩
inductive TxtTs (K : PySem.W.Frag) (H : Hp) : List V → List (List Str) → Prop
  | nil : TxtTs K H [] []
  | cons {v : V} {ns : List Str} {vs : List V} {nss : List (List Str)} : TxtT K H v ns → TxtTs K H vs nss → TxtTs K H (v :: vs) (ns :: nss)
theorem TxtTs.same {K : PySem.W.Frag} {H H' : Hp} {vs : List V} {nss : List (List Str)} (e : Same H H') (h : TxtTs K H vs nss) : TxtTs K H' vs nss := by
  induction h with
  | nil => exact .nil
  | cons a _ ih => exact .cons (a.same e) ih
theorem TxtTs.snoc {K : PySem.W.Frag} {H : Hp} {vs : List V} {nss : List (List Str)} {v : V} {ns : List Str} (h : TxtTs K H vs nss) (a : TxtT K H v ns) : TxtTs K H (vs ++ [v]) (nss ++ [ns]) := by
  induction h with
  | nil => exact .cons a .nil
  | cons b _ ih => exact .cons b ih
theorem TxtTs.lst {K : PySem.W.Frag} {H : Hp} {p : Addr} {xs ys : List V} {vs : List V} {nss : List (List Str)} (h : TxtTs K H vs nss) (hp : H p = some (.lst xs)) : TxtTs K (upd H p (.lst ys)) vs nss := by
  induction h with
  | nil => exact .nil
  | cons a _ ih => exact .cons (a.lst hp) ih
theorem TxtTs.len {K : PySem.W.Frag} {H : Hp} {vs : List V} {nss : List (List Str)} (h : TxtTs K H vs nss) : vs.length = nss.length := by
  induction h with
  | nil => rfl
  | cons _ _ ih => rw [List.length_cons, List.length_cons, ih]
/-- the written table of the first lines -/
structure HeadsAt (K : PySem.W.Frag) (a : Addr) : Prop where
  ex : ∃ a0 a1 a2 : Addr, (∀ H, SqT K H a [.ref a0, .ref a1, .ref a2]) ∧ (∀ H, SqT K H a0 [.str "calls", .int 1, .int 3]) ∧ (∀ H, SqT K H a1 [.str "answers", .int 2, .int 3]) ∧ (∀ H, SqT K H a2 [.str "marks", .int 1, .int 4])
theorem HeadsAt.at {K : PySem.W.Frag} {a : Addr} (h : HeadsAt K a) : ∃ hs : List Addr, hs.length = 3 ∧ (∀ H, SqT K H a (hs.map V.ref)) ∧ ∀ (i : Nat) (b : Addr), hs[i]? = some b → ∃ t, headsL[i]? = some t ∧ ∀ H, SqT K H b [.str t.1, .int t.2.1, .int t.2.2] := by
  obtain ⟨a0, a1, a2, h1, h2, h3, h4⟩ := h.ex
  refine ⟨[a0, a1, a2], rfl, h1, fun i b e => ?_⟩
  match i, e with
  | 0, e => cases e; exact ⟨_, rfl, h2⟩
  | 1, e => cases e; exact ⟨_, rfl, h3⟩
  | 2, e => cases e; exact ⟨_, rfl, h4⟩
  | n + 3, e => simp at e
theorem readHeads_bad {lines : List Str} {i : Nat} (hi : i < 3) (ok : ∀ j, j < i → headAt lines j ≠ []) (bad : headAt lines i = []) : readHeads lines = ((List.range i).map (headAt lines), i + 1) := by
  unfold readHeads
  match i, hi with
  | 0, _ => rw [if_pos bad]; rfl
  | 1, _ => rw [if_neg (ok 0 (by omega)), if_pos bad]; rfl
  | 2, _ => rw [if_neg (ok 0 (by omega)), if_neg (ok 1 (by omega)), if_pos bad]; rfl
theorem readHeads_ok {lines : List Str} (ok : ∀ j, j < 3 → headAt lines j ≠ []) : readHeads lines = ((List.range 3).map (headAt lines), 0) := by
  unfold readHeads
  rw [if_neg (ok 0 (by omega)), if_neg (ok 1 (by omega)), if_neg (ok 2 (by omega))]
  rfl
end LG
namespace K55
open PySem L2 LG
section
variable {P : Program} {w : World} {K : PySem.W.Frag} {mg : Str → Option Value} {base : Heap}
def spHeads (K : PySem.W.Frag) : Sp := fun vs H Q _ => ∃ (l hA : Addr) (lines : List Str), vs = [.ref l, .ref hA] ∧ HeadsAt K hA ∧ SqL K H l (lines.map V.str) ∧ (∀ t ∈ lines, t.length ≤ 3900) ∧ lines.length ≤ 4000 ∧
  ∀ (p q : Addr) (xs : List V) (H' : Hp), Same H H' → H q = none → SqT K H' p [.ref q, .int ((readHeads lines).2 : Nat)] → H' q = some (.lst xs) → TxtTs K H' xs (readHeads lines).1 → Q (.ref p) H'
abbrev nH : List Str := ["lines", "heads", "read", "at", "head", "fewest", "most", "names"]
theorem scHeads : FnScope nH ["lines", "heads"] (defScope sReadHeads) := ⟨rfl, rfl, rfl, by decide +kernel, rfl, by decide +kernel, by decide +kernel⟩
theorem ok_heads {f g : Addr} {fd gd : FuncData} (F : Fun K "read_heads" "read_heads" sReadHeads f fd) (T : Bltn mg) (G : FnOk P w K mg base CX0 2 g gd ["line", "head", "fewest", "most"] (spNames K)) (mG : mg "names_in" = some (.ref g)) (kG : PySem.W.keepIn K (.ref g) = true) (bG : Binds K gd ["line", "head", "fewest", "most"] []) :
    FnOk P w K mg base CX0 3 f fd ["lines", "heads"] (spHeads K) := by
  refine F.ok scHeads (fun vs H Q E h => ?_) (fun cdv A outer s H vs Q E hr h => ?_)
  · obtain ⟨l, hA, lines, rfl, _⟩ := h
    rfl
  obtain ⟨l, hA, lines, rfl, hA3, hl, hb, hn, q⟩ := h
  refine ⟨_, pss_cons (ps_set (i := 2) scHeads.nd rfl (Or.inl rfl) (pe_lst pa_nil))
    (pss_cons (ps_for PassesOwn.never rfl (pi_enumT rfl T.enumerate (pa_cons (pv 1) pa_nil))
        (pg_tup rfl (pgs_cons (pg_name (i := 3) scHeads.nd rfl (Or.inl rfl)) (pgs_cons (pg_tup rfl (pgs_cons (pg_name (i := 4) scHeads.nd rfl (Or.inl rfl)) (pgs_cons (pg_name (i := 5) scHeads.nd rfl (Or.inl rfl)) (pgs_cons (pg_name (i := 6) scHeads.nd rfl (Or.inl rfl)) pgs_nil)))) pgs_nil)))
      (pss_cons (ps_set (i := 7) scHeads.nd rfl (Or.inl rfl) (pe_ifExp (pt_cmpR op_lt (pv 3) (pe_callB call_len_seq rfl T.len PySem.boot_len (pa_cons (pv 0) pa_nil)) (nomark _))
          (pe_call G hr rfl mG kG bG .nil pass0 (pa_cons (pe_ix ix_list (pv 0) (pv 3) (fun _ _ => rfl)) (pa_cons (pv 4) (pa_cons (pv 5) (pa_cons (pv 6) pa_nil))))) (pe_tup pa_nil)))
      (pss_cons (ps_if (pt_not (pt_truth (pv 7) (by intro _; rfl))) (pss_one (ps_ret (pe_tup (pa_cons (pv 2) (pa_cons (pe_op op_add (pv 3) pe_int) pa_nil))))) pss_nil)
      (pss_one (ps_expr (pe_bm PySem.F.plainAttrs_list PySem.F.slot_list_append PySem.F.type_list_append mt_append (pv 2) (pa_cons (pv 7) pa_nil)))))))
    (pss_one (ps_ret (pe_tup (pa_cons (pv 2) (pa_cons pe_int pa_nil)))))), ?_⟩
  obtain ⟨hs, hs3, hsT, hsI⟩ := hA3.at
  refine ⟨(by show 0 ≤ sizeLine; decide), fun p np => ?_⟩
  have hp : (upd H p (.lst [])) p = some (.lst []) := upd_same
  have s1 := same_new np (.lst [])
  show _
  generalize upd H p (.lst []) = H1 at hp s1 ⊢
  refine ⟨_, rfl, hA, _, rfl, hsT H1, ?_⟩
  refine for_enumT (xs := hs.map V.ref) (fun i σ G => ∃ x3 x4 x5 x6 x7 xs, σ = [some (.ref l), some (.ref hA), some (.ref p), x3, x4, x5, x6, x7] ∧ Same H G ∧ G p = some (.lst xs) ∧ TxtTs K G xs ((List.range i).map (headAt lines)) ∧ ∀ j, j < i → headAt lines j ≠ [])
    ⟨_, _, _, _, _, [], rfl, s1, hp, .nil, fun j hj => absurd hj (by omega)⟩ (fun i σ G _ => hsT G) ?_ ?_
  · rintro i x T1 σ G hx ⟨x3, x4, x5, x6, x7, xs, rfl, sG, hG, tG, okG⟩ nT
    have hi : i < hs.length := by
      have := (List.getElem?_eq_some_iff.mp hx).1
      simpa using this
    rw [List.getElem?_map, List.getElem?_eq_getElem hi] at hx
    have ex : x = .ref hs[i] := (Option.some.inj hx).symm
    subst ex
    obtain ⟨⟨hd, fw, ms⟩, et, hb3⟩ := hsI i hs[i] (List.getElem?_eq_getElem hi)
    have sT := same_new nT (.tup [.int (i : Nat), .ref hs[i]])
    have hT : (upd G T1 (.tup [.int (i : Nat), .ref hs[i]])) T1 = some (.tup [.int (i : Nat), .ref hs[i]]) := upd_same
    show _
    generalize upd G T1 (.tup [.int (i : Nat), .ref hs[i]]) = G1 at sT hT ⊢
    refine ⟨T1, _, rfl, .inl (.inl hT), rfl, _, _, rfl, _, _, rfl, ⟨hs[i], _, rfl, hb3 G1, rfl, _, _, rfl, _, _, rfl, _, _, rfl, rfl, ?_⟩⟩
    have sG1 := sG.trans sT
    have lG1 : SqL K G1 l (lines.map V.str) := sG1.seq hl
    have hG1 := sT _ _ hG
    have tG1 := tG.same sT
    have i3 : i < 3 := by omega
    refine ⟨rfl, _, rfl, _, rfl, l, _, rfl, .inl lG1, _, _, rfl, rfl, _, rfl, ?_⟩
    rw [List.length_map]
    refine ite2 (fun c1 => ?_) (fun c1 => ?_)
    · have c1' : i < lines.length := by
        have := of_decide_eq_true c1
        omega
      refine ⟨_, rfl, _, rfl, l, _, _, _, rfl, rfl, lG1, atI_nat (by rw [List.getElem?_map, List.getElem?_eq_getElem c1']; rfl), _, rfl, _, rfl, _, rfl, lines[i], hd, fw, ms, rfl, hb _ (List.getElem_mem c1'), fun t G2 s2 ht => ?_⟩
      have eh : headAt lines i = LG.namesIn lines[i] hd fw ms := by
        unfold headAt
        rw [et, List.getElem?_eq_getElem c1']
      rw [← eh] at ht
      have hG2 := s2 _ _ hG1
      have tG2 := tG1.same s2
      have sG2 := sG1.trans s2
      by_cases e0 : headAt lines i = []
      · rw [e0] at ht
        refine ⟨_, rfl, false, .inr (.inl ⟨[], ht, rfl⟩), iteT ⟨_, rfl, _, rfl, _, _, rfl, rfl, (by show 2 ≤ sizeLine; decide), fun t2 n2 => ?_⟩⟩
        have s3 := same_new n2 (.tup [.ref p, .int ((i : Nat) + 1 : Int)])
        refine q t2 p xs _ (sG2.trans s3) np ?_ (s3 _ _ hG2) ?_
        · rw [readHeads_bad i3 okG e0]
          exact .inl (.inl upd_same)
        · rw [readHeads_bad i3 okG e0]
          exact tG2.same s3
      · obtain ⟨n0, nr, en⟩ : ∃ n0 nr, headAt lines i = n0 :: nr := by
          cases hh : headAt lines i with
          | nil => exact absurd hh e0
          | cons a b => exact ⟨a, b, rfl⟩
        have lx := tG2.len
        rw [List.length_map, List.length_range] at lx
        refine ⟨_, rfl, true, .inr (.inl ⟨_, ht, ?_⟩), iteF ⟨_, rfl, .inl ⟨rfl, _, SqL.of hG2⟩, _, rfl, p, _, _, rfl, rfl, hG2, ?_, ?_⟩⟩
        · rw [en]
          rfl
        · rw [lx, sizeLine_eq]
          omega
        · refine ⟨_, _, _, _, _, xs ++ [.ref t], rfl, fun b o e => ?_, upd_same, ?_, fun j hj => ?_⟩
          · rw [upd_ne (ne_of_none e np)]
            exact sG2 _ _ e
          · rw [List.range_succ, List.map_append]
            exact (tG2.lst hG2).snoc ⟨t, rfl, tup_lst hG2 ht⟩
          · by_cases ej : j = i
            · rw [ej]
              exact e0
            · exact okG j (by omega)
    · have e0 : headAt lines i = [] := by
        have : lines[i]? = none := by
          rw [List.getElem?_eq_none_iff]
          have : ¬ ((i : Int) < (lines.length : Int)) := fun z => c1 (decide_eq_true z)
          omega
        unfold headAt
        rw [this]
        cases headsL[i]? <;> rfl
      refine ⟨(by show 0 ≤ sizeLine; decide), fun t nt => ?_⟩
      have s2 := same_new nt (.tup [])
      have ht : (upd G1 t (.tup [])) t = some (.tup []) := upd_same
      show _
      generalize upd G1 t (.tup []) = G2 at s2 ht ⊢
      refine ⟨_, rfl, false, .inr (.inl ⟨[], .inl (.inl ht), rfl⟩), iteT ⟨_, rfl, _, rfl, _, _, rfl, rfl, (by show 2 ≤ sizeLine; decide), fun t2 n2 => ?_⟩⟩
      have s3 := same_new n2 (.tup [.ref p, .int ((i : Nat) + 1 : Int)])
      refine q t2 p xs _ ((sG1.trans s2).trans s3) np ?_ (s3 _ _ (s2 _ _ hG1)) ?_
      · rw [readHeads_bad i3 okG e0]
        exact .inl (.inl upd_same)
      · rw [readHeads_bad i3 okG e0]
        exact (tG1.same s2).same s3
  · rintro σ G ⟨x3, x4, x5, x6, x7, xs, rfl, sG, hG, tG, okG⟩
    rw [List.length_map, hs3] at tG okG
    refine ⟨_, rfl, (by show 2 ≤ sizeLine; decide), fun t2 n2 => ?_⟩
    have s3 := same_new n2 (.tup [.ref p, .int 0])
    refine q t2 p xs _ (sG.trans s3) np ?_ (s3 _ _ hG) ?_
    · rw [readHeads_ok okG]
      exact .inl (.inl upd_same)
    · rw [readHeads_ok okG]
      exact tG.same s3
end
end K55
set_option Elab.async false
set_option linter.all false
set_option maxRecDepth 100000
set_option maxHeartbeats 4000000
namespace LG
open PySem L2
theorem inV_str (x : Str) (ns : List Str) : inV (.str x) (ns.map V.str) = ns.contains x := by
  unfold inV
  rw [List.any_map, List.contains_eq_any_beq]
  congr 1
  funext y
  show (y == x) = (x == y)
  by_cases h : y = x
  · rw [h]
  · have h1 : (y == x) = false := by simpa using h
    have h2 : (x == y) = false := by simpa using fun z : x = y => h z.symm
    rw [h1, h2]
theorem iteC {c : Bool} {A B : Prop} (hc : c = true) (h : A) : if c = true then A else B := by
  rw [if_pos hc]
  exact h
theorem iteN {c : Bool} {A B : Prop} (hc : c = false) (h : B) : if c = true then A else B := by
  rw [hc]
  exact iteF h
theorem flat_txt (ns : List Str) : (ns.map V.str).all flatV = true := by
  rw [List.all_eq_true]
  intro y hy
  obtain ⟨_, _, rfl⟩ := List.mem_map.mp hy
  rfl
/-- x in texts, x a text -/
def rInTxt (K : PySem.W.Frag) : R2 := fun x y H Q => ∃ (z : Str) (p : Addr) (ns : List Str), x = .str z ∧ y = .ref p ∧ (SqL K H p (ns.map V.str) ∨ SqT K H p (ns.map V.str)) ∧ Q (.bl (ns.contains z)) H
theorem op_in_txt {X : Cx} : OpR X (compareOp .In) (rInTxt X.K) := by
  intro pins s σ H x y v u Q I rx ry h
  obtain ⟨z, p, ns, rfl, rfl, hq, q⟩ := h
  refine op_in_seq pins s σ H _ _ v u Q I rx ry ⟨p, _, rfl, hq, rfl, flat_txt ns, ?_⟩
  rw [inV_str]
  exact q
/-- a text, or of a type that is no text's -/
def StrOr (K : PySem.W.Frag) (H : Hp) (v : V) : Prop := (∃ x, v = .str x) ∨ ∃ t, TyX K H v t ∧ PySem.W.kitOne K t (.type "str") = some false ∧ ∀ x, v ≠ .str x
def amongB (v : V) (ns : List Str) : Bool := match v with
  | .str x => ns.contains x
  | _ => false
theorem among_not {v : V} {ns : List Str} (h : ∀ x, v ≠ .str x) : amongB v ns = false := by
  cases v with
  | str x => exact absurd rfl (h x)
  | _ => rfl
end LG
namespace K55
open PySem L2 LG
section
variable {P : Program} {w : World} {K : PySem.W.Frag} {mg : Str → Option Value} {base : Heap}
def spAmong (K : PySem.W.Frag) : Sp := fun vs H Q _ => ∃ (v : V) (t : Addr) (ns : List Str), vs = [v, .ref t] ∧ StrOr K H v ∧ (SqL K H t (ns.map V.str) ∨ SqT K H t (ns.map V.str)) ∧ Q (.bl (amongB v ns)) H
theorem scAmong : FnScope ["value", "names"] ["value", "names"] (defScope sIsAmong) := ⟨rfl, rfl, rfl, by decide +kernel, rfl, by decide +kernel, by decide +kernel⟩
theorem ok_among {f : Addr} {fd : FuncData} (F : Fun K "is_among" "is_among" sIsAmong f fd) (T : Bltn mg) : FnOk P w K mg base CX0 1 f fd ["value", "names"] (spAmong K) := by
  refine F.ok scAmong (fun vs H Q E h => ?_) (fun cdv A outer s H vs Q E hr h => ?_)
  · obtain ⟨v, t, ns, rfl, _⟩ := h
    rfl
  obtain ⟨v, t, ns, rfl, ty, hq, q⟩ := h
  refine ⟨_, pss_one (ps_ret (pe_and (pe_callB call_isi rfl T.isinstance (by decide +kernel) (pa_cons (pv 0) (pa_cons (pe_bltn (v := .ty "str") (u := .type "str") rfl T.str (by decide +kernel) rfl) pa_nil))) (pe_one (pe_cmpR op_in_txt (pv 0) (pv 1) (by rfl))))), ?_⟩
  rcases ty with ⟨x, rfl⟩ | ⟨tv, ty, k, no⟩
  · refine ⟨_, rfl, .str x, .ty "str", .type "str", .type "str", true, rfl, .ty _, .base (.str x), if_pos (beq_self_eq_true _), _, rfl, iteT ⟨_, rfl, _, rfl, x, t, ns, rfl, rfl, hq, q⟩⟩
  · refine ⟨_, rfl, v, .ty "str", tv, .type "str", false, rfl, .ty _, ty, k, _, rfl, iteF ?_⟩
    rw [among_not no] at q
    exact q
def spLine (K : PySem.W.Frag) : Sp := fun vs H Q _ => ∃ (l c a s : Addr) (ws C A S : List Str), vs = [.ref l, .ref c, .ref a, .ref s] ∧ SqL K H l (ws.map V.str) ∧ SqT K H c (C.map V.str) ∧ SqT K H a (A.map V.str) ∧ SqT K H s (S.map V.str) ∧ S.length ≤ 1000 ∧ ∀ H', Same H H' → Q (.bl (isLine ws C A S)) H'
theorem scLine : FnScope ["words", "calls", "answers", "marks"] ["words", "calls", "answers", "marks"] (defScope sIsLine) := ⟨rfl, rfl, rfl, by decide +kernel, rfl, by decide +kernel, by decide +kernel⟩
theorem ok_line {f : Addr} {fd : FuncData} (F : Fun K "is_line_of_step" "is_line_of_step" sIsLine f fd) (T : Bltn mg) (hB : ∃ t, mg "BROKEN" = some (.str BRK t)) : FnOk P w K mg base CX0 1 f fd ["words", "calls", "answers", "marks"] (spLine K) := by
  refine F.ok scLine (fun vs H Q E h => ?_) (fun cdv A0 outer st H vs Q E hr h => ?_)
  · obtain ⟨l, c, a, s, ws, C, A, S, rfl, _⟩ := h
    rfl
  obtain ⟨l, c, a, s, ws, C, A, S, rfl, hl, hc, ha, hs, lS, q⟩ := h
  obtain ⟨tB, mB⟩ := hB
  refine ⟨_, pss_cons (ps_if (PW.pt (pw_or (pt_cmpR op_ne (pe_callB call_len_seq rfl T.len PySem.boot_len (pa_cons (pv 0) pa_nil)) pe_int (nomark _)) (pw_or1 (pt_cmpR op_ne (pe_ix ix_list (pv 0) pe_int (fun _ _ => rfl)) pe_str (nomark _)))))
      (pss_one (ps_ret pe_bl)) pss_nil)
    (pss_one (ps_ret (pe_and (pe_cmpR op_in_txt (pe_ix ix_list (pv 0) pe_int (fun _ _ => rfl)) (pv 3) (by rfl)) (pe_and (pe_cmpR op_in_txt (pe_ix ix_list (pv 0) pe_int (fun _ _ => rfl)) (pv 1) (by rfl))
      (pe_and (pe_cmpR op_in_txt (pe_ix ix_list (pv 0) pe_int (fun _ _ => rfl)) (pv 2) (by rfl)) (pe_one (pe_cmpR op_in_txt (pe_ix ix_list (pv 0) pe_int (fun _ _ => rfl)) (pe_op op_catA (pv 3) (pe_tup (pa_cons (pe_glob (v := .str BRK) rfl mB ⟨_, rfl⟩) pa_nil))) (by rfl)))))))), ?_⟩
  refine ⟨_, rfl, l, _, rfl, .inl hl, rfl, _, rfl, ?_⟩
  rw [List.length_map]
  by_cases h5 : ws.length = 5
  · obtain ⟨x0, x1, x2, x3, x4, rfl⟩ : ∃ x0 x1 x2 x3 x4, ws = [x0, x1, x2, x3, x4] := by
      match ws, h5 with
      | [x0, x1, x2, x3, x4], _ => exact ⟨_, _, _, _, _, rfl⟩
    refine iteF ⟨_, rfl, l, _, _, _, rfl, rfl, hl, atI_nat (j := 0) rfl, rfl, _, rfl, ?_⟩
    have e : isLine [x0, x1, x2, x3, x4] C A S = (decide (x0 = "step") && (S.contains x1 && (C.contains x2 && (A.contains x3 && (S ++ [BRK]).contains x4)))) := rfl
    rw [e] at q
    have i1 : atI ([x0, x1, x2, x3, x4].map V.str) 1 = some (.str x1) := rfl
    have i2 : atI ([x0, x1, x2, x3, x4].map V.str) 2 = some (.str x2) := rfl
    have i3 : atI ([x0, x1, x2, x3, x4].map V.str) 3 = some (.str x3) := rfl
    have i4 : atI ([x0, x1, x2, x3, x4].map V.str) 4 = some (.str x4) := rfl
    by_cases h0 : x0 = "step"
    · rw [decide_eq_true h0, Bool.true_and] at q
      subst h0
      refine iteF ⟨_, rfl, l, _, _, _, rfl, rfl, hl, i1, _, rfl, _, s, S, rfl, rfl, .inr hs, _, rfl, ?_⟩
      cases e1 : S.contains x1 with
      | false =>
        rw [e1] at q
        exact iteF (q H (Same.refl H))
      | true =>
        rw [e1, Bool.true_and] at q
        refine iteT ⟨_, rfl, l, _, _, _, rfl, rfl, hl, i2, _, rfl, _, c, C, rfl, rfl, .inr hc, _, rfl, ?_⟩
        cases e2 : C.contains x2 with
        | false =>
          rw [e2] at q
          exact iteF (q H (Same.refl H))
        | true =>
          rw [e2, Bool.true_and] at q
          refine iteT ⟨_, rfl, l, _, _, _, rfl, rfl, hl, i3, _, rfl, _, a, A, rfl, rfl, .inr ha, _, rfl, ?_⟩
          cases e3 : A.contains x3 with
          | false =>
            rw [e3] at q
            exact iteF (q H (Same.refl H))
          | true =>
            rw [e3, Bool.true_and] at q
            refine iteT ⟨_, rfl, l, _, _, _, rfl, rfl, hl, i4, _, rfl, (by show 1 ≤ sizeLine; decide), fun t nt => ?_⟩
            have s1 := same_new nt (.tup [V.str BRK])
            have ht : (upd H t (.tup [V.str BRK])) t = some (.tup [V.str BRK]) := upd_same
            show _
            generalize upd H t (.tup [V.str BRK]) = H1 at s1 ht ⊢
            have hs1 := same_tup s1 hs
            refine ⟨s, t, S.map V.str, [V.str BRK], rfl, rfl, hs1, .inl (.inl ht), by rw [List.length_map, List.length_singleton, sizeLine_eq]; omega, fun e => ?_, fun _ e => (nomatch e), fun _ _ p np => ?_⟩
            · have : S = [] := List.map_eq_nil_iff.mp e
              subst this
              exact ⟨x4, t, [BRK], rfl, rfl, .inr (.inl (.inl ht)), q H1 s1⟩
            · have s2 := same_new np (.tup (S.map V.str ++ [V.str BRK]))
              refine ⟨x4, p, S ++ [BRK], rfl, rfl, .inr (.inl (.inl ?_)), q _ (s1.trans s2)⟩
              rw [List.map_append]
              exact upd_same
    · rw [decide_eq_false h0, Bool.false_and] at q
      have ne : (!decide ((V.str x0) = V.str "step")) = true := by simp [h0]
      exact iteC ne (q H (Same.refl H))
  · have e : isLine ws C A S = false := by
      unfold isLine
      split
      · rename_i r s c a g
        exact absurd rfl h5
      · rfl
    rw [e] at q
    have ne : (!decide (V.int (ws.length : Nat) = V.int 5)) = true := by
      have : ¬ ((ws.length : Int) = 5) := by omega
      simp [this]
    exact iteC ne (iteT (q H (Same.refl H)))
end
end K55
set_option Elab.async false
set_option linter.all false
set_option maxRecDepth 100000
set_option maxHeartbeats 4000000
namespace LG
open PySem L2
/-! ### errors that keep one value, raised -/
def vf (v : V) : List (Str × V) := [(("value" : Str), v)]
theorem vf_get (v : V) : (vf v).lookup ("value" : Str) = some v := by
  unfold vf
  simp [List.lookup]
def spInit (K : PySem.W.Frag) : Sp := fun vs H Q _ => ∃ (a C : Addr) (v : V), vs = [.ref a, v] ∧ OexC K C ∧ PySem.W.findIn K (.ref C) "value" = some none ∧ H a = some (exo a C none) ∧
  ∀ d, H d = none → d ≠ a → Q .non (upd (upd H d (exd d (vf v))) a (exo a C (some d)))
/-- a class of errors by its name -/
structure ECl (K : PySem.W.Frag) (mg : Str → Option Value) (fI : Addr) (x : Str) (C : Addr) : Prop where
  mg : mg x = some (.ref C)
  er : ErrC K C
  ini : PySem.W.findIn K (.ref C) "__init__" = some (some (.ref fI))
  no : PySem.W.findIn K (.ref C) "value" = some none
/-- the init as a callee -/
structure Ini (P : Program) (w : World) (K : PySem.W.Frag) (mg : Str → Option Value) (base : Heap) (fI : Addr) : Prop where
  ex : ∃ fd, FnOk P w K mg base CX0 1 fI fd ["self", "value"] (spInit K) ∧ Binds K fd ["self", "value"] []
  ty : PySem.W.typeIn K (.ref fI) = some (.type "function")
/-- any reading is as good as one from which it follows -/
theorem pe_mono {X : Cx} {e : Expr} {te : TE} (h : PE X e te) : PE X e (fun σ H Q => ∃ R : VK, te σ H R ∧ ∀ v H1, R v H1 → Q v H1) :=
  ⟨fun pins s σ H Q I ⟨R, q, k⟩ => thn (h.run pins s σ H R I q) fun u s1 ⟨v, H1, I1, r, q1⟩ => ⟨v, H1, I1, r, k v H1 q1⟩⟩
/-- raise X(e): the error's own dict at a new d -/
def tErrR (C : Addr) (W : WX) (te : TE) : TS := fun _ σ H => te σ H fun v H1 => ∀ d, H1 d = none → W (.ref C) (some d) σ (upd H1 d (.xd (vf v)))
theorem ps_err {X : Cx} {C fI : Addr} {x : Str} {e : Expr} {te : TE} {W : WX} {p1 pos pos2 : Pos} (hc : X.calm = true) (I : Ini X.prog X.w X.K X.mg X.base fI) (c : ECl X.K X.mg fI x C) (hr : Room 2 X.A) (tk : Takes X W) (he : PE X e te) (hg : Gl X x) (hdb : (x == ("__debug__" : Str)) = false := by decide)
    (hs : starEach [e] X.env = (false, eval e X.env) :: starEach [] X.env := by rfl) (hpl : (backTo pos (starEach [] X.env)).any (·.1) = false := by rfl) :
    PS X (.Raise (some (.Call (.Name x p1) [e] [] pos)) none pos2) (tErrR C W te) := by
  obtain ⟨fd, G, bG⟩ := I.ex
  have h := ps_raise (pos := pos2) hc tk (pmk_oex (p := p1) (dvs := []) (pos := pos) c.er.ox c.ini I.ty G hr bG .nil pass0 hg c.mg (pa_cons (pe_mono he) pa_nil hs) hdb hs hpl)
  refine ⟨fun pins s σ H D J q => h.run pins s σ H D J ⟨_, q, ?_⟩⟩
  intro v H1 k
  refine ⟨(by show 1 ≤ 1000; decide), fun a na => ⟨a, C, v, rfl, c.er.ox, c.no, upd_same, fun d nd ne => ⟨rfl, d, vf v, upd_same, ?_, ?_, ?_⟩⟩⟩
  · rw [upd_ne ne, upd_same]
  · rw [upd_ne ne] at nd
    exact nd
  · rw [upd_ne ne] at nd
    have e : upd (del (upd (upd (upd H1 a (exo a C none)) d (exd d (vf v))) a (exo a C (some d))) a) d (.xd (vf v)) = upd H1 d (.xd (vf v)) := by
      funext b
      by_cases hb : b = d
      · rw [hb, upd_same, upd_same]
      · rw [upd_ne hb, upd_ne hb]
        by_cases ha : b = a
        · rw [ha, del_same, na]
        · rw [del_ne ha, upd_ne ha, upd_ne hb, upd_ne ha]
    rw [e]
    exact k d nd
end LG
set_option Elab.async false
set_option linter.all false
set_option maxRecDepth 100000
set_option maxHeartbeats 8000000
namespace LG
open PySem L2
/-! ### rows by (state, call) -/
abbrev Goals := List ((Str × Str) × (Str × Str))
def kT (k : Str × Str) : List Key := [.inr k.1, .inr k.2]
inductive GR (K : PySem.W.Frag) (H : Hp) : List (List Key × V) → Goals → Prop
  | nil : GR K H [] []
  | cons {k x : Str × Str} {t : Addr} {kvs : List (List Key × V)} {g : Goals} : SqT K H t [.str x.1, .str x.2] → GR K H kvs g → GR K H ((kT k, .ref t) :: kvs) ((k, x) :: g)
theorem GR.same {K : PySem.W.Frag} {H H' : Hp} {kvs : List (List Key × V)} {g : Goals} (e : Same H H') (h : GR K H kvs g) : GR K H' kvs g := by
  induction h with
  | nil => exact .nil
  | cons a _ ih => exact .cons (same_tup e a) ih
theorem GR.len {K : PySem.W.Frag} {H : Hp} {kvs : List (List Key × V)} {g : Goals} (h : GR K H kvs g) : kvs.length = g.length := by
  induction h with
  | nil => rfl
  | cons _ _ ih => rw [List.length_cons, List.length_cons, ih]
theorem kT_inj {a b : Str × Str} : kT a = kT b ↔ a = b := by
  constructor
  · intro h
    simp [kT] at h
    exact Prod.ext h.1 h.2
  · rintro rfl
    rfl
theorem GR.snoc {K : PySem.W.Frag} {H : Hp} {kvs : List (List Key × V)} {g : Goals} {k x : Str × Str} {t : Addr} (h : GR K H kvs g) (a : SqT K H t [.str x.1, .str x.2]) : GR K H (kvs ++ [(kT k, .ref t)]) (g ++ [(k, x)]) := by
  induction h with
  | nil => exact .cons a .nil
  | cons b _ ih => exact .cons b ih
theorem GR.val {K : PySem.W.Frag} {H : Hp} {kvs : List (List Key × V)} {g : Goals} (h : GR K H kvs g) (k : Str × Str) :
    (g.lookup k = none ∧ valV kvs (kT k) = none) ∨ ∃ x t, g.lookup k = some x ∧ valV kvs (kT k) = some (.ref t) ∧ SqT K H t [.str x.1, .str x.2] := by
  induction h with
  | nil => exact .inl ⟨rfl, rfl⟩
  | @cons j x t kvs g a _ ih =>
    by_cases e : j = k
    · subst e
      exact .inr ⟨x, t, by simp [List.lookup], valV_pos rfl, a⟩
    · have ne : (k == j) = false := by simpa using fun z : k = j => e z.symm
      have l : List.lookup k ((j, x) :: g) = List.lookup k g := by simp [List.lookup, ne]
      rw [l, valV_neg (fun z => e (kT_inj.mp z))]
      exact ih
theorem GR.upd {K : PySem.W.Frag} {H : Hp} {kvs : List (List Key × V)} {g : Goals} {p : Addr} {o : HO} {zs : List (List Key × V)} (hp : H p = some (.dT zs)) (h : GR K H kvs g) : GR K (upd H p o) kvs g := by
  induction h with
  | nil => exact .nil
  | cons a _ ih =>
    refine .cons ?_ ih
    rcases a with (q | ⟨ob, q⟩) | q
    · exact .inl (.inl (by rw [upd_ne (fun z => by rw [z, hp] at q; cases q)]; exact q))
    · exact .inl (.inr ⟨ob, by rw [upd_ne (fun z => by rw [z, hp] at q; cases q)]; exact q⟩)
    · exact .inr q
/-! ### steps by (mark, call, answer) -/
def kT3 (k : Str × Str × Str) : List Key := [.inr k.1, .inr k.2.1, .inr k.2.2]
theorem kT3_inj {a b : Str × Str × Str} : kT3 a = kT3 b ↔ a = b := by
  constructor
  · intro h
    simp [kT3] at h
    exact Prod.ext h.1 (Prod.ext h.2.1 h.2.2)
  · rintro rfl
    rfl
def kvW (g : Steps) : List (List Key × V) := g.map fun e => (kT3 e.1, V.str e.2)
theorem kvW_len (g : Steps) : (kvW g).length = g.length := List.length_map _
theorem kvW_val (g : Steps) (k : Str × Str × Str) : valV (kvW g) (kT3 k) = (g.lookup k).map V.str := by
  induction g with
  | nil => rfl
  | cons e g ih =>
    obtain ⟨j, x⟩ := e
    by_cases c : j = k
    · subst c
      have : List.lookup j ((j, x) :: g) = some x := by simp [List.lookup]
      rw [this]
      exact valV_pos rfl
    · have ne : (k == j) = false := by simpa using fun z : k = j => c z.symm
      have l : List.lookup k ((j, x) :: g) = List.lookup k g := by simp [List.lookup, ne]
      rw [l, ← ih]
      exact valV_neg (fun z => c (kT3_inj.mp z))
theorem kvW_app (g h : Steps) : kvW (g ++ h) = kvW g ++ kvW h := List.map_append
theorem step_bad {C A S : List Str} {g : Steps} {line : Str} (h : isLine (Txt.split line sp1) C A S = false) : goalStep C A S g line = none := by
  unfold goalStep
  split
  · rename_i e
    rw [e] at h
    rw [if_neg (by rw [h]; simp)]
  · rfl
theorem step_two {C A S : List Str} {g : Steps} {line r s c a t x : Str} (e : Txt.split line sp1 = [r, s, c, a, t]) (h : g.lookup (s, c, a) = some x) : goalStep C A S g line = none := by
  unfold goalStep
  rw [e]
  show (if _ then _ else _) = _
  rw [if_neg (by rw [h]; simp)]
theorem step_ok {C A S : List Str} {g : Steps} {line r s c a t : Str} (e : Txt.split line sp1 = [r, s, c, a, t]) (hl : isLine [r, s, c, a, t] C A S = true) (h : g.lookup (s, c, a) = none) : goalStep C A S g line = some (g ++ [((s, c, a), t)]) := by
  unfold goalStep
  rw [e]
  show (if _ then _ else _) = _
  rw [if_pos ⟨hl, by rw [h]; rfl⟩]
theorem line_form {ws C A S : List Str} (h : isLine ws C A S = true) : ∃ r s c a t, ws = [r, s, c, a, t] := by
  unfold isLine at h
  split at h
  · exact ⟨_, _, _, _, _, rfl⟩
  · cases h
def GoalsW (H : Hp) (a : Addr) (g : Steps) : Prop := H a = some (.dT (kvW g))
/-- to be read -/
def GoalsAt (H : Hp) (a : Addr) (g : Steps) : Prop := Rd H a (.dT (kvW g))
theorem rd_same {H H' : Hp} {a : Addr} {u : HO} (e : Same H H') (h : Rd H a u) : Rd H' a u := h.elim (fun q => .inl (e _ _ q)) fun ⟨o, q⟩ => .inr ⟨o, e _ _ q⟩
theorem GoalsAt.same {H H' : Hp} {a : Addr} {g : Steps} (e : Same H H') (h : GoalsAt H a g) : GoalsAt H' a g := rd_same e h
end LG
namespace K55
open PySem L2 LG
section
variable {P : Program} {w : World} {K : PySem.W.Frag} {mg : Str → Option Value} {base : Heap} {fI : Addr}
def spSteps (K : PySem.W.Frag) (CB : Addr) : Sp := fun vs H Q E => ∃ (l c a s : Addr) (lines C A S : List Str), vs = [.ref l, .ref c, .ref a, .ref s] ∧ SqL K H l (lines.map V.str) ∧ (∀ t ∈ lines, t.length ≤ 3900) ∧ lines.length ≤ 4000 ∧
  SqT K H c (C.map V.str) ∧ SqT K H a (A.map V.str) ∧ SqT K H s (S.map V.str) ∧ C.length ≤ 1000 ∧ S.length ≤ 1000 ∧
  (∀ g, readGoals lines C A S = .inr g → ∀ p H', Same H H' → H p = none → GoalsAt H' p g → Q (.ref p) H') ∧
  (∀ n : Nat, readGoals lines C A S = .inl n → ∀ d H', Same H H' → H d = none → H' d = some (.xd (vf (.int n))) → E (.ref CB) (some d) H')
abbrev nG : List Str := ["lines", "calls", "answers", "marks", "goals", "at", "words"]
theorem scSteps : FnScope nG ["lines", "calls", "answers", "marks"] (defScope sReadSteps) := ⟨rfl, rfl, rfl, by decide +kernel, rfl, by decide +kernel, by decide +kernel⟩
theorem ok_steps {f g hA CB : Addr} {fd gd : FuncData} (F : Fun K "read_steps" "read_steps" sReadSteps f fd) (T : Bltn mg) (hH : mg "HEADS" = some (.ref hA)) (HA : HeadsAt K hA) (I : Ini P w K mg base fI) (cB : ECl K mg fI "BadWatch" CB)
    (G : FnOk P w K mg base CX0 1 g gd ["words", "calls", "answers", "marks"] (spLine K)) (mG : mg "is_line_of_step" = some (.ref g)) (kG : PySem.W.keepIn K (.ref g) = true) (bG : Binds K gd ["words", "calls", "answers", "marks"] []) :
    FnOk P w K mg base (L2.CX P w) 3 f fd ["lines", "calls", "answers", "marks"] (spSteps K CB) := by
  refine F.okX scSteps (fun vs H Q E h => ?_) (fun cdv A0 outer st H vs Q E hr h => ?_)
  · obtain ⟨l, c, a, s, lines, C, A, S, rfl, _⟩ := h
    rfl
  obtain ⟨l, c, a, s, lines, C, A, S, rfl, hl, hb, hn, hc, ha, hs, lC, lS, qok, qbad⟩ := h
  have hu := hu_of hr
  have r1 : Room 1 _ := hr.mono (by decide)
  have tk := takes_of (X := cxOf (L2.CX P w) P w K mg base nG "read_steps" (defScope sReadSteps) f cdv A0 outer st H E) rfl rfl rfl rfl
  refine ⟨_, pss_cons (ps_set (i := 4) scSteps.nd rfl (Or.inl rfl) pe_dnewT)
    (pss_cons (ps_for (passes_of rfl) rfl (pi_range2 rfl T.range (pa_cons (pe_callB call_len_seq rfl T.len PySem.boot_len (pa_cons (pe_glob (v := .ref hA) rfl hH rfl) pa_nil)) (pa_cons (pe_callB call_len_seq rfl T.len PySem.boot_len (pa_cons (pv 0) pa_nil)) pa_nil))) (pg_name (i := 5) scSteps.nd rfl (Or.inl rfl))
      (pss_cons (ps_set (i := 6) scSteps.nd rfl (Or.inl rfl) (pe_split (pe_ix ix_list (pv 0) (pv 5) (fun _ _ => rfl)) pe_str))
      (pss_cons (ps_if (PW.pt (pw_or (pt_not (pt_val (pe_call G r1 rfl mG kG bG .nil pass0 (pa_cons (pv 6) (pa_cons (pv 1) (pa_cons (pv 2) (pa_cons (pv 3) pa_nil))))))) (pw_or1 (pt_cmp (pc_din hu (pe_tup (pa_cons (pe_ix ix_list (pv 6) pe_int (fun _ _ => rfl)) (pa_cons (pe_ix ix_list (pv 6) pe_int (fun _ _ => rfl)) (pa_cons (pe_ix ix_list (pv 6) pe_int (fun _ _ => rfl)) pa_nil)))) (pv 4))))))
        (pss_one (ps_err rfl I cB hr tk (pe_op op_add (pv 5) pe_int) rfl)) pss_nil)
      (pss_one (ps_dput hu (pv 4) (pe_tup (pa_cons (pe_ix ix_list (pv 6) pe_int (fun _ _ => rfl)) (pa_cons (pe_ix ix_list (pv 6) pe_int (fun _ _ => rfl)) (pa_cons (pe_ix ix_list (pv 6) pe_int (fun _ _ => rfl)) pa_nil)))) (pe_ix ix_list (pv 6) pe_int (fun _ _ => rfl)) rfl)))))
    (pss_one (ps_ret (pv 4)))), ?_⟩
  intro p np
  have hp : (upd H p (.dT [])) p = some (.dT []) := upd_same
  have s1 := same_new np (.dT [])
  show _
  generalize upd H p (.dT []) = H1 at hp s1 ⊢
  obtain ⟨hs0, hs3, hsT, _⟩ := HA.at
  refine ⟨hA, _, rfl, .inr (hsT H1), _, rfl, l, _, rfl, .inl (s1.seq hl), _, _, rfl, ?_⟩
  have e3 : ((hs0.map V.ref).length : Int) = 3 := by
    rw [List.length_map, hs3]
    rfl
  have en : ((lines.map V.str).length : Int) = (lines.length : Int) := by rw [List.length_map]
  rw [e3, en]
  refine ⟨⟨by decide, by decide, by omega, by omega⟩, ?_⟩
  have start : goalsFrom C A S (lines.drop 3) 3 [] = goalsFrom C A S (lines.drop (3 + 0)) (3 + 0) [] := rfl
  refine for_range (lo := 3) (n := ((lines.length : Int) - 3).toNat) (fun i σ G => ∃ x5 x6 g, σ = [some (.ref l), some (.ref c), some (.ref a), some (.ref s), some (.ref p), x5, x6] ∧ Same H G ∧ GoalsW G p g ∧ g.length ≤ i ∧ goalsFrom C A S (lines.drop 3) 3 [] = goalsFrom C A S (lines.drop (3 + i)) (3 + i) g)
    ⟨_, _, [], rfl, s1, hp, by simp, rfl⟩ ?_ ?_
  · rintro i σ G hi ⟨x5, x6, g, rfl, sG, hG, hgi, eG⟩
    have lt : 3 + i < lines.length := by omega
    have lG := sG.seq hl
    rw [List.drop_eq_getElem_cons lt] at eG
    have i3 : ((3 : Int) + (i : Int)) = ((3 + i : Nat) : Int) := by omega
    refine ⟨_, rfl, _, rfl, l, _, _, _, rfl, rfl, lG, ?_, ⟨_, rfl⟩, lines[3 + i], sp1, rfl, rfl, rfl, ?_, fun q nq => ?_⟩
    · rw [i3]
      exact atI_nat (by rw [List.getElem?_map, List.getElem?_eq_getElem lt]; rfl)
    · have := hb _ (List.getElem_mem lt)
      rw [sizeLine_eq]
      omega
    have hws : isLine (Txt.split lines[3 + i] sp1) C A S = isLine (Txt.split lines[3 + i] sp1) C A S := rfl
    generalize hw : Txt.split lines[3 + i] sp1 = ws at hws
    have hq : (upd G q (.lst (ws.map V.str))) q = some (.lst (ws.map V.str)) := upd_same
    have s2 := same_new nq (.lst (ws.map V.str))
    show _
    generalize upd G q (.lst (ws.map V.str)) = G1 at hq s2 ⊢
    have sG1 := sG.trans s2
    have hq' : SqL K G1 q (ws.map V.str) := SqL.of hq
    refine ⟨_, rfl, _, rfl, _, rfl, _, rfl, q, c, a, s, ws, C, A, S, rfl, hq', same_tup sG1 hc, same_tup sG1 ha, same_tup sG1 hs, lS, fun Gx sx => ⟨_, rfl, ?_⟩⟩
    have sGx := sG1.trans sx
    have hqx := sx.seq hq'
    have hGx : Gx p = some (.dT (kvW g)) := sx _ _ (s2 _ _ hG)
    cases hline : isLine ws C A S with
    | false =>
      refine iteT (iteT ⟨_, rfl, _, _, rfl, rfl, fun d nd => ?_⟩)
      have s3 := same_new nd (.xd (vf (.int (3 + (i : Int) + 1))))
      have eb : readGoals lines C A S = .inl (3 + i + 1) := by
        show goalsFrom C A S (lines.drop 3) 3 [] = _
        rw [eG]
        show (match goalStep C A S g lines[3 + i] with | none => _ | some g' => _) = _
        rw [step_bad (by rw [hw]; exact hline)]
      refine qbad _ eb d _ (sGx.trans s3) (sGx.free nd) ?_
      rw [upd_same]
      have e4 : (((3 + i + 1 : Nat) : Nat) : Int) = 3 + (i : Int) + 1 := by omega
      rw [e4]
    | true =>
      obtain ⟨x0, x1, x2, x3, x4, rfl⟩ := line_form hline
      have i1 : atI ([x0, x1, x2, x3, x4].map V.str) 1 = some (.str x1) := rfl
      have i2 : atI ([x0, x1, x2, x3, x4].map V.str) 2 = some (.str x2) := rfl
      have i3' : atI ([x0, x1, x2, x3, x4].map V.str) 3 = some (.str x3) := rfl
      have i4 : atI ([x0, x1, x2, x3, x4].map V.str) 4 = some (.str x4) := rfl
      refine iteF ⟨_, rfl, q, _, _, _, rfl, rfl, hqx, i1, _, rfl, q, _, _, _, rfl, rfl, hqx, i2, _, rfl, q, _, _, _, rfl, rfl, hqx, i3', (by show 3 ≤ sizeLine; decide), fun t nt => ?_⟩
      have s3 := same_new nt (.tup [.str x1, .str x2, .str x3])
      have ht : (upd Gx t (.tup [.str x1, .str x2, .str x3])) t = some (.tup ((kT3 (x1, x2, x3)).map kV)) := upd_same
      show _
      generalize upd Gx t (.tup [.str x1, .str x2, .str x3]) = G2 at s3 ht ⊢
      have hG2 := s3 _ _ hGx
      have sG2 := sGx.trans s3
      refine ⟨_, rfl, p, _, rfl, DGet.t hG2 ht, _, rfl, ?_⟩
      rw [kvW_val]
      cases lk : g.lookup (x1, x2, x3) with
      | none =>
        refine iteF ?_
        have hq2 := s3.seq hqx
        refine ⟨_, rfl, q, _, _, _, rfl, rfl, hq2, i4, _, rfl, _, rfl, q, _, _, _, rfl, rfl, hq2, i1, _, rfl, q, _, _, _, rfl, rfl, hq2, i2, _, rfl, q, _, _, _, rfl, rfl, hq2, i3', (by show 3 ≤ sizeLine; decide), fun tk ntk => ?_⟩
        have s5 := same_new ntk (.tup [.str x1, .str x2, .str x3])
        have htk : (upd G2 tk (.tup [.str x1, .str x2, .str x3])) tk = some (.tup ((kT3 (x1, x2, x3)).map kV)) := upd_same
        show _
        generalize upd G2 tk (.tup [.str x1, .str x2, .str x3]) = G4 at s5 htk ⊢
        have hG4 := s5 _ _ hG2
        have sG4 := sG2.trans s5
        refine ⟨p, _, rfl, DPut.t hG4 htk (by rw [kvW_len, sizeLine_eq]; omega), ?_⟩
        rw [putK_new _ (by rw [kvW_val, lk]; rfl)]
        refine ⟨_, _, g ++ [((x1, x2, x3), x4)], rfl, fun b o e => ?_, ?_, ?_, ?_⟩
        · rw [upd_ne (ne_of_none e np)]
          exact sG4 _ _ e
        · show upd _ p _ p = _
          rw [kvW_app]
          exact upd_same
        · rw [List.length_append, List.length_singleton]
          omega
        · rw [eG]
          show (match goalStep C A S g lines[3 + i] with | none => _ | some g' => _) = _
          rw [step_ok hw hline lk]
          rfl
      | some x =>
        refine iteT ⟨_, rfl, _, _, rfl, rfl, fun d nd => ?_⟩
        have s4 := same_new nd (.xd (vf (.int (3 + (i : Int) + 1))))
        have eb : readGoals lines C A S = .inl (3 + i + 1) := by
          show goalsFrom C A S (lines.drop 3) 3 [] = _
          rw [eG]
          show (match goalStep C A S g lines[3 + i] with | none => _ | some g' => _) = _
          rw [step_two hw lk]
        refine qbad _ eb d _ (sG2.trans s4) (sG2.free nd) ?_
        rw [upd_same]
        have e4 : (((3 + i + 1 : Nat) : Nat) : Int) = 3 + (i : Int) + 1 := by omega
        rw [e4]
  · rintro σ G ⟨x5, x6, g, rfl, sG, hG, hgi, eG⟩
    have ed : lines.drop (3 + ((lines.length : Int) - 3).toNat) = [] := List.drop_of_length_le (by omega)
    rw [ed] at eG
    have eR : readGoals lines C A S = .inr g := by
      show goalsFrom C A S (lines.drop 3) 3 [] = _
      rw [eG]
      rfl
    exact ⟨_, rfl, qok g eR p G sG np (.inl hG)⟩
end
end K55
set_option Elab.async false
set_option linter.all false
set_option maxRecDepth 100000
set_option maxHeartbeats 8000000
namespace LG
open PySem L2
/-- what the written part says of the class of devices -/
structure DevCl (K : PySem.W.Frag) (mg : Str → Option Value) (C : Addr) : Prop where
  mg : mg "Watch" = some (.ref C)
  cl : Cls K C
  nt : NoAttr K C "text"
  nc : NoAttr K C "calls"
  na : NoAttr K C "answers"
  ns : NoAttr K C "marks"
  ng : NoAttr K C "_goals"
def devF (T : Str) (c a s g : Addr) : List (Str × V) := [("text", .str T), ("calls", .ref c), ("answers", .ref a), ("marks", .ref s), ("_goals", .ref g)]
theorem put_new {f : Str} {v : V} : ∀ {fs : List (Str × V)}, (∀ p ∈ fs, p.1 ≠ f) → putF f v fs = fs ++ [(f, v)]
  | [], _ => rfl
  | (g, x) :: r, h => by
    show (if g = f then _ else _) = _
    rw [if_neg (h _ List.mem_cons_self), put_new fun p hp => h p (List.mem_cons_of_mem _ hp)]
    rfl
/-- a device of the text T, read as D -/
def DevAt (K : PySem.W.Frag) (H : Hp) (x C : Addr) (T : Str) (D : Wat) : Prop := ∃ dx c a s g, H x = some (.ins C dx (devF T c a s g)) ∧ SqT K H c (D.calls.map V.str) ∧ SqT K H a (D.answers.map V.str) ∧ SqT K H s (D.marks.map V.str) ∧ GoalsAt H g D.steps
theorem DevAt.same {K : PySem.W.Frag} {H H' : Hp} {x C : Addr} {T : Str} {D : Wat} (e : Same H H') (h : DevAt K H x C T D) : DevAt K H' x C T D := by
  obtain ⟨dx, c, a, s, g, h1, h2, h3, h4, h5⟩ := h
  exact ⟨dx, c, a, s, g, e _ _ h1, same_tup e h2, same_tup e h3, same_tup e h4, h5.same e⟩
def parseV (v : V) : Sum Nat Wat := match v with
  | .str T => parse T
  | _ => .inl 0
theorem parse_heads {T : Str} {c a s : List Str} {g : Steps} (h : readHeads (Txt.split T nl1) = ([c, a, s], 0)) : parse T = if s.contains BRK = true then .inl 3 else match readGoals (Txt.split T nl1) c a s with | .inl n => .inl n | .inr g => .inr ⟨c, a, s, g⟩ := by
  unfold parse
  show (match readHeads (Txt.split T nl1) with | ([c, a, s], 0) => _ | (_, n) => _) = _
  rw [h]
  rfl
theorem namesIn_len (l h : Str) (a b : Int) (hb : 0 ≤ b) : ((LG.namesIn l h a b).length : Int) ≤ b := by
  unfold LG.namesIn
  show (((if _ then _ else _ : List Str).length : Nat) : Int) ≤ b
  split
  · simpa using hb
  · rename_i c
    split
    · simpa using hb
    · exact Classical.byContradiction fun z => c (.inr fun y => z y.2)
theorem headAt_len (lines : List Str) (i : Nat) : (headAt lines i).length ≤ 4 := by
  unfold headAt
  match i with
  | 0 => cases h : lines[0]? with
    | none => simp
    | some l =>
      have := namesIn_len l "calls" 1 3 (by decide)
      show (LG.namesIn l "calls" 1 3).length ≤ 4
      omega
  | 1 => cases h : lines[1]? with
    | none => simp
    | some l =>
      have := namesIn_len l "answers" 2 3 (by decide)
      show (LG.namesIn l "answers" 2 3).length ≤ 4
      omega
  | 2 => cases h : lines[2]? with
    | none => simp
    | some l =>
      have := namesIn_len l "marks" 1 4 (by decide)
      show (LG.namesIn l "marks" 1 4).length ≤ 4
      omega
  | n + 3 => simp [headsL]
theorem heads_cases (lines : List Str) : (∃ c a s, readHeads lines = ([c, a, s], 0) ∧ c.length ≤ 4 ∧ s.length ≤ 4) ∨ ∃ r n, readHeads lines = (r, n + 1) := by
  unfold readHeads
  by_cases h0 : headAt lines 0 = []
  · rw [if_pos h0]
    exact .inr ⟨_, _, rfl⟩
  · rw [if_neg h0]
    by_cases h1 : headAt lines 1 = []
    · rw [if_pos h1]
      exact .inr ⟨_, _, rfl⟩
    · rw [if_neg h1]
      by_cases h2 : headAt lines 2 = []
      · rw [if_pos h2]
        exact .inr ⟨_, _, rfl⟩
      · rw [if_neg h2]
        exact .inl ⟨_, _, _, rfl, headAt_len _ _, headAt_len _ _⟩
theorem ft1 : ("text" : Str) ≠ "calls" := by decide
theorem ft2 : ("text" : Str) ≠ "answers" := by decide
theorem ft3 : ("calls" : Str) ≠ "answers" := by decide
theorem ft4 : ("text" : Str) ≠ "marks" := by decide
theorem ft5 : ("calls" : Str) ≠ "marks" := by decide
theorem ft6 : ("answers" : Str) ≠ "marks" := by decide
theorem ft7 : ("text" : Str) ≠ "_goals" := by decide
theorem ft8 : ("calls" : Str) ≠ "_goals" := by decide
theorem ft9 : ("answers" : Str) ≠ "_goals" := by decide
theorem ft0 : ("marks" : Str) ≠ "_goals" := by decide
theorem devF_text {T : Str} {c a s g : Addr} : (devF T c a s g).lookup ("text" : Str) = some (.str T) := rfl
theorem parse_bad {T : Str} {r : List (List Str)} {n : Nat} (h : readHeads (Txt.split T nl1) = (r, n + 1)) : parse T = .inl (n + 1) := by
  unfold parse
  show (match readHeads (Txt.split T nl1) with | ([c, a, s], 0) => _ | (_, n) => _) = _
  rw [h]
  split
  · rename_i e
    cases e
  · rename_i e
    cases e
    rfl
theorem tup_but {K : PySem.W.Frag} {H H' : Hp} {x t C dx : Addr} {fs : List (Str × V)} {zs : List V} (e : But x H H') (hx : H x = some (.ins C dx fs)) (h : SqT K H t zs) : SqT K H' t zs := by
  rcases h with (q | ⟨o, q⟩) | q
  · exact .inl (.inl (e _ _ q (fun z => by rw [z, hx] at q; cases q)))
  · exact .inl (.inr ⟨o, e _ _ q (fun z => by rw [z, hx] at q; cases q)⟩)
  · exact .inr q
theorem lst_but {K : PySem.W.Frag} {H H' : Hp} {x t C dx : Addr} {fs : List (Str × V)} {zs : List V} (e : But x H H') (hx : H x = some (.ins C dx fs)) (h : SqL K H t zs) : SqL K H' t zs := by
  rcases h with (q | ⟨o, q⟩) | q
  · exact .inl (.inl (e _ _ q (fun z => by rw [z, hx] at q; cases q)))
  · exact .inl (.inr ⟨o, e _ _ q (fun z => by rw [z, hx] at q; cases q)⟩)
  · exact .inr q
theorem gr_but {K : PySem.W.Frag} {H H' : Hp} {x C dx : Addr} {fs : List (Str × V)} {kvs : List (List Key × V)} {g : Goals} (e : But x H H') (hx : H x = some (.ins C dx fs)) (h : GR K H kvs g) : GR K H' kvs g := by
  induction h with
  | nil => exact .nil
  | cons a _ ih => exact .cons (tup_but e hx a) ih
theorem goals_but {H H' : Hp} {x p C dx : Addr} {fs : List (Str × V)} {g : Steps} (e : But x H H') (hx : H x = some (.ins C dx fs)) (h : GoalsAt H p g) : GoalsAt H' p g := by
  rcases h with q | ⟨o, q⟩
  · exact .inl (e _ _ q (fun z => by rw [z, hx] at q; cases q))
  · exact .inr ⟨o, e _ _ q (fun z => by rw [z, hx] at q; cases q)⟩
theorem but_upd (x : Addr) (H : Hp) (o : HO) : But x H (upd H x o) := fun b u e ne => by
  rw [upd_ne ne]
  exact e
end LG
namespace K55
open PySem L2 LG
section
variable {P : Program} {w : World} {K : PySem.W.Frag} {mg : Str → Option Value} {base : Heap} {fI : Addr}
def spDInit (K : PySem.W.Frag) (C CB : Addr) : Sp := fun vs H Q E => ∃ (x dx : Addr) (v : V), vs = [.ref x, v] ∧ H x = some (.ins C dx []) ∧ StrOr K H v ∧ (∀ T, v = .str T → T.length ≤ 3900) ∧
  (∀ T D, v = .str T → parse T = .inr D → ∀ H', But x H H' → DevAt K H' x C T D → Q .non H') ∧
  (∀ n : Nat, parseV v = .inl n → ∀ d H', But x H H' → H d = none → H' d = some (.xd (vf (.int n))) → E (.ref CB) (some d) H')
abbrev nD : List Str := ["self", "text", "lines", "heads", "bad"]
theorem scDInit : FnScope nD ["self", "text"] (defScope sDInit) := ⟨rfl, rfl, rfl, by decide +kernel, rfl, by decide +kernel, by decide +kernel⟩
theorem ok_dinit {f g1 g2 hA C CB : Addr} {fd gd1 gd2 : FuncData} (F : Fun K "__init__" "Watch.__init__" sDInit f fd) (T : Bltn mg) (hH : mg "HEADS" = some (.ref hA)) (HA : HeadsAt K hA) (I : Ini P w K mg base fI) (cB : ECl K mg fI "BadWatch" CB) (DC : DevCl K mg C) (hB : ∃ t, mg "BROKEN" = some (.str BRK t))
    (G1 : FnOk P w K mg base CX0 3 g1 gd1 ["lines", "heads"] (spHeads K)) (m1 : mg "read_heads" = some (.ref g1)) (k1 : PySem.W.keepIn K (.ref g1) = true) (b1 : Binds K gd1 ["lines", "heads"] [])
    (G2 : FnOk P w K mg base (L2.CX P w) 3 g2 gd2 ["lines", "calls", "answers", "marks"] (spSteps K CB)) (m2 : mg "read_steps" = some (.ref g2)) (k2 : PySem.W.keepIn K (.ref g2) = true) (b2 : Binds K gd2 ["lines", "calls", "answers", "marks"] []) :
    FnOk P w K mg base (L2.CX P w) 4 f fd ["self", "text"] (spDInit K C CB) := by
  refine F.okX scDInit (fun vs H Q E h => ?_) (fun cdv A0 outer st H vs Q E hr h => ?_)
  · obtain ⟨x, dx, v, rfl, _⟩ := h
    rfl
  obtain ⟨x, dx, v, rfl, hx, ty, hz, qok, qbad⟩ := h
  obtain ⟨tB, mB⟩ := hB
  have r2 : Room 2 _ := hr.mono (by decide)
  have tk := takes_of (X := cxOf (L2.CX P w) P w K mg base nD "Watch.__init__" (defScope sDInit) f cdv A0 outer st H E) rfl rfl rfl rfl
  refine ⟨_, pss_cons (ps_if (pt_not (pt_val (pe_callB call_isi rfl T.isinstance (by decide +kernel) (pa_cons (pv 1) (pa_cons (pe_bltn (v := .ty "str") (u := .type "str") rfl T.str (by decide +kernel) rfl) pa_nil)))))
      (pss_one (ps_err rfl I cB r2 tk pe_int rfl)) pss_nil)
    (pss_cons (ps_set (i := 2) scDInit.nd rfl (Or.inl rfl) (pe_split (pv 1) pe_str))
    (pss_cons (ps_asg (pe_call G1 hr rfl m1 k1 b1 .nil pass0 (pa_cons (pv 2) (pa_cons (pe_glob (v := .ref hA) rfl hH rfl) pa_nil))) (pg_tup rfl (pgs_cons (pg_name (i := 3) scDInit.nd rfl (Or.inl rfl)) (pgs_cons (pg_name (i := 4) scDInit.nd rfl (Or.inl rfl)) pgs_nil))))
    (pss_cons (ps_if (pt_cmpR op_gt (pv 4) pe_int (nomark _)) (pss_one (ps_err rfl I cB r2 tk (pv 4) rfl)) pss_nil)
    (pss_cons (ps_fld (pv 0) (pv 1) rfl)
    (pss_cons (ps_asg (pv 3) (pg_unl rfl (pgs_cons (pg_fld (pv 0)) (pgs_cons (pg_fld (pv 0)) (pgs_cons (pg_fld (pv 0)) pgs_nil)))))
    (pss_cons (ps_if (pt_cmpR op_in_txt (pe_glob (v := .str BRK) rfl mB ⟨_, rfl⟩) (pe_fld (pv 0) rfl) (by rfl)) (pss_one (ps_err rfl I cB r2 tk (pe_callB call_len_seq rfl T.len PySem.boot_len (pa_cons (pe_glob (v := .ref hA) rfl hH rfl) pa_nil)) rfl)) pss_nil)
    (pss_one (ps_fld (pv 0) (pe_call G2 hr rfl m2 k2 b2 .nil (passes_call tk (fun _ _ _ _ h => h)) (pa_cons (pv 2) (pa_cons (pe_fld (pv 0) rfl) (pa_cons (pe_fld (pv 0) rfl) (pa_cons (pe_fld (pv 0) rfl) pa_nil))))) rfl)))))))), ?_⟩
  have bx : ∀ {H' : Hp}, Same H H' → But x H H' := fun e => But.of e
  rcases ty with ⟨X, rfl⟩ | ⟨tv, ty, k, no⟩
  · refine ⟨_, rfl, .str X, .ty "str", .type "str", .type "str", true, rfl, .ty _, .base (.str X), if_pos (beq_self_eq_true _), _, rfl, iteF ?_⟩
    have hX := hz X rfl
    obtain ⟨lb1, lb2⟩ := lines_bounds X
    refine ⟨_, rfl, ⟨_, rfl⟩, X, nl1, rfl, rfl, rfl, (by rw [sizeLine_eq]; omega), fun l nl => ?_⟩
    have hl : (upd H l (.lst ((Txt.split X nl1).map V.str))) l = some (.lst ((Txt.split X nl1).map V.str)) := upd_same
    have s1 := same_new nl (.lst ((Txt.split X nl1).map V.str))
    show _
    generalize upd H l (.lst ((Txt.split X nl1).map V.str)) = H1 at hl s1 ⊢
    have hp : parseV (.str X) = parse X := rfl
    have hd := heads_cases (Txt.split X nl1)
    have pb := @parse_bad X
    have ph := @parse_heads X
    generalize Txt.split X nl1 = lines at hl lb1 lb2 hd pb ph ⊢
    refine ⟨_, rfl, l, hA, lines, rfl, HA, SqL.of hl, fun t ht => Nat.le_trans (lb1 t ht) hX, by omega, fun p q xs H2 s2 nq hp2 hq hxs => ?_⟩
    have s12 := s1.trans s2
    refine ⟨p, _, rfl, hp2, rfl, _, _, rfl, _, _, rfl, rfl, ?_⟩
    rcases hd with ⟨c, a, s, e, lc, ls⟩ | ⟨r, n, e⟩
    · rw [e] at hxs
      refine ⟨_, rfl, _, _, rfl, rfl, _, rfl, ?_⟩
      rw [e]
      refine iteF ?_
      cases hxs with
      | cons h1 r1 => cases r1 with
        | cons h2 r2 => cases r2 with
          | cons h3 r3 =>
            cases r3
            obtain ⟨tc, rfl, h1⟩ := h1
            obtain ⟨ta, rfl, h2⟩ := h2
            obtain ⟨ts, rfl, h3⟩ := h3
            have hx2 := s12 _ _ hx
            have b2 : But x H H2 := bx s12
            have hl2 : SqL K H2 l (lines.map V.str) := s2.seq (SqL.of hl)
            have hq2 : SqL K H2 q [.ref tc, .ref ta, .ref ts] := SqL.of hq
            refine ⟨_, rfl, _, rfl, x, C, dx, _, rfl, hx2, DC.cl, DC.nt, by show 0 < 1000; decide, ?_⟩
            have hx3 : (upd H2 x (.ins C dx (putF "text" (.str X) []))) x = some (.ins C dx [("text", .str X)]) := upd_same
            have e3 := but_upd x H2 (.ins C dx (putF "text" (.str X) []))
            generalize upd H2 x (.ins C dx (putF "text" (.str X) [])) = H3 at hx3 e3 ⊢
            have h1 := tup_but e3 hx2 h1
            have h2 := tup_but e3 hx2 h2
            have h3 := tup_but e3 hx2 h3
            have hl3 := lst_but e3 hx2 hl2
            have hq3 := lst_but e3 hx2 hq2
            have b3 := b2.trans e3
            refine ⟨_, rfl, q, _, rfl, hq3, rfl, _, _, rfl, _, rfl, x, C, dx, _, rfl, hx3, DC.cl, DC.nc, by show 1 < 1000; decide, ?_⟩
            have hx4 : (upd H3 x (.ins C dx (putF "calls" (.ref tc) [("text", .str X)]))) x = some (.ins C dx [("text", .str X), ("calls", .ref tc)]) := by
              rw [upd_same, put_new (by intro p hp; simp at hp; rw [hp]; exact ft1)]
              rfl
            have e4 := but_upd x H3 (.ins C dx (putF "calls" (.ref tc) [("text", .str X)]))
            generalize upd H3 x (.ins C dx (putF "calls" (.ref tc) [("text", .str X)])) = H4 at hx4 e4 ⊢
            refine ⟨_, _, rfl, _, rfl, x, C, dx, _, rfl, hx4, DC.cl, DC.na, by show 2 < 1000; decide, ?_⟩
            have hx5 : (upd H4 x (.ins C dx (putF "answers" (.ref ta) [("text", .str X), ("calls", .ref tc)]))) x = some (.ins C dx [("text", .str X), ("calls", .ref tc), ("answers", .ref ta)]) := by
              rw [upd_same, put_new (by intro p hp; simp at hp; rcases hp with rfl | rfl; exact ft2; exact ft3)]
              rfl
            have e5 := but_upd x H4 (.ins C dx (putF "answers" (.ref ta) [("text", .str X), ("calls", .ref tc)]))
            generalize upd H4 x (.ins C dx (putF "answers" (.ref ta) [("text", .str X), ("calls", .ref tc)])) = H5 at hx5 e5 ⊢
            refine ⟨_, _, rfl, _, rfl, x, C, dx, _, rfl, hx5, DC.cl, DC.ns, by show 3 < 1000; decide, ?_⟩
            have hx6 : (upd H5 x (.ins C dx (putF "marks" (.ref ts) [("text", .str X), ("calls", .ref tc), ("answers", .ref ta)]))) x = some (.ins C dx [("text", .str X), ("calls", .ref tc), ("answers", .ref ta), ("marks", .ref ts)]) := by
              rw [upd_same, put_new (by intro p hp; simp at hp; rcases hp with rfl | rfl | rfl; exact ft4; exact ft5; exact ft6)]
              rfl
            have e6 := but_upd x H5 (.ins C dx (putF "marks" (.ref ts) [("text", .str X), ("calls", .ref tc), ("answers", .ref ta)]))
            generalize upd H5 x (.ins C dx (putF "marks" (.ref ts) [("text", .str X), ("calls", .ref tc), ("answers", .ref ta)])) = H6 at hx6 e6 ⊢
            have e36 : But x H3 H6 := (e4.trans e5).trans e6
            have h1 := tup_but e36 hx3 h1
            have h2 := tup_but e36 hx3 h2
            have h3 := tup_but e36 hx3 h3
            have hl6 := lst_but e36 hx3 hl3
            have b6 := b3.trans e36
            have ph := ph (c := c) (a := a) (s := s) (g := []) e
            refine ⟨rfl, _, rfl, x, C, dx, _, _, rfl, hx6, DC.cl, DC.ns, rfl, _, ts, s, rfl, rfl, .inr h3, _, rfl, ?_⟩
            cases eb : s.contains BRK with
            | true =>
              rw [eb, if_pos rfl] at ph
              obtain ⟨hs0, hs3, hsT, _⟩ := HA.at
              refine iteT ⟨hA, _, rfl, .inr (hsT H6), fun d nd => ?_⟩
              have e3 : ((hs0.map V.ref).length : Int) = 3 := by
                rw [List.length_map, hs3]
                rfl
              rw [e3]
              have s7 := same_new nd (.xd (vf (.int 3)))
              refine qbad 3 ph d _ (b6.trans (But.of s7)) ?_ upd_same
              cases q : H d with
              | none => rfl
              | some o =>
                by_cases hb : d = x
                · rw [hb, hx6] at nd
                  cases nd
                · rw [b6 d o q hb] at nd
                  cases nd
            | false =>
            rw [eb, if_neg Bool.false_ne_true] at ph
            refine iteF ?_
            refine ⟨_, rfl, _, rfl, x, C, dx, _, _, rfl, hx6, DC.cl, DC.nc, rfl, _, rfl, x, C, dx, _, _, rfl, hx6, DC.cl, DC.na, rfl, _, rfl, x, C, dx, _, _, rfl, hx6, DC.cl, DC.ns, rfl, ?_⟩
            refine ⟨l, tc, ta, ts, lines, c, a, s, rfl, hl6, fun t ht => Nat.le_trans (lb1 t ht) hX, by omega, h1, h2, h3, by omega, by omega, fun g eg p7 H7 s7 np7 hg7 => ?_, fun n en d H7 s7 nd7 hd7 => ?_⟩
            · have hx7 := s7 _ _ hx6
              refine ⟨_, rfl, x, C, dx, _, rfl, hx7, DC.cl, DC.ng, by show 4 < 1000; decide, ?_⟩
              have e8 := but_upd x H7 (.ins C dx (putF "_goals" (.ref p7) [("text", .str X), ("calls", .ref tc), ("answers", .ref ta), ("marks", .ref ts)]))
              refine qok X ⟨c, a, s, g⟩ rfl (by rw [ph, eg]) _ ((b6.trans (But.of s7)).trans e8) ⟨dx, tc, ta, ts, p7, ?_, tup_but e8 hx7 (same_tup s7 h1), tup_but e8 hx7 (same_tup s7 h2), tup_but e8 hx7 (same_tup s7 h3), ?_⟩
              · rw [upd_same, put_new (by intro p hp; simp at hp; rcases hp with rfl | rfl | rfl | rfl; exact ft7; exact ft8; exact ft9; exact ft0)]
                rfl
              · exact goals_but e8 hx7 hg7
            · refine qbad n ?_ d H7 (b6.trans (But.of s7)) ?_ hd7
              · show parse X = _
                rw [ph, en]
              · have n6 := nd7
                cases q : H d with
                | none => rfl
                | some o =>
                  by_cases hb : d = x
                  · rw [hb, hx6] at n6
                    cases n6
                  · rw [b6 d o q hb] at n6
                    cases n6
    · refine ⟨_, rfl, _, _, rfl, rfl, _, rfl, ?_⟩
      rw [e]
      have gt : decide ((((r, n + 1) : List (List Str) × Nat).2 : Int) > 0) = true := decide_eq_true (by show ((n + 1 : Nat) : Int) > 0; omega)
      refine iteC gt ⟨_, rfl, fun d nd => ?_⟩
      have s3 := same_new nd (.xd (vf (.int ((n + 1 : Nat) : Int))))
      refine qbad (n + 1) (pb e) d _ (bx (s12.trans s3)) (s12.free nd) ?_
      exact upd_same
  · refine ⟨_, rfl, v, .ty "str", tv, .type "str", false, rfl, .ty _, ty, k, _, rfl, iteT (fun d nd => ?_)⟩
    have s3 := same_new nd (.xd (vf (.int 0)))
    refine qbad 0 ?_ d _ (bx s3) nd upd_same
    cases v with
    | str X => exact absurd rfl (no X)
    | _ => rfl
end
end K55
set_option Elab.async false
set_option linter.all false
set_option maxRecDepth 100000
set_option maxHeartbeats 8000000
namespace LG
open PySem L2
end LG
namespace K55
open PySem L2 LG
section
variable {P : Program} {w : World} {K : PySem.W.Frag} {mg : Str → Option Value} {base : Heap} {fI C : Addr}
def spHas (K : PySem.W.Frag) (C : Addr) : Sp := fun vs H Q _ => ∃ (x : Addr) (v : V) (T : Str) (D : Wat), vs = [.ref x, v] ∧ DevAt K H x C T D ∧ StrOr K H v ∧ Q (.bl (amongB v D.marks)) H
theorem scHas : FnScope ["self", "value"] ["self", "value"] (defScope sDContains) := ⟨rfl, rfl, rfl, by decide +kernel, rfl, by decide +kernel, by decide +kernel⟩
theorem ok_has {f g : Addr} {fd gd : FuncData} (F : Fun K "__contains__" "Watch.__contains__" sDContains f fd) (DC : DevCl K mg C) (G : FnOk P w K mg base CX0 1 g gd ["value", "names"] (spAmong K)) (mG : mg "is_among" = some (.ref g)) (kG : PySem.W.keepIn K (.ref g) = true) (bG : Binds K gd ["value", "names"] []) :
    FnOk P w K mg base CX0 2 f fd ["self", "value"] (spHas K C) := by
  refine F.ok scHas (fun vs H Q E h => ?_) (fun cdv A outer s H vs Q E hr h => ?_)
  · obtain ⟨x, v, T, D, rfl, _⟩ := h
    rfl
  obtain ⟨x, v, T, D, rfl, ⟨dx, c, a, st, g0, hx, hc, ha, hs, hg⟩, ty, q⟩ := h
  refine ⟨_, pss_one (ps_ret (pe_call G hr rfl mG kG bG .nil pass0 (pa_cons (pv 1) (pa_cons (pe_fld (pv 0) rfl) pa_nil)))), ?_⟩
  exact ⟨_, rfl, _, rfl, x, C, dx, _, _, rfl, hx, DC.cl, DC.ns, rfl, v, st, _, rfl, ty, .inr hs, q⟩
def spLen (K : PySem.W.Frag) (C : Addr) : Sp := fun vs H Q _ => ∃ (x : Addr) (T : Str) (D : Wat), vs = [.ref x] ∧ DevAt K H x C T D ∧ Q (.int D.marks.length) H
theorem scLen : FnScope ["self"] ["self"] (defScope sDLen) := ⟨rfl, rfl, rfl, by decide +kernel, rfl, by decide +kernel, by decide +kernel⟩
theorem ok_len {f : Addr} {fd : FuncData} (F : Fun K "__len__" "Watch.__len__" sDLen f fd) (T : Bltn mg) (DC : DevCl K mg C) : FnOk P w K mg base CX0 1 f fd ["self"] (spLen K C) := by
  refine F.ok scLen (fun vs H Q E h => ?_) (fun cdv A outer s H vs Q E hr h => ?_)
  · obtain ⟨x, T, D, rfl, _⟩ := h
    rfl
  obtain ⟨x, T', D, rfl, ⟨dx, c, a, st, g0, hx, hc, ha, hs, hg⟩, q⟩ := h
  refine ⟨_, pss_one (ps_ret (pe_callB call_len_seq rfl T.len PySem.boot_len (pa_cons (pe_fld (pv 0) rfl) pa_nil))), ?_⟩
  refine ⟨_, rfl, x, C, dx, _, _, rfl, hx, DC.cl, DC.ns, rfl, st, _, rfl, .inr hs, ?_⟩
  rw [List.length_map]
  exact q
/-- what isinstance asks of the class -/
structure DevIs (K : PySem.W.Frag) (C : Addr) : Prop where
  ca : PySem.W.findIn K (.ref C) "__class__" = some (some (.builtin "object.__class__"))
  cn : PySem.W.specialIn K (.builtin "object.__class__") "__get__" = some (some (.builtin "getset_descriptor.__get__"))
  ct : PySem.W.takesIn K (.builtin "object.__class__") = some true
  cm : PySem.W.mroIn K C (.type "object") = some true
theorem dev_ty {H : Hp} {x : Addr} {T : Str} {D : Wat} (DC : DevCl K mg C) (S : DevIs K C) (h : DevAt K H x C T D) : TyX K H (.ref x) (.ref C) := by
  obtain ⟨dx, c, a, st, g0, hx, _⟩ := h
  exact .base (.ins hx DC.cl S.ca S.cn S.ct S.cm)
def spDEq (K : PySem.W.Frag) (C : Addr) : Sp := fun vs H Q _ => ∃ (x : Addr) (y : V) (T : Str) (D : Wat), vs = [.ref x, y] ∧ DevAt K H x C T D ∧
  ((∃ (x2 : Addr) (T2 : Str) (D2 : Wat), y = .ref x2 ∧ DevAt K H x2 C T2 D2 ∧ Q (.bl (decide (T = T2))) H) ∨ ∃ t, TyX K H y t ∧ PySem.W.kitOne K t (.ref C) = some false ∧ Q (.bl false) H)
theorem scDEq : FnScope ["self", "other"] ["self", "other"] (defScope sDEq) := ⟨rfl, rfl, rfl, by decide +kernel, rfl, by decide +kernel, by decide +kernel⟩
theorem ok_eq {f : Addr} {fd : FuncData} (F : Fun K "__eq__" "Watch.__eq__" sDEq f fd) (T : Bltn mg) (DC : DevCl K mg C) (S : DevIs K C) : FnOk P w K mg base CX0 1 f fd ["self", "other"] (spDEq K C) := by
  refine F.ok scDEq (fun vs H Q E h => ?_) (fun cdv A outer s H vs Q E hr h => ?_)
  · obtain ⟨x, y, T, D, rfl, _⟩ := h
    rfl
  obtain ⟨x, y, T', D, rfl, hD, q⟩ := h
  refine ⟨_, pss_one (ps_ret (pe_and (pe_callB call_isi rfl T.isinstance (by decide +kernel) (pa_cons (pv 1) (pa_cons (pe_glob (v := .ref C) rfl DC.mg rfl) pa_nil))) (pe_one (pe_cmpR op_eq (pe_fld (pv 0) rfl) (pe_fld (pv 1) rfl) (nomark _))))), ?_⟩
  rcases q with ⟨x2, T2, D2, rfl, hD2, q⟩ | ⟨t, ty, k, q⟩
  · have ty2 := dev_ty DC S hD2
    obtain ⟨dx, c, a, st, g0, hx, _⟩ := hD
    obtain ⟨dx2, c2, a2, st2, g2, hx2, _⟩ := hD2
    refine ⟨_, rfl, .ref x2, .ref C, .ref C, .ref C, true, rfl, .own C, ty2, if_pos (beq_self_eq_true _), _, rfl, iteT ⟨_, rfl, x, C, dx, _, _, rfl, hx, DC.cl, DC.nt, rfl, _, rfl, x2, C, dx2, _, _, rfl, hx2, DC.cl, DC.nt, rfl, rfl, ?_⟩⟩
    have e : decide (V.str T' = V.str T2) = decide (T' = T2) := by
      by_cases h : T' = T2
      · simp [h]
      · simp [h]
    rw [e]
    exact q
  · exact ⟨_, rfl, y, .ref C, t, .ref C, false, rfl, .own C, ty, k, _, rfl, iteF q⟩
end
end K55
set_option Elab.async false
set_option linter.all false
set_option maxRecDepth 100000
set_option maxHeartbeats 2000000
/-! A lambda handed to a def that catches, what is raised wished for at the slots of that def. -/
namespace LG
open PySem PySem.Spec PyProof.Rows L2 LamX
section
variable {X : Cx} {pins : List (Addr × Obj)} {σ : L2.St} {H HZ : Hp} {s s1 : Shared}
theorem pe_act2 {Eg : XK} {Ng : List Str} {qg : Str} {sg : Scope} {g f c' : Addr} {cdg pm ctv : Value} {params : Arguments} {body : Expr} {scope : Scope} {k i : Nat} {a : Str} {pn : List (Addr × Obj)} {xe : Value → Shared → Prop} {W : WX} {tb : XK → TE} {p1 p2 : Pos}
    (I : Inv X pins σ H s) (L : LamS X.env.scope scope) (hf : s.heap.get? f = some (PySem.W.kla_obj "<lambda>" (X.env.qual ++ "<lambda>") params body scope (cloFrom X.env.cells scope.names []) pm c' ctv)) (hfn : H f = none) (hfr : f ∉ frs X.stack)
    (hbind : bindArgs (PySem.W.kla_fn "<lambda>" (X.env.qual ++ "<lambda>") params body scope (cloFrom X.env.cells scope.names []) pm (.ref c') ctv) ⟨[], []⟩ = pure [])
    (tk : Takes ((cxOf CX0 X.prog X.w X.K X.mg X.base Ng qg sg g cdg X.A X.stack s H Eg).tr pn xe) W) (hr : Room (k + 1) (X.A.deeper (envOfC qg sg s.heap.objs.size g cdg)))
    (hbody : ∀ (A : Around) (outer : List Env) (s : Shared) (H : Hp) (E : XK), Room k (A.deeper (lamEnv X scope s.heap.objs.size f c')) → PE (lamCx X A outer s H E scope f c') body (tb E))
    (hN : Ng[i]? = some a) (hv : Vis sg a) (hd : (a == ("__debug__" : Str)) = false := by decide) (hcd : (a == ("__classdict__" : Str)) = false := by decide) :
    PE ((cxOf CX0 X.prog X.w X.K X.mg X.base Ng qg sg g cdg X.A X.stack s H Eg).tr pn xe) (.Call (.Name a p1) [] [] p2)
      (fun σZ HZ Q => σZ[i]? = some (some (.ref f)) ∧ HZ c' = some (CodeO c' (X.env.qual ++ "<lambda>")) ∧ ∃ E : XK, (∀ cls d H', E cls d H' → W cls d σZ H') ∧ tb E σ HZ Q) := by
  refine ⟨fun pinsZ sZ σZ HZ Q IZ h => ?_⟩
  obtain ⟨slot, code, E, hW, ht⟩ := h
  refine wpAny_Call_Name_kw (thn ((pe_var (pos := p1) (i := i) hN hv hd hcd).run pinsZ sZ σZ HZ (fun v G => v = .ref f ∧ G = HZ) IZ ⟨.ref f, slot, rfl, rfl⟩) fun u z1 ⟨v, G, I1, r1, q1⟩ => ?_)
  obtain ⟨ev, eH⟩ := q1
  subst ev
  rw [eH] at I1
  have eu : u = Value.ref f := r1
  subst eu
  have fn1 : z1.heap.get? f = some (PySem.W.kla_obj "<lambda>" (X.env.qual ++ "<lambda>") params body scope (cloFrom X.env.cells scope.names []) pm c' ctv) := I1.base.keep f _ hf hfn hfr (fun z => nomatch (show f ∈ ([] : List Addr) from z))
  refine PySem.W.callWith_F0 ⟨_, _, _, _, fn1⟩ ?_
  have un : Un (frs X.stack) [] H HZ s.heap z1.heap := I1.base
  obtain ⟨⟨oc, vs, t, hoc, hdc, hvc⟩, _, _⟩ := I1.hok c' _ code
  have rc : codeAny (model X.prog X.w) (X.A.deeper (envOfC qg sg s.heap.objs.size g cdg)) (.call (.ref f) ⟨[], []⟩) (CR (L2.CX X.prog X.w) (envOfC qg sg s.heap.objs.size g cdg :: X.stack) X.prog X.w HZ z1 Q E) z1 := by
    refine PySem.W.kla_callFunE hr.depth fn1 rfl L.co L.gen rfl ⟨c', oc, vs, t, rfl, hoc, hdc, hvc⟩ ?_
    rw [hbind]
    refine wpAny_pure (wpAny_newFunctionEnv (fun y hy => (L.own y hy).2) (fun y hy => absurd hy (by simp)) (fun g1 hns hsb => ⟨I1.nolimit.fresh _ hsb, ?_⟩) L.kind)
    show codeAny _ _ (.expr body (lamEnv X scope z1.heap.objs.size f c')) _ _
    have kp : ∀ b o, z1.heap.get? b = some o → g1.get? b = some o := fun b o e => hsb.extBut b o (Nat.ne_of_lt (Heap.lt_size e)) (Heap.get?_push_of_some _ e)
    have J : Inv (lamCx X (X.A.deeper (envOfC qg sg s.heap.objs.size g cdg)) (envOfC qg sg s.heap.objs.size g cdg :: X.stack) z1 HZ E scope f c') [] σ HZ { z1 with heap := g1, toks := z1.toks + ([] : List (Str × Value)).length } :=
      lam_start2 I L I1.env0 hr.hd un hns kp
    refine PySem.W.kla_codeExpr (wpAny_mono ((hbody _ _ z1 HZ E (hr.deeper _)).run [] _ _ HZ Q J ht) (fun v z' hq => ?_) fun _ _ hq => hq)
    obtain ⟨w', H', J', rv, q⟩ := hq
    exact ⟨w', H', J'.os, J'.bare, J'.base, J'.hok, rv, q⟩
  refine wpAny_call (codeAny_mono rc fun r z' hq => ?_)
  match r, hq with
  | .error e, hq => exact tk e z' (XE.of_call I1 (fun cls d H' q => hW cls d H' q) hq)
  | .ok (.ret u), hq => exact I1.after hq
  | .ok .next, hq => exact hq.elim
  | .ok .brk, hq => exact hq.elim
  | .ok .cont, hq => exact hq.elim
/-- the def that calls what it got -/
def Gives2 (X : Cx) (Ng : List Str) (x : Str) (sg : Scope) (g : Addr) (cdg : Value) (bg : List Stmt) (a : Str) (q : Str) (TT : (XK → Hp → VK → Prop) → Hp → VK → Prop) : Prop :=
  ∀ (f c' : Addr) (s : Shared) (H : Hp) (Q : VK) (tl : XK → Hp → VK → Prop),
    (∀ (W : WX) (pn : List (Addr × Obj)) (xe : Value → Shared → Prop) (p1 p2 : Pos), Takes ((cxOf CX0 X.prog X.w X.K X.mg X.base Ng x sg g cdg X.A X.stack s H E0).tr pn xe) W →
      PE ((cxOf CX0 X.prog X.w X.K X.mg X.base Ng x sg g cdg X.A X.stack s H E0).tr pn xe) (.Call (.Name a p1) [] [] p2) (fun σZ HZ Q => σZ[0]? = some (some (.ref f)) ∧ HZ c' = some (CodeO c' q) ∧ ∃ E : XK, (∀ cls d H', E cls d H' → W cls d σZ H') ∧ tl E HZ Q)) →
    H c' = some (CodeO c' q) → TT tl H Q →
    ∃ t, PSs (cxOf CX0 X.prog X.w X.K X.mg X.base Ng x sg g cdg X.A X.stack s H E0).nox bg t ∧ t { nx := fun _ H' => Q .non H', rt := Q } (L2.start Ng [.ref f]) H
theorem pe_lam2 {T : List (Addr × Str)} {TT : (XK → Hp → VK → Prop) → Hp → VK → Prop} {x a : Str} {g c P : Addr} {k : Nat} {pg : Arguments} {bg : List Stmt} {sg : Scope} {dV kV doc pm cdv ct oc : Value} {an od : Option Addr} {osl : Array (Option Value)} {Ng : List Str}
    {params : Arguments} {body : Expr} {scope : Scope} {t : XK → TE} {p lpos pos : Pos} (hg : Gl X x) (hm : X.mg x = some (.ref g)) (hk : PySem.W.keepIn X.K (.ref g) = true)
    (lk : X.K.lookup g = some ⟨oc, od, .func (PySem.W.fnOf x x pg bg sg dV kV doc pm an cdv ct), osl⟩) (hcg : PySem.W.codeIn X.K cdv x = true) (hb : L2.Binds X.K (PySem.W.fnOf x x pg bg sg dV kV doc pm an cdv ct) [a] []) (Sg : FnScope Ng [a] sg) (hNg : Ng[0]? = some a) (hva : Vis sg a)
    (hG : Gives2 X Ng x sg g cdv bg a (X.env.qual ++ "<lambda>") TT)
    (TB : TabB X.base X.mg c P) (hcode : X.env.code = .ref c) (hmT : (P, X.env.qual ++ "<lambda>") ∈ T) (hu : ∀ p ∈ T, p.1 = P → p.2 = X.env.qual ++ "<lambda>") (hr : Room (k + 2) X.A) (L : LamS X.env.scope scope) (hdef : defaultsOf params X.env = ([], []))
    (hbind : ∀ (q : Str) (cl : List (Str × Addr)) (pm cv ctv : Value), bindArgs (PySem.W.kla_fn "<lambda>" q params body scope cl pm cv ctv) ⟨[], []⟩ = pure [])
    (hbody : ∀ (A : Around) (outer : List Env) (s : Shared) (H : Hp) (E : XK) (f c' : Addr), Room k (A.deeper (lamEnv X scope s.heap.objs.size f c')) → PE (lamCx X A outer s H E scope f c') body (t E))
    (hdb : (x == ("__debug__" : Str)) = false := by decide) (hd : (a == ("__debug__" : Str)) = false := by decide) (hcd : (a == ("__classdict__" : Str)) = false := by decide) :
    PE X (.Call (.Name x p) [.Lambda params body scope lpos] [] pos) (tLam T TT t) := by
  refine ⟨fun pins s σ H Q I h => ?_⟩
  obtain ⟨hT, h⟩ := h
  refine wpAny_Call_Name_kw (ld_glob I hg hm ?_ hdb)
  refine PySem.W.callWith_K (h₀ := X.base) I.ok.mod.kin hk ?_ (by rfl) (by rfl)
  show wpAny _ _ (spliced ((false, eval (.Lambda params body scope lpos) X.env) :: backTo pos (starEach [] X.env))) _ _ s
  refine Calls.spliced_cons (lam_make2 I TB hcode hmT hu hT hdef (L.has I.ok) fun f c' pm' ctv G z I1 eN T1 hf hfn hfr hco => Calls.spliced_nil ⟨I1.kIn, ?_⟩)
  have rc : codeAny (model X.prog X.w) X.A (.call (.ref g) ⟨[.ref f], []⟩) (CR CX0 X.stack X.prog X.w G z Q E0) z := by
    refine run_ofS (N := Ng) (ps := [a]) (us := [.ref f]) (vs := [.ref f]) lk hcg Sg hr I1.env0 (hb z [.ref f] I1.kIn rfl) (.cons rfl .nil) rfl fun hr' => ?_
    obtain ⟨t', ht', hq'⟩ := hG f c' z G Q (fun E H' Q' => t E σ H' Q') (fun W pn xe p1 p2 tk => pe_act2 (i := 0) I1 L hf hfn hfr (hbind _ _ _ _ _) tk hr' (fun A outer s H E hr2 => hbody A outer s H E f c' hr2) hNg hva hd hcd) hco (h G eN T1)
    exact ⟨t', ht'.nox, hq'⟩
  refine wpAny_call (codeAny_mono rc fun r z2 hq => ?_)
  match r, hq with
  | .error e, hq => exact (show False from hq).elim
  | .ok (.ret u), hq => exact I1.after hq
  | .ok .next, hq => exact hq.elim
  | .ok .brk, hq => exact hq.elim
  | .ok .cont, hq => exact hq.elim
end
end LG
set_option Elab.async false
set_option linter.all false
set_option maxRecDepth 100000
set_option maxHeartbeats 4000000
namespace LG
open PySem L2 LamX
/-- told: (the caught error, None) or (None, what came back) -/
def TTk (K : PySem.W.Frag) (B : Addr) : (XK → Hp → VK → Prop) → Hp → VK → Prop := fun tl H Q => ∀ (H1 : Hp) (E : XK) (R : VK), Same H H1 →
  (∀ cls d H', PySem.W.exmOne K cls (.ref B) = some true → (∀ a, H' a = none → ∀ p, upd H' a (exq a cls d) p = none → Q (.ref p) (upd (upd H' a (exq a cls d)) p (.tup [.ref a, .non]))) → E cls d H') →
  (∀ v H', (∀ p, H' p = none → Q (.ref p) (upd H' p (.tup [.non, v]))) → R v H') → tl E H1 R
end LG
namespace K55
open PySem L2 LG LamX
section
abbrev nT : List Str := ["_law_look", "_law_caught", "_law_back", "error"]
theorem scTold : FnScope nT ["_law_look"] (defScope sTold) := ⟨rfl, rfl, rfl, by decide +kernel, rfl, by decide +kernel, by decide +kernel⟩
theorem told_gives {X : Cx} {g B : Addr} {cdg : Value} {q : Str} (mB : X.mg "BoxError" = some (.ref B)) : Gives2 X nT "_law_heard_of" (defScope sTold) g cdg (defBody sTold) "_law_look" q (TTk X.K B) := by
  intro f c' s H Q tl act hc h
  refine ⟨_, pss_cons (ps_asg (pe_tup (pa_cons pe_non (pa_cons pe_non pa_nil))) (pg_tup rfl (pgs_cons (pg_name (i := 1) scTold.nd rfl (Or.inl rfl)) (pgs_cons (pg_name (i := 2) scTold.nd rfl (Or.inl rfl)) pgs_nil))))
    (pss_cons (ps_try_keep (i := 3) (X := (cxOf CX0 X.prog X.w X.K X.mg X.base nT "_law_heard_of" (defScope sTold) g cdg X.A X.stack s H E0).nox) (c := .ref B)
      (tb := fun W D σ G => ∃ Ech : XK, (∀ cls d H', Ech cls d H' → W cls d σ H') ∧ σ[0]? = some (some (.ref f)) ∧ G c' = some (CodeO c' q) ∧ tl Ech G (fun v H' => D.nx (σ.set 2 (some v)) H'))
      rfl rfl rfl scTold.nd rfl rfl ⟨rfl, by decide, .inl mB⟩ L2.takes0 (fun W pn xe tk _ => ?_) (fun a pn => pss_one (ps_set (i := 1) scTold.nd rfl (Or.inl rfl) (pv 3))))
    (pss_one (ps_ret (pe_tup (pa_cons (pv 1) (pa_cons (pv 2) pa_nil)))))), ?_⟩
  · refine ⟨fun pins s' σ G D I h' => ?_⟩
    obtain ⟨Ech, hW, h1, h2, h3⟩ := h'
    refine (pss_one (ps_set (i := 2) scTold.nd rfl (Or.inl rfl) (act W pn xe _ _ tk))).run pins s' σ G D I ?_
    exact ⟨h1, h2, Ech, hW, h3⟩
  · refine ⟨(by show 2 ≤ sizeLine; decide), fun t nt => ⟨t, _, rfl, .inl (.inl upd_same), rfl, _, _, rfl, _, _, rfl, rfl, ?_⟩⟩
    have s1 := same_new nt (.tup [V.non, V.non])
    refine ⟨fun cls d H' => PySem.W.exmOne X.K cls (.ref B) = some true ∧ ∀ a, H' a = none → ∀ p, upd H' a (exq a cls d) p = none → Q (.ref p) (upd (upd H' a (exq a cls d)) p (.tup [.ref a, .non])), ?_, rfl, s1 _ _ hc, h _ _ _ s1 (fun cls d H' e q => ⟨e, q⟩) fun v H' q => ?_⟩
    · rintro cls d H' ⟨e, q⟩
      exact ⟨true, e, fun _ a na => ⟨_, rfl, _, rfl, _, rfl, (by show 2 ≤ sizeLine; decide), fun p np => q a na p np⟩, fun z => nomatch z⟩
    · exact ⟨_, rfl, _, rfl, (by show 2 ≤ sizeLine; decide), fun p np => q p np⟩
end
end K55
set_option Elab.async false
set_option linter.all false
set_option maxRecDepth 100000
set_option maxHeartbeats 4000000
namespace LG
open PySem L2
theorem But.tup {K : PySem.W.Frag} {H H' : Hp} {p t b : _} {zs : List V} (e : But p H H') (hp : PotAt H p b) (h : SqT K H t zs) : SqT K H' t zs := by
  obtain ⟨own, sm, n, h1, _⟩ := hp
  rcases h with (q | ⟨o, q⟩) | q
  · exact .inl (.inl (e _ _ q (fun z => by rw [z, h1] at q; cases q)))
  · exact .inl (.inr ⟨o, e _ _ q (fun z => by rw [z, h1] at q; cases q)⟩)
  · exact .inr q
theorem But.put {p r : Addr} {H G : Hp} {o : HO} (e : But p H G) (nr : H r = none) : But p H (upd G r o) := fun c u h ne => by
  rw [upd_ne (ne_of_none h nr)]
  exact e c u h ne
theorem erase_perm : ∀ {zs : List V} {k : Nat} {y : V}, zs[k]? = some y → (y :: zs.eraseIdx k).Perm zs
  | [], k, y, h => by simp at h
  | z :: r, 0, y, h => by
    simp at h
    subst h
    exact List.Perm.refl _
  | z :: r, k + 1, y, h => by
    have ih := erase_perm (zs := r) (k := k) (y := y) (by simpa using h)
    exact (List.Perm.swap z y (r.eraseIdx k)).trans (ih.cons z)
theorem pick_perm {zs ys xs : List V} {k : Nat} {y : V} (h : (zs ++ ys).Perm xs) (hy : zs[k]? = some y) : (zs.eraseIdx k ++ (ys ++ [y])).Perm xs := by
  have h1 := erase_perm hy
  refine List.Perm.trans ?_ h
  have h2 : (zs.eraseIdx k ++ (ys ++ [y])).Perm ((y :: zs.eraseIdx k) ++ ys) := by
    rw [← List.append_assoc]
    refine (List.perm_append_singleton y (zs.eraseIdx k ++ ys)).trans ?_
    exact List.Perm.refl _
  exact h2.trans (h1.append_right ys)
/-- so many unlike places of a list -/
def spSome (K : PySem.W.Frag) : Sp := fun vs H Q _ => ∃ (p l : Addr) (m b : Nat) (xs : List V), vs = [.ref p, .ref l, .int m] ∧ PotAt H p b ∧ b + m ≤ 100000 ∧ SqL K H l xs ∧ l ≠ p ∧ m ≤ xs.length ∧ xs.length ≤ 1000 ∧
  ∀ (f : Addr) (ys : List V) (H' : Hp), But p H H' → PotAt H' p (b + m) → H f = none → f ≠ p → H' f = some (.lst ys) → ys.length = m → (∃ zs, (zs ++ ys).Perm xs) → Q (.ref f) H'
end LG
namespace K55
open PySem L2 LG
section
variable {P : Program} {w : World} {K : PySem.W.Frag} {mg : Str → Option Value} {base : Heap}
abbrev nS : List Str := ["_law_pot_here", "_law_pool", "_law_many", "_law_left", "_law_found", "_law_lap"]
theorem scSome : FnScope nS ["_law_pot_here", "_law_pool", "_law_many"] (defScope sSome) := ⟨rfl, rfl, rfl, by decide +kernel, rfl, by decide +kernel, by decide +kernel⟩
theorem ok_some {f g : Addr} {fd gd : FuncData} (F : Fun K "_law_some" "_law_some" sSome f fd) (T : Bltn mg) (G : FnOk P w K mg base CX0 1 g gd ["_law_pot_here", "_law_upto"] spTake) (mG : mg "_law_take" = some (.ref g)) (kG : PySem.W.keepIn K (.ref g) = true) (bG : Binds K gd ["_law_pot_here", "_law_upto"] []) :
    FnOk P w K mg base CX0 2 f fd ["_law_pot_here", "_law_pool", "_law_many"] (spSome K) := by
  refine F.ok scSome (fun vs H Q E h => ?_) (fun cdv A outer s H vs Q E hr h => ?_)
  · obtain ⟨p, l, m, b, xs, rfl, _⟩ := h
    rfl
  obtain ⟨p, l, m, b, xs, rfl, hp, hb, hl, ne, hm, hx, q⟩ := h
  refine ⟨_, pss_cons (ps_par (i := 3) (j := 4) rfl scSome.nd rfl rfl (by decide) rfl rfl (pa_cons (pe_callTy call_list_of rfl T.list (by decide +kernel) (pa_cons (pv 1) pa_nil)) (pa_cons (pe_lst pa_nil) pa_nil)) (by rfl))
    (pss_cons (ps_for PassesOwn.never rfl (pi_range1 rfl T.range (pa_cons (pv 2) pa_nil)) (pg_name (i := 5) scSome.nd rfl (Or.inl rfl))
      (pss_one (ps_expr (pe_bm PySem.F.plainAttrs_list PySem.F.slot_list_append PySem.F.type_list_append mt_append (pv 4) (pa_cons
        (pe_bm PySem.F.plainAttrs_list PySem.F.slot_list_pop PySem.F.type_list_pop mt_popAt (pv 3) (pa_cons (pe_call G hr rfl mG kG bG .nil pass0 (pa_cons (pv 0) (pa_cons (pe_callB call_len_seq rfl T.len PySem.boot_len (pa_cons (pv 3) pa_nil)) pa_nil))) pa_nil)) pa_nil)))))
    (pss_one (ps_ret (pv 4)))), ?_⟩
  refine ⟨_, rfl, l, xs, rfl, .inl hl, fun r nr => ?_⟩
  have s1 := same_new nr (.lst xs)
  have hr1 : (upd H r (.lst xs)) r = some (.lst xs) := upd_same
  show _
  generalize upd H r (.lst xs) = H1 at s1 hr1 ⊢
  refine ⟨(by show 0 ≤ sizeLine; decide), fun fo nf => ?_⟩
  have s2 := same_new nf (.lst [])
  have hf2 : (upd H1 fo (.lst [])) fo = some (.lst []) := upd_same
  have hr2 := s2 _ _ hr1
  show _
  generalize upd H1 fo (.lst []) = H2 at s2 hf2 hr2 ⊢
  have nf0 : H fo = none := s1.free nf
  have nrf : r ≠ fo := ne_of_none hr1 nf
  have npr : r ≠ p := fun z => hp.there (by rw [← z]; exact nr)
  have npf : fo ≠ p := fun z => hp.there (by rw [← z]; exact nf0)
  refine ⟨_, _, rfl, _, rfl, _, rfl, (by omega), (by omega), ?_⟩
  refine for_range (lo := 0) (n := ((m : Int)).toNat) (fun i σ Gi => ∃ x5 zs ys, σ = [some (.ref p), some (.ref l), some (.int m), some (.ref r), some (.ref fo), x5] ∧ But p H Gi ∧ PotAt Gi p (b + i) ∧ Gi r = some (.lst zs) ∧ Gi fo = some (.lst ys) ∧ (zs ++ ys).Perm xs ∧ ys.length = i)
    ⟨_, xs, [], rfl, But.of (s1.trans s2), hp.same (s1.trans s2), hr2, hf2, by rw [List.append_nil], rfl⟩ ?_ ?_
  · rintro i σ Gi hi ⟨x5, zs, ys, rfl, bG, pG, hrG, hfG, perm, ly⟩
    have hlen := perm.length_eq
    rw [List.length_append] at hlen
    have z0 : 0 < zs.length := by omega
    refine ⟨_, rfl, .inl ⟨rfl, _, SqL.of hfG⟩, _, rfl, .inl ⟨rfl, _, SqL.of hrG⟩, _, rfl, _, rfl, r, _, rfl, .inl (SqL.of hrG), p, _, b + i, rfl, pG, by omega, by omega, by omega, fun k G2 k0 k1 but2 pot2 => ?_⟩
    have hr3 := but2 _ _ hrG npr
    have hf3 := but2 _ _ hfG npf
    have kz : k.toNat < zs.length := by omega
    have bG2 := bG.trans but2
    refine ⟨r, zs, k, k.toNat, zs[k.toNat], rfl, rfl, hr3, by omega, by omega, ?_, List.getElem?_eq_getElem kz, ?_⟩
    · unfold seqIndex?
      show (if (0 ≤ (if k < 0 then k + (zs.length : Int) else k) && (if k < 0 then k + (zs.length : Int) else k) < (zs.length : Int)) = true then _ else _) = _
      rw [if_neg (by omega : ¬ k < 0), if_pos (by simp; omega)]
    · have hf4 : (upd G2 r (.lst (zs.eraseIdx k.toNat))) fo = some (.lst ys) := by
        rw [upd_ne (Ne.symm nrf)]
        exact hf3
      refine ⟨fo, ys, _, rfl, rfl, hf4, by rw [sizeLine_eq]; omega, _, zs.eraseIdx k.toNat, ys ++ [zs[k.toNat]], rfl, (bG2.put nr).put nf0, ?_, ?_, upd_same, pick_perm perm (List.getElem?_eq_getElem kz), by rw [List.length_append, ly]; rfl⟩
      · obtain ⟨own, sm, n, h1, h2⟩ := pot2
        exact ⟨own, sm, n, by rw [upd_ne (Ne.symm npf), upd_ne (Ne.symm npr)]; exact h1, h2⟩
      · rw [upd_ne nrf, upd_same]
  · rintro σ Gi ⟨x5, zs, ys, rfl, bG, pG, hrG, hfG, perm, ly⟩
    have em : ((m : Int)).toNat = m := Int.toNat_natCast m
    rw [em] at ly pG
    exact ⟨_, rfl, q fo ys Gi bG pG nf0 npf hfG ly ⟨zs, perm⟩⟩
end
end K55
set_option Elab.async false
set_option linter.all false
set_option maxRecDepth 100000
set_option maxHeartbeats 4000000
namespace LG
open PySem L2
/-! ### drawn devices -/
def prodK (S C : List Str) : List (Str × Str) := S.flatMap fun s => C.map fun c => (s, c)
structure Drawn (D : Dev) : Prop where
  cn : D.calls.Nodup
  an : D.answers.Nodup
  sn : D.states.Nodup
  c1 : 1 ≤ D.calls.length ∧ D.calls.length ≤ 3
  a1 : 2 ≤ D.answers.length ∧ D.answers.length ≤ 3
  s1 : 1 ≤ D.states.length ∧ D.states.length ≤ 4
  cw : ∀ x ∈ D.calls, isNameB x = true
  aw : ∀ x ∈ D.answers, isNameB x = true
  sw : ∀ x ∈ D.states, isNameB x = true
  keys : D.goals.map (·.1) = prodK D.states D.calls
  vals : ∀ e ∈ D.goals, e.2.1 ∈ D.answers ∧ e.2.2 ∈ D.states
structure OwnAt (K : PySem.W.Frag) (H : Hp) (o : Addr) (D : Dev) : Prop where
  ex : ∃ c a s r kvs, H o = some (.dK [(.inr ("calls" : Str), .ref c), (.inr ("answers" : Str), .ref a), (.inr ("states" : Str), .ref s), (.inr ("rows" : Str), .ref r)]) ∧ H c = some (.lst (D.calls.map V.str)) ∧ H a = some (.lst (D.answers.map V.str)) ∧ H s = some (.lst (D.states.map V.str)) ∧
    H r = some (.dT kvs) ∧ GR K H kvs D.goals
theorem OwnAt.same {K : PySem.W.Frag} {H H' : Hp} {o : Addr} {D : Dev} (e : Same H H') (h : OwnAt K H o D) : OwnAt K H' o D := by
  obtain ⟨c, a, s, r, kvs, h1, h2, h3, h4, h5, h6⟩ := h.ex
  exact ⟨c, a, s, r, kvs, e _ _ h1, e _ _ h2, e _ _ h3, e _ _ h4, e _ _ h5, h6.same e⟩
theorem str_inj : Function.Injective V.str := fun _ _ h => V.str.inj h
theorem nodup_map_str {ns : List Str} (h : ns.Nodup) : (ns.map V.str).Nodup := by
  unfold List.Nodup at h ⊢
  rw [List.pairwise_map]
  exact h.imp fun ne e => ne (V.str.inj e)
theorem nodup_of_map_str {ns : List Str} (h : (ns.map V.str).Nodup) : ns.Nodup := by
  unfold List.Nodup at h ⊢
  rw [List.pairwise_map] at h
  exact h.imp fun ne e => ne (by rw [e])
theorem some_txt {zs ys : List V} {pool : List Str} (h : (zs ++ ys).Perm (pool.map V.str)) (nd : pool.Nodup) : ∃ ns : List Str, ys = ns.map V.str ∧ ns.Nodup ∧ ∀ n ∈ ns, n ∈ pool := by
  have mem : ∀ y ∈ ys, ∃ n ∈ pool, y = V.str n := fun y hy => by
    have := h.mem_iff.mp (List.mem_append_right zs hy)
    obtain ⟨n, hn, e⟩ := List.mem_map.mp this
    exact ⟨n, hn, e.symm⟩
  have nds : (zs ++ ys).Nodup := (h.nodup_iff).mpr (nodup_map_str nd)
  have ndy : ys.Nodup := (List.nodup_append.mp nds).2.1
  have ex : ∀ (l : List V), (∀ y ∈ l, ∃ n ∈ pool, y = V.str n) → ∃ ns : List Str, l = ns.map V.str ∧ ∀ n ∈ ns, n ∈ pool := by
    intro l
    induction l with
    | nil => exact fun _ => ⟨[], rfl, fun _ h => nomatch h⟩
    | cons y r ih =>
      intro hm
      obtain ⟨n, hn, rfl⟩ := hm y List.mem_cons_self
      obtain ⟨ns, rfl, hns⟩ := ih fun z hz => hm z (List.mem_cons_of_mem _ hz)
      refine ⟨n :: ns, rfl, fun z hz => ?_⟩
      rcases List.mem_cons.mp hz with rfl | hz
      · exact hn
      · exact hns z hz
  obtain ⟨ns, rfl, hns⟩ := ex ys mem
  exact ⟨ns, rfl, nodup_of_map_str ndy, hns⟩
theorem lookup_none_of {g : Goals} {k : Str × Str} (h : k ∉ g.map (·.1)) : g.lookup k = none := by
  induction g with
  | nil => rfl
  | cons e r ih =>
    obtain ⟨k', x⟩ := e
    have ne : ¬ k = k' := fun z => h (by simp [z])
    have nb : (k == k') = false := by simpa using ne
    have l : List.lookup k ((k', x) :: r) = List.lookup k r := by simp [List.lookup, nb]
    rw [l]
    exact ih fun z => h (by simp at z ⊢; exact .inr z)
theorem prod_take {S C : List Str} {i : Nat} (h : i < S.length) : prodK (S.take (i + 1)) C = prodK (S.take i) C ++ C.map fun c => (S[i], c) := by
  unfold prodK
  rw [List.take_add_one, List.getElem?_eq_getElem h, List.flatMap_append]
  simp
theorem prod_mem {S C : List Str} {k : Str × Str} : k ∈ prodK S C ↔ k.1 ∈ S ∧ k.2 ∈ C := by
  unfold prodK
  rw [List.mem_flatMap]
  constructor
  · rintro ⟨s, hs, h⟩
    obtain ⟨c, hc, rfl⟩ := List.mem_map.mp h
    exact ⟨hs, hc⟩
  · rintro ⟨h1, h2⟩
    exact ⟨k.1, h1, List.mem_map.mpr ⟨k.2, h2, rfl⟩⟩
theorem prod_len {S C : List Str} : (prodK S C).length = S.length * C.length := by
  induction S with
  | nil => simp [prodK]
  | cons s r ih =>
    have e : prodK (s :: r) C = (C.map fun c => (s, c)) ++ prodK r C := rfl
    rw [e, List.length_append, List.length_map, ih, List.length_cons, Nat.succ_mul]
    omega
theorem prod_nodup {S C : List Str} (hS : S.Nodup) (hC : C.Nodup) : (prodK S C).Nodup := by
  induction S with
  | nil => simp [prodK]
  | cons s r ih =>
    have e : prodK (s :: r) C = (C.map fun c => (s, c)) ++ prodK r C := rfl
    rw [e, List.nodup_append]
    obtain ⟨h1, h2⟩ := List.nodup_cons.mp hS
    refine ⟨?_, ih h2, ?_⟩
    · unfold List.Nodup at hC ⊢
      rw [List.pairwise_map]
      exact hC.imp fun ne z => ne (Prod.mk.inj z).2
    · intro a ha b hb z
      obtain ⟨c, _, rfl⟩ := List.mem_map.mp ha
      rw [← z] at hb
      exact h1 (prod_mem.mp hb).1
/-- references to the tuples of keys -/
inductive KeyRefs (H : Hp) : List V → List (Str × Str) → Prop
  | nil : KeyRefs H [] []
  | cons {t : Addr} {k : Str × Str} {vs : List V} {ks : List (Str × Str)} : H t = some (.tup ((kT k).map kV)) → KeyRefs H vs ks → KeyRefs H (.ref t :: vs) (k :: ks)
theorem KeyRefs.same {H H' : Hp} {vs : List V} {ks : List (Str × Str)} (e : Same H H') (h : KeyRefs H vs ks) : KeyRefs H' vs ks := by
  induction h with
  | nil => exact .nil
  | cons a _ ih => exact .cons (e _ _ a) ih
theorem KeyRefs.len {H : Hp} {vs : List V} {ks : List (Str × Str)} (h : KeyRefs H vs ks) : vs.length = ks.length := by
  induction h with
  | nil => rfl
  | cons _ _ ih => rw [List.length_cons, List.length_cons, ih]
theorem KeyRefs.perm {H : Hp} {vs vs' : List V} (e : vs'.Perm vs) : ∀ {ks : List (Str × Str)}, KeyRefs H vs ks → ∃ ks' : List (Str × Str), ks'.Perm ks ∧ KeyRefs H vs' ks' := by
  induction e with
  | nil => exact fun h => ⟨_, List.Perm.refl _, h⟩
  | cons x _ ih =>
    intro ks h
    cases h with
    | cons a r =>
      obtain ⟨ks', p, q⟩ := ih r
      exact ⟨_, p.cons _, .cons a q⟩
  | swap x y l =>
    intro ks h
    cases h with
    | cons a r => cases r with
      | cons b r => exact ⟨_, List.Perm.swap _ _ _, .cons b (.cons a r)⟩
  | trans _ _ ih1 ih2 =>
    intro ks h
    obtain ⟨ks1, p1, q1⟩ := ih2 h
    obtain ⟨ks2, p2, q2⟩ := ih1 q1
    exact ⟨ks2, p2.trans p1, q2⟩
theorem KeyRefs.get {H : Hp} {vs : List V} {ks : List (Str × Str)} (h : KeyRefs H vs ks) : ∀ {i : Nat} {v : V}, vs[i]? = some v → ∃ t k, v = .ref t ∧ ks[i]? = some k ∧ H t = some (.tup ((kT k).map kV)) := by
  induction h with
  | nil => intro i v e; simp at e
  | cons a _ ih =>
    intro i v e
    cases i with
    | zero =>
      simp at e
      subst e
      exact ⟨_, _, rfl, rfl, a⟩
    | succ i =>
      obtain ⟨t, k, h1, h2, h3⟩ := ih (i := i) (v := v) (by simpa using e)
      exact ⟨t, k, h1, by simpa using h2, h3⟩
theorem KeyRefs.cut {H : Hp} {vs : List V} {ks : List (Str × Str)} (h : KeyRefs H vs ks) : ∀ k : Nat, KeyRefs H (vs.drop k) (ks.drop k) ∧ KeyRefs H (vs.take k) (ks.take k) := by
  induction h with
  | nil => intro k; simp; exact .nil
  | cons a r ih =>
    intro k
    cases k with
    | zero => exact ⟨.cons a r, .nil⟩
    | succ k => exact ⟨(ih k).1, .cons a (ih k).2⟩
theorem KeyRefs.app {H : Hp} {vs ws : List V} {ks ls : List (Str × Str)} (h : KeyRefs H vs ks) (r : KeyRefs H ws ls) : KeyRefs H (vs ++ ws) (ks ++ ls) := by
  induction h with
  | nil => exact r
  | cons a _ ih => exact .cons a ih
end LG
set_option Elab.async false
set_option linter.all false
set_option maxRecDepth 100000
set_option maxHeartbeats 8000000
namespace LG
open PySem L2
def IsSz (H : Hp) (v : V) : Prop := ∃ (t : Addr) (n1 n2 : Nat), v = .ref t ∧ H t = some (.tup [.int n1, .int n2]) ∧ 1 ≤ n1 ∧ n1 ≤ 3 ∧ 2 ≤ n2 ∧ n2 ≤ 3
theorem IsSz.same {H H' : Hp} {v : V} (e : Same H H') (h : IsSz H v) : IsSz H' v := by
  obtain ⟨t, n1, n2, h1, h2, h3⟩ := h
  exact ⟨t, n1, n2, h1, e _ _ h2, h3⟩
def tSz : TE := fun _ H Q => ∀ v H', Same H H' → IsSz H' v → Q v H'
def tSzs (m : Nat) : TA := fun _ H Q => ∀ vs H', Same H H' → vs.length = m → (∀ v ∈ vs, IsSz H' v) → Q vs H'
section
variable {X : Cx} {e : Expr} {es : List Expr} {m : Nat} {pos : Pos}
theorem sz_item {i j : Nat} {c1 c2 p1 p2 x1} (h : 1 ≤ i ∧ i ≤ 3 ∧ 2 ≤ j ∧ j ≤ 3 := by decide) : PE X (.Tuple [.Constant (.int (i : Int)) c1 p1, .Constant (.int (j : Int)) c2 p2] x1 pos) tSz :=
  pe_imp (pe_tup (pa_cons pe_int (pa_cons pe_int pa_nil (by rfl)) (by rfl))) fun _ H Q q => ⟨(by show 2 ≤ sizeLine; decide), fun t nt => q _ _ (same_new nt _) ⟨t, i, j, rfl, upd_same, h⟩⟩
theorem sz_nil : PA X [] (tSzs 0) := pa_imp pa_nil fun _ H Q q => q _ _ (Same.refl H) rfl (fun _ m => nomatch m)
theorem sz_cons (h : PE X e tSz) (r : PA X es (tSzs m)) (hs : starEach (e :: es) X.env = (false, eval e X.env) :: starEach es X.env := by rfl) : PA X (e :: es) (tSzs (m + 1)) :=
  pa_imp (pa_cons h r hs) fun _ H Q q x H1 s1 g1 xs H2 s2 l2 g2 => q _ _ (s1.trans s2) (by rw [List.length_cons, l2]) fun y hy => by
    rcases List.mem_cons.mp hy with rfl | hy
    · exact g1.same s2
    · exact g2 y hy
end
end LG
set_option Elab.async false
set_option linter.all false
set_option maxRecDepth 100000
set_option maxHeartbeats 8000000
namespace LG
open PySem L2
theorem GR.butp {K : PySem.W.Frag} {H H' : Hp} {p b : _} {kvs : List (List Key × V)} {g : Goals} (e : But p H H') (hp : PotAt H p b) (h : GR K H kvs g) : GR K H' kvs g := by
  induction h with
  | nil => exact .nil
  | cons a _ ih => exact .cons (e.tup hp a) ih
theorem tup_mk {K : PySem.W.Frag} {H : Hp} {p b t : _} {zs : List V} (hp : PotAt H p b) (h : SqT K H t zs) : SqT K (mk p H) t zs := by
  obtain ⟨own, sm, n, e1, _⟩ := hp
  rcases h with (q | ⟨ob, q⟩) | q
  · exact .inl (.inl (mk_of (fun z => by rw [z, e1] at q; cases q) q))
  · exact .inl (.inr ⟨ob, mk_of (fun z => by rw [z, e1] at q; cases q) q⟩)
  · exact .inr q
theorem GR.mk {K : PySem.W.Frag} {H : Hp} {p b : _} {kvs : List (List Key × V)} {g : Goals} (hp : PotAt H p b) (h : GR K H kvs g) : GR K (mk p H) kvs g := by
  induction h with
  | nil => exact .nil
  | cons a _ ih => exact .cons (tup_mk hp a) ih
def poolC : List Str := ["a", "b", "c", "pay", "test", "row", "calls", "x9", "zzzzzzzz", "p"]
def poolA : List Str := ["x", "y", "ok", "no", "a", "answers", "z0", "row"]
def poolS : List Str := ["p", "q", "s0", "s1", "s2", "states", "a", "zz"]
theorem poolC_nd : poolC.Nodup := by decide +kernel
theorem poolA_nd : poolA.Nodup := by decide +kernel
theorem poolS_nd : poolS.Nodup := by decide +kernel
theorem poolC_w : ∀ x ∈ poolC, isNameB x = true := by
  have h : poolC.all isNameB = true := by decide +kernel
  exact List.all_eq_true.mp h
theorem poolA_w : ∀ x ∈ poolA, isNameB x = true := by
  have h : poolA.all isNameB = true := by decide +kernel
  exact List.all_eq_true.mp h
theorem poolS_w : ∀ x ∈ poolS, isNameB x = true := by
  have h : poolS.all isNameB = true := by decide +kernel
  exact List.all_eq_true.mp h
end LG
namespace K55
open PySem L2 LG
section
variable {P : Program} {w : World} {K : PySem.W.Frag} {mg : Str → Option Value} {base : Heap}
def spAny (K : PySem.W.Frag) : Sp := fun vs H Q _ => ∃ (p z : Addr) (m n1 n2 b : Nat), vs = [.ref p, .int m, .ref z] ∧ PotAt H p b ∧ b ≤ 50000 ∧ 1 ≤ m ∧ m ≤ 4 ∧ mk p H z = some (.tup [.int n1, .int n2]) ∧ 1 ≤ n1 ∧ n1 ≤ 3 ∧ 2 ≤ n2 ∧ n2 ≤ 3 ∧
  ∀ (o : Addr) (D : Dev) (H' : Hp), But p H H' → PotAt H' p (b + 50) → Drawn D → D.states.length = m → OwnAt K (mk p H') o D → Q (.ref o) H'
abbrev nA : List Str := ["_law_pot_here", "_law_many", "_law_sizes", "_law_calls", "_law_answers", "_law_states", "_law_rows", "_law_state", "_law_call"]
theorem scAny : FnScope nA ["_law_pot_here", "_law_many", "_law_sizes"] (defScope sAny) := ⟨rfl, rfl, rfl, by decide +kernel, rfl, by decide +kernel, by decide +kernel⟩
theorem ok_any {f g1 g2 : Addr} {fd gd1 gd2 : FuncData} (F : Fun K "_law_any_device" "_law_any_device" sAny f fd)
    (GS : FnOk P w K mg base CX0 2 g1 gd1 ["_law_pot_here", "_law_pool", "_law_many"] (spSome K)) (mS : mg "_law_some" = some (.ref g1)) (kS : PySem.W.keepIn K (.ref g1) = true) (bS : Binds K gd1 ["_law_pot_here", "_law_pool", "_law_many"] [])
    (GO : FnOk P w K mg base CX0 2 g2 gd2 ["_law_pot_here", "_law_some_here"] (spOf K)) (mO : mg "_law_of" = some (.ref g2)) (kO : PySem.W.keepIn K (.ref g2) = true) (bO : Binds K gd2 ["_law_pot_here", "_law_some_here"] []) :
    FnOk P w K mg base CX0 3 f fd ["_law_pot_here", "_law_many", "_law_sizes"] (spAny K) := by
  refine F.ok scAny (fun vs H Q E h => ?_) (fun cdv A0 outer st H vs Q E hr h => ?_)
  · obtain ⟨p, z, m, n1, n2, b, rfl, _⟩ := h
    rfl
  obtain ⟨p, z, m, n1, n2, b, rfl, hp, hb, m1, m4, hz, a1, a3, c2, c3, q⟩ := h
  have hu := hu_of hr
  refine ⟨_, pss_cons (ps_set (i := 3) scAny.nd rfl (Or.inl rfl) (pe_call GS hr rfl mS kS bS .nil pass0 (pa_cons (pv 0) (pa_cons (pe_lst (pa_cons pe_str (pa_cons pe_str (pa_cons pe_str (pa_cons pe_str (pa_cons pe_str (pa_cons pe_str (pa_cons pe_str (pa_cons pe_str (pa_cons pe_str (pa_cons pe_str pa_nil))))))))))) (pa_cons (pe_ix ix_tup (pv 2) pe_int (fun _ _ => rfl)) pa_nil)))))
    (pss_cons (ps_set (i := 4) scAny.nd rfl (Or.inl rfl) (pe_call GS hr rfl mS kS bS .nil pass0 (pa_cons (pv 0) (pa_cons (pe_lst (pa_cons pe_str (pa_cons pe_str (pa_cons pe_str (pa_cons pe_str (pa_cons pe_str (pa_cons pe_str (pa_cons pe_str (pa_cons pe_str pa_nil))))))))) (pa_cons (pe_ix ix_tup (pv 2) pe_int (fun _ _ => rfl)) pa_nil)))))
    (pss_cons (ps_set (i := 5) scAny.nd rfl (Or.inl rfl) (pe_call GS hr rfl mS kS bS .nil pass0 (pa_cons (pv 0) (pa_cons (pe_lst (pa_cons pe_str (pa_cons pe_str (pa_cons pe_str (pa_cons pe_str (pa_cons pe_str (pa_cons pe_str (pa_cons pe_str (pa_cons pe_str pa_nil))))))))) (pa_cons (pv 1) pa_nil)))))
    (pss_cons (ps_set (i := 6) scAny.nd rfl (Or.inl rfl) pe_dnewT)
    (pss_cons (ps_for PassesOwn.never rfl (pi_list (pv 5)) (pg_name (i := 7) scAny.nd rfl (Or.inl rfl))
      (pss_one (ps_for PassesOwn.never rfl (pi_list (pv 3)) (pg_name (i := 8) scAny.nd rfl (Or.inl rfl))
        (pss_one (ps_dput hu (pv 6) (pe_tup (pa_cons (pv 7) (pa_cons (pv 8) pa_nil))) (pe_tup (pa_cons (pe_call GO hr rfl mO kO bO .nil pass0 (pa_cons (pv 0) (pa_cons (pv 4) pa_nil))) (pa_cons (pe_call GO hr rfl mO kO bO .nil pass0 (pa_cons (pv 0) (pa_cons (pv 5) pa_nil))) pa_nil))) rfl)))))
    (pss_one (ps_ret (pe_disp (pps_cons pe_str (pv 3) (pps_cons pe_str (pv 4) (pps_cons pe_str (pv 5) (pps_cons pe_str (pv 6) pps_nil)))) (by rfl) (by rfl) (fun z => by cases z) (by show 4 ≤ 15; decide)))))))), ?_⟩
  have lne : ∀ {G : Hp} {l : Addr} {b : Nat}, PotAt G p b → G l = none → l ≠ p := fun hp' nl z => hp'.there (by rw [← z]; exact nl)
  -- the calls
  refine ⟨_, rfl, (by show 10 ≤ sizeLine; decide), fun l1 nl1 => ?_⟩
  have s1 := same_new nl1 (.lst (poolC.map V.str))
  have hz0 : H z = some (.tup [.int n1, .int n2]) := (mk_some hz).2
  have hzp : z ≠ p := (mk_some hz).1
  refine ⟨_, rfl, z, _, 0, _, rfl, rfl, .inl (.inl (s1 _ _ hz0)), rfl, p, l1, n1, b, poolC.map V.str, rfl, hp.same s1, by omega, SqL.of upd_same, lne hp nl1, by show n1 ≤ 10; omega, by show 10 ≤ 1000; decide, fun f1 ys1 H1 but1 pot1 nf1 np1 hf1 ly1 pm1 => ?_⟩
  obtain ⟨zs1, pm1⟩ := pm1
  obtain ⟨C, rfl, ndC, memC⟩ := some_txt pm1 poolC_nd
  rw [List.length_map] at ly1
  have b1 : But p H H1 := (But.of s1).trans but1
  have hz1 := b1 _ _ hz0 hzp
  have nf1 : H f1 = none := s1.free nf1
  -- the answers
  refine ⟨_, rfl, (by show 8 ≤ sizeLine; decide), fun l2 nl2 => ?_⟩
  have s2 := same_new nl2 (.lst (poolA.map V.str))
  refine ⟨_, rfl, z, _, 1, _, rfl, rfl, .inl (.inl (s2 _ _ hz1)), rfl, p, l2, n2, _, poolA.map V.str, rfl, pot1.same s2, by omega, SqL.of upd_same, lne pot1 nl2, by show n2 ≤ 8; omega, by show 8 ≤ 1000; decide, fun f2 ys2 H2 but2 pot2 nf2 np2 hf2 ly2 pm2 => ?_⟩
  obtain ⟨zs2, pm2⟩ := pm2
  obtain ⟨A, rfl, ndA, memA⟩ := some_txt pm2 poolA_nd
  rw [List.length_map] at ly2
  have b12 : But p H1 H2 := (But.of s2).trans but2
  have b2 : But p H H2 := b1.trans b12
  have hf1 := b12 _ _ hf1 np1
  have nf2 : H1 f2 = none := s2.free nf2
  -- the states
  refine ⟨_, rfl, (by show 8 ≤ sizeLine; decide), fun l3 nl3 => ?_⟩
  have s3 := same_new nl3 (.lst (poolS.map V.str))
  refine ⟨_, rfl, p, l3, m, _, poolS.map V.str, rfl, pot2.same s3, by omega, SqL.of upd_same, lne pot2 nl3, by show m ≤ 8; omega, by show 8 ≤ 1000; decide, fun f3 ys3 H3 but3 pot3 nf3 np3 hf3 ly3 pm3 => ?_⟩
  obtain ⟨zs3, pm3⟩ := pm3
  obtain ⟨S, rfl, ndS, memS⟩ := some_txt pm3 poolS_nd
  rw [List.length_map] at ly3
  have b23 : But p H2 H3 := (But.of s3).trans but3
  have b3 : But p H H3 := b2.trans b23
  have hf1 := b23 _ _ hf1 np1
  have hf2 := b23 _ _ hf2 np2
  -- the rows
  intro r nr
  have s4 := same_new nr (.dT [])
  have hr4 : (upd H3 r (.dT [])) r = some (.dT []) := upd_same
  have npr := lne pot3 nr
  have nr0 : ∀ {c o}, H c = some o → c ≠ p → c ≠ r := fun e ne z => by
    have := b3 _ _ e ne
    rw [z, nr] at this
    cases this
  show _
  generalize upd H3 r (.dT []) = H4 at s4 hr4 ⊢
  have b4 : But p H H4 := b3.trans (But.of s4)
  have hf1 := s4 _ _ hf1
  have hf2 := s4 _ _ hf2
  have hf3 := s4 _ _ hf3
  have pot4 := pot3.same s4
  have nr1 : r ≠ f1 := ne_of hr4 hf1 (by intro z; cases z)
  have nr2 : r ≠ f2 := ne_of hr4 hf2 (by intro z; cases z)
  have nr3 : r ≠ f3 := ne_of hr4 hf3 (by intro z; cases z)
  generalize hB : b + n1 + n2 + m = B at pot4
  have hB2 : B ≤ b + 10 := by omega
  let J : Hp → Goals → Prop := fun G g => But p H G ∧ PotAt G p (B + 2 * g.length) ∧ G f1 = some (.lst (C.map V.str)) ∧ G f2 = some (.lst (A.map V.str)) ∧ G f3 = some (.lst (S.map V.str)) ∧ (∃ kvs, G r = some (.dT kvs) ∧ GR K G kvs g) ∧ ∀ e ∈ g, e.2.1 ∈ A ∧ e.2.2 ∈ S
  refine ⟨_, rfl, f3, rfl, ⟨_, SqL.of hf3⟩, ?_⟩
  refine for_list (xs := S.map V.str) (fun i σ G => ∃ x7 x8 g, σ = [some (.ref p), some (.int m), some (.ref z), some (.ref f1), some (.ref f2), some (.ref f3), some (.ref r), x7, x8] ∧ J G g ∧ g.map (·.1) = prodK (S.take i) C)
    ⟨_, _, [], rfl, ⟨b4, pot4, hf1, hf2, hf3, ⟨[], hr4, .nil⟩, fun _ h => nomatch h⟩, rfl⟩ ?_ ?_ ?_
  · rintro i σ G _ ⟨_, _, g, rfl, ⟨_, _, _, _, h, _⟩, _⟩
    exact SqL.of h
  · rintro i x σ G hx ⟨x7, x8, g, rfl, jG, kG⟩
    have hi : i < S.length := by
      have := (List.getElem?_eq_some_iff.mp hx).1
      simpa using this
    rw [List.getElem?_map, List.getElem?_eq_getElem hi] at hx
    have ex : x = .str S[i] := (Option.some.inj hx).symm
    subst ex
    obtain ⟨bG, pG, h1, h2, h3, hr5, vals⟩ := jG
    refine ⟨_, rfl, f1, rfl, ⟨_, SqL.of h1⟩, ?_⟩
    refine for_list (xs := C.map V.str) (fun j σ G => ∃ x8 g, σ = [some (.ref p), some (.int m), some (.ref z), some (.ref f1), some (.ref f2), some (.ref f3), some (.ref r), some (.str S[i]), x8] ∧ J G g ∧ g.map (·.1) = prodK (S.take i) C ++ (C.take j).map fun c => (S[i], c))
      ⟨_, g, rfl, ⟨bG, pG, h1, h2, h3, hr5, vals⟩, by simpa using kG⟩ ?_ ?_ ?_
    · rintro j σ G _ ⟨_, g, rfl, ⟨_, _, h, _, _, _⟩, _⟩
      exact SqL.of h
    · rintro j y σ G hy ⟨x8, g, rfl, ⟨bG, pG, h1, h2, h3, ⟨kvs, hrG, gr⟩, vals⟩, kG⟩
      have hj : j < C.length := by
        have := (List.getElem?_eq_some_iff.mp hy).1
        simpa using this
      rw [List.getElem?_map, List.getElem?_eq_getElem hj] at hy
      have ey : y = .str C[j] := (Option.some.inj hy).symm
      subst ey
      have glen : g.length ≤ 12 := by
        have e := congrArg List.length kG
        rw [List.length_map, List.length_append, prod_len, List.length_map, List.length_take, List.length_take] at e
        have i4 : min i S.length ≤ 3 := by omega
        have c4 : C.length ≤ 3 := by omega
        have := Nat.mul_le_mul i4 c4
        omega
      have fresh : g.lookup (S[i], C[j]) = none := by
        refine lookup_none_of ?_
        rw [kG, List.mem_append]
        rintro (h | h)
        · have := (prod_mem.mp h).1
          obtain ⟨k, hk, e⟩ := List.mem_take_iff_getElem.mp this
          have := (List.getElem_inj (List.nodup_iff_pairwise_ne.mp ndS |> fun _ => ndS)).mp e
          omega
        · obtain ⟨c, hc, e⟩ := List.mem_map.mp h
          have e2 := (Prod.mk.inj e).2
          rw [e2] at hc
          obtain ⟨k, hk, e3⟩ := List.mem_take_iff_getElem.mp hc
          have := (List.getElem_inj ndC).mp e3
          omega
      refine ⟨_, rfl, _, rfl, p, f2, A.map V.str, _, rfl, pG, by omega, SqL.of h2, by rw [List.length_map]; omega, by rw [List.length_map]; omega, np2, fun va G1 hva butA potA => ?_⟩
      obtain ⟨av, hav, rfl⟩ := List.mem_map.mp hva
      refine ⟨_, rfl, _, rfl, p, f3, S.map V.str, _, rfl, potA, by omega, SqL.of (butA _ _ h3 np3), by rw [List.length_map]; omega, by rw [List.length_map]; omega, np3, fun vb G2 hvb butB potB => ?_⟩
      obtain ⟨sv, hsv, rfl⟩ := List.mem_map.mp hvb
      have b02 := butA.trans butB
      refine ⟨(by show 2 ≤ sizeLine; decide), fun tv ntv => ?_⟩
      have s5 := same_new ntv (.tup [.str av, .str sv])
      have htv : (upd G2 tv (.tup [.str av, .str sv])) tv = some (.tup [.str av, .str sv]) := upd_same
      show _
      generalize upd G2 tv (.tup [.str av, .str sv]) = G3 at s5 htv ⊢
      refine ⟨_, rfl, _, rfl, _, rfl, (by show 2 ≤ sizeLine; decide), fun tk ntk => ?_⟩
      have s6 := same_new ntk (.tup [.str S[i], .str C[j]])
      have htk : (upd G3 tk (.tup [.str S[i], .str C[j]])) tk = some (.tup ((kT (S[i], C[j])).map kV)) := upd_same
      show _
      generalize upd G3 tk (.tup [.str S[i], .str C[j]]) = G4 at s6 htk ⊢
      have s56 := s5.trans s6
      have b04 : But p G G4 := b02.trans (But.of s56)
      have hr7 := b04 _ _ hrG npr
      have lk : valV kvs (kT (S[i], C[j])) = none := by
        rcases gr.val (S[i], C[j]) with ⟨_, l2⟩ | ⟨x, t, l1, _⟩
        · exact l2
        · rw [fresh] at l1
          cases l1
      have hlen := gr.len
      refine ⟨r, _, rfl, DPut.t hr7 htk (by rw [hlen, sizeLine_eq]; omega), ?_⟩
      rw [putK_new _ lk]
      have keep : ∀ {c o}, G4 c = some o → c ≠ r → (upd G4 r (.dT (kvs ++ [(kT (S[i], C[j]), V.ref tv)]))) c = some o := fun e ne => by rw [upd_ne ne]; exact e
      refine ⟨_, g ++ [((S[i], C[j]), (av, sv))], rfl, ⟨?_, ?_, keep (b04 _ _ h1 np1) (Ne.symm nr1), keep (b04 _ _ h2 np2) (Ne.symm nr2), keep (b04 _ _ h3 np3) (Ne.symm nr3), ⟨_, upd_same, ?_⟩, ?_⟩, ?_⟩
      · intro c o e ne
        exact keep ((bG.trans b04) c o e ne) (nr0 e ne)
      · obtain ⟨own, sm, n, e1, e2, e3, e4, e5, e6⟩ := potB.same s56
        exact ⟨own, sm, n, keep e1 (Ne.symm npr), e2, e3, e4, e5, by rw [List.length_append, List.length_singleton]; omega⟩
      · refine GR.upd hr7 (.snoc (GR.butp b04 pG gr) ?_)
        exact .inl (.inl (s6 _ _ htv))
      · intro e he
        rcases List.mem_append.mp he with he | he
        · exact vals e he
        · rw [List.mem_singleton.mp he]
          exact ⟨hav, hsv⟩
      · rw [List.map_append, kG, List.take_add_one, List.getElem?_eq_getElem hj, List.map_append, List.append_assoc]
        rfl
    · rintro σ G ⟨x8, g, rfl, jG, kG⟩
      refine ⟨_, _, g, rfl, jG, ?_⟩
      rw [kG, prod_take hi, List.length_map, List.take_length]
  · rintro σ G ⟨x7, x8, g, rfl, ⟨bG, pG, h1, h2, h3, ⟨kvs, hr5, gr⟩, vals⟩, kG⟩
    have em : mergeK [] [((.inr ("calls" : Str) : Key), V.ref f1), (.inr ("answers" : Str), .ref f2), (.inr ("states" : Str), .ref f3), (.inr ("rows" : Str), .ref r)] = [((.inr ("calls" : Str) : Key), V.ref f1), (.inr ("answers" : Str), .ref f2), (.inr ("states" : Str), .ref f3), (.inr ("rows" : Str), .ref r)] := by rfl
    intro o no
    refine ⟨_, rfl, _, rfl, _, rfl, _, rfl, upd_same, [((.inr ("calls" : Str) : Key), V.ref f1), (.inr ("answers" : Str), .ref f2), (.inr ("states" : Str), .ref f3), (.inr ("rows" : Str), .ref r)], rfl, (by show 4 ≤ 15; decide), ?_⟩
    rw [em, upd_upd]
    have s7 := same_new no (.dK [((.inr ("calls" : Str) : Key), V.ref f1), (.inr ("answers" : Str), .ref f2), (.inr ("states" : Str), .ref f3), (.inr ("rows" : Str), .ref r)])
    have ho : (upd G o (.dK [((.inr ("calls" : Str) : Key), V.ref f1), (.inr ("answers" : Str), .ref f2), (.inr ("states" : Str), .ref f3), (.inr ("rows" : Str), .ref r)])) o = some (.dK [((.inr ("calls" : Str) : Key), V.ref f1), (.inr ("answers" : Str), .ref f2), (.inr ("states" : Str), .ref f3), (.inr ("rows" : Str), .ref r)]) := upd_same
    generalize upd G o (.dK [((.inr ("calls" : Str) : Key), V.ref f1), (.inr ("answers" : Str), .ref f2), (.inr ("states" : Str), .ref f3), (.inr ("rows" : Str), .ref r)]) = G9 at s7 ho ⊢
    have npo := lne pG no
    rw [List.length_map, List.take_length] at kG
    have glen : g.length ≤ 12 := by
      have e := congrArg List.length kG
      rw [List.length_map, prod_len] at e
      have := Nat.mul_le_mul (by omega : S.length ≤ 4) (by omega : C.length ≤ 3)
      omega
    refine q o ⟨C, A, S, g⟩ G9 (bG.trans (But.of s7)) ((pG.same s7).mono (by omega)) ⟨ndC, ndA, ndS, ⟨by show 1 ≤ C.length; omega, by show C.length ≤ 3; omega⟩, ⟨by show 2 ≤ A.length; omega, by show A.length ≤ 3; omega⟩, ⟨by show 1 ≤ S.length; omega, by show S.length ≤ 4; omega⟩,
      fun x hx => poolC_w x (memC x hx), fun x hx => poolA_w x (memA x hx), fun x hx => poolS_w x (memS x hx), kG, vals⟩ (by show S.length = m; omega) ⟨⟨f1, f2, f3, r, kvs, mk_of npo ho, mk_of np1 (s7 _ _ h1), mk_of np2 (s7 _ _ h2), mk_of np3 (s7 _ _ h3), mk_of npr (s7 _ _ hr5), ?_⟩⟩
    exact (gr.same s7).mk (pG.same s7)
end
end K55
set_option Elab.async false
set_option linter.all false
set_option maxRecDepth 100000
set_option maxHeartbeats 8000000
namespace LG
open PySem L2
def rowX (D : Dev) (k : Str × Str) : Str × Str := (D.goals.lookup k).getD (Str.empty, Str.empty)
def rowOf (D : Dev) (k : Str × Str) : Str := Txt.join sp1 ["row", k.1, k.2, (rowX D k).1, (rowX D k).2]
def headsOf (D : Dev) : List Str := [("calls " : Str) ++ Txt.join sp1 D.calls, ("answers " : Str) ++ Txt.join sp1 D.answers, ("states " : Str) ++ Txt.join sp1 D.states]
def linesOf (D : Dev) (ks : List (Str × Str)) : List Str := headsOf D ++ ks.map (rowOf D)
def textOf (D : Dev) (ks : List (Str × Str)) : Str := Txt.join nl1 (linesOf D ks)
theorem name_len {x : Str} (h : isNameB x = true) : x.length ≤ 8 := by
  unfold isNameB at h
  simp only [Bool.and_eq_true, decide_eq_true_eq] at h
  exact h.1.1.2
theorem sum_le {ts : List Str} {k : Nat} (h : ∀ t ∈ ts, t.length ≤ k) : (ts.map (·.length)).sum ≤ ts.length * k := by
  induction ts with
  | nil => simp
  | cons x r ih =>
    have h1 := h x List.mem_cons_self
    have h2 := ih fun t ht => h t (List.mem_cons_of_mem _ ht)
    rw [List.map_cons, List.sum_cons, List.length_cons, Nat.succ_mul]
    omega
theorem join_le1 {y : Str} {ts : List Str} {k : Nat} (h1 : y.length = 1) (h : ∀ t ∈ ts, t.length ≤ k) : (Txt.join y ts).length ≤ ts.length * (k + 1) := by
  rw [TL.join_eq]
  cases ts with
  | nil => exact Nat.zero_le _
  | cons x r =>
    have e := join_size y (ts := x :: r) (by simp)
    rw [h1] at e
    have h2 : ((x :: r).map fun t => t.length + 1).sum ≤ (x :: r).length * (k + 1) := by
      clear e
      generalize x :: r = ts at h
      induction ts with
      | nil => simp
      | cons z q ih =>
        have b1 := h z List.mem_cons_self
        have b2 := ih fun t ht => h t (List.mem_cons_of_mem _ ht)
        rw [List.map_cons, List.sum_cons, List.length_cons, Nat.succ_mul]
        omega
    omega
theorem lookup_mem {g : Goals} {k x : Str × Str} (h : g.lookup k = some x) : (k, x) ∈ g := by
  induction g with
  | nil => cases h
  | cons e r ih =>
    obtain ⟨k', x'⟩ := e
    by_cases he : k = k'
    · subst he
      have : List.lookup k ((k, x') :: r) = some x' := by simp [List.lookup]
      rw [this] at h
      cases h
      exact List.mem_cons_self
    · have nb : (k == k') = false := by simpa using he
      have : List.lookup k ((k', x') :: r) = List.lookup k r := by simp [List.lookup, nb]
      rw [this] at h
      exact List.mem_cons_of_mem _ (ih h)
theorem lookup_some {g : Goals} {k : Str × Str} (h : k ∈ g.map (·.1)) : ∃ x, g.lookup k = some x := by
  cases e : g.lookup k with
  | some x => exact ⟨x, rfl⟩
  | none =>
    exfalso
    induction g with
    | nil => simp at h
    | cons p r ih =>
      obtain ⟨k', x'⟩ := p
      by_cases he : k = k'
      · subst he
        simp [List.lookup] at e
      · have nb : (k == k') = false := by simpa using he
        have l : List.lookup k ((k', x') :: r) = List.lookup k r := by simp [List.lookup, nb]
        rw [l] at e
        refine ih ?_ e
        simp at h
        rcases h with h | h
        · exact absurd h he
        · simpa using h
theorem Drawn.row {D : Dev} (d : Drawn D) {k : Str × Str} (h : k ∈ D.goals.map (·.1)) : D.goals.lookup k = some (rowX D k) ∧ k.1 ∈ D.states ∧ k.2 ∈ D.calls ∧ (rowX D k).1 ∈ D.answers ∧ (rowX D k).2 ∈ D.states := by
  obtain ⟨x, e⟩ := lookup_some h
  have ex : rowX D k = x := by
    unfold rowX
    rw [e]
    rfl
  have m := lookup_mem e
  rw [d.keys] at h
  have pm := prod_mem.mp h
  have v := d.vals _ m
  rw [ex]
  exact ⟨e, pm.1, pm.2, v.1, v.2⟩
theorem Drawn.row_len {D : Dev} (d : Drawn D) {k : Str × Str} (h : k ∈ D.goals.map (·.1)) : (rowOf D k).length ≤ 45 ∧ ∀ t ∈ (["row", k.1, k.2, (rowX D k).1, (rowX D k).2] : List Str), t.length ≤ 8 := by
  obtain ⟨_, h1, h2, h3, h4⟩ := d.row h
  have l : ∀ t ∈ (["row", k.1, k.2, (rowX D k).1, (rowX D k).2] : List Str), t.length ≤ 8 := by
    intro t ht
    simp only [List.mem_cons, List.not_mem_nil, or_false] at ht
    rcases ht with rfl | rfl | rfl | rfl | rfl
    · decide +kernel
    · exact name_len (d.sw _ h1)
    · exact name_len (d.cw _ h2)
    · exact name_len (d.aw _ h3)
    · exact name_len (d.sw _ h4)
  exact ⟨join_le1 sp1_1 l, l⟩
theorem Drawn.lens {D : Dev} (d : Drawn D) : (∀ t ∈ D.calls, t.length ≤ 8) ∧ (∀ t ∈ D.answers, t.length ≤ 8) ∧ (∀ t ∈ D.states, t.length ≤ 8) := ⟨fun t h => name_len (d.cw t h), fun t h => name_len (d.aw t h), fun t h => name_len (d.sw t h)⟩
theorem Drawn.heads_len {D : Dev} (d : Drawn D) : ∀ t ∈ headsOf D, t.length ≤ 45 := by
  obtain ⟨h1, h2, h3⟩ := d.lens
  have j1 := join_le1 sp1_1 h1
  have j2 := join_le1 sp1_1 h2
  have j3 := join_le1 sp1_1 h3
  have e1 : ("calls " : Str).length = 6 := by decide +kernel
  have e2 : ("answers " : Str).length = 8 := by decide +kernel
  have e3 : ("states " : Str).length = 7 := by decide +kernel
  have := d.c1
  have := d.a1
  have := d.s1
  intro t ht
  unfold headsOf at ht
  simp only [List.mem_cons, List.not_mem_nil, or_false] at ht
  rcases ht with rfl | rfl | rfl
  · rw [strLen_append]
    omega
  · rw [strLen_append]
    omega
  · rw [strLen_append]
    omega
theorem Drawn.lines_len {D : Dev} (d : Drawn D) {ks : List (Str × Str)} (h : ∀ k ∈ ks, k ∈ D.goals.map (·.1)) : ∀ t ∈ linesOf D ks, t.length ≤ 45 := by
  intro t ht
  rcases List.mem_append.mp ht with ht | ht
  · exact d.heads_len t ht
  · obtain ⟨k, hk, rfl⟩ := List.mem_map.mp ht
    exact (d.row_len (h k hk)).1
end LG
set_option Elab.async false
set_option linter.all false
set_option maxRecDepth 100000
set_option maxHeartbeats 8000000
namespace LG
open PySem L2
def rJoinK (K : PySem.W.Frag) : V → List V → Hp → VK → Prop := fun x xs H Q => ∃ (a : Str) (p : Addr) (ys : List Str), x = .str a ∧ xs = [.ref p] ∧ (SqL K H p (ys.map V.str) ∨ SqT K H p (ys.map V.str)) ∧ (ys.map (·.length)).sum + ys.length * a.length ≤ 16777216 ∧ Q (.str (Txt.join a ys)) H
theorem str_bits (ks : List (Str × Str)) (f : Str × Str → Str) : (List.range ks.length).map (fun i => V.str (f (ks.getD i (Str.empty, Str.empty)))) = (ks.map f).map V.str := by
  apply List.ext_getElem
  · simp
  · intro k h1 h2
    have hk : k < ks.length := by simpa using h1
    simp [List.getD, hk]
end LG
set_option Elab.async false
set_option linter.all false
set_option maxRecDepth 100000
set_option maxHeartbeats 8000000
namespace LG
open PySem L2
theorem refs_of {K : PySem.W.Frag} {H : Hp} : ∀ {kvs : List (List Key × V)} {g : Goals} {bs : List Addr}, GR K H kvs g → IsKeys H kvs bs → KeyRefs H (bs.map V.ref) (g.map (·.1))
  | _, _, _, .nil, .nil => .nil
  | _, _, _, .cons _ r, .cons h t => .cons h (refs_of r t)
theorem KeyRefs.butp {H H' : Hp} {p b : _} {vs : List V} {ks : List (Str × Str)} (e : But p H H') (hp : PotAt H p b) (h : KeyRefs H vs ks) : KeyRefs H' vs ks := by
  obtain ⟨own, sm, n, h1, _⟩ := hp
  induction h with
  | nil => exact .nil
  | cons a _ ih => exact .cons (e _ _ a (fun z => by rw [z, h1] at a; cases a)) ih
theorem KeyRefs.mk {H : Hp} {p b : _} {vs : List V} {ks : List (Str × Str)} (hp : PotAt H p b) (h : KeyRefs H vs ks) : KeyRefs (mk p H) vs ks := by
  obtain ⟨own, sm, n, h1, _⟩ := hp
  induction h with
  | nil => exact .nil
  | cons a _ ih => exact .cons (mk_of (fun z => by rw [z, h1] at a; cases a) a) ih
end LG
set_option Elab.async false
set_option linter.all false
set_option maxRecDepth 100000
set_option maxHeartbeats 4000000
namespace LG
open PySem L2
/-! ### the text of a drawn device is read as it was written -/
theorem name_signs {x : Str} (h : isNameB x = true) : ∀ c ∈ TL.tl x, (inL c || inF c) = true := by
  unfold isNameB at h
  rw [Bool.and_eq_true] at h
  exact List.all_eq_true.mp h.2
theorem sign32 : (inL 32 || inF 32) = false := by decide +kernel
theorem sign10 : (inL 10 || inF 10) = false := by decide +kernel
theorem no_sign {x : Str} (h : isNameB x = true) {c : Nat} (hc : (inL c || inF c) = false) : c ∉ TL.tl x := fun m => by
  rw [name_signs h c m] at hc
  cases hc
theorem join_mem {y : Str} : ∀ {ts : List Str} {c : Nat}, c ∈ TL.tl (Str.join y ts) → c ∈ TL.tl y ∨ ∃ t ∈ ts, c ∈ TL.tl t
  | [], c, h => by
    have : c ∈ TL.tl Str.empty := h
    simp [TL.tl, Str.empty] at this
  | [x], c, h => .inr ⟨x, List.mem_singleton.mpr rfl, h⟩
  | x :: z :: r, c, h => by
    have e : Str.join y (x :: z :: r) = x ++ y ++ Str.join y (z :: r) := rfl
    rw [e, TL.tl_append, TL.tl_append] at h
    rcases List.mem_append.mp h with h | h
    · rcases List.mem_append.mp h with h | h
      · exact .inr ⟨x, List.mem_cons_self, h⟩
      · exact .inl h
    · rcases join_mem h with h | ⟨t, ht, h⟩
      · exact .inl h
      · exact .inr ⟨t, List.mem_cons_of_mem _ ht, h⟩
theorem words_join {ts : List Str} (hne : ts ≠ []) (h : ∀ t ∈ ts, 32 ∉ TL.tl t) : Txt.split (Txt.join sp1 ts) sp1 = ts := TL.split_join (s := 32) (S := []) (by decide +kernel) sp1_k hne h
theorem lines_join {ts : List Str} (hne : ts ≠ []) (h : ∀ t ∈ ts, 10 ∉ TL.tl t) : Txt.split (Txt.join nl1 ts) nl1 = ts := TL.split_join (s := 10) (S := []) (by decide +kernel) nl1_k hne h
theorem no10_join {ts : List Str} (h : ∀ t ∈ ts, 10 ∉ TL.tl t) : 10 ∉ TL.tl (Txt.join sp1 ts) := fun m => by
  rw [TL.join_eq] at m
  rcases join_mem m with m | ⟨t, ht, m⟩
  · have : (10 : Nat) ∉ TL.tl sp1 := by decide +kernel
    exact this m
  · exact h t ht m
theorem head_line {w : Str} {ns : List Str} (hn : ns ≠ []) : (w ++ sp1) ++ Txt.join sp1 ns = Txt.join sp1 (w :: ns) := by
  rw [TL.join_eq, TL.join_eq]
  cases ns with
  | nil => exact absurd rfl hn
  | cons x r => rfl
theorem namesIn_of {w : Str} {ns : List Str} {a b : Int} (hw : (32 : Nat) ∉ TL.tl w) (hn : ∀ x ∈ ns, isNameB x = true) (nd : ns.Nodup) (ha : a ≤ (ns.length : Int)) (hb : (ns.length : Int) ≤ b) : LG.namesIn (Txt.join sp1 (w :: ns)) w a b = ns := by
  have e : Txt.split (Txt.join sp1 (w :: ns)) sp1 = w :: ns := words_join (by simp) fun t ht => by
    rcases List.mem_cons.mp ht with rfl | ht
    · exact hw
    · exact no_sign (hn t ht) sign32
  unfold LG.namesIn
  rw [e]
  show (if w ≠ w ∨ ¬ (a ≤ (ns.length : Int) ∧ (ns.length : Int) ≤ b) then _ else if (uniq ns).length < ns.length ∨ ¬ (ns.all isNameB = true) then _ else ns) = ns
  rw [if_neg, if_neg]
  · rintro (h | h)
    · have := (uniq_len ns).2.mpr nd
      omega
    · exact h (List.all_eq_true.mpr hn)
  · rintro (h | h)
    · exact h rfl
    · exact h ⟨ha, hb⟩
end LG
set_option Elab.async false
set_option linter.all false
set_option maxRecDepth 100000
set_option maxHeartbeats 2000000
/-! for k, v in d.items(), d a locked dict with tuple keys. -/
namespace LG
open PySem PySem.Spec PyProof.Rows L2
/-- the pairs of the locked dict at d -/
def Itit (d : Addr) (o : Obj) (kvs : List (List Key × V)) : It :=
  ⟨fun i H => H d = some (.frz o (.dT kvs)) ∧ i < kvs.length, fun i H x H' => ∃ (T q : Addr) (k : List Key) (v : V), kvs[i]? = some (k, v) ∧ H q = some (.tup (k.map kV)) ∧ x = .ref T ∧ H T = none ∧ H' = upd H T (.tup [.ref q, v]), fun i H => H d = some (.frz o (.dT kvs)) ∧ kvs.length ≤ i⟩
section
variable {X : Cx} {pins : List (Addr × Obj)} {σ : L2.St} {H : Hp} {s : Shared} {d : Addr} {o : Obj}
theorem frz_both {kvs : List (List Key × V)} (I : Inv X pins σ H s) (h : H d = some (.frz o (.dT kvs))) : (d == sysModules) = false ∧ ∃ (es : Array DictEntry) (ep : Nat), o.data = .dict es ep ∧ s.heap.DictRaw d es ep ∧ es.size = kvs.length ∧
    ∀ (i : Nat) (k : List Key) (v : V), kvs[i]? = some (k, v) → ∃ (en : DictEntry) (q : Addr), es[i]? = some en ∧ en.key = .ref q ∧ H q = some (.tup (k.map kV)) ∧ RelV v en.val := by
  obtain ⟨hd, z, hs, xs, pr, o', es, ep, ho, hx, hdt, he, _⟩ := I.hok d _ h
  rw [hd] at ho
  cases ho
  refine ⟨hs, es, ep, hdt, ⟨o, hd, hx, hdt⟩, ?_, fun i k v e => ?_⟩
  · have l1 : es.size = xs.length := size_of_entries he
    have l2 : kvs.length = xs.length := Paired.length pr
    omega
  · obtain ⟨b, hb, e1, e2, e3⟩ := paired_get pr e
    have q := entry_at he i
    rw [hb] at q
    exact ⟨_, b.2.1, q, rfl, e2, e3⟩
end
theorem turn_itemsT {P : Program} {w : World} {K : PySem.W.Frag} {d : Addr} {o : Obj} {es : Array DictEntry} {ep : Nat} {kvs : List (List Key × V)} {elts : List Expr} {kk : Nat} {tpos : Pos} (it : Addr) (hod : o.data = .dict es ep) :
    Turn P w K (.Tuple elts kk tpos) (Itit d o kvs) [it] it (fun i h => ∃ ok ov, IsItemIter h it d i es.size ep ok ov) where
  mem := by simp
  obj := fun i h st b hb => by
    have e : b = it := by simpa using hb
    subst e
    obtain ⟨ok, ov, e⟩ := st
    exact ⟨_, e, fun v z => nomatch z⟩
  keep := fun i h h' st k => by
    obtain ⟨ok, ov, e⟩ := st
    exact ⟨ok, ov, k it (by simp) _ e⟩
  item := by
    intro X hP hw hK hc i pins s σ H E I hf st hg
    subst hP hw hK
    obtain ⟨hd, hi⟩ := hg
    obtain ⟨hs, es', ep', hdt, raw, hsz, ent⟩ := frz_both I hd
    obtain ⟨rfl, rfl⟩ := dict_ep hod hdt
    obtain ⟨⟨k, v⟩, hkv⟩ : ∃ p, kvs[i]? = some p := ⟨kvs[i], List.getElem?_eq_getElem hi⟩
    obtain ⟨en, q, hen, hkey, hq, hv⟩ := ent i k v hkv
    have hlt' : i < es'.size := by omega
    have een : es'[i] = en := by
      rw [Array.getElem?_eq_getElem hlt'] at hen
      exact Option.some.inj hen
    obtain ⟨ok, ov, he⟩ := st
    have hlt : it < s.heap.objs.size := Heap.lt_size he
    refine wpAny_pyNext_items_item_raw he raw hlt' fun h' ho hT hz hk => ?_
    rw [een, hkey] at ho hT
    refine ⟨_, rfl, wpAny_letOwnedTupleGo_items (s := { s with heap := h' }) ho fun h'' he' sb => ?_⟩
    have hT2 : h''.get? s.heap.objs.size = some { cls := .type "tuple", data := .seq #[.ref q, en.val] } := (sb.2 _ (Nat.ne_of_gt hlt)).trans hT
    have new : ObjOk X.prog X.w (upd H s.heap.objs.size (.tup [.ref q, v])) h'' s.heap.objs.size (.tup [.ref q, v]) :=
      ⟨by show 2 ≤ sizeLine; decide, [.ref q, en.val], .cons rfl (.cons hv .nil), ⟨_, hT2, rfl, _, rfl⟩⟩
    have I1 : Inv X pins σ (upd H s.heap.objs.size (.tup [.ref q, v])) { s with heap := h'' } :=
      I.turnedNew (t' := s.toks) (ch := [it]) (fun b ob hb e => (sb.2 b (by simpa using hb)).trans (hk b ob (by simpa using hb) e)) hf (Nat.le_refl _) new
    refine ⟨.ref s.heap.objs.size, _, I1, rfl, ⟨_, q, k, v, hkv, hq, rfl, I.hok.fresh (Nat.le_refl _), rfl⟩, ⟨_, _, he'⟩, fun b hb => ?_⟩
    have e : b = it := by simpa using hb
    rw [e, upd_ne (Nat.ne_of_lt hlt)]
    exact (hf it (by simp)).1
  done := by
    intro X hP hw hK hc i pins s σ H E I hf st hg
    subst hP hw hK
    obtain ⟨hd, hi⟩ := hg
    obtain ⟨f0, f1, f2, f3, f4, f5⟩ := hf it (by simp)
    obtain ⟨hs, es', ep', hdt, raw, hsz, ent⟩ := frz_both I hd
    obtain ⟨rfl, rfl⟩ := dict_ep hod hdt
    obtain ⟨ok, ov, he⟩ := st
    exact wpAny_pyNext_items_end_raw (I.ok.hd hc) he raw (by omega) fun h' eb => ⟨rfl, I.turned (t' := s.toks) (fun b ob hb e => eb b ob hb e) f0 f1 f3 f4 f5⟩
  self := fun A i s Q E st h => by
    obtain ⟨_, _, e⟩ := st
    exact PySem.W.kcp_self e h
def iItemsT (td : TE) : TI := fun σ H R => td σ H fun x H1 => ∃ (d : Addr) (o : Obj) (kvs : List (List Key × V)), x = .ref d ∧ H1 d = some (.frz o (.dT kvs)) ∧ R (Itit d o kvs) H1
theorem pi_itemsT {X : Cx} {e : Expr} {td : TE} {elts : List Expr} {kk : Nat} {tpos apos cpos : Pos} (he : PE X e td) (hbase : attributeBase e "items" X.env (eval e X.env) = eval e X.env := by rfl) (hline : (apos.endLine == cpos.line) = true := by rfl) :
    PI X (.Tuple elts kk tpos) (.Call (.Attribute e "items" apos) [] [] cpos) (iItemsT td) := by
  refine ⟨fun pins s σ H R I h => ?_⟩
  refine wpAny_Call_method (T := "dict") (id := "dict.items") hbase rfl hline F.plainAttrs_dict F.slot_dict_items F.type_dict_items (thn (he.run pins s σ H _ I h) fun u s1 ⟨x, H1, I1, rx, d, o, kvs, ex, hd, q⟩ => ?_)
  subst ex
  have eu : u = Value.ref d := rx
  subst eu
  obtain ⟨hs, es, ep, hdt, raw, hsz, ent⟩ := frz_both I1 hd
  have noD : ∃ ob, s1.heap.get? d = some ob ∧ ob.ExactDict := by
    obtain ⟨ob, h1, h2, _⟩ := raw
    exact ⟨ob, h1, h2⟩
  obtain ⟨ob, hob, hex⟩ := noD
  refine ⟨⟨ob, hob, hex.1⟩, fun a ea => ⟨ob, by cases ea; exact hob, hex.2.1⟩, ?_⟩
  have I2 : Inv X pins σ H1 { s1 with heap := s1.heap.push { cls := .type "dict_items", data := .fields #[.ref d] } } := I1.kept (t' := s1.toks) fun b ob q => Heap.get?_push_of_some _ q
  have raw2 : (s1.heap.push { cls := .type "dict_items", data := .fields #[.ref d] }).DictRaw d es ep := by
    obtain ⟨ob, h1, h2⟩ := raw
    exact ⟨ob, Heap.get?_push_of_some _ h1, h2⟩
  have fin : wpAny (model X.prog X.w) X.A (pyIter (.ref s1.heap.objs.size)) (PIE X pins σ (.Tuple elts kk tpos) R) X.xe { s1 with heap := s1.heap.push { cls := .type "dict_items", data := .fields #[.ref d] } } :=
    wpAny_pyIter_items_raw (d := d) ⟨_, Heap.get?_push_size _ rfl, rfl, rfl⟩ raw2 (pi_one (tk := s1.toks) I2 _ (turn_itemsT _ hdt) ⟨.none, .none, Heap.get?_push_size _ rfl⟩ q)
  show wpAny _ _ (callWith cpos (.builtin "dict.items") [.ref d] [] []) _ X.xe s1
  exact method_meetsIn F.slot_dict_items F.entry_dict_items rfl (PySem.evalArgs_none ⟨rfl, ⟨ob, hob, hex.1⟩, F.args_dict_items_1 _, _, meets_dict_items_raw d hs, ⟨es, ep, raw⟩, fin⟩)
theorem walk_itemsT {d : Addr} {o : Obj} {kvs : List (List Key × V)} : Walk (Itit d o kvs) kvs.length (fun H => H d = some (.frz o (.dT kvs))) (fun i H x H' => ∃ (T q : Addr) (k : List Key) (v : V), kvs[i]? = some (k, v) ∧ H q = some (.tup (k.map kV)) ∧ x = .ref T ∧ H T = none ∧ H' = upd H T (.tup [.ref q, v])) :=
  ⟨fun _ _ hi q => ⟨q, hi⟩, fun _ q => ⟨q, Nat.le_refl _⟩, fun _ _ _ _ _ _ y => y⟩
end LG
set_option Elab.async false
set_option linter.all false
set_option maxRecDepth 100000
set_option maxHeartbeats 2000000
namespace LG
open PySem PySem.Spec PyProof.Rows L2 LamX
section
variable {P : Program} {w : World} {K : PySem.W.Frag} {mg : Str → Option Value} {base : Heap}
/-- a def's promise by its body, its code object known -/
theorem gn_ofL {x qual : Str} {st : Stmt} {f : Addr} {oc : Value} {od : Option Addr} {kV doc pm cv ct : Value} {an : Option Addr} {osl : Array (Option Value)} {N ps : List Str} {k : Nat} {sp : Sp}
    (lk : K.lookup f = some ⟨oc, od, .func (PySem.W.fnOf x qual (defArgs st) (defBody st) (defScope st) .none kV doc pm an cv ct), osl⟩) (hcd : PySem.W.codeIn K cv qual = true) (S : FnScope N ps (defScope st))
    (len : ∀ vs H Q E, sp vs H Q E → vs.length = ps.length)
    (body : ∀ (B : Around) (callers : List Env) (z : Shared) (H : Hp) (vs : List V) (Q : VK), B.guards = some [] → Room k (B.deeper (envOfC qual (defScope st) z.heap.objs.size f cv)) → sp vs H Q E0 →
      ∃ t, PSs (cxOf CX0 P w K mg base N qual (defScope st) f cv B callers z H E0).nox (defBody st) t ∧ t { nx := fun _ H' => Q .non H', rt := Q } (start N vs) H) :
    GnOk P w K mg base (k + 1) f (PySem.W.fnOf x qual (defArgs st) (defBody st) (defScope st) .none kV doc pm an cv ct) ps sp := by
  refine ⟨len, fun B callers z H args us vs Q hg hr e0 hb r hsp => ?_⟩
  have many := len _ _ _ _ hsp
  have inK : K.In z.heap := e0.mod.kin.keeps fun b o e => (e0.bs b o e).1
  have nolim : z.heap.NoLimit := e0.mod.nolimit.keeps fun b o e => (e0.bs b o e).1
  have kinds : ∀ y ∈ ps.zip us, (defScope st).names.lookup y.1 = some .local ∨ ((defScope st).names.lookup y.1 = some .cell ∧ ((cellsFrom (z.heap.objs.size + 1) (defScope st).names []).lookup y.1).isSome = true) := by
    rintro ⟨n, v⟩ hy
    cases S.par n (List.of_mem_zip hy).1 with
    | inl q => exact .inl q
    | inr q => exact .inr ⟨q, PySem.W.cellsFrom_some _ _ _ (.inl q)⟩
  refine codeAny_call_function hr.depth (inK _ _ lk) rfl S.co S.gen rfl (PySem.W.codeRec_of inK hcd) (hb _ _ _ _ ?_)
  refine wpAny_newFunctionEnv_cells S.kind kinds fun env he z1 entered => ?_
  subst he
  refine ⟨nolim.keeps entered.toInCall.keep, codeAny_func ?_⟩
  obtain ⟨t, ht, q0⟩ := body B callers z H vs Q hg (hr.deeper _) hsp
  have J := inv_start (CX := CX0) (E := E0) S hr.hd e0 many r entered
  refine wpAny_mono (ht.nox.run [] z1 (start N vs) H _ J q0) (fun fl z' ends => ?_) fun _ _ e => e
  cases fl with
  | ret u =>
    obtain ⟨v, σ', H', J', rv, q⟩ := ends
    exact ⟨v, H', J'.os, J'.bare, J'.base, J'.hok, rv, q⟩
  | next =>
    obtain ⟨σ', H', J', q⟩ := ends
    exact ⟨V.non, H', J'.os, J'.bare, J'.base, J'.hok, rfl, q⟩
  | brk =>
    obtain ⟨_, _, _, q⟩ := ends
    exact q.elim
  | cont =>
    obtain ⟨_, _, _, q⟩ := ends
    exact q.elim
/-- nothing is raised -/
theorem passF {X : Cx} : Passes (L2.CX X.prog X.w) X (fun _ _ _ => False) := fun _ _ _ _ _ _ _ c => by
  obtain ⟨_, _, _, _, _, _, _, _, _, _, _, _, z⟩ := c
  exact z.elim
/-- the tables are masked -/
def mt (H : Hp) : Hp := fun b => match H b with
  | some (.tbl _) => none
  | o => o
theorem mt_some {H : Hp} {b : Addr} {o : HO} (h : mt H b = some o) : H b = some o ∧ ∀ ps, o ≠ .tbl ps := by
  unfold mt at h
  cases e : H b with
  | none =>
    rw [e] at h
    cases h
  | some u =>
    rw [e] at h
    cases u with
    | tbl ps => cases h
    | _ => cases h; exact ⟨rfl, fun ps z => by cases z⟩
theorem mt_of {H : Hp} {b : Addr} {o : HO} (h : H b = some o) (n : ∀ ps, o ≠ .tbl ps) : mt H b = some o := by
  unfold mt
  rw [h]
  cases o with
  | tbl ps => exact absurd rfl (n ps)
  | _ => rfl
theorem mt_ext {H H' : Hp} (e : ExtN H H') : Same (mt H) (mt H') := fun b o h => by
  obtain ⟨h1, h2⟩ := mt_some h
  exact mt_of (e b o h1 h2) h2
theorem mt_up {H H' : Hp} (e : Same H H') : Same (mt H) (mt H') := mt_ext (ExtN.of e)
theorem mt_self (H : Hp) : Same (mt H) H := fun b o h => (mt_some h).1
theorem ext_of_mt {H H' : Hp} (e : Same (mt H) (mt H')) : ExtN H H' := fun b o h n => (mt_some (e b o (mt_of h n))).1
end
end LG
set_option Elab.async false
set_option linter.all false
set_option maxRecDepth 100000
set_option maxHeartbeats 4000000
namespace LG
open PySem L2
def tyNames : List String := ["NoneType", "bool", "int", "str", "list", "tuple", "dict"]
theorem Gx.ty {K : PySem.W.Frag} {n : Nat} {H : Hp} {v : V} (h : Gx K n H v) : (∃ x, v = .str x ∧ TyX K H v (.type "str")) ∨ ∃ T ∈ tyNames, T ≠ "str" ∧ TyX K H v (.type T) ∧ ∀ x, v ≠ .str x := by
  obtain ⟨d, h, _⟩ := h
  cases h with
  | flat h =>
    obtain ⟨T, ty, e⟩ := ty_of h
    cases h with
    | str x => exact .inl ⟨x, rfl, by subst e; exact ty⟩
    | non => exact .inr ⟨T, by subst e; simp [tyNames], by subst e; simp, ty, fun x z => nomatch z⟩
    | bl b => exact .inr ⟨T, by subst e; simp [tyNames], by subst e; simp, ty, fun x z => nomatch z⟩
    | int i => exact .inr ⟨T, by subst e; simp [tyNames], by subst e; simp, ty, fun x z => nomatch z⟩
    | lst _ _ => exact .inr ⟨T, by subst e; simp [tyNames], by subst e; simp, ty, fun x z => nomatch z⟩
    | tup _ _ => exact .inr ⟨T, by subst e; simp [tyNames], by subst e; simp, ty, fun x z => nomatch z⟩
  | dct h p => exact .inr ⟨"dict", by simp [tyNames], by simp, .base (.dK h), fun x z => nomatch z⟩
theorem kit_nostr {K : PySem.W.Frag} : ∀ T ∈ tyNames, T ≠ "str" → PySem.W.kitOne K (.type T) (.type "str") = some false := by
  intro T hT ne
  simp only [tyNames, List.mem_cons, List.not_mem_nil, or_false] at hT
  rcases hT with rfl | rfl | rfl | rfl | rfl | rfl | rfl
  · exact kit_ty (by decide +kernel)
  · exact kit_ty (by decide +kernel)
  · exact kit_ty (by decide +kernel)
  · exact absurd rfl ne
  · exact kit_ty (by decide +kernel)
  · exact kit_ty (by decide +kernel)
  · exact kit_ty (by decide +kernel)
theorem Gx.strOr {K : PySem.W.Frag} {n : Nat} {H : Hp} {v : V} (h : Gx K n H v) : StrOr K H v := by
  rcases h.ty with ⟨x, e, _⟩ | ⟨T, hT, ne, ty, no⟩
  · exact .inl ⟨x, e⟩
  · exact .inr ⟨_, ty, kit_nostr T hT ne, no⟩
end LG
set_option Elab.async false
set_option linter.all false
set_option maxRecDepth 100000
set_option maxHeartbeats 8000000
namespace LG
open PySem L2 LamX
/-! ### what stands where only tables change -/
theorem SqT.mt {K : PySem.W.Frag} {H : Hp} {t : Addr} {zs : List V} (h : SqT K H t zs) : SqT K (mt H) t zs := by
  rcases h with (q | ⟨o, q⟩) | q
  · exact .inl (.inl (mt_of q fun ps z => by cases z))
  · exact .inl (.inr ⟨o, mt_of q fun ps z => by cases z⟩)
  · exact .inr q
theorem SqL.mt {K : PySem.W.Frag} {H : Hp} {t : Addr} {zs : List V} (h : SqL K H t zs) : SqL K (mt H) t zs := by
  rcases h with (q | ⟨o, q⟩) | q
  · exact .inl (.inl (mt_of q fun ps z => by cases z))
  · exact .inl (.inr ⟨o, mt_of q fun ps z => by cases z⟩)
  · exact .inr q
mutual
theorem Dp_mt {K : PySem.W.Frag} {H : Hp} : ∀ (d : PyData) (v : V), Dp K H v d → Dp K (mt H) v d
  | .none, _, h => by cases h; exact .non
  | .bool b, _, h => by cases h; exact .bl b
  | .int i, _, h => by cases h; exact .int i
  | .str x, _, h => by cases h; exact .str x
  | .list ds, _, h => by
    cases h with
    | lst hs ha => exact .lst (SqL.mt hs) (DpAll_mt ds _ ha)
  | .tuple ds, _, h => by
    cases h with
    | tup hs ha => exact .tup (SqT.mt hs) (DpAll_mt ds _ ha)
  | .dict _, _, h => by cases h
theorem DpAll_mt {K : PySem.W.Frag} {H : Hp} : ∀ (ds : List PyData) (vs : List V), DpAll K H vs ds → DpAll K (mt H) vs ds
  | [], _, h => by cases h; exact .nil
  | d :: ds, _, h => by
    cases h with
    | cons h1 h2 => exact .cons (Dp_mt d _ h1) (DpAll_mt ds _ h2)
end
theorem Gx.mt {K : PySem.W.Frag} {n : Nat} {H : Hp} {v : V} (h : Gx K n H v) : Gx K n (mt H) v := by
  obtain ⟨d, h, hs⟩ := h
  refine ⟨d, ?_, hs⟩
  cases h with
  | flat h => exact .flat (Dp_mt _ _ h)
  | dct h p => exact .dct (mt_of h fun ps z => by cases z) p
theorem GR.mt {K : PySem.W.Frag} {H : Hp} {kvs : List (List Key × V)} {g : Goals} (h : GR K H kvs g) : GR K (mt H) kvs g := by
  induction h with
  | nil => exact .nil
  | cons a _ ih => exact .cons (SqT.mt a) ih
theorem DevAt.mt {K : PySem.W.Frag} {H : Hp} {x C : Addr} {T : Str} {D : Wat} (h : DevAt K H x C T D) : DevAt K (mt H) x C T D := by
  obtain ⟨dx, c, a, s, g, h1, h2, h3, h4, h5⟩ := h
  exact ⟨dx, c, a, s, g, mt_of h1 (fun ps z => by cases z), SqT.mt h2, SqT.mt h3, SqT.mt h4, h5.elim (fun q => .inl (mt_of q fun ps z => by cases z)) (fun ⟨o, q⟩ => .inr ⟨o, mt_of q fun ps z => by cases z⟩)⟩
theorem OwnAt.mt {K : PySem.W.Frag} {H : Hp} {o : Addr} {D : Dev} (h : OwnAt K H o D) : OwnAt K (mt H) o D := by
  obtain ⟨c, a, s, r, kvs, h1, h2, h3, h4, h5, h6⟩ := h.ex
  exact ⟨⟨c, a, s, r, kvs, mt_of h1 (fun ps z => by cases z), mt_of h2 (fun ps z => by cases z), mt_of h3 (fun ps z => by cases z), mt_of h4 (fun ps z => by cases z), mt_of h5 (fun ps z => by cases z), h6.mt⟩⟩
theorem DevAt.ext {K : PySem.W.Frag} {H H' : Hp} {x C : Addr} {T : Str} {D : Wat} (e : ExtN H H') (h : DevAt K H x C T D) : DevAt K H' x C T D := (h.mt.same (mt_ext e)).same (mt_self H')
theorem OwnAt.ext {K : PySem.W.Frag} {H H' : Hp} {o : Addr} {D : Dev} (e : ExtN H H') (h : OwnAt K H o D) : OwnAt K H' o D := (h.mt.same (mt_ext e)).same (mt_self H')
theorem Gx.ext {K : PySem.W.Frag} {n : Nat} {H H' : Hp} {v : V} (e : ExtN H H') (h : Gx K n H v) : Gx K n H' v := (h.mt.same (mt_ext e)).same (mt_self H')
theorem SqLext {K : PySem.W.Frag} {H H' : Hp} {t : Addr} {zs : List V} (e : ExtN H H') (h : SqL K H t zs) : SqL K H' t zs := (mt_self H').seq ((mt_ext e).seq (SqL.mt h))
theorem exq_tbl {a : Addr} {c : Value} {d : Option Addr} : ∀ ps, exq a c d ≠ .tbl ps := fun ps z => by
  have z' : HO.ext _ = HO.tbl ps := z
  cases z'
theorem ErrQ.ext {H H' : Hp} {a C d : Addr} {fs : List (Str × V)} (e : ExtN H H') (h : ErrQ H a C d fs) : ErrQ H' a C d fs := ⟨e _ _ h.ob exq_tbl, e _ _ h.dc fun ps z => by cases z⟩
/-- while a dict with tuple keys is locked -/
theorem tup_lock {K : PySem.W.Frag} {H G : Hp} {r t : Addr} {kvs : List (List Key × V)} {zs : List V} (hr : H r = some (.dT kvs)) (e : But r H G) (h : SqT K H t zs) : SqT K G t zs := by
  rcases h with (q | ⟨o, q⟩) | q
  · exact .inl (.inl (e _ _ q (fun z => by rw [z, hr] at q; cases q)))
  · exact .inl (.inr ⟨o, e _ _ q (fun z => by rw [z, hr] at q; cases q)⟩)
  · exact .inr q
theorem gr_lock {K : PySem.W.Frag} {H G : Hp} {r : Addr} {kvs kvs' : List (List Key × V)} {g : Goals} (hr : H r = some (.dT kvs)) (e : But r H G) (h : GR K H kvs' g) : GR K G kvs' g := by
  induction h with
  | nil => exact .nil
  | cons a _ ih => exact .cons (tup_lock hr e a) ih
/-- what the written part says of a class of errors that are caught -/
structure EQl (K : PySem.W.Frag) (mg : Str → Option Value) (fI B : Addr) (x : Str) (C : Addr) : Prop where
  ec : ECl K mg fI x C
  box : PySem.W.exmOne K (.ref C) (.ref B) = some true
/-- a caught error at v of the class at C that keeps y -/
def Caught (H : Hp) (C : Addr) (v y : V) : Prop := ∃ a d, v = .ref a ∧ ErrQ H a C d (vf y)
theorem Caught.ext {H H' : Hp} {C : Addr} {v y : V} (e : ExtN H H') (h : Caught H C v y) : Caught H' C v y := by
  obtain ⟨a, d, h1, h2⟩ := h
  exact ⟨a, d, h1, h2.ext e⟩
end LG
set_option Elab.async false
set_option linter.all false
set_option maxRecDepth 100000
set_option maxHeartbeats 8000000
namespace LG
open PySem L2 LamX
theorem kit_self {K : PySem.W.Frag} {t : Value} : PySem.W.kitOne K t t = some true := if_pos (beq_self_eq_true _)
theorem name_small {x : Str} (h : isNameB x = true) : small 0 (.str x) = true := by
  have hl := name_len h
  have hs := name_signs h
  simp only [small, Bool.and_eq_true, decide_eq_true_eq]
  refine ⟨by omega, List.all_eq_true.mpr fun d hd => ?_⟩
  have hc := hs d hd
  have hm : d ∈ LET.cps.toList ++ FIG.cps.toList := by
    rw [Bool.or_eq_true] at hc
    rcases hc with hc | hc
    · exact List.mem_append_left _ (of_decide_eq_true hc)
    · exact List.mem_append_right _ (of_decide_eq_true hc)
  have all : (LET.cps.toList ++ FIG.cps.toList).all (fun d => decide (d < 16 ^ 8)) = true := by decide +kernel
  exact List.all_eq_true.mp all d hm
theorem name_x_small {x : Str} (h : isNameB x = true) : small 0 (.str (x ++ ("x" : Str))) = true := by
  have hl := name_len h
  have h0 := name_small h
  simp only [small, Bool.and_eq_true, decide_eq_true_eq] at h0 ⊢
  refine ⟨?_, ?_⟩
  · rw [strLen_append]
    have : ("x" : Str).length = 1 := by decide +kernel
    omega
  · have e : (x ++ ("x" : Str)).cps.toList = x.cps.toList ++ ("x" : Str).cps.toList := TL.tl_append x "x"
    rw [e, List.all_append, h0.2]
    decide +kernel
theorem Gx.str {K : PySem.W.Frag} {n : Nat} {H : Hp} {x : Str} (h : small 0 (.str x) = true) : Gx K n H (.str x) := ⟨.str x, .flat (.str x), small_le (Nat.zero_le n) h⟩
/-- all but p and the tables stay -/
def BtR (p : Addr) (H H' : Hp) : Prop := ∀ c o, H c = some o → c ≠ p → (∀ ps, o ≠ .tbl ps) → H' c = some o
theorem BtR.trans {p : Addr} {H H1 H2 : Hp} (a : BtR p H H1) (b : BtR p H1 H2) : BtR p H H2 := fun c o h n t => b c o (a c o h n t) n t
theorem BtR.of {p : Addr} {H H' : Hp} (a : But p H H') : BtR p H H' := fun c o h n _ => a c o h n
theorem BtR.ex {p : Addr} {H H' : Hp} (a : ExtN H H') : BtR p H H' := fun c o h _ t => a c o h t
theorem Tabs.but {T : List (Addr × Str)} {H H' : Hp} {p b : _} (e : But p H H') (hp : PotAt H p b) (h : Tabs T H) : Tabs T H' := by
  obtain ⟨own, sm, n, h1, _⟩ := hp
  intro q hq
  obtain ⟨ps, t1, t2, t3⟩ := h q hq
  refine ⟨ps, e _ _ t1 (fun z => by rw [z, h1] at t1; cases t1), t2, fun pos cv hc => ?_⟩
  obtain ⟨c, e1, e2⟩ := t3 pos cv hc
  exact ⟨c, e1, e _ _ e2 (fun z => by
    rw [z, h1] at e2
    have e3 : HO.lst _ = HO.ext _ := Option.some.inj e2
    cases e3)⟩
theorem PotAt.ext {H H' : Hp} {p b : _} (e : ExtN H H') (h : PotAt H p b) : PotAt H' p b := by
  obtain ⟨own, sm, n, h1, h2⟩ := h
  exact ⟨own, sm, n, e _ _ h1 (fun ps z => by cases z), h2⟩
end LG
set_option Elab.async false
set_option linter.all false
set_option maxRecDepth 100000
set_option maxHeartbeats 2000000
/-! xs[::-1], xs a list. -/
namespace LG
open PySem PySem.Spec PyProof.Rows L2
section
variable {X : Cx} {e st : Expr} {te ts : TE} {pos p2 : Pos}
def tBackL (K : PySem.W.Frag) (te ts : TE) : TE := fun σ H Q => te σ H fun x H1 => ts σ H1 fun k H2 => ∃ a xs, k = .int (-1) ∧ x = .ref a ∧ SqL K H2 a xs ∧ ∀ p, H2 p = none → Q (.ref p) (upd H2 p (.lst xs.reverse))
theorem pe_backL (he : PE X e te) (hst : PE X st ts) : PE X (.Subscript e (.Slice none none (some st) p2) pos) (tBackL X.K te ts) := by
  refine ⟨fun pins s σ H Q I h => ?_⟩
  refine Subscript_ (thn (he.run pins s σ H _ I h) fun v s1 ⟨x, H1, I1, r1, q1⟩ => ?_)
  refine wpAny_Slice ?_
  rw [evalPart_none]
  refine wpAny_pure (wpAny_pure ?_)
  rw [evalPart_some]
  refine thn (hst.run pins s1 σ H1 _ I1 q1) fun vs s2 ⟨k, H2, I2, r2, a, xs, ek, ex, hx, q⟩ => ?_
  subst ek
  subst ex
  obtain ⟨tk, rfl⟩ := r2
  have ev : v = Value.ref a := r1
  subst ev
  have I3 : Inv X pins σ H2 { s2 with heap := s2.heap.push { cls := .type "slice", data := .fields #[.none, .none, .int (-1) tk] } } := I2.kept (t' := s2.toks) fun b ob q => Heap.get?_push_of_some _ q
  obtain ⟨its, r, ht, hz⟩ := I3.list hx
  have fits : its.toArray.size ≤ sizeLine := by
    rw [List.size_toArray, ← r.length]
    exact hz
  refine tail_any (s := { s2 with heap := s2.heap.push { cls := .type "slice", data := .fields #[.none, .none, .int (-1) tk] } }) (ops := [.ref a, .ref s2.heap.objs.size]) ht.isList.typeIs list_getitem_lookup ?_ (by with_unfolding_all rfl)
  refine wpAny_getItem_list_slice ht.isList (Heap.IsSliceOf.new ..) .none .none (.int _ _) (by decide) ?_ fits
  rw [PySem.W.krv_pick]
  refine ⟨.ref _, _, I3.laid (t' := s2.toks) (o := .lst xs.reverse) (fun b ob q => Heap.get?_push_of_some _ q) (Nat.le_refl _) ?_, rfl, q _ (I3.hok.fresh (Nat.le_refl _))⟩
  exact ⟨by rw [List.length_reverse]; exact hz, _, 0, vals_back r, Heap.get?_push_size _ rfl⟩
end
end LG
set_option Elab.async false
set_option linter.all false
set_option maxRecDepth 100000
set_option maxHeartbeats 4000000
namespace K55
open PySem L2 LG
section
variable {P : Program} {w : World} {K : PySem.W.Frag} {mg : Str → Option Value} {base : Heap}
abbrev nM : List Str := ["_law_word", "_law_letters", "_law_sign"]
theorem scName2 : FnScope nM ["_law_word"] (defScope sName2) := ⟨rfl, rfl, rfl, by decide +kernel, rfl, by decide +kernel, by decide +kernel⟩
theorem sign_both (c : Nat) : decide (c ∈ (LET ++ FIG).cps.toList) = (inL c || inF c) := by
  have e : (LET ++ FIG).cps.toList = LET.cps.toList ++ FIG.cps.toList := TL.tl_append LET FIG
  unfold inL inF
  rw [e]
  by_cases h1 : c ∈ LET.cps.toList <;> by_cases h2 : c ∈ FIG.cps.toList <;> simp [h1, h2]
theorem ok_name2 {f : Addr} {fd : FuncData} (F : Fun K "_law_is_name" "_law_is_name" sName2 f fd) (T : Bltn mg) : FnOk P w K mg base CX0 1 f fd ["_law_word"] spName := by
  refine F.ok scName2 (fun vs H Q E h => ?_) (fun cdv A outer s H vs Q E hr h => ?_)
  · obtain ⟨x, rfl, _⟩ := h
    rfl
  obtain ⟨x, rfl, hx, q⟩ := h
  refine ⟨_, pss_cons (ps_set (i := 1) scName2.nd rfl (Or.inr rfl) pe_str)
    (pss_cons (ps_if (PW.pt (pw_or (pt_not (pt_chain op_le op_le pe_int (pe_callB call_len_str rfl T.len PySem.boot_len (pa_cons (pv 0) pa_nil)) pe_int)) (pw_or1 (pt_cmpR op_notIn_sign (pe_ix ix_str (pv 0) pe_int (fun _ _ => rfl)) (pv 1) (by rfl)))))
      (pss_one (ps_ret pe_bl)) pss_nil)
    (pss_one (ps_ret (pe_callB (cr_all rfl) rfl T.all (by decide +kernel) (pa_cons (pe_lc (own := [("_law_sign", 2)]) (g := gName 2) (tt := tYes) rfl scName2.nd (pi_str (pv 0)) (blkOk_by (own := [("_law_sign", 2)]) (N := nM) (sc := defScope sName2) (by decide +kernel))
      (fun _ _ _ _ _ => pg_name (i := 2) scName2.nd rfl (Or.inl rfl)) (fun _ _ _ _ _ => pts_nil)
      (fun _ _ _ _ _ => pe_cmpR op_in_sign (pv 2) (pe_op op_add_str (pv 1) pe_str) (by rfl))) pa_nil))))), ?_⟩
  have len0 : x.length ≤ sizeLine := Nat.le_trans hx (by rw [sizeLine_eq]; decide)
  have no : isNameB x = false → Q (.bl false) H := fun e => by
    have := q H (Same.refl H)
    rw [e] at this
    exact this
  refine ⟨_, rfl, _, rfl, len0, _, _, rfl, rfl, _, rfl, ?_⟩
  refine ite2 (fun c1 => ?_) (fun c1 => ?_)
  · refine ⟨_, _, rfl, rfl, _, rfl, ?_⟩
    have l1 : 1 ≤ x.length := by
      have := of_decide_eq_true c1
      omega
    show (if (!decide ((x.length : Int) ≤ 8)) = true then _ else _)
    by_cases c2 : (x.length : Int) ≤ 8
    · rw [if_neg (by simp [c2])]
      have hc : x.cps[0]? = some (x.cps.getD 0 0) := by
        have : 0 < x.cps.size := l1
        simp [Array.getD, this]
      have hd0 : x.cps.toList.headD 0 = x.cps.getD 0 0 := by
        have : 0 < x.cps.size := l1
        rw [List.headD_eq_head?_getD, List.head?_eq_getElem?, Array.getElem?_toList, hc]
        rfl
      refine ⟨_, rfl, x, 0, x.cps.getD 0 0, rfl, rfl, len0, ?_, _, rfl, _, LET, rfl, rfl, _, rfl, ?_⟩
      · have z : atI x.cps.toList ((0 : Nat) : Int) = some (x.cps.getD 0 0) := atI_nat (by rw [Array.getElem?_toList]; exact hc)
        exact z
      refine ite2 (fun c3 => ?_) (fun c3 => ?_)
      · refine no ?_
        have c3' : inL (x.cps.getD 0 0) = false := by
          unfold inL
          simpa using c3
        rw [show isNameB x = ((decide (1 ≤ x.length) && decide (x.length ≤ 8) && inL (x.cps.toList.headD 0)) && x.cps.toList.all fun c => inL c || inF c) from rfl, hd0, c3']
        simp
      · refine ⟨_, rfl, x, rfl, fun D nD => ?_⟩
        refine lc_all walk_str nD (fun i => V.bl (inL (x.cps.getD i 0) || inF (x.cps.getD i 0))) (Nat.le_trans (show x.cps.size ≤ _ from len0) (Nat.le_refl _)) (fun _ _ => trivial) ?_ ?_
        · rintro i y H0 H' Kt hi s0 ⟨rfl, c, hc, rfl⟩ hK
          have ec : x.cps.getD i 0 = c := by
            rw [Array.getD_eq_getD_getElem?, hc]
            rfl
          have hK := hK H' (Same.refl _)
          rw [ec, ← sign_both] at hK
          exact ⟨rfl, _, rfl, _, rfl, LET, FIG, rfl, rfl, (by decide +kernel), c, LET ++ FIG, rfl, rfl, hK⟩
        · intro H2 s2 hD
          rw [name_bits] at hD
          refine ⟨D, _, rfl, SqL.of hD, ?_⟩
          have c3' : inL (x.cps.getD 0 0) = true := by
            unfold inL
            simpa using c3
          have e : isNameB x = (x.cps.toList.map fun c => inL c || inF c).all id := by
            rw [show isNameB x = ((decide (1 ≤ x.length) && decide (x.length ≤ 8) && inL (x.cps.toList.headD 0)) && x.cps.toList.all fun c => inL c || inF c) from rfl, hd0, c3', decide_eq_true l1, decide_eq_true (by omega : x.length ≤ 8), List.all_map]
            rfl
          rw [← e]
          exact q H2 s2
    · rw [if_pos (by simp [c2])]
      refine no ?_
      have : ¬ x.length ≤ 8 := by omega
      simp [isNameB, this]
  · refine ⟨_, rfl, iteT (iteT (no ?_))⟩
    have : ¬ 1 ≤ x.length := fun h => c1 (decide_eq_true (by omega))
    simp [isNameB, this]
end
end K55
set_option Elab.async false
set_option linter.all false
set_option maxRecDepth 100000
set_option maxHeartbeats 4000000
namespace K55
open PySem L2 LG
section
variable {P : Program} {w : World} {K : PySem.W.Frag} {mg : Str → Option Value} {base : Heap}
def spHeadIn (K : PySem.W.Frag) : Sp := fun vs H Q _ => ∃ (l h : Str) (a b : Int), vs = [.str l, .str h, .int a, .int b] ∧ 1 ≤ a ∧ l.length ≤ 3900 ∧ (LG.namesIn l h a b = [] → ∀ H', Same H H' → Q .non H') ∧
  (LG.namesIn l h a b ≠ [] → ∀ p H', Same H H' → H p = none → H' p = some (.lst ((LG.namesIn l h a b).map V.str)) → Q (.ref p) H')
abbrev nHd : List Str := ["_law_line", "_law_word", "_law_least", "_law_most", "_law_words", "_law_names", "_law_name"]
theorem scHeadIn : FnScope nHd ["_law_line", "_law_word", "_law_least", "_law_most"] (defScope sHeadIn) := ⟨rfl, rfl, rfl, by decide +kernel, rfl, by decide +kernel, by decide +kernel⟩
theorem ok_headin {f g : Addr} {fd gd : FuncData} (F : Fun K "_law_head" "_law_head" sHeadIn f fd) (T : Bltn mg) (G : FnOk P w K mg base CX0 1 g gd ["_law_word"] spName) (mG : mg "_law_is_name" = some (.ref g)) (kG : PySem.W.keepIn K (.ref g) = true) (bG : Binds K gd ["_law_word"] []) :
    FnOk P w K mg base CX0 2 f fd ["_law_line", "_law_word", "_law_least", "_law_most"] (spHeadIn K) := by
  refine F.ok scHeadIn (fun vs H Q E h => ?_) (fun cdv A outer s H vs Q E hr h => ?_)
  · obtain ⟨l, h, a, b, rfl, _⟩ := h
    rfl
  obtain ⟨l, h, a, b, rfl, ha, hl, qno, qyes⟩ := h
  refine ⟨_, pss_cons (ps_set (i := 4) scHeadIn.nd rfl (Or.inl rfl) (pe_split (pv 0) pe_str))
    (pss_cons (ps_set (i := 5) scHeadIn.nd rfl (Or.inl rfl) (pe_slice sl_list (pv 4) (po_some pe_int) po_none))
    (pss_cons (ps_if (PW.pt (pw_or (pt_cmpR op_ne (pe_ix ix_list (pv 4) pe_int (fun _ _ => rfl)) (pv 1) (nomark _)) (pw_or (pt_not (pt_chain op_le op_le (pv 2) (pe_callB call_len_seq rfl T.len PySem.boot_len (pa_cons (pv 5) pa_nil)) (pv 3)))
        (pw_or1 (pt_cmpR op_lt (pe_lenSetS rfl T.len rfl T.set (pv 5)) (pe_callB call_len_seq rfl T.len PySem.boot_len (pa_cons (pv 5) pa_nil)) (nomark _))))))
      (pss_one (ps_ret pe_non)) pss_nil)
    (pss_one (ps_ret (pe_ifExp (pt_val (pe_callB (cr_all rfl) rfl T.all (by decide +kernel) (pa_cons (pe_lc (own := [("_law_name", 6)]) (g := gName 6) (tt := tYes) rfl scHeadIn.nd (pi_list (pv 5)) (blkOk_by (own := [("_law_name", 6)]) (N := nHd) (sc := defScope sHeadIn) (by decide +kernel))
          (fun _ _ _ _ _ => pg_name (i := 6) scHeadIn.nd rfl (Or.inl rfl)) (fun _ _ _ _ _ => pts_nil)
          (fun _ _ _ _ _ => pe_call G hr rfl mG kG bG .nil pass0 (pa_cons (pv 6) pa_nil))) pa_nil))) (pv 5) pe_non))))), ?_⟩
  refine ⟨_, rfl, ⟨_, rfl⟩, l, sp1, rfl, rfl, rfl, ?_, fun p np => ?_⟩
  · rw [sizeLine_eq]
    omega
  obtain ⟨wb1, wb2⟩ := words_bounds l
  have wne := words_some l
  generalize hws : Txt.split l sp1 = ws at wb1 wb2 wne
  have hp : (upd H p (.lst (ws.map V.str))) p = some (.lst (ws.map V.str)) := upd_same
  have s1 := same_new np (.lst (ws.map V.str))
  generalize upd H p (.lst (ws.map V.str)) = H1 at hp s1 ⊢
  refine ⟨_, rfl, 1, rfl, p, _, rfl, SqL.of hp, fun p2 np2 => ?_⟩
  rw [cut_tail]
  have hp2 : (upd H1 p2 (.lst (ws.tail.map V.str))) p2 = some (.lst (ws.tail.map V.str)) := upd_same
  have s2 := s1.trans (same_new np2 (.lst (ws.tail.map V.str)))
  have hp' := same_new np2 (.lst (ws.tail.map V.str)) _ _ hp
  have np0 : H p2 = none := s1.free np2
  generalize upd H1 p2 (.lst (ws.tail.map V.str)) = H2 at hp2 s2 hp' ⊢
  have hlen : (ws.tail.map V.str).length = ws.tail.length := List.length_map _
  have tl3 : ws.tail.length ≤ 3901 := by
    rw [List.length_tail]
    omega
  have h0 : atI (ws.map V.str) ((0 : Nat) : Int) = some (.str (ws.headD Str.empty)) := by
    cases ws with
    | nil => exact absurd rfl wne
    | cons x r => exact atI_nat (by simp)
  have bad : LG.namesIn l h a b = [] → ∀ G, Same H2 G → Q .non G := fun e G sG => qno e G (s2.trans sG)
  have hN : LG.namesIn l h a b = if ws.headD Str.empty ≠ h ∨ ¬ (a ≤ (ws.tail.length : Int) ∧ (ws.tail.length : Int) ≤ b) then [] else if (uniq ws.tail).length < ws.tail.length ∨ ¬ (ws.tail.all isNameB = true) then [] else ws.tail := by
    unfold LG.namesIn
    rw [hws]
  generalize ws.headD Str.empty = hd at h0 hN
  refine ⟨_, rfl, p, _, _, _, rfl, rfl, SqL.of hp', h0, _, rfl, rfl, _, rfl, ?_⟩
  refine ite2 (fun c1 => ?_) (fun c1 => ?_)
  · refine bad ?_ _ (Same.refl _)
    rw [hN, if_pos]
    left
    intro e
    rw [e] at c1
    simp at c1
  have hh : hd = h := Classical.byContradiction fun ne => c1 (by simp [ne])
  refine ⟨_, rfl, _, rfl, p2, _, rfl, .inl (SqL.of hp2), _, _, rfl, rfl, _, rfl, ?_⟩
  rw [hlen]
  have good : (a ≤ (ws.tail.length : Int) ∧ (ws.tail.length : Int) ≤ b) → LG.namesIn l h a b = if (uniq ws.tail).length < ws.tail.length ∨ ¬ (ws.tail.all isNameB = true) then [] else ws.tail := fun c => by
    rw [hN, if_neg]
    rintro (e | e)
    · exact e hh
    · exact e c
  have worse : ¬ (a ≤ (ws.tail.length : Int) ∧ (ws.tail.length : Int) ≤ b) → LG.namesIn l h a b = [] := fun c => by
    rw [hN, if_pos (.inr c)]
  refine ite2 (fun c2 => ?_) (fun c2 => ?_)
  · refine ⟨_, rfl, _, _, rfl, rfl, _, rfl, ?_⟩
    by_cases c3 : (ws.tail.length : Int) ≤ b
    · rw [decide_eq_true c3]
      refine iteF ?_
      have gd2 := good ⟨of_decide_eq_true c2, c3⟩
      have some_ : ws.tail ≠ [] := fun z => by
        have := of_decide_eq_true c2
        rw [z] at this
        simp at this
        omega
      clear good worse
      refine ⟨_, rfl, p2, ws.tail, rfl, SqL.of hp2, by omega, _, rfl, p2, _, rfl, .inl (SqL.of hp2), _, _, rfl, rfl, _, rfl, ?_⟩
      rw [hlen]
      refine ite2 (fun c4 => ?_) (fun c4 => ?_)
      · refine bad ?_ _ (Same.refl _)
        rw [gd2, if_pos]
        left
        have := of_decide_eq_true c4
        omega
      have c4' : ¬ (uniq ws.tail).length < ws.tail.length := fun z => c4 (decide_eq_true (by omega))
      refine ⟨_, rfl, p2, rfl, ⟨_, SqL.of hp2⟩, fun D nD => ?_⟩
      refine lc_all walk_list nD (fun i => V.bl (isNameB (ws.tail.getD i Str.empty))) ?_ (fun G sG => SqL.of (sG _ _ hp2)) ?_ ?_
      · rw [hlen, sizeLine_eq]
        omega
      · rintro i x G G' Kt hi sG ⟨rfl, hx⟩ hK
        rw [hlen] at hi
        rw [List.getElem?_map, List.getElem?_eq_getElem hi] at hx
        have ex : x = .str ws.tail[i] := (Option.some.inj hx).symm
        subst ex
        refine ⟨rfl, _, rfl, _, rfl, ?_, fun G4 s4 => ?_⟩
        · have := wb1 _ (List.mem_of_mem_tail (List.getElem_mem hi))
          omega
        · have := hK G4 s4
          rw [List.getD_eq_getElem?_getD, List.getElem?_eq_getElem hi] at this
          exact this
      · intro G sG hD
        rw [hlen, names_bits] at hD
        refine ⟨D, _, rfl, SqL.of hD, _, rfl, ?_⟩
        have ea : (ws.tail.map isNameB).all id = ws.tail.all isNameB := by
          rw [List.all_map]
          rfl
        rw [ea]
        by_cases c5 : ws.tail.all isNameB = true
        · refine iteC c5 ?_
          have e5 : LG.namesIn l h a b = ws.tail := by rw [gd2, if_neg (by rintro (z | z); exact c4' z; exact z c5)]
          exact ⟨_, rfl, qyes (by rw [e5]; exact some_) p2 G (s2.trans sG) np0 (by rw [e5]; exact sG _ _ hp2)⟩
        · refine iteN (by simpa using c5) (bad ?_ _ sG)
          rw [gd2, if_pos (.inr c5)]
    · rw [decide_eq_false c3]
      refine iteT (bad (worse fun z => c3 z.2) _ (Same.refl _))
  · refine ⟨_, rfl, iteT (bad (worse fun z => c2 (decide_eq_true z.1)) _ (Same.refl _))⟩
end
end K55
set_option Elab.async false
set_option linter.all false
set_option maxRecDepth 100000
set_option maxHeartbeats 2000000
namespace LG
open PySem L2
/-- a text of at most m signs, all of them of ASCII -/
structure TOk (m : Nat) (t : Str) : Prop where
  len : t.length ≤ m
  asc : ∀ c ∈ TL.tl t, c < 128
theorem TOk.mono {m n : Nat} {t : Str} (h : TOk m t) (l : m ≤ n) : TOk n t := ⟨Nat.le_trans h.len l, h.asc⟩
theorem mem_join {y : Str} : ∀ {ts : List Str} {t : Str} {c : Nat}, t ∈ ts → c ∈ TL.tl t → c ∈ TL.tl (Str.join y ts)
  | [x], t, c, ht, hc => by
    rw [List.mem_singleton.mp ht] at hc
    exact hc
  | x :: z :: r, t, c, ht, hc => by
    have e : Str.join y (x :: z :: r) = x ++ y ++ Str.join y (z :: r) := rfl
    rw [e, TL.tl_append, TL.tl_append]
    rcases List.mem_cons.mp ht with rfl | ht
    · exact List.mem_append_left _ (List.mem_append_left _ hc)
    · exact List.mem_append_right _ (mem_join ht hc)
theorem split_ok {m : Nat} {x y : Str} (h : TOk m x) (hy : TL.tl y ≠ []) (hk : y.cps.all (· < 256) = true) (h1 : y.length = 1) : ∀ t ∈ Txt.split x y, TOk m t := fun t ht =>
  ⟨Nat.le_trans ((split_bounds x hy hk h1).1 t ht) h.len, fun c hc => h.asc c (by
    have := mem_join (y := y) ht hc
    rw [PySem.StrLaws.join_split] at this
    exact this)⟩
theorem join_asc {y : Str} {ts : List Str} (hy : ∀ c ∈ TL.tl y, c < 128) (h : ∀ t ∈ ts, ∀ c ∈ TL.tl t, c < 128) : ∀ c ∈ TL.tl (Txt.join y ts), c < 128 := by
  intro c hc
  rw [TL.join_eq] at hc
  rcases join_mem hc with m | ⟨t, ht, m⟩
  · exact hy c m
  · exact h t ht c m
theorem sep_asc : (∀ c ∈ TL.tl sp1, c < 128) ∧ (∀ c ∈ TL.tl nl1, c < 128) := by
  refine ⟨?_, ?_⟩ <;> decide +kernel
theorem name_asc {x : Str} (h : isNameB x = true) : ∀ c ∈ TL.tl x, c < 128 := by
  intro c hc
  have hs := name_signs h c hc
  rw [Bool.or_eq_true] at hs
  have all : (LET.cps.toList ++ FIG.cps.toList).all (fun d => decide (d < 128)) = true := by decide +kernel
  have hm : c ∈ LET.cps.toList ++ FIG.cps.toList := by
    rcases hs with h | h
    · exact List.mem_append_left _ (of_decide_eq_true h)
    · exact List.mem_append_right _ (of_decide_eq_true h)
  exact of_decide_eq_true (List.all_eq_true.mp all c hm)
theorem name_ok {x : Str} (h : isNameB x = true) : TOk 8 x := ⟨name_len h, name_asc h⟩
theorem asc_16 {x : Str} (h : ∀ c ∈ TL.tl x, c < 128) : ∀ c ∈ TL.tl x, c < 16 ^ 8 := fun c hc => Nat.lt_trans (h c hc) (by decide)
/-- how long the words joined are -/
def jlen (ws : List Str) : Nat := (ws.map fun t => t.length + 1).sum
theorem join_jlen {ws : List Str} : (Txt.join sp1 ws).length ≤ jlen ws := by
  rw [TL.join_eq]
  cases ws with
  | nil => exact Nat.zero_le _
  | cons x r =>
    have e := join_size sp1 (ts := x :: r) (by simp)
    rw [sp1_1] at e
    unfold jlen
    omega
theorem split_jlen (x : Str) : jlen (Txt.split x sp1) = x.length + 1 := by
  have e := join_size sp1 (words_some x)
  rw [PySem.StrLaws.join_split, sp1_1] at e
  exact e.symm
theorem jlen_cons (x : Str) (r : List Str) : jlen (x :: r) = x.length + 1 + jlen r := by
  unfold jlen
  rw [List.map_cons, List.sum_cons]
theorem jlen_app : ∀ (a b : List Str), jlen (a ++ b) = jlen a + jlen b
  | [], b => by
    show jlen b = 0 + jlen b
    omega
  | x :: r, b => by
    rw [List.cons_append, jlen_cons, jlen_cons, jlen_app r b]
    omega
theorem jlen_mem {ws : List Str} {t : Str} (h : t ∈ ws) : t.length + 1 ≤ jlen ws := by
  induction ws with
  | nil => cases h
  | cons x r ih =>
    rw [jlen_cons]
    rcases List.mem_cons.mp h with rfl | h
    · omega
    · have := ih h
      omega
theorem jlen_set : ∀ (ws : List Str) (i : Nat) (t : Str), jlen (ws.set i t) ≤ jlen ws + t.length
  | [], i, t => by
    show 0 ≤ _
    exact Nat.zero_le _
  | x :: r, 0, t => by
    rw [List.set_cons_zero, jlen_cons, jlen_cons]
    omega
  | x :: r, i + 1, t => by
    rw [List.set_cons_succ, jlen_cons, jlen_cons]
    have := jlen_set r i t
    omega
theorem jlen_erase : ∀ (ws : List Str) (i : Nat), jlen (ws.eraseIdx i) ≤ jlen ws
  | [], i => by
    rw [List.eraseIdx_nil]
    exact Nat.le_refl _
  | x :: r, 0 => by
    rw [List.eraseIdx_cons_zero, jlen_cons]
    omega
  | x :: r, i + 1 => by
    rw [List.eraseIdx_cons_succ, jlen_cons, jlen_cons]
    have := jlen_erase r i
    omega
theorem jlen_rev (ws : List Str) : jlen ws.reverse = jlen ws := by
  induction ws with
  | nil => rfl
  | cons x r ih =>
    rw [List.reverse_cons, jlen_app, ih, jlen_cons, jlen_cons]
    show jlen r + (x.length + 1 + 0) = _
    omega
theorem join_ok {m : Nat} {ws : List Str} (h : ∀ t ∈ ws, ∀ c ∈ TL.tl t, c < 128) (hl : jlen ws ≤ m) : TOk m (Txt.join sp1 ws) := ⟨Nat.le_trans join_jlen hl, join_asc sep_asc.1 h⟩
/-! ### texts in lists, pairs of texts in lists -/
def rNotInTxt (K : PySem.W.Frag) : R2 := fun x y H Q => ∃ (z : Str) (p : Addr) (ns : List Str), x = .str z ∧ y = .ref p ∧ (SqL K H p (ns.map V.str) ∨ SqT K H p (ns.map V.str)) ∧ Q (.bl (!ns.contains z)) H
theorem op_notIn_txt {X : Cx} : OpR X (compareOp .NotIn) (rNotInTxt X.K) := by
  intro pins s σ H x y v u Q I rx ry h
  obtain ⟨z, p, ns, rfl, rfl, hq, q⟩ := h
  refine op_notIn_seq pins s σ H _ _ v u Q I rx ry ⟨p, _, rfl, hq, rfl, flat_txt ns, ?_⟩
  rw [inV_str]
  exact q
def pairD (k : Str × Str) : PyData := .tuple [.str k.1, .str k.2]
theorem pair_eqv (a b : Str × Str) : PyData.eqv (pairD a) (pairD b) = decide (a = b) := by
  obtain ⟨a1, a2⟩ := a
  obtain ⟨b1, b2⟩ := b
  unfold pairD
  simp only [PyData.eqv, PyData.eqvAll, Bool.and_true]
  by_cases h1 : a1 = b1
  · by_cases h2 : a2 = b2
    · subst h1 h2
      simp
    · have : (a2 == b2) = false := by simpa using h2
      simp [h2]
  · have : (a1 == b1) = false := by simpa using h1
    simp [h1]
theorem pairs_any (ks : List (Str × Str)) (k : Str × Str) : ((ks.map pairD).any fun z => PyData.eqv z (pairD k)) = ks.contains k := by
  rw [List.any_map, List.contains_eq_any_beq]
  congr 1
  funext y
  show PyData.eqv (pairD y) (pairD k) = (k == y)
  rw [pair_eqv]
  by_cases h : y = k
  · subst h
    simp
  · have h2 : ¬ k = y := fun z => h z.symm
    rw [decide_eq_false h]
    have : (k == y) = false := by simpa using h2
    rw [this]
theorem name_strOk {x : Str} (h : ∀ c ∈ TL.tl x, c < 128) : PyData.canLay0 (.str x) = true := by
  simp only [PyData.canLay0]
  show (x.cps.all fun c => decide (c < 0x110000)) = true
  rw [Array.all_eq_true']
  intro c hc
  exact decide_eq_true (Nat.lt_trans (h c (by simpa [TL.tl] using hc)) (by decide))
theorem pair_shaped {k : Str × Str} (h1 : ∀ c ∈ TL.tl k.1, c < 128) (h2 : ∀ c ∈ TL.tl k.2, c < 128) : SeqAt.shaped (pairD k) = true := by
  unfold SeqAt.shaped pairD
  have e1 := name_strOk h1
  have e2 := name_strOk h2
  have c : PyData.canLay0 (.tuple [.str k.1, .str k.2]) = true := by
    simp only [PyData.canLay0, PyData.canLayAll0] at e1 e2 ⊢
    rw [e1, e2]
    rfl
  rw [c]
  rfl
theorem pairs_shaped {ks : List (Str × Str)} (h : ∀ k ∈ ks, (∀ c ∈ TL.tl k.1, c < 128) ∧ ∀ c ∈ TL.tl k.2, c < 128) : SeqAt.shaped (.list (ks.map pairD)) = true := by
  have c : PyData.canLayAll0 (ks.map pairD) = true ∧ PyData.depthAll (ks.map pairD) ≤ 1 := by
    induction ks with
    | nil => exact ⟨rfl, by simp [PyData.depthAll]⟩
    | cons k r ih =>
      obtain ⟨i1, i2⟩ := ih fun x hx => h x (List.mem_cons_of_mem _ hx)
      obtain ⟨a1, a2⟩ := h k List.mem_cons_self
      have s := SeqAt.canLay_of_shaped (pair_shaped a1 a2)
      refine ⟨?_, ?_⟩
      · simp only [List.map_cons, PyData.canLayAll0, s, i1, Bool.and_self]
      · simp only [List.map_cons, PyData.depthAll]
        have : (pairD k).depth ≤ 1 := by
          unfold pairD
          simp only [PyData.depth, PyData.depthAll]
          omega
        omega
  unfold SeqAt.shaped
  simp only [PyData.canLay0, PyData.depth, c.1, Bool.true_and]
  exact decide_eq_true (by have := c.2; omega)
theorem pair_dp {K : PySem.W.Frag} {H : Hp} {t : Addr} {k : Str × Str} (h : H t = some (.tup [.str k.1, .str k.2])) : Dp K H (.ref t) (pairD k) := .tup (.inl (.inl h)) (.cons (.str _) (.cons (.str _) .nil))
theorem pairs_dp {K : PySem.W.Frag} {H : Hp} {vs : List V} {ks : List (Str × Str)} (h : KeyRefs H vs ks) : DpAll K H vs (ks.map pairD) := by
  induction h with
  | nil => exact .nil
  | cons a _ ih => exact .cons (pair_dp a) ih
end LG
set_option Elab.async false
set_option linter.all false
set_option maxRecDepth 100000
set_option maxHeartbeats 2000000
namespace LG
open PySem L2
theorem for_enumL {K : PySem.W.Frag} {a : Addr} {xs : List V} {g : TG} {tb : TS} {D : Ends} {σ : L2.St} {H : Hp} (Pv : Nat → L2.St → Hp → Prop) (h0 : Pv 0 σ H) (hq : ∀ i σ H, Pv i σ H → SqL K H a xs)
    (hs : ∀ (i : Nat) (x : V) (T : Addr) (σ : L2.St) (H : Hp), xs[i]? = some x → Pv i σ H → H T = none → g (.ref T) σ (upd H T (.tup [.int (i : Nat), x])) fun σ2 H2 => tb { D with nx := Pv (i + 1), ct := Pv (i + 1), bk := D.nx } σ2 H2) (hd : ∀ σ H, Pv xs.length σ H → D.nx σ H) :
    ∃ W : Nat → Nat → L2.St → Hp → Prop, (∃ m, W 0 m σ H) ∧ ∀ i m σ H, W i m σ H →
      ((Ite K a).stop i H ∧ D.nx σ H) ∨ ((Ite K a).go i H ∧ ∃ N : L2.St → Hp → Prop, (∀ σ' H', N σ' H' → ∃ m', m' < m ∧ W (i + 1) m' σ' H') ∧ ∀ v H', (Ite K a).yld i H v H' → g v σ H' fun σ2 H2 => tb { D with nx := N, ct := N, bk := D.nx } σ2 H2) := by
  refine ⟨fun i m σ H => m = xs.length - i ∧ i ≤ xs.length ∧ Pv i σ H, ⟨_, rfl, Nat.zero_le _, h0⟩, ?_⟩
  rintro i m σ H ⟨rfl, hi, pv⟩
  have seq := hq i σ H pv
  by_cases more : i < xs.length
  · have there : xs[i]? = some xs[i] := List.getElem?_eq_getElem more
    refine .inr ⟨⟨xs, _, seq, there⟩, Pv (i + 1), fun σ' H' p' => ⟨xs.length - (i + 1), by omega, rfl, more, p'⟩, fun v H' y => ?_⟩
    obtain ⟨T, x', rfl, free, rfl, same⟩ := y
    have e := same xs seq
    rw [there] at e
    cases e
    exact hs i _ T σ H there pv free
  · have e : i = xs.length := by omega
    subst e
    exact .inl ⟨⟨xs, seq, Nat.le_refl _⟩, hd σ H pv⟩
theorem nodup_le : ∀ {l m : List (Str × Str)}, l.Nodup → (∀ x ∈ l, x ∈ m) → l.length ≤ m.length
  | [], _, _, _ => Nat.zero_le _
  | x :: r, m, nd, h => by
    obtain ⟨n1, n2⟩ := List.nodup_cons.mp nd
    have hx := h x List.mem_cons_self
    have ih := nodup_le (l := r) (m := m.erase x) n2 fun y hy => (List.mem_erase_of_ne (fun z : y = x => n1 (by rw [← z]; exact hy))).mpr (h y (List.mem_cons_of_mem _ hy))
    rw [List.length_erase_of_mem hx] at ih
    have : 0 < m.length := List.length_pos_of_mem hx
    rw [List.length_cons]
    omega
structure NmOk (ns : List Str) : Prop where
  nm : ∀ x ∈ ns, isNameB x = true
  nd : ns.Nodup
  len : ns.length ≤ 4
theorem names_good {l h : Str} {a b : Int} (hb : b ≤ 4) (h0 : 0 ≤ b) (ne : LG.namesIn l h a b ≠ []) : NmOk (LG.namesIn l h a b) := by
  have hl := namesIn_len l h a b h0
  have e : LG.namesIn l h a b = if (Txt.split l sp1).headD Str.empty ≠ h ∨ ¬ (a ≤ ((Txt.split l sp1).tail.length : Int) ∧ ((Txt.split l sp1).tail.length : Int) ≤ b) then [] else if (uniq (Txt.split l sp1).tail).length < (Txt.split l sp1).tail.length ∨ ¬ ((Txt.split l sp1).tail.all isNameB = true) then [] else (Txt.split l sp1).tail := rfl
  by_cases c : (Txt.split l sp1).headD Str.empty ≠ h ∨ ¬ (a ≤ ((Txt.split l sp1).tail.length : Int) ∧ ((Txt.split l sp1).tail.length : Int) ≤ b)
  · rw [if_pos c] at e
    exact absurd e ne
  · rw [if_neg c] at e
    by_cases c2 : (uniq (Txt.split l sp1).tail).length < (Txt.split l sp1).tail.length ∨ ¬ ((Txt.split l sp1).tail.all isNameB = true)
    · rw [if_pos c2] at e
      exact absurd e ne
    · rw [if_neg c2] at e
      rw [e] at hl ⊢
      have c3 : ¬ (uniq (Txt.split l sp1).tail).length < (Txt.split l sp1).tail.length := fun z => c2 (.inl z)
      have c4 : (Txt.split l sp1).tail.all isNameB = true := Classical.byContradiction fun z => c2 (.inr z)
      have u := uniq_len (Txt.split l sp1).tail
      exact ⟨fun x hx => List.all_eq_true.mp c4 x hx, u.2.mp (by have := u.1; omega), by omega⟩
theorem headAt_good {lines : List Str} {i : Nat} (ne : headAt lines i ≠ []) : NmOk (headAt lines i) := by
  revert ne
  unfold headAt
  match i with
  | 0 => cases h : lines[0]? with
    | none => exact fun z => absurd rfl z
    | some l => exact fun z => names_good (by decide) (by decide) z
  | 1 => cases h : lines[1]? with
    | none => exact fun z => absurd rfl z
    | some l => exact fun z => names_good (by decide) (by decide) z
  | 2 => cases h : lines[2]? with
    | none => exact fun z => absurd rfl z
    | some l => exact fun z => names_good (by decide) (by decide) z
  | n + 3 => exact fun z => absurd rfl z
/-- what the law's own look at a text tells: None, or the number of the wrong line -/
def wrongV (T : Str) : V := match parse T with
  | .inl n => .int n
  | .inr _ => .non
theorem wrong_head {T : Str} {i : Nat} (hi : i < 3) (ok : ∀ j, j < i → headAt (Txt.split T nl1) j ≠ []) (bad : headAt (Txt.split T nl1) i = []) : wrongV T = .int ((i + 1 : Nat) : Int) := by
  unfold wrongV
  rw [parse_bad (readHeads_bad hi ok bad)]
theorem wrong_brk {T : Str} (ok : ∀ j, j < 3 → headAt (Txt.split T nl1) j ≠ []) (b : (headAt (Txt.split T nl1) 2).contains BRK = true) : wrongV T = .int 3 := by
  unfold wrongV
  have e := parse_heads (readHeads_ok ok) (g := [])
  rw [e, if_pos b]
  rfl
theorem wrong_goals {T : Str} (ok : ∀ j, j < 3 → headAt (Txt.split T nl1) j ≠ []) (b : (headAt (Txt.split T nl1) 2).contains BRK = false) :
    wrongV T = match goalsFrom (headAt (Txt.split T nl1) 0) (headAt (Txt.split T nl1) 1) (headAt (Txt.split T nl1) 2) ((Txt.split T nl1).drop 3) 3 [] with
      | .inl n => .int (n : Nat)
      | .inr g => .non := by
  unfold wrongV
  have e := parse_heads (readHeads_ok ok) (g := [])
  rw [e, if_neg (by rw [b]; exact Bool.false_ne_true)]
  unfold readGoals
  generalize goalsFrom (headAt (Txt.split T nl1) 0) (headAt (Txt.split T nl1) 1) (headAt (Txt.split T nl1) 2) ((Txt.split T nl1).drop 3) 3 [] = r
  cases r <;> rfl
/-- the law's own look at a line of a step -/
theorem lookup_there {α β : Type} [DecidableEq α] {g : List (α × β)} {k : α} (h : k ∈ g.map (·.1)) : ∃ x, g.lookup k = some x := by
  induction g with
  | nil => simp at h
  | cons e g ih =>
    obtain ⟨j, y⟩ := e
    by_cases c : k = j
    · subst c
      exact ⟨y, by simp [List.lookup]⟩
    · have : k ∈ g.map (·.1) := by
        rcases List.mem_cons.mp h with z | z
        · exact absurd z c
        · exact z
      obtain ⟨x, hx⟩ := ih this
      exact ⟨x, by rw [← hx]; simp [List.lookup, beq_eq_false_iff_ne.mpr c]⟩
end LG
set_option Elab.async false
set_option linter.all false
set_option maxRecDepth 100000
set_option maxHeartbeats 8000000
/-! The law's own look at the text of a watch: None, or the number of the first wrong line. -/
namespace LG
open PySem L2
theorem cutG {p c d : Prop} (k : (p → c) → d) (h : p → c) : d := k h
/-- the facts of the reading of heads, all but the list of heads -/
structure RdH (H G : Hp) (l hd l0 t0 t1 t2 : Addr) (lines : List Str) (rs : List Addr) : Prop where
  same : Same H G
  fl : G l = some (.lst (lines.map V.str))
  fl0 : G l0 = some (.lst [.ref t0, .ref t1, .ref t2])
  ft0 : G t0 = some (.tup [.str "calls", .int 1, .int 3])
  ft1 : G t1 = some (.tup [.str "answers", .int 2, .int 3])
  ft2 : G t2 = some (.tup [.str "marks", .int 1, .int 4])
  nh : H hd = none
  hl : l ≠ hd
  hl0 : l0 ≠ hd
  ht0 : t0 ≠ hd
  ht1 : t1 ≠ hd
  ht2 : t2 ≠ hd
  frs : ∀ j r, rs[j]? = some r → r ≠ hd ∧ G r = some (.lst ((headAt lines j).map V.str))
theorem RdH.ext {H G G' : Hp} {l hd l0 t0 t1 t2 : Addr} {lines : List Str} {rs : List Addr} (h : RdH H G l hd l0 t0 t1 t2 lines rs) (e : Same G G') : RdH H G' l hd l0 t0 t1 t2 lines rs :=
  { h with same := h.same.trans e, fl := e _ _ h.fl, fl0 := e _ _ h.fl0, ft0 := e _ _ h.ft0, ft1 := e _ _ h.ft1, ft2 := e _ _ h.ft2, frs := fun j r hj => ⟨(h.frs j r hj).1, e _ _ (h.frs j r hj).2⟩ }
theorem RdH.put {H G : Hp} {l hd l0 t0 t1 t2 : Addr} {lines : List Str} {rs : List Addr} {o : HO} (h : RdH H G l hd l0 t0 t1 t2 lines rs) : RdH H (upd G hd o) l hd l0 t0 t1 t2 lines rs :=
  { h with
    same := fun b u q => by rw [upd_ne (ne_of_none q h.nh)]; exact h.same _ _ q
    fl := by rw [upd_ne h.hl]; exact h.fl
    fl0 := by rw [upd_ne h.hl0]; exact h.fl0
    ft0 := by rw [upd_ne h.ht0]; exact h.ft0
    ft1 := by rw [upd_ne h.ht1]; exact h.ft1
    ft2 := by rw [upd_ne h.ht2]; exact h.ft2
    frs := fun j r hj => ⟨(h.frs j r hj).1, by rw [upd_ne (h.frs j r hj).1]; exact (h.frs j r hj).2⟩ }
theorem RdH.item {H G : Hp} {l hd l0 t0 t1 t2 : Addr} {lines : List Str} {rs : List Addr} (h : RdH H G l hd l0 t0 t1 t2 lines rs) {i : Nat} {x : V} (hx : ([.ref t0, .ref t1, .ref t2] : List V)[i]? = some x) :
    ∃ t w f m, x = .ref t ∧ headsL[i]? = some (w, f, m) ∧ i < 3 ∧ 1 ≤ f ∧ (w = "marks" ↔ i = 2) ∧ G t = some (.tup [.str w, .int f, .int m]) := by
  match i, hx with
  | 0, hx => cases hx; exact ⟨t0, _, _, _, rfl, rfl, by decide, by decide, by decide, h.ft0⟩
  | 1, hx => cases hx; exact ⟨t1, _, _, _, rfl, rfl, by decide, by decide, by decide, h.ft1⟩
  | 2, hx => cases hx; exact ⟨t2, _, _, _, rfl, rfl, by decide, by decide, by decide, h.ft2⟩
  | n + 3, hx => cases hx
/-- the keys of the steps that were seen -/
def kvS (g : Steps) : List (List Key × V) := g.map fun e => (kT3 e.1, V.bl true)
theorem kvS_len (g : Steps) : (kvS g).length = g.length := List.length_map _
theorem kvS_val (g : Steps) (k : Str × Str × Str) : valV (kvS g) (kT3 k) = (g.lookup k).map fun _ => V.bl true := by
  induction g with
  | nil => rfl
  | cons e g ih =>
    obtain ⟨j, x⟩ := e
    by_cases c : j = k
    · subst c
      have : List.lookup j ((j, x) :: g) = some x := by simp [List.lookup]
      rw [this]
      exact valV_pos rfl
    · have ne : (k == j) = false := by simpa using fun z : k = j => c z.symm
      have l : List.lookup k ((j, x) :: g) = List.lookup k g := by simp [List.lookup, ne]
      rw [l, ← ih]
      exact valV_neg (fun z => c (kT3_inj.mp z))
theorem kvS_app (g h : Steps) : kvS (g ++ h) = kvS g ++ kvS h := List.map_append
/-- the facts of the reading of steps -/
structure RdR (H G : Hp) (l hd sn l3 c a s : Addr) (lines C A S : List Str) (g : Steps) : Prop where
  same : Same H G
  nk : H sn = none
  fl : G l = some (.lst (lines.map V.str))
  fl3 : G l3 = some (.lst ((lines.drop 3).map V.str))
  fhd : G hd = some (.lst [.ref c, .ref a, .ref s])
  fc : G c = some (.lst (C.map V.str))
  fa : G a = some (.lst (A.map V.str))
  fs : G s = some (.lst (S.map V.str))
  fsn : G sn = some (.dT (kvS g))
theorem RdR.ext {H G G' : Hp} {l hd sn l3 c a s : Addr} {lines C A S : List Str} {g : Steps} (h : RdR H G l hd sn l3 c a s lines C A S g) (e : Same G G') : RdR H G' l hd sn l3 c a s lines C A S g :=
  { h with same := h.same.trans e, fl := e _ _ h.fl, fl3 := e _ _ h.fl3, fhd := e _ _ h.fhd, fc := e _ _ h.fc, fa := e _ _ h.fa, fs := e _ _ h.fs, fsn := e _ _ h.fsn }
theorem RdR.put {H G : Hp} {l hd sn l3 c a s : Addr} {lines C A S : List Str} {g g' : Steps} (h : RdR H G l hd sn l3 c a s lines C A S g) : RdR H (upd G sn (.dT (kvS g'))) l hd sn l3 c a s lines C A S g' :=
  have ne : ∀ {z : Addr} {xs : List V}, G z = some (.lst xs) → z ≠ sn := fun {z xs} e n => by
    rw [n, h.fsn] at e
    cases e
  { h with
    same := fun b u q => by rw [upd_ne (ne_of_none q h.nk)]; exact h.same _ _ q
    fl := by rw [upd_ne (ne h.fl)]; exact h.fl
    fl3 := by rw [upd_ne (ne h.fl3)]; exact h.fl3
    fhd := by rw [upd_ne (ne h.fhd)]; exact h.fhd
    fc := by rw [upd_ne (ne h.fc)]; exact h.fc
    fa := by rw [upd_ne (ne h.fa)]; exact h.fa
    fs := by rw [upd_ne (ne h.fs)]; exact h.fs
    fsn := upd_same }
end LG
namespace K55
open PySem L2 LG
section
variable {P : Program} {w : World} {K : PySem.W.Frag} {mg : Str → Option Value} {base : Heap}
def spWrong (K : PySem.W.Frag) : Sp := fun vs H Q _ => ∃ (v : V), vs = [v] ∧ ((∃ X : Str, v = .str X ∧ X.length ≤ 3900 ∧ ∀ H', Same H H' → Q (wrongV X) H') ∨
  ((∃ t, TyX K H v t ∧ PySem.W.kitOne K t (.type "str") = some false) ∧ ∀ H', Same H H' → Q (.int 0) H'))
abbrev nWr : List Str := ["_law_value", "_law_lines", "_law_heads", "_law_at", "_law_word", "_law_least", "_law_most", "_law_names", "_law_seen", "_law_line", "_law_words"]
theorem scWrong : FnScope nWr ["_law_value"] (defScope sWrong) := ⟨rfl, rfl, rfl, by decide +kernel, rfl, by decide +kernel, by decide +kernel⟩
theorem ok_wrong {f gh : Addr} {fd ghd : FuncData} (F : Fun K "_law_wrong" "_law_wrong" sWrong f fd) (T : Bltn mg)
    (GH : FnOk P w K mg base CX0 2 gh ghd ["_law_line", "_law_word", "_law_least", "_law_most"] (spHeadIn K)) (mH : mg "_law_head" = some (.ref gh)) (kH : PySem.W.keepIn K (.ref gh) = true) (bH : Binds K ghd ["_law_line", "_law_word", "_law_least", "_law_most"] []) :
    FnOk P w K mg base CX0 3 f fd ["_law_value"] (spWrong K) := by
  refine F.ok scWrong (fun vs H Q E h => ?_) (fun cdv A0 outer st H vs Q E hr h => ?_)
  · obtain ⟨v, rfl, _⟩ := h
    rfl
  obtain ⟨v, rfl, h⟩ := h
  have hu := hu_of hr
  refine' ⟨_, pss_cons (ps_if (pt_not (pt_val (pe_callB call_isi rfl T.isinstance (by decide +kernel) (pa_cons (pv 0) (pa_cons (pe_bltn (v := .ty "str") (u := .type "str") rfl T.str (by decide +kernel) rfl) pa_nil))))) (pss_one (ps_ret pe_int)) pss_nil)
    (pss_cons (ps_par (i := 1) (j := 2) rfl scWrong.nd rfl rfl (by decide) rfl rfl (pa_cons (pe_split (pv 0) pe_str) (pa_cons (pe_lst pa_nil) pa_nil)) (by rfl))
    (pss_cons (ps_for PassesOwn.never rfl (pi_enum rfl T.enumerate (pa_cons (pe_lst (pa_cons (pe_tup (pa_cons pe_str (pa_cons pe_int (pa_cons pe_int pa_nil)))) (pa_cons (pe_tup (pa_cons pe_str (pa_cons pe_int (pa_cons pe_int pa_nil)))) (pa_cons (pe_tup (pa_cons pe_str (pa_cons pe_int (pa_cons pe_int pa_nil)))) pa_nil)))) pa_nil))
        (pg_tup rfl (pgs_cons (pg_name (i := 3) scWrong.nd rfl (Or.inl rfl)) (pgs_cons (pg_tup rfl (pgs_cons (pg_name (i := 4) scWrong.nd rfl (Or.inl rfl)) (pgs_cons (pg_name (i := 5) scWrong.nd rfl (Or.inl rfl)) (pgs_cons (pg_name (i := 6) scWrong.nd rfl (Or.inl rfl)) pgs_nil)))) pgs_nil)))
      (pss_cons (ps_set (i := 7) scWrong.nd rfl (Or.inl rfl) (pe_ifExp (pt_cmpR op_lt (pv 3) (pe_callB call_len_seq rfl T.len PySem.boot_len (pa_cons (pv 1) pa_nil)) (nomark _)) (pe_call GH hr rfl mH kH bH .nil pass0 (pa_cons (pe_ix ix_list (pv 1) (pv 3) (fun _ _ => rfl)) (pa_cons (pv 4) (pa_cons (pv 5) (pa_cons (pv 6) pa_nil))))) pe_non))
      (pss_cons (ps_if (PW.pt (pw_or (pt_cmp (pc_isN (pv 7))) (pw_or1 (PW.pt (pw_and (pt_cmpR op_eq (pv 4) pe_str (nomark _)) (pw_and1 (pt_cmpR op_in_txt pe_str (pv 7) (by rfl)))))))) (pss_one (ps_ret (pe_op op_add (pv 3) pe_int))) pss_nil)
      (pss_one (ps_expr (pe_bm PySem.F.plainAttrs_list PySem.F.slot_list_append PySem.F.type_list_append mt_append (pv 2) (pa_cons (pv 7) pa_nil)))))))
    (pss_cons (ps_set (i := 8) scWrong.nd rfl (Or.inl rfl) pe_dnewT)
    (pss_cons (ps_for PassesOwn.never rfl (pi_enum rfl T.enumerate (pa_cons (pe_slice sl_list (pv 1) (po_some pe_int) po_none) pa_nil)) (pg_tup rfl (pgs_cons (pg_name (i := 3) scWrong.nd rfl (Or.inl rfl)) (pgs_cons (pg_name (i := 9) scWrong.nd rfl (Or.inl rfl)) pgs_nil)))
      (pss_cons (ps_set (i := 10) scWrong.nd rfl (Or.inl rfl) (pe_split (pv 9) pe_str))
      (pss_cons (ps_if (PW.pt (pw_or (pt_cmpR op_ne (pe_callB call_len_seq rfl T.len PySem.boot_len (pa_cons (pv 10) pa_nil)) pe_int (nomark _)) (pw_or (pt_cmpR op_ne (pe_ix ix_list (pv 10) pe_int (fun _ _ => rfl)) pe_str (nomark _))
          (pw_or (pt_cmpR op_notIn_txt (pe_ix ix_list (pv 10) pe_int (fun _ _ => rfl)) (pe_ix ix_list (pv 2) pe_int (fun _ _ => rfl)) (by rfl)) (pw_or1 (pt_cmpR op_notIn_txt (pe_ix ix_list (pv 10) pe_int (fun _ _ => rfl)) (pe_ix ix_list (pv 2) pe_int (fun _ _ => rfl)) (by rfl)))))))
        (pss_one (ps_ret (pe_op op_add (pv 3) pe_int))) pss_nil)
      (pss_cons (ps_if (PW.pt (pw_or (pt_cmpR op_notIn_txt (pe_ix ix_list (pv 10) pe_int (fun _ _ => rfl)) (pe_ix ix_list (pv 2) pe_int (fun _ _ => rfl)) (by rfl)) (pw_or (pt_cmpR op_notIn_txt (pe_ix ix_list (pv 10) pe_int (fun _ _ => rfl)) (pe_op op_cat (pe_ix ix_list (pv 2) pe_int (fun _ _ => rfl)) (pe_lst (pa_cons pe_str pa_nil))) (by rfl))
          (pw_or1 (pt_cmp (pc_din hu (pe_callTy call_tuple_of rfl T.tuple (by decide +kernel) (pa_cons (pe_slice sl_list (pv 10) (po_some pe_int) (po_some pe_int)) pa_nil)) (pv 8)))))))
        (pss_one (ps_ret (pe_op op_add (pv 3) pe_int))) pss_nil)
      (pss_one (ps_dput hu (pv 8) (pe_callTy call_tuple_of rfl T.tuple (by decide +kernel) (pa_cons (pe_slice sl_list (pv 10) (po_some pe_int) (po_some pe_int)) pa_nil)) pe_bl rfl))))))
    (pss_one (ps_ret pe_non)))))), ?main⟩
  case main =>
    rcases h with ⟨X, rfl, hX, q⟩ | ⟨⟨tv, ty, k⟩, q⟩
    case inr => exact ⟨_, rfl, v, .ty "str", tv, .type "str", false, rfl, .ty _, ty, k, _, rfl, iteT (q H (Same.refl H))⟩
    refine ⟨_, rfl, .str X, .ty "str", .type "str", .type "str", true, rfl, .ty _, .base (.str X), if_pos (beq_self_eq_true _), _, rfl, iteF ?_⟩
    refine ⟨_, rfl, ⟨_, rfl⟩, X, nl1, rfl, rfl, rfl, by rw [sizeLine_eq]; omega, fun l nl => ⟨(by show 0 ≤ sizeLine; decide), fun hd nhd => ⟨_, _, rfl, ?_⟩⟩⟩
    generalize hLn : Txt.split X nl1 = lines at nl nhd ⊢
    have lb := lines_bounds X
    rw [hLn] at lb
    have lokX := fun (t : Str) (ht : t ∈ lines) => Nat.le_trans (lb.1 t ht) hX
    have llen : lines.length ≤ 3901 := by omega
    have s1 := same_new nl (.lst (lines.map V.str))
    have hl1 : (upd H l (.lst (lines.map V.str))) l = some (.lst (lines.map V.str)) := upd_same
    show _
    generalize upd H l (.lst (lines.map V.str)) = H1 at s1 hl1 nhd ⊢
    have s2 := same_new nhd (.lst [])
    have hhd2 : (upd H1 hd (.lst [])) hd = some (.lst []) := upd_same
    have hl2 := s2 _ _ hl1
    have hlhd : l ≠ hd := ne_of_none hl1 nhd
    have nhd0 : H hd = none := s1.free nhd
    show _
    generalize upd H1 hd (.lst []) = H3 at s2 hhd2 hl2 ⊢
    have hl3 := hl2
    have hhd3 := hhd2
    have s13 := s1.trans s2
    refine ⟨(by show 3 ≤ sizeLine; decide), fun t0 nt0 => ?_⟩
    have u1 := same_new nt0 (.tup [.str "calls", .int 1, .int 3])
    have ht0 : (upd H3 t0 (.tup [.str "calls", .int 1, .int 3])) t0 = some (.tup [.str "calls", .int 1, .int 3]) := upd_same
    have n0 : t0 ≠ hd := fun z => by rw [z, hhd3] at nt0; cases nt0
    show _
    generalize upd H3 t0 (.tup [.str "calls", .int 1, .int 3]) = H4 at u1 ht0 ⊢
    refine ⟨(by show 3 ≤ sizeLine; decide), fun t1 nt1 => ?_⟩
    have u2 := same_new nt1 (.tup [.str "answers", .int 2, .int 3])
    have ht1 : (upd H4 t1 (.tup [.str "answers", .int 2, .int 3])) t1 = some (.tup [.str "answers", .int 2, .int 3]) := upd_same
    have n1 : t1 ≠ hd := fun z => by rw [z, u1 _ _ hhd3] at nt1; cases nt1
    show _
    generalize upd H4 t1 (.tup [.str "answers", .int 2, .int 3]) = H5 at u2 ht1 ⊢
    refine ⟨(by show 3 ≤ sizeLine; decide), fun t2 nt2 => ⟨(by show 3 ≤ sizeLine; decide), fun l0 nl0 => ?_⟩⟩
    have u3 := same_new nt2 (.tup [.str "marks", .int 1, .int 4])
    have ht2 : (upd H5 t2 (.tup [.str "marks", .int 1, .int 4])) t2 = some (.tup [.str "marks", .int 1, .int 4]) := upd_same
    have n2 : t2 ≠ hd := fun z => by rw [z, u2 _ _ (u1 _ _ hhd3)] at nt2; cases nt2
    show _
    generalize upd H5 t2 (.tup [.str "marks", .int 1, .int 4]) = H6 at u3 ht2 nl0 ⊢
    have u4 := same_new nl0 (.lst [.ref t0, .ref t1, .ref t2])
    have hl0 : (upd H6 l0 (.lst [.ref t0, .ref t1, .ref t2])) l0 = some (.lst [.ref t0, .ref t1, .ref t2]) := upd_same
    have u36 := u1.trans (u2.trans u3)
    have n3 : l0 ≠ hd := fun z => by rw [z, u36 _ _ hhd3] at nl0; cases nl0
    show _
    generalize upd H6 l0 (.lst [.ref t0, .ref t1, .ref t2]) = H7 at u4 hl0 ⊢
    have u37 := u36.trans u4
    have R0 : RdH H H7 l hd l0 t0 t1 t2 lines [] := ⟨s13.trans u37, u37 _ _ hl3, hl0, (u2.trans (u3.trans u4)) _ _ ht0, (u3.trans u4) _ _ ht1, u4 _ _ ht2, nhd0, hlhd, n3, n0, n1, n2, fun j r hj => by simp at hj⟩
    have hhd7 := u37 _ _ hhd3
    clear u37 u36 u4 u3 u2 u1 s13 s2 s1 hl0 ht0 ht1 ht2 nl0 nt0 nt1 nt2 n0 n1 n2 n3 hhd3 hhd2 hl3 hl2 hl1 nhd nl
    refine ⟨l0, _, rfl, SqL.of R0.fl0, ?_⟩
    refine for_enumL (xs := [.ref t0, .ref t1, .ref t2]) (fun i σ G => ∃ x3 x4 x5 x6 x7 x8 x9 x10 rs, σ = [some (.str X), some (.ref l), some (.ref hd), x3, x4, x5, x6, x7, x8, x9, x10] ∧ rs.length = i ∧ RdH H G l hd l0 t0 t1 t2 lines rs ∧ G hd = some (.lst (rs.map V.ref)) ∧ (∀ j, j < i → headAt lines j ≠ []) ∧ (2 < i → (headAt lines 2).contains BRK = false))
      ⟨_, _, _, _, _, _, _, _, [], rfl, rfl, R0, hhd7, fun j hj => absurd hj (by omega), fun z => absurd z (by omega)⟩ (fun i σ G ⟨_, _, _, _, _, _, _, _, _, _, _, RG, _⟩ => SqL.of RG.fl0) ?_ ?_
    · rintro i x T1 σ G hx ⟨x3, x4, x5, x6, x7, x8, x9, x10, rs, rfl, rl, RG, hG, okG, _⟩ nT
      obtain ⟨t, wd, few, mst, rfl, et, i3, f1, wm, ht⟩ := RG.item hx
      have sT := same_new nT (.tup [.int (i : Nat), .ref t])
      have hT : (upd G T1 (.tup [.int (i : Nat), .ref t])) T1 = some (.tup [.int (i : Nat), .ref t]) := upd_same
      show _
      generalize upd G T1 (.tup [.int (i : Nat), .ref t]) = G1 at sT hT ⊢
      have RG1 := RG.ext sT
      have hG1 := sT _ _ hG
      refine ⟨T1, _, rfl, .inl (.inl hT), rfl, _, _, rfl, _, _, rfl, ⟨t, _, rfl, .inl (.inl (sT _ _ ht)), rfl, _, _, rfl, _, _, rfl, _, _, rfl, rfl, ?_⟩⟩
      refine ⟨rfl, _, rfl, _, rfl, l, _, rfl, .inl (SqL.of RG1.fl), _, _, rfl, rfl, _, rfl, ?_⟩
      rw [List.length_map]
      have bad_ : headAt lines i = [] → ∀ G2, Same G1 G2 → Q (.int ((i : Nat) + 1 : Int)) G2 := fun e0 G2 e2 => by
        have := q G2 (RG1.same.trans e2)
        rw [wrong_head i3 (by rw [hLn]; exact okG) (by rw [hLn]; exact e0)] at this
        exact this
      refine ite2 (fun c1 => ?_) (fun c1 => ?_)
      · have c2 : i < lines.length := by
          have := of_decide_eq_true c1
          omega
        have eh : headAt lines i = LG.namesIn lines[i] wd few mst := by
          unfold headAt
          rw [et, List.getElem?_eq_getElem c2]
        refine ⟨_, rfl, _, rfl, l, _, _, _, rfl, rfl, SqL.of RG1.fl, atI_nat (by rw [List.getElem?_map, List.getElem?_eq_getElem c2]; rfl), _, rfl, _, rfl, _, rfl, lines[i], wd, few, mst, rfl, f1, lokX _ (List.getElem_mem c2), fun e0 G2 e2 => ?_, fun e0 r G2 e2 nr hr2 => ?_⟩
        · rw [← eh] at e0
          exact ⟨_, rfl, _, rfl, iteC (decide_eq_true rfl) (iteT ⟨_, rfl, _, _, rfl, rfl, bad_ e0 G2 e2⟩)⟩
        · rw [← eh] at e0 hr2
          have RG2 := RG1.ext e2
          have hG2 := e2 _ _ hG1
          have rhd : r ≠ hd := fun z => by rw [z, hG1] at nr; cases nr
          refine ⟨_, rfl, _, rfl, iteN (decide_eq_false (fun z => by cases z)) ⟨_, rfl, rfl, _, rfl, ?_⟩⟩
          refine' cutG (p := i = 2 → (headAt lines 2).contains BRK = false) (fun go => ?k) (fun nb => ?hh)
          case k =>
            by_cases wm2 : i = 2
            · have e := wm.mpr wm2
              refine iteC (decide_eq_true (congrArg V.str e)) ⟨_, rfl, BRK, r, _, rfl, rfl, .inl (SqL.of hr2), _, rfl, ?_⟩
              by_cases eb : (headAt lines i).contains BRK = true
              · refine iteC eb ⟨_, rfl, _, _, rfl, rfl, ?_⟩
                rw [wm2] at eb e0
                have := q G2 (RG1.same.trans e2)
                rw [wrong_brk (by
                  rw [hLn]
                  intro j hj
                  rcases Nat.lt_or_ge j 2 with h | h
                  · exact okG j (by omega)
                  · have : j = 2 := by omega
                    rw [this]
                    exact e0) (by rw [hLn]; exact eb)] at this
                rw [wm2]
                exact this
              · exact iteN (by simpa using eb) (go fun z => by rw [← z]; simpa using eb)
            · exact iteN (decide_eq_false fun z => wm2 (wm.mp (V.str.inj z))) (go fun z => absurd z wm2)
          case hh =>
            refine ⟨_, rfl, .inl ⟨rfl, _, SqL.of hG2⟩, _, rfl, hd, _, _, rfl, rfl, hG2, by rw [List.length_map, rl, sizeLine_eq]; omega, ?_⟩
            have RG3 := RG2.put (o := .lst (rs.map V.ref ++ [.ref r]))
            refine ⟨_, _, _, _, _, _, _, _, rs ++ [r], rfl, by rw [List.length_append, rl]; rfl, { RG3 with frs := fun j z hj => ?_ }, by rw [upd_same, List.map_append]; rfl, fun j hj => ?_, fun z => nb (by omega)⟩
            · rcases Nat.lt_or_ge j rs.length with h | h
              · rw [List.getElem?_append_left h] at hj
                exact RG3.frs j z hj
              · rw [List.getElem?_append_right h] at hj
                have ej : j - rs.length = 0 := by
                  rcases Nat.eq_zero_or_pos (j - rs.length) with h | h
                  · exact h
                  · rw [List.getElem?_eq_none (by show 1 ≤ _; omega)] at hj
                    cases hj
                rw [ej] at hj
                cases hj
                have ej2 : j = i := by omega
                subst ej2
                exact ⟨rhd, by rw [upd_ne rhd]; exact hr2⟩
            · rcases Nat.lt_or_ge j i with h | h
              · exact okG j h
              · have : j = i := by omega
                rw [this]
                exact e0
      · have bad : headAt lines i = [] := by
          unfold headAt
          rw [et, List.getElem?_eq_none (by
            have : ¬ ((i : Nat) : Int) < ((lines.length : Nat) : Int) := fun z => c1 (decide_eq_true z)
            omega)]
        exact ⟨_, rfl, _, rfl, iteC (decide_eq_true rfl) (iteT ⟨_, rfl, _, _, rfl, rfl, bad_ bad G1 (Same.refl G1)⟩)⟩
    · rintro σ G ⟨x3, x4, x5, x6, x7, x8, x9, x10, rs, rfl, rl, RG, hG, okG, nbr⟩
      obtain ⟨c, a, s, rfl⟩ : ∃ c a s, rs = [c, a, s] := by
        match rs, rl with
        | [c, a, s], _ => exact ⟨c, a, s, rfl⟩
      obtain ⟨rc1, rc2⟩ := RG.frs 0 c rfl
      obtain ⟨ra1, ra2⟩ := RG.frs 1 a rfl
      obtain ⟨rs1, rs2⟩ := RG.frs 2 s rfl
      have nb := nbr (by show 2 < 3; decide)
      have gS := headAt_good (okG 2 (by show 2 < 3; decide))
      have wg := wrong_goals (T := X) (by rw [hLn]; exact fun j hj => okG j hj) (by rw [hLn]; exact nb)
      rw [hLn] at wg
      generalize headAt lines 0 = C at rc2 wg
      generalize headAt lines 1 = A at ra2 wg
      generalize headAt lines 2 = S at rs2 gS wg
      intro sn nsn
      have s0 := same_new nsn (.dT [])
      have hsn : (upd G sn (.dT [])) sn = some (.dT []) := upd_same
      have nsn0 : H sn = none := RG.same.free nsn
      show _
      generalize upd G sn (.dT []) = G3 at s0 hsn ⊢
      refine ⟨_, rfl, 3, rfl, l, _, rfl, SqL.of (s0 _ _ RG.fl), fun l3 nl3 => ?_⟩
      have e3 : cutV (lines.map V.str) (some 3) none = (lines.drop 3).map V.str := by
        rw [show (3 : Int) = ((3 : Nat) : Int) from rfl, cut_from, List.map_drop]
      rw [e3]
      have s1 := same_new nl3 (.lst ((lines.drop 3).map V.str))
      have h3 : (upd G3 l3 (.lst ((lines.drop 3).map V.str))) l3 = some (.lst ((lines.drop 3).map V.str)) := upd_same
      show _
      generalize upd G3 l3 (.lst ((lines.drop 3).map V.str)) = G4 at s1 h3 ⊢
      have s01 := s0.trans s1
      have R0 : RdR H G4 l hd sn l3 c a s lines C A S [] := ⟨RG.same.trans s01, nsn0, s01 _ _ RG.fl, h3, s01 _ _ hG, s01 _ _ rc2, s01 _ _ ra2, s01 _ _ rs2, s1 _ _ hsn⟩
      clear h3 s1 nl3 RG hG okG rc2 ra2 rs2 rc1 ra1 rs1 s0 s01 hsn nsn
      refine ⟨l3, _, rfl, SqL.of R0.fl3, ?_⟩
      refine for_enumL (xs := (lines.drop 3).map V.str) (fun i σ G => ∃ x3 x4 x5 x6 x7 x9 x10 g, σ = [some (.str X), some (.ref l), some (.ref hd), x3, x4, x5, x6, x7, some (.ref sn), x9, x10] ∧ RdR H G l hd sn l3 c a s lines C A S g ∧ g.length ≤ i ∧
          goalsFrom C A S (lines.drop 3) 3 [] = goalsFrom C A S ((lines.drop 3).drop i) (3 + i) g)
        ⟨_, _, _, _, _, _, _, [], rfl, R0, Nat.zero_le _, rfl⟩ (fun i σ G ⟨_, _, _, _, _, _, _, _, _, RG, _⟩ => SqL.of RG.fl3) ?_ ?_
      · rintro i x T1 σ G hx ⟨x3, x4, x5, x6, x7, x9, x10, g, rfl, RG, gi, eg⟩ nT
        have hi : i < (lines.drop 3).length := by
          have := (List.getElem?_eq_some_iff.mp hx).1
          simpa using this
        have hi2 : i < 3901 := by
          rw [List.length_drop] at hi
          omega
        rw [List.getElem?_map, List.getElem?_eq_getElem hi] at hx
        have ex : x = .str (lines.drop 3)[i] := (Option.some.inj hx).symm
        subst ex
        have hmem : (lines.drop 3)[i] ∈ lines := List.mem_of_mem_drop (List.getElem_mem hi)
        have ed : (lines.drop 3).drop i = (lines.drop 3)[i] :: (lines.drop 3).drop (i + 1) := List.drop_eq_getElem_cons hi
        rw [ed] at eg
        generalize (lines.drop 3)[i] = line at hmem eg ⊢
        have sT := same_new nT (.tup [.int (i : Nat), .str line])
        have hT : (upd G T1 (.tup [.int (i : Nat), .str line])) T1 = some (.tup [.int (i : Nat), .str line]) := upd_same
        show _
        generalize upd G T1 (.tup [.int (i : Nat), .str line]) = G1 at sT hT ⊢
        have RG1 := RG.ext sT
        have ll := lokX line hmem
        refine ⟨T1, _, rfl, .inl (.inl hT), rfl, _, _, rfl, _, _, rfl, rfl, ?_⟩
        refine ⟨_, rfl, ⟨_, rfl⟩, line, sp1, rfl, rfl, rfl, by rw [sizeLine_eq]; omega, fun wd nwd => ?_⟩
        generalize hws : Txt.split line sp1 = ws
        have v1 := same_new nwd (.lst (ws.map V.str))
        have hwd : (upd G1 wd (.lst (ws.map V.str))) wd = some (.lst (ws.map V.str)) := upd_same
        show _
        generalize upd G1 wd (.lst (ws.map V.str)) = G2 at v1 hwd ⊢
        have RG2 := RG1.ext v1
        have no : goalStep C A S g line = none → ∀ G', Same G2 G' → Q (.int ((i : Nat) + 4 : Int)) G' := fun e0 G' e2 => by
          have := q G' (RG2.same.trans e2)
          have eg2 : goalsFrom C A S (line :: (lines.drop 3).drop (i + 1)) (3 + i) g = .inl (3 + i + 1) := by
            show (match goalStep C A S g line with | none => _ | some g' => _) = _
            rw [e0]
          rw [wg, eg, eg2] at this
          have ei : ((3 + i + 1 : Nat) : Int) = (i : Int) + 4 := by omega
          have t2 : Q (.int ((3 + i + 1 : Nat) : Int)) G' := this
          rw [ei] at t2
          exact t2
        have badl : isLine ws C A S = false → goalStep C A S g line = none := fun e => step_bad (by rw [hws]; exact e)
        refine ⟨_, rfl, wd, _, rfl, .inl (SqL.of hwd), rfl, _, rfl, ?_⟩
        rw [List.length_map]
        by_cases h5 : ws.length = 5
        case neg =>
          have e : isLine ws C A S = false := by
            unfold isLine
            split
            · exact absurd rfl h5
            · rfl
          have ne : (!decide (V.int (ws.length : Nat) = V.int 5)) = true := by
            have : ¬ ((ws.length : Int) = 5) := by omega
            simp [this]
          exact iteC ne (iteT ⟨_, rfl, _, _, rfl, rfl, no (badl e) _ (Same.refl _)⟩)
        obtain ⟨x0, x1, x2, x3', x4', rfl⟩ : ∃ x0 x1 x2 x3 x4, ws = [x0, x1, x2, x3, x4] := by
          match ws, h5 with
          | [x0, x1, x2, x3, x4], _ => exact ⟨_, _, _, _, _, rfl⟩
        have i1 : atI ([x0, x1, x2, x3', x4'].map V.str) 1 = some (.str x1) := rfl
        have i2 : atI ([x0, x1, x2, x3', x4'].map V.str) 2 = some (.str x2) := rfl
        have i3 : atI ([x0, x1, x2, x3', x4'].map V.str) 3 = some (.str x3') := rfl
        have i4 : atI ([x0, x1, x2, x3', x4'].map V.str) 4 = some (.str x4') := rfl
        have j0 : atI [V.ref c, .ref a, .ref s] 0 = some (.ref c) := rfl
        have j1 : atI [V.ref c, .ref a, .ref s] 1 = some (.ref a) := rfl
        have j2 : atI [V.ref c, .ref a, .ref s] 2 = some (.ref s) := rfl
        have hw' : SqL K G2 wd ([x0, x1, x2, x3', x4'].map V.str) := SqL.of hwd
        have hh' : SqL K G2 hd [V.ref c, .ref a, .ref s] := SqL.of RG2.fhd
        have eL : isLine [x0, x1, x2, x3', x4'] C A S = (decide (x0 = "step") && (S.contains x1 && (C.contains x2 && (A.contains x3' && (S ++ [BRK]).contains x4')))) := rfl
        refine iteF ⟨_, rfl, wd, _, _, _, rfl, rfl, hw', atI_nat (j := 0) rfl, rfl, _, rfl, ?_⟩
        by_cases h0 : x0 = "step"
        case neg =>
          have ne : (!decide ((V.str x0) = V.str "step")) = true := by simp [h0]
          exact iteC ne (iteT ⟨_, rfl, _, _, rfl, rfl, no (badl (by rw [eL, decide_eq_false h0, Bool.false_and])) _ (Same.refl _)⟩)
        rw [decide_eq_true h0, Bool.true_and] at eL
        refine iteN (by rw [h0]; simp) ⟨_, rfl, wd, _, _, _, rfl, rfl, hw', i1, _, rfl, hd, _, _, _, rfl, rfl, hh', j2, _, s, S, rfl, rfl, .inl (SqL.of RG2.fs), _, rfl, ?_⟩
        cases e1 : S.contains x1 with
        | false => exact iteT (iteT ⟨_, rfl, _, _, rfl, rfl, no (badl (by rw [eL, e1, Bool.false_and])) _ (Same.refl _)⟩)
        | true =>
        rw [e1, Bool.true_and] at eL
        refine iteF ⟨_, rfl, wd, _, _, _, rfl, rfl, hw', i2, _, rfl, hd, _, _, _, rfl, rfl, hh', j0, _, c, C, rfl, rfl, .inl (SqL.of RG2.fc), _, rfl, ?_⟩
        cases e2 : C.contains x2 with
        | false => exact iteT ⟨_, rfl, _, _, rfl, rfl, no (badl (by rw [eL, e2, Bool.false_and])) _ (Same.refl _)⟩
        | true =>
        rw [e2, Bool.true_and] at eL
        refine iteF ⟨_, rfl, wd, _, _, _, rfl, rfl, hw', i3, _, rfl, hd, _, _, _, rfl, rfl, hh', j1, _, a, A, rfl, rfl, .inl (SqL.of RG2.fa), _, rfl, ?_⟩
        cases e3' : A.contains x3' with
        | false => exact iteT (iteT ⟨_, rfl, _, _, rfl, rfl, no (badl (by rw [eL, e3', Bool.false_and])) _ (Same.refl _)⟩)
        | true =>
        rw [e3', Bool.true_and] at eL
        refine iteF ⟨_, rfl, wd, _, _, _, rfl, rfl, hw', i4, _, rfl, hd, _, _, _, rfl, rfl, hh', j2, (by show 1 ≤ sizeLine; decide), fun b1 nb1 => ?_⟩
        have v2 := same_new nb1 (.lst [V.str "broken"])
        have hb1 : (upd G2 b1 (.lst [V.str "broken"])) b1 = some (.lst [V.str "broken"]) := upd_same
        show _
        generalize upd G2 b1 (.lst [V.str "broken"]) = G3 at v2 hb1 ⊢
        have RG3 := RG2.ext v2
        refine ⟨s, b1, _, _, rfl, rfl, RG3.fs, hb1, by rw [List.length_map, List.length_singleton, sizeLine_eq]; have := gS.len; omega, fun b2 nb2 => ?_⟩
        have v3 := same_new nb2 (.lst (S.map V.str ++ [V.str "broken"]))
        have hb2 : (upd G3 b2 (.lst (S.map V.str ++ [V.str "broken"]))) b2 = some (.lst ((S ++ [BRK]).map V.str)) := by rw [List.map_append]; exact upd_same
        show _
        generalize upd G3 b2 (.lst (S.map V.str ++ [V.str "broken"])) = G4 at v3 hb2 ⊢
        have RG4 := RG3.ext v3
        have v23 := v2.trans v3
        refine ⟨_, b2, _, rfl, rfl, .inl (SqL.of hb2), _, rfl, ?_⟩
        cases e4 : (S ++ [BRK]).contains x4' with
        | false => exact iteT (iteT ⟨_, rfl, _, _, rfl, rfl, no (badl (by rw [eL, e4])) _ v23⟩)
        | true =>
        have eL : isLine [x0, x1, x2, x3', x4'] C A S = true := by rw [eL, e4]
        refine iteF ⟨_, rfl, 1, rfl, 4, rfl, wd, _, rfl, v23.seq hw', fun p np => ?_⟩
        have ec : cutV ([x0, x1, x2, x3', x4'].map V.str) (some 1) (some 4) = [.str x1, .str x2, .str x3'] := rfl
        rw [ec]
        have v4 := same_new np (.lst [.str x1, .str x2, .str x3'])
        have hp : (upd G4 p (.lst [.str x1, .str x2, .str x3'])) p = some (.lst [.str x1, .str x2, .str x3']) := upd_same
        show _
        generalize upd G4 p (.lst [.str x1, .str x2, .str x3']) = G5 at v4 hp ⊢
        refine ⟨p, _, rfl, .inl ⟨SqL.of hp, fun t nt => ?_⟩⟩
        have v5 := same_new nt (.tup [.str x1, .str x2, .str x3'])
        have ht : (upd G5 t (.tup [.str x1, .str x2, .str x3'])) t = some (.tup ((kT3 (x1, x2, x3')).map kV)) := upd_same
        show _
        generalize upd G5 t (.tup [.str x1, .str x2, .str x3']) = G6 at v5 ht ⊢
        have v45 := v4.trans v5
        have RG6 := RG4.ext v45
        refine ⟨_, rfl, sn, _, rfl, DGet.t RG6.fsn ht, _, rfl, ?_⟩
        rw [kvS_val]
        cases lk : g.lookup (x1, x2, x3') with
        | some y => exact iteT ⟨_, rfl, _, _, rfl, rfl, no (step_two hws lk) _ (v23.trans v45)⟩
        | none =>
        refine iteF ?_
        have hw6 := v45.seq (v23.seq hw')
        refine ⟨_, rfl, _, rfl, 1, rfl, 4, rfl, wd, _, rfl, hw6, fun p' np' => ?_⟩
        rw [ec]
        have v6 := same_new np' (.lst [.str x1, .str x2, .str x3'])
        have hp' : (upd G6 p' (.lst [.str x1, .str x2, .str x3'])) p' = some (.lst [.str x1, .str x2, .str x3']) := upd_same
        show _
        generalize upd G6 p' (.lst [.str x1, .str x2, .str x3']) = G7 at v6 hp' ⊢
        refine ⟨p', _, rfl, .inl ⟨SqL.of hp', fun t' nt' => ?_⟩⟩
        have v7 := same_new nt' (.tup [.str x1, .str x2, .str x3'])
        have ht' : (upd G7 t' (.tup [.str x1, .str x2, .str x3'])) t' = some (.tup ((kT3 (x1, x2, x3')).map kV)) := upd_same
        show _
        generalize upd G7 t' (.tup [.str x1, .str x2, .str x3']) = G8 at v7 ht' ⊢
        have RG8 := RG6.ext (v6.trans v7)
        refine ⟨sn, _, rfl, DPut.t RG8.fsn ht' (by rw [kvS_len, sizeLine_eq]; omega), ?_⟩
        rw [putK_new _ (by rw [kvS_val, lk]; rfl)]
        refine ⟨_, _, _, _, _, _, _, g ++ [((x1, x2, x3'), x4')], rfl, ?_, by rw [List.length_append, List.length_singleton]; omega, ?_⟩
        · have := RG8.put (g' := g ++ [((x1, x2, x3'), x4')])
          rw [kvS_app] at this
          exact this
        · rw [eg]
          show (match goalStep C A S g line with | none => _ | some g' => _) = _
          rw [step_ok hws eL lk]
          rfl
      · rintro σ G ⟨x3, x4, x5, x6, x7, x9, x10, g, rfl, RG, gi, eg⟩
        rw [List.length_map, List.drop_length] at eg
        have eg : goalsFrom C A S (lines.drop 3) 3 [] = .inr g := eg
        rw [eg] at wg
        have wg : wrongV X = .non := wg
        have := q G RG.same
        rw [wg] at this
        exact this
end
end K55
set_option Elab.async false
set_option linter.all false
set_option maxRecDepth 100000
set_option maxHeartbeats 8000000
/-! Odd values; a look at Watch(v) that is caught; what a text that is read tells of its first lines. -/
namespace K55
open PySem L2 LG
section
variable {P : Program} {w : World} {K : PySem.W.Frag} {mg : Str → Option Value} {base : Heap}
theorem scOdd : FnScope ["_law_pot_here", "_law_some_here"] ["_law_pot_here"] (defScope sOdd) := ⟨rfl, rfl, rfl, by decide +kernel, rfl, by decide +kernel, by decide +kernel⟩
theorem ok_odd {f g : Addr} {fd gd : FuncData} (F : Fun K "_law_odd" "_law_odd" sOdd f fd) (G : FnOk P w K mg base CX0 2 g gd ["_law_pot_here", "_law_some_here"] (spOf K)) (mG : mg "_law_of" = some (.ref g)) (kG : PySem.W.keepIn K (.ref g) = true) (bG : Binds K gd ["_law_pot_here", "_law_some_here"] []) :
    FnOk P w K mg base CX0 3 f fd ["_law_pot_here"] (spOdd K) := by
  refine F.ok scOdd (fun vs H Q E h => ?_) (fun cdv A outer s H vs Q E hr h => ?_)
  · obtain ⟨p, b, rfl, _⟩ := h
    rfl
  obtain ⟨p, b, rfl, hp, hb, q⟩ := h
  refine ⟨_, pss_cons (ps_set (i := 1) scOdd.nd rfl (Or.inl rfl) (pe_lst (gx_cons (n := 2) (gx_of gd_none) (gx_cons (gx_of gd_bool) (gx_cons (gx_of gd_bool) (gx_cons (gx_of gd_int) (gx_cons (gx_of gd_int) (gx_cons (gx_of gd_neg) (gx_cons (gx_of gd_int) (gx_cons (gx_of gd_int) (gx_cons (pe_imp (t' := tGx K 2) (pe_op op_pow pe_int pe_int) fun _ H Q h => ⟨_, _, rfl, rfl, ⟨by decide, by decide, by decide⟩, h _ _ (Same.refl H) ⟨.int _, .flat (.int _), by decide +kernel⟩⟩) (gx_cons (gx_of gd_str) (gx_cons (gx_of gd_str) (gx_cons (gx_of gd_str) (gx_cons (gx_of gd_str) (gx_cons (gx_of gd_str) (gx_cons (gx_of gd_str) (gx_cons (gx_of gd_str) (gx_cons (gx_of (gd_tup gd_nil)) (gx_cons (gx_of (gd_lst gd_nil)) (gx_cons gx_dict0 (gx_cons (gx_of (gd_tup (gd_cons gd_int gd_nil))) gx_nil))))))))))))))))))))))
    (pss_one (ps_ret (pe_call G hr rfl mG kG bG .nil pass0 (pa_cons (pv 0) (pa_cons (pe_op op_cat (pv 1) (pe_lst (gx_cons (n := 2) (gx_of (gd_tup (gd_cons (gd_tup gd_nil) gd_nil))) (gx_cons (gx_of (gd_lst (gd_cons gd_int gd_nil))) (gx_cons (gx_of (gd_tup (gd_cons gd_int (gd_cons gd_int gd_nil)))) (gx_cons (gx_of (gd_tup (gd_cons gd_str gd_nil))) (gx_cons (gx_of (gd_tup (gd_cons (gd_tup (gd_cons gd_str (gd_cons gd_str gd_nil))) gd_nil))) (gx_cons (gx_of (gd_tup (gd_cons gd_none gd_nil))) (gx_cons (gx_of (gd_tup (gd_cons gd_str (gd_cons (gd_tup gd_nil) gd_nil)))) (gx_cons gx_dict1 (gx_cons (gx_of gd_str) gx_nil))))))))))) pa_nil))))), ?_⟩
  intro xs H1 s1 l1 g1
  refine ⟨by rw [l1]; decide, fun l nl => ?_⟩
  have sl := same_new nl (.lst xs)
  have hl : (upd H1 l (.lst xs)) l = some (.lst xs) := upd_same
  show _
  generalize hH2 : upd H1 l (.lst xs) = H2 at sl hl
  refine ⟨_, rfl, _, rfl, ?_⟩
  intro ys H3 s3 l3 g3
  refine ⟨by rw [l3]; decide, fun l2 nl2 => ?_⟩
  have s4 := same_new nl2 (.lst ys)
  refine ⟨l, l2, _, _, rfl, rfl, s4 _ _ (s3 _ _ hl), upd_same, by rw [l1, l3]; decide, fun l5 nl5 => ?_⟩
  have s5 := same_new nl5 (.lst (xs ++ ys))
  have sAll : Same H (upd (upd H3 l2 (.lst ys)) l5 (.lst (xs ++ ys))) := (((s1.trans sl).trans s3).trans s4).trans s5
  refine ⟨p, l5, xs ++ ys, b, rfl, hp.same sAll, hb, SqL.of upd_same, by rw [List.length_append, l1, l3]; decide, by rw [List.length_append, l1, l3]; decide, ?_, fun x H' hx but pot => ?_⟩
  · intro z
    have := ((s1.trans sl).trans s3).trans s4
    have hpp := hp.same this
    exact hpp.there (by rw [← z]; exact nl5)
  · refine q x H' ((But.of sAll).trans but) pot ?_
    have up : Same (mn H (upd (upd H3 l2 (.lst ys)) l5 (.lst (xs ++ ys)))) (mn H H') := mn_but but hp.there
    rcases List.mem_append.mp hx with hx | hx
    · exact (g1 x hx).same ((mn_up (((sl.trans s3).trans s4).trans s5)).trans up)
    · exact (g3 x hx).same (((mn_down (s1.trans sl)).trans (mn_up (s4.trans s5))).trans up)
end
end K55
namespace LG
open PySem PySem.Spec PyProof.Rows L2
section
variable {X : Cx}
/-- repr(x), x data whose text fits -/
def rReprB (K : PySem.W.Frag) : List V → Hp → VK → Prop := fun xs H Q => ∃ (v : V) (d : PyData), xs = [v] ∧ Dx K H v d ∧ d.showable = true ∧ d.depth ≤ 41 ∧ d.shown.length ≤ sizeLine ∧ Q (.str d.shown) H
theorem call_reprB (hg : X.A.guards = some []) (hu : X.A.units + 64 < cLine) : CallR X (.builtin "repr") (rReprB X.K) := by
  intro pins s σ H xs us Q I r h
  obtain ⟨v, d, rfl, hd, show_, deep, fits, q⟩ := h
  obtain ⟨u, rfl, ru⟩ := vals1 r
  obtain ⟨as, rd, sm⟩ := Dx_reads I hd ru
  cases rd with
  | none => exact PySem.P.repr_of_none ⟨.str _, H, I.tok _, ⟨_, rfl⟩, q⟩
  | bool b => 
    refine PySem.P.repr_of_bool ⟨.str _, H, I.tok _, ⟨_, rfl⟩, ?_⟩
    cases b <;> exact q
  | int i t => exact PySem.P.repr_of_int (of_decide_eq_true (by simpa only [PyData.showable] using show_)) ⟨.str _, H, I.tok _, ⟨_, rfl⟩, q⟩
  | str x t => exact PySem.P.repr_of_str ⟨.str _, H, I.tok _, ⟨_, rfl⟩, q⟩ fits
  | list a1 a2 a3 a4 => exact repr_of_reads' (.list a1 a2 a3 a4) show_ sm hg (by omega) (fun _ _ e => e) (fun h' w tk k => ⟨.str _, H, I.kept (t' := tk) k, ⟨w, rfl⟩, q⟩) fits
  | tuple a1 a2 a3 a4 => exact repr_of_reads' (.tuple a1 a2 a3 a4) show_ sm hg (by omega) (fun _ _ e => e) (fun h' w tk k => ⟨.str _, H, I.kept (t' := tk) k, ⟨w, rfl⟩, q⟩) fits
  | dict a1 a2 a3 a4 a5 => exact repr_of_reads' (.dict a1 a2 a3 a4 a5) show_ sm hg (by omega) (fun _ _ e => e) (fun h' w tk k => ⟨.str _, H, I.kept (t' := tk) k, ⟨w, rfl⟩, q⟩) fits
end
end LG
namespace LG
open PySem L2 LamX
theorem made {H1 H' : Hp} {x dx C : Addr} (nx : H1 x = none) (nd : H1 dx = none) (e : But x (upd (upd H1 dx (.own x)) x (.ins C dx [])) H') : Same H1 H' := fun b u q =>
  e b u (by rw [upd_ne (ne_of_none q nx), upd_ne (ne_of_none q nd)]; exact q) (ne_of_none q nx)
theorem text_fits {T : Str} (hT : T.length ≤ 100000) (hc : ∀ c ∈ TL.tl T, c < 128) : (PyData.str T).showable = true ∧ (PyData.str T).depth ≤ 41 ∧ (PyData.str T).shown.length ≤ sizeLine := by
  refine ⟨by simp only [PyData.showable], by simp only [PyData.depth]; omega, ?_⟩
  have h5 := PySem.StrLaws.reprText_len T (asc_16 hc)
  simp only [PyData.shown]
  rw [sizeLine_eq]
  omega
theorem int_fits {i : Int} (h : i.natAbs < 10 ^ 12) : (PyData.int i).showable = true ∧ (PyData.int i).depth ≤ 41 ∧ (PyData.int i).shown.length ≤ sizeLine := by
  refine ⟨by simp only [PyData.showable]; exact decide_eq_true (log2_small h), by simp only [PyData.depth]; omega, ?_⟩
  simp only [PyData.shown]
  have := int_small h
  rw [sizeLine_eq]
  omega
def namesD (ns : List Str) : PyData := .tuple (ns.map PyData.str)
theorem names_small {ns : List Str} (h : ∀ x ∈ ns, isNameB x = true) (hl : ns.length ≤ 20) : small 1 (namesD ns) = true := by
  have e : smalls 0 (ns.map PyData.str) = true := by
    clear hl
    induction ns with
    | nil => simp only [List.map_nil, smalls]
    | cons x r ih =>
      simp only [List.map_cons, smalls, name_small (h x List.mem_cons_self), ih fun y hy => h y (List.mem_cons_of_mem _ hy), Bool.and_self]
  unfold namesD
  simp only [small, e, List.length_map, decide_eq_true (show ns.length ≤ 25 by omega), Bool.and_self]
theorem strs_dp {K : PySem.W.Frag} {H : Hp} : ∀ (ns : List Str), DpAll K H (ns.map V.str) (ns.map PyData.str)
  | [] => .nil
  | x :: r => .cons (.str x) (strs_dp r)
theorem tup_ty {K : PySem.W.Frag} {H : Hp} {a : Addr} {xs : List V} (h : SqT K H a xs) : TyX K H (.ref a) (.type "tuple") := by
  rcases h with (h | ⟨o, h⟩) | ⟨o, its, n, h, c, _⟩
  · exact .base (.tup h)
  · exact .fTuple h
  · exact .kTuple h c
theorem goals_pos {C A S : List Str} : ∀ {ls : List Str} {n m : Nat} {g : Steps}, goalsFrom C A S ls n g = .inl m → 0 < m ∧ m ≤ n + ls.length
  | [], n, m, g, h => by cases h
  | l :: r, n, m, g, h => by
    have h : (match goalStep C A S g l with | none => .inl (n + 1) | some g' => goalsFrom C A S r (n + 1) g') = (.inl m : Sum Nat Steps) := h
    cases e : goalStep C A S g l with
    | none =>
      rw [e] at h
      cases h
      rw [List.length_cons]
      omega
    | some g' =>
      rw [e] at h
      have := goals_pos h
      rw [List.length_cons]
      omega
theorem heads_or (lines : List Str) : (∃ i, i < 3 ∧ (∀ j, j < i → headAt lines j ≠ []) ∧ headAt lines i = []) ∨ ∀ j, j < 3 → headAt lines j ≠ [] := by
  by_cases b0 : headAt lines 0 = []
  · exact .inl ⟨0, by decide, fun j hj => absurd hj (by omega), b0⟩
  by_cases b1 : headAt lines 1 = []
  · refine .inl ⟨1, by decide, fun j hj => ?_, b1⟩
    have : j = 0 := by omega
    rw [this]
    exact b0
  by_cases b2 : headAt lines 2 = []
  · refine .inl ⟨2, by decide, fun j hj => ?_, b2⟩
    rcases (show j = 0 ∨ j = 1 by omega) with rfl | rfl
    · exact b0
    · exact b1
  · refine .inr fun j hj => ?_
    rcases (show j = 0 ∨ j = 1 ∨ j = 2 by omega) with rfl | rfl | rfl
    · exact b0
    · exact b1
    · exact b2
theorem parse_pos {T : Str} {n : Nat} (h : parse T = .inl n) : 0 < n ∧ n ≤ (Txt.split T nl1).length + 4 := by
  rcases heads_or (Txt.split T nl1) with ⟨i, hi, ok, bad⟩ | ok
  · rw [parse_bad (readHeads_bad hi ok bad)] at h
    cases h
    omega
  · rw [parse_heads (readHeads_ok ok) (g := [])] at h
    by_cases b : (headAt (Txt.split T nl1) 2).contains BRK = true
    · rw [if_pos b] at h
      cases h
      omega
    · rw [if_neg b] at h
      unfold readGoals at h
      revert h
      generalize hr : goalsFrom (headAt (Txt.split T nl1) 0) (headAt (Txt.split T nl1) 1) (headAt (Txt.split T nl1) 2) ((Txt.split T nl1).drop 3) 3 [] = r
      cases r with
      | inl m =>
        intro e
        cases e
        have := goals_pos hr
        rw [List.length_drop] at this
        omega
      | inr g =>
        intro e
        cases e
theorem namesIn_tail {l h : Str} {a b : Int} (ne : LG.namesIn l h a b ≠ []) : LG.namesIn l h a b = (Txt.split l sp1).tail := by
  have e : LG.namesIn l h a b = if (Txt.split l sp1).headD Str.empty ≠ h ∨ ¬ (a ≤ ((Txt.split l sp1).tail.length : Int) ∧ ((Txt.split l sp1).tail.length : Int) ≤ b) then [] else if (uniq (Txt.split l sp1).tail).length < (Txt.split l sp1).tail.length ∨ ¬ ((Txt.split l sp1).tail.all isNameB = true) then [] else (Txt.split l sp1).tail := rfl
  by_cases c : (Txt.split l sp1).headD Str.empty ≠ h ∨ ¬ (a ≤ ((Txt.split l sp1).tail.length : Int) ∧ ((Txt.split l sp1).tail.length : Int) ≤ b)
  · rw [if_pos c] at e
    exact absurd e ne
  · rw [if_neg c] at e
    by_cases c2 : (uniq (Txt.split l sp1).tail).length < (Txt.split l sp1).tail.length ∨ ¬ ((Txt.split l sp1).tail.all isNameB = true)
    · rw [if_pos c2] at e
      exact absurd e ne
    · rw [if_neg c2] at e
      exact e
theorem headAt_line {lines : List Str} {i : Nat} (hi : i < 3) (ne : headAt lines i ≠ []) : ∃ l, lines[i]? = some l ∧ headAt lines i = (Txt.split l sp1).tail := by
  revert ne
  unfold headAt
  cases h : lines[i]? with
  | none =>
    intro ne
    exact absurd (by cases headsL[i]? <;> rfl) ne
  | some l =>
    match i, hi with
    | 0, _ => exact fun z => ⟨l, rfl, namesIn_tail z⟩
    | 1, _ => exact fun z => ⟨l, rfl, namesIn_tail z⟩
    | 2, _ => exact fun z => ⟨l, rfl, namesIn_tail z⟩
/-- what a text that is read tells of its first lines -/
theorem parse_inr {X : Str} {W : Wat} (h : parse X = .inr W) : ∃ l0 l1 l2 r, Txt.split X nl1 = l0 :: l1 :: l2 :: r ∧ (Txt.split l0 sp1).tail = W.calls ∧ (Txt.split l1 sp1).tail = W.answers ∧ (Txt.split l2 sp1).tail = W.marks ∧
    NmOk W.calls ∧ NmOk W.answers ∧ NmOk W.marks := by
  rcases heads_or (Txt.split X nl1) with ⟨i, hi, ok, bad⟩ | ok
  · rw [parse_bad (readHeads_bad hi ok bad)] at h
    cases h
  · rw [parse_heads (readHeads_ok ok) (g := [])] at h
    obtain ⟨l0, e0, t0⟩ := headAt_line (by decide) (ok 0 (by decide))
    obtain ⟨l1, e1, t1⟩ := headAt_line (by decide) (ok 1 (by decide))
    obtain ⟨l2, e2, t2⟩ := headAt_line (by decide) (ok 2 (by decide))
    have g0 := headAt_good (ok 0 (by decide))
    have g1 := headAt_good (ok 1 (by decide))
    have g2 := headAt_good (ok 2 (by decide))
    by_cases b : (headAt (Txt.split X nl1) 2).contains BRK = true
    · rw [if_pos b] at h
      cases h
    rw [if_neg b] at h
    have fin : ∀ {w : Wat}, w.calls = headAt (Txt.split X nl1) 0 → w.answers = headAt (Txt.split X nl1) 1 → w.marks = headAt (Txt.split X nl1) 2 → ∃ l0 l1 l2 r, Txt.split X nl1 = l0 :: l1 :: l2 :: r ∧ (Txt.split l0 sp1).tail = w.calls ∧ (Txt.split l1 sp1).tail = w.answers ∧ (Txt.split l2 sp1).tail = w.marks ∧
        NmOk w.calls ∧ NmOk w.answers ∧ NmOk w.marks := fun {w} h1 h2 h3 => by
      rw [h1, h2, h3]
      refine ⟨l0, l1, l2, (Txt.split X nl1).drop 3, ?_, t0.symm, t1.symm, t2.symm, g0, g1, g2⟩
      clear t0 t1 t2 g0 g1 g2 h b ok h1 h2 h3
      generalize Txt.split X nl1 = ls at e0 e1 e2 ⊢
      match ls, e0, e1, e2 with
      | x0 :: x1 :: x2 :: r, e0, e1, e2 =>
        cases e0
        cases e1
        cases e2
        rfl
    cases hR : readGoals (Txt.split X nl1) (headAt (Txt.split X nl1) 0) (headAt (Txt.split X nl1) 1) (headAt (Txt.split X nl1) 2) with
    | inl n =>
      rw [hR] at h
      cases h
    | inr g =>
      rw [hR] at h
      cases h
      exact fin rfl rfl rfl
/-- one look at Watch(v) by told -/
theorem told_watch {K : PySem.W.Frag} {mg : Str → Option Value} {fI B C CB : Addr} {T : List (Addr × Str)} {H : Hp} {v : V} {Q : VK} {tl : XK → Hp → VK → Prop} (eB : EQl K mg fI B "BadWatch" CB) (hT : Tabs T H)
    (run : ∀ (G : Hp) (E : XK) (R : VK), ExtN H G → (∀ n : Nat, parseV v = .inl n → ∀ d G', Same G G' → G d = none → G' d = some (.xd (vf (.int n))) → E (.ref CB) (some d) G') →
      (∀ X D x G', v = .str X → parse X = .inr D → Same G G' → DevAt K G' x C X D → R (.ref x) G') → tl E G R)
    (qb : ∀ (n : Nat) (cv : V) (p : Addr) (G : Hp), parseV v = .inl n → ExtN H G → Tabs T G → Caught G CB cv (.int n) → G p = some (.tup [cv, .non]) → Q (.ref p) G)
    (qo : ∀ (X : Str) (D : Wat) (x p : Addr) (G : Hp), v = .str X → parse X = .inr D → ExtN H G → Tabs T G → DevAt K G x C X D → G p = some (.tup [.non, .ref x]) → Q (.ref p) G) :
    Tabs T H ∧ ∀ H1, ExtN H H1 → Tabs T H1 → TTk K B tl H1 Q := by
  refine ⟨hT, fun H1 e1 T1 H2 E R s2 he hr => ?_⟩
  have e2 : ExtN H H2 := e1.trans (ExtN.of s2)
  have T2 : Tabs T H2 := T1.ext s2
  refine run H2 E R e2 (fun n hn d G' sG nd hd => ?_) fun X D x G' hv hp sG dv => ?_
  · refine he _ _ _ eB.box fun a na p np => ?_
    have s4 := same_new na (exq a (.ref CB) (some d))
    have s5 := same_new np (.tup [.ref a, V.non])
    have s35 := (sG.trans s4).trans s5
    exact qb n (.ref a) p _ hn (e2.trans (ExtN.of s35)) (T2.ext s35) ⟨a, d, rfl, s5 _ _ upd_same, (s4.trans s5) _ _ hd⟩ upd_same
  · refine hr _ _ fun p np => ?_
    have s5 := same_new np (.tup [V.non, .ref x])
    exact qo X D x p _ hv hp (e2.trans (ExtN.of (sG.trans s5))) (T2.ext (sG.trans s5)) (dv.same s5) upd_same
end LG
set_option Elab.async false
set_option linter.all false
set_option maxRecDepth 100000
set_option maxHeartbeats 8000000
/-! `_law_is_read`: one look at Watch(v), against the law's own look at v. -/
namespace LG
open PySem PySem.Spec PyProof.Rows L2
section
variable {X : Cx}
/-- x in a tuple of data -/
def rInTD (K : PySem.W.Frag) : R2 := fun x y H Q => ∃ d ds, Dp K H x d ∧ Dp K H y (.tuple ds) ∧ SeqAt.shaped d = true ∧ SeqAt.shaped (.tuple ds) = true ∧ Q (.bl (ds.any fun z => PyData.eqv z d)) H
theorem op_inTD (hu : X.A.units + 65 < cLine) : OpR X (compareOp .In) (rInTD X.K) := by
  intro pins s σ H x y v u Q I rx ry h
  obtain ⟨d, ds, hd, he, sd, se, q⟩ := h
  obtain ⟨as, r1⟩ := Dp.reads I d x v hd rx
  obtain ⟨bs, r2⟩ := Dp.reads I (.tuple ds) y u he ry
  exact SeqAt.in_tuple_reads r2 r1 (SeqAt.canLay_of_shaped se) (SeqAt.canLay_of_shaped sd) (room_in_shaped sd hu) ⟨.bl _, H, I, rfl, q⟩
end
end LG
namespace LG
open PySem L2 LamX
theorem names_long {l h : Str} {a b : Int} (ha : 1 ≤ a) (ne : LG.namesIn l h a b ≠ []) : h.length + 1 ≤ l.length := by
  have e : LG.namesIn l h a b = if (Txt.split l sp1).headD Str.empty ≠ h ∨ ¬ (a ≤ ((Txt.split l sp1).tail.length : Int) ∧ ((Txt.split l sp1).tail.length : Int) ≤ b) then [] else if (uniq (Txt.split l sp1).tail).length < (Txt.split l sp1).tail.length ∨ ¬ ((Txt.split l sp1).tail.all isNameB = true) then [] else (Txt.split l sp1).tail := rfl
  by_cases c : (Txt.split l sp1).headD Str.empty ≠ h ∨ ¬ (a ≤ ((Txt.split l sp1).tail.length : Int) ∧ ((Txt.split l sp1).tail.length : Int) ≤ b)
  · rw [if_pos c] at e
    exact absurd e ne
  · have c1 : (Txt.split l sp1).headD Str.empty = h := Classical.byContradiction fun z => c (.inl z)
    have c2 : a ≤ ((Txt.split l sp1).tail.length : Int) := (Classical.byContradiction fun z => c (.inr fun y => z y.1))
    have j := split_jlen l
    generalize Txt.split l sp1 = ws at c1 c2 j
    match ws, c1, c2 with
    | [], _, c2 => simp at c2; omega
    | [x], _, c2 => simp at c2; omega
    | x :: y :: r, c1, _ =>
      have c1 : x = h := c1
      rw [jlen_cons, jlen_cons] at j
      rw [c1] at j
      omega
theorem head_long {lines : List Str} {i : Nat} {h : Str} {f m : Int} (e : headsL[i]? = some (h, f, m)) (hf : 1 ≤ f) (ne : headAt lines i ≠ []) : ∃ l, lines[i]? = some l ∧ h.length + 1 ≤ l.length := by
  unfold headAt at ne
  rw [e] at ne
  cases hl : lines[i]? with
  | none =>
    rw [hl] at ne
    exact absurd rfl ne
  | some l =>
    rw [hl] at ne
    exact ⟨l, rfl, names_long hf ne⟩
theorem parse_long {X : Str} {W : Wat} (h : parse X = .inr W) : 22 ≤ X.length := by
  rcases heads_or (Txt.split X nl1) with ⟨i, hi, ok, bad⟩ | ok
  · rw [parse_bad (readHeads_bad hi ok bad)] at h
    cases h
  obtain ⟨l0, e0, b0⟩ := head_long (i := 0) rfl (by decide) (ok 0 (by decide))
  obtain ⟨l1, e1, b1⟩ := head_long (i := 1) rfl (by decide) (ok 1 (by decide))
  obtain ⟨l2, e2, b2⟩ := head_long (i := 2) rfl (by decide) (ok 2 (by decide))
  have j := join_size nl1 (split_some X nl1_ne nl1_k)
  rw [PySem.StrLaws.join_split, nl1_1] at j
  have n1 : ("calls" : Str).length = 5 := by decide +kernel
  have n2 : ("answers" : Str).length = 7 := by decide +kernel
  have n3 : ("marks" : Str).length = 5 := by decide +kernel
  clear ok h
  generalize Txt.split X nl1 = ls at e0 e1 e2 j
  match ls, e0, e1, e2 with
  | a :: b :: c :: r, e0, e1, e2 =>
    cases e0
    cases e1
    cases e2
    simp only [List.map_cons, List.sum_cons] at j
    omega
/-- a value to be read: a text that is not too long, or no text, on any road on -/
def RdOk (X : Str) : Prop := X.length ≤ 3900 ∧ (22 ≤ X.length → ∀ c ∈ TL.tl X, c < 128)
def VRd (K : PySem.W.Frag) (M : Hp) (v : V) : Prop := ∀ G, ExtN M G → (∃ X, v = .str X ∧ RdOk X) ∨ ∃ t, TyX K G v t ∧ PySem.W.kitOne K t (.type "str") = some false ∧ ∀ x, v ≠ .str x
theorem VRd.or {K : PySem.W.Frag} {M G : Hp} {v : V} (h : VRd K M v) (e : ExtN M G) : StrOr K G v := by
  rcases h G e with ⟨X, h, _⟩ | h
  · exact .inl ⟨X, h⟩
  · exact .inr h
theorem VRd.text {K : PySem.W.Frag} {M : Hp} {X : Str} (h : VRd K M (.str X)) : RdOk X := by
  rcases h M (ExtN.refl M) with ⟨Y, e, h⟩ | ⟨_, _, _, no⟩
  · cases e
    exact h
  · exact absurd rfl (no X)
theorem wrong_bad {K : PySem.W.Frag} {M G : Hp} {v : V} {n : Nat} (h : VRd K M v) (e : ExtN M G) (hn : parseV v = .inl n) :
    (∃ X : Str, v = .str X ∧ X.length ≤ 3900 ∧ wrongV X = .int (n : Nat)) ∨ ((∃ t, TyX K G v t ∧ PySem.W.kitOne K t (.type "str") = some false) ∧ n = 0) := by
  rcases h G e with ⟨X, rfl, ok⟩ | ⟨t, ty, kk, no⟩
  · refine .inl ⟨X, rfl, ok.1, ?_⟩
    have hn : parse X = .inl n := hn
    unfold wrongV
    rw [hn]
  · refine .inr ⟨⟨t, ty, kk⟩, ?_⟩
    cases v with
    | str X => exact absurd rfl (no X)
    | _ => cases hn; rfl
theorem bad_small {K : PySem.W.Frag} {M : Hp} {v : V} {n : Nat} (h : VRd K M v) (hn : parseV v = .inl n) : n < 100000 := by
  cases v with
  | str X =>
    have hn : parse X = .inl n := hn
    have h1 := parse_pos hn
    have h2 := (lines_bounds X).2
    have h3 := h.text.1
    omega
  | _ => cases hn; decide
/-- the words that are looked for in a watch of these marks -/
def wordsW (S : List Str) (s : Addr) : List V := S.map V.str ++ [.str BRK, .str "", .non, .int 0, .ref s]
def wordsD (S : List Str) : List PyData := S.map PyData.str ++ [.str BRK, .str "", .none, .int 0, namesD S]
theorem eqv_any (S : List Str) : ∀ x : Str, ((S.map PyData.str).any fun z => PyData.eqv z (.str x)) = S.contains x := by
  intro x
  rw [List.any_map, List.contains_eq_any_beq]
  congr 1
  funext y
  show PyData.eqv (.str y) (.str x) = (x == y)
  simp only [PyData.eqv]
  by_cases h : y = x
  · subst h
    simp
  · have h2 : ¬ x = y := fun z => h z.symm
    have h3 : (y == x) = false := by simpa using h
    have h4 : (x == y) = false := by simpa using h2
    rw [h4]
    first | exact h3 | simp [h]
theorem eqv_none (S : List Str) (d : PyData) (h : ∀ x : Str, PyData.eqv (.str x) d = false) : ((S.map PyData.str).any fun z => PyData.eqv z d) = false := by
  rw [List.any_map, List.any_eq_false]
  intro y _
  show ¬ PyData.eqv (.str y) d = true
  rw [h y]
  simp
def bitW (S : List Str) (d : PyData) : Bool := (S.map PyData.str).any fun z => PyData.eqv z d
theorem names_shaped {S : List Str} (ok : NmOk S) : SeqAt.shaped (namesD S) = true := by
  have c : PyData.canLayAll0 (S.map PyData.str) = true ∧ PyData.depthAll (S.map PyData.str) = 0 := by
    have nm := ok.nm
    clear ok
    induction S with
    | nil => exact ⟨rfl, by simp [PyData.depthAll]⟩
    | cons t r ih =>
      obtain ⟨i1, i2⟩ := ih fun x hx => nm x (List.mem_cons_of_mem _ hx)
      refine ⟨?_, ?_⟩
      · simp only [List.map_cons, PyData.canLayAll0, name_strOk (name_asc (nm t List.mem_cons_self)), i1, Bool.and_self]
      · simp only [List.map_cons, PyData.depthAll, PyData.depth, i2]
        omega
  unfold SeqAt.shaped namesD
  simp only [PyData.canLay0, PyData.depth, c.1, c.2, Bool.true_and]
  decide
/-- each word: a text or of another type, data; whether it is among the marks -/
theorem words_at {K : PySem.W.Frag} {G : Hp} {S : List Str} {s : Addr} (hs : SqT K G s (S.map V.str)) (ok : NmOk S) (kitn : PySem.W.kitOne K (.type "NoneType") (.type "str") = some false) (kiti : PySem.W.kitOne K (.type "int") (.type "str") = some false) (kitt : PySem.W.kitOne K (.type "tuple") (.type "str") = some false) {i : Nat} {v : V} (h : (wordsW S s)[i]? = some v) :
    ∃ d, (wordsD S)[i]? = some d ∧ Dp K G v d ∧ SeqAt.shaped d = true ∧ StrOr K G v ∧ amongB v S = bitW S d := by
  have nsh := names_shaped ok
  unfold wordsW at h
  unfold wordsD
  rcases Nat.lt_or_ge i S.length with hi | hi
  · rw [List.getElem?_append_left (by rw [List.length_map]; exact hi), List.getElem?_map, List.getElem?_eq_getElem hi] at h
    have e : v = .str S[i] := (Option.some.inj h).symm
    subst e
    refine ⟨.str S[i], by rw [List.getElem?_append_left (by rw [List.length_map]; exact hi), List.getElem?_map, List.getElem?_eq_getElem hi]; rfl, .str _, ?_, .inl ⟨_, rfl⟩, (eqv_any S S[i]).symm⟩
    have := name_strOk (name_asc (ok.nm _ (List.getElem_mem hi)))
    unfold SeqAt.shaped
    rw [this]
    simp only [PyData.depth]
    rfl
  · rw [List.getElem?_append_right (by rw [List.length_map]; exact hi), List.length_map] at h
    rw [List.getElem?_append_right (by rw [List.length_map]; exact hi), List.length_map]
    match i - S.length, h with
    | 0, h =>
      cases h
      exact ⟨.str BRK, rfl, .str _, by decide +kernel, .inl ⟨_, rfl⟩, (eqv_any S BRK).symm⟩
    | 1, h =>
      cases h
      exact ⟨.str "", rfl, .str _, by decide +kernel, .inl ⟨_, rfl⟩, (eqv_any S "").symm⟩
    | 2, h =>
      cases h
      exact ⟨.none, rfl, .non, by decide +kernel, .inr ⟨_, .base .non, kitn, fun x z => nomatch z⟩, (eqv_none S .none fun x => by simp only [PyData.eqv]).symm⟩
    | 3, h =>
      cases h
      exact ⟨.int 0, rfl, .int 0, by decide +kernel, .inr ⟨_, .base (.int 0), kiti, fun x z => nomatch z⟩, (eqv_none S (.int 0) fun x => by simp only [PyData.eqv]).symm⟩
    | 4, h =>
      cases h
      exact ⟨namesD S, rfl, .tup hs (strs_dp S), nsh, .inr ⟨_, tup_ty hs, kitt, fun x z => nomatch z⟩, (eqv_none S (namesD S) fun x => by unfold namesD; simp only [PyData.eqv]).symm⟩
    | n + 5, h => cases h
theorem words_len (S : List Str) (s : Addr) : (wordsW S s).length = S.length + 5 := by
  unfold wordsW
  rw [List.length_append, List.length_map]
  rfl
theorem bits_shaped (l : List Bool) : SeqAt.shaped (.list (l.map PyData.bool)) = true := by
  have c : PyData.canLayAll0 (l.map PyData.bool) = true ∧ PyData.depthAll (l.map PyData.bool) = 0 := by
    induction l with
    | nil => exact ⟨rfl, by simp [PyData.depthAll]⟩
    | cons t r ih =>
      refine ⟨?_, ?_⟩
      · simp only [List.map_cons, PyData.canLayAll0, PyData.canLay0, ih.1, Bool.and_self]
      · simp only [List.map_cons, PyData.depthAll, PyData.depth, ih.2]
        omega
  unfold SeqAt.shaped
  simp only [PyData.canLay0, PyData.depth, c.1, c.2, Bool.true_and]
  decide
theorem bits_dp {K : PySem.W.Frag} {H : Hp} : ∀ l : List Bool, DpAll K H (l.map V.bl) (l.map PyData.bool)
  | [] => .nil
  | b :: r => .cons (.bl b) (bits_dp r)
/-- what is read of the first lines -/
def toldW (T : Str) (C A S : List Str) : PyData := .tuple [.str T, namesD C, namesD A, namesD S]
theorem told_w {K : PySem.W.Frag} {H : Hp} {t c a s : Addr} {T : Str} {C A S : List Str} (ht : SqT K H t [.str T, .ref c, .ref a, .ref s]) (hc : SqT K H c (C.map V.str)) (ha : SqT K H a (A.map V.str)) (hs : SqT K H s (S.map V.str)) : Dx K H (.ref t) (toldW T C A S) :=
  .flat (.tup ht (.cons (.str T) (.cons (.tup hc (strs_dp _)) (.cons (.tup ha (strs_dp _)) (.cons (.tup hs (strs_dp _)) .nil)))))
theorem told_fits {T : Str} {C A S : List Str} (hT : T.length ≤ 3900) (hc : ∀ c ∈ TL.tl T, c < 128) (oc : NmOk C) (oa : NmOk A) (os : NmOk S) : (toldW T C A S).showable = true ∧ (toldW T C A S).depth ≤ 41 ∧ (toldW T C A S).shown.length ≤ sizeLine := by
  have k1 := names_small oc.nm (by have := oc.len; omega)
  have k2 := names_small oa.nm (by have := oa.len; omega)
  have k3 := names_small os.nm (by have := os.len; omega)
  refine ⟨?_, ?_, ?_⟩
  · unfold toldW
    simp only [PyData.showable, PyData.showableAll, small_showable 1 _ k1, small_showable 1 _ k2, small_showable 1 _ k3, Bool.true_and, Bool.and_true]
  · unfold toldW
    have h1 := small_depth 1 _ k1
    have h2 := small_depth 1 _ k2
    have h3 := small_depth 1 _ k3
    simp only [PyData.depth, PyData.depthAll]
    omega
  · have h1 := small_shown 1 _ k1
    have h2 := small_shown 1 _ k2
    have h3 := small_shown 1 _ k3
    have e1 : signs 1 ≤ 100000 := by decide +kernel
    have h5 := PySem.StrLaws.reprText_len T (asc_16 hc)
    unfold toldW
    simp only [PyData.shown, PyData.shownAll]
    have h6 := tuple_le (ts := [reprText T, (namesD C).shown, (namesD A).shown, (namesD S).shown]) (m := 100000) (by
      intro t ht
      simp only [List.mem_cons, List.not_mem_nil, or_false] at ht
      rcases ht with rfl | rfl | rfl | rfl <;> omega) (by show 4 ≤ 25; decide)
    refine Nat.le_trans h6 ?_
    rw [sizeLine_eq]
    decide
end LG
set_option Elab.async false
set_option linter.all false
set_option maxRecDepth 100000
set_option maxHeartbeats 800000
namespace LG
open PySem L2
theorem ne_self {a : V} : (!decide (a = a)) = false := by simp
theorem hu65 {k : Nat} {A : Around} (r : Room k A) : A.units + 65 < cLine := by have := r.un; omega
end LG
namespace K55
open PySem L2 LG LamX
section
variable {P : Program} {w : World} {K : PySem.W.Frag} {mg : Str → Option Value} {base : Heap}
abbrev qRd : Str := "_law_is_read" ++ ".<locals>." ++ "<lambda>"
abbrev tTab (P1 : Addr) : List (Addr × Str) := [(P1, qRd)]
structure KitD (P : Program) (w : World) (K : PySem.W.Frag) (mg : Str → Option Value) (base : Heap) (fI C CB B P1 : Addr) : Prop where
  wrong : ∃ g gd, FnOk P w K mg base CX0 3 g gd ["_law_value"] (spWrong K) ∧ mg "_law_wrong" = some (.ref g) ∧ PySem.W.keepIn K (.ref g) = true ∧ L2.Binds K gd ["_law_value"] []
  init : ∃ g gd, FnOk P w K mg base (L2.CX P w) 4 g gd ["self", "text"] (spDInit K C CB) ∧ Mk K C g ∧ L2.Binds K gd ["self", "text"] []
  len : ∃ g gd, FnOk P w K mg base CX0 1 g gd ["self"] (spLen K C) ∧ PySem.W.findIn K (.ref C) "__len__" = some (some (.ref g)) ∧ PySem.W.isFn K (.ref g) = true ∧ L2.Binds K gd ["self"] []
  has : ∃ g gd, FnOk P w K mg base CX0 2 g gd ["self", "value"] (spHas K C) ∧ PySem.W.findIn K (.ref C) "__contains__" = some (some (.ref g)) ∧ PySem.W.isFn K (.ref g) = true ∧ L2.Binds K gd ["self", "value"] []
  told : ∃ (g : Addr) (kV dc pm cd ct oc : Value) (an od : Option Addr) (sl : Array (Option Value)), mg "_law_heard_of" = some (.ref g) ∧ PySem.W.keepIn K (.ref g) = true ∧ K.lookup g = some ⟨oc, od, .func (PySem.W.fnOf "_law_heard_of" "_law_heard_of" (defArgs sTold) (defBody sTold) (defScope sTold) .none kV dc pm an cd ct), sl⟩ ∧
    PySem.W.codeIn K cd "_law_heard_of" = true ∧ L2.Binds K (PySem.W.fnOf "_law_heard_of" "_law_heard_of" (defArgs sTold) (defBody sTold) (defScope sTold) .none kV dc pm an cd ct) ["_law_look"] []
  box : mg "BoxError" = some (.ref B)
  eb : EQl K mg fI B "BadWatch" CB
  dev : DevCl K mg C
  dsc : ClsD K
def spIsRead (K : PySem.W.Frag) (P1 : Addr) : Sp := fun vs H Q _ => ∃ (v : V), vs = [v] ∧ VRd K H v ∧ Tabs (tTab P1) H ∧ ∀ H', Tabs (tTab P1) H' → ExtN H H' → Q (.bl true) H'
abbrev nIr : List Str := ["_law_value", "_law_caught", "_law_made", "_law_wrong_here", "_law_lines", "_law_heads", "_law_words", "_law_line", "_law_word"]
theorem scIr : FnScope nIr ["_law_value"] (defScope sIsRead) := ⟨rfl, rfl, rfl, by decide +kernel, rfl, by decide +kernel, by decide +kernel⟩
theorem ok_isread {f c P1 fI C CB B : Addr} {oc kV doc pm ct : Value} {od an : Option Addr} {osl : Array (Option Value)} (T : Bltn mg) (Z : KitD P w K mg base fI C CB B P1)
    (lk : K.lookup f = some ⟨oc, od, .func (PySem.W.fnOf "_law_is_read" "_law_is_read" (defArgs sIsRead) (defBody sIsRead) (defScope sIsRead) .none kV doc pm an (.ref c) ct), osl⟩) (hcd : PySem.W.codeIn K (.ref c) "_law_is_read" = true) (TB : TabB base mg c P1) :
    GnOk P w K mg base 8 f (PySem.W.fnOf "_law_is_read" "_law_is_read" (defArgs sIsRead) (defBody sIsRead) (defScope sIsRead) .none kV doc pm an (.ref c) ct) ["_law_value"] (spIsRead K P1) := by
  obtain ⟨gw, gwd, GW, mW, kW, bW⟩ := Z.wrong
  obtain ⟨gi, gid, GI, MI, bI⟩ := Z.init
  obtain ⟨gn, gnd, GN, fN, nN, bN⟩ := Z.len
  obtain ⟨gh, ghd, GH, fH, nH, bH⟩ := Z.has
  obtain ⟨gt, kVt, dct, pmt, cdt, ctt, oct, ant, odt, slt, mT, kT_, lT, cT, bT⟩ := Z.told
  refine gn_ofL lk hcd scIr (fun vs H Q E h => ?_) (fun A0 outer s H vs Q hG hr h => ?_)
  · obtain ⟨v, rfl, _⟩ := h
    rfl
  obtain ⟨v, rfl, vok, hT, q⟩ := h
  have r3 : Room 3 _ := hr.mono (by decide)
  have r2 : Room 2 _ := hr.mono (by decide)
  have hu := hu_of hr
  refine' ⟨_, pss_cons (ps_asg ?lam (pg_tup rfl (pgs_cons (pg_name (i := 1) scIr.nd rfl (Or.inl rfl)) (pgs_cons (pg_name (i := 2) scIr.nd rfl (Or.inr rfl)) pgs_nil))))
    (pss_cons (ps_set (i := 3) scIr.nd rfl (Or.inl rfl) (pe_call GW r3 rfl mW kW bW .nil pass0 (pa_cons (pv 0) pa_nil)))
    (pss_cons (ps_if (pt_cmp (pc_notN (pv 3))) (pss_one (ps_ret (pe_and (pe_callB (call_isErrQ Z.dsc) rfl T.isinstance (by decide +kernel) (pa_cons (pv 1) (pa_cons (pe_glob (v := .ref CB) rfl Z.eb.ec.mg rfl) pa_nil))) (pe_one (pe_cmpR op_eq (pe_callB (call_reprB hG hr.units) rfl T.repr (by decide +kernel) (pa_cons (pe_errq (pv 1)) pa_nil)) (pe_callB (call_reprB hG hr.units) rfl T.repr (by decide +kernel) (pa_cons (pv 3) pa_nil)) (nomark _)))))) pss_nil)
    (pss_cons ?lines (pss_cons ?heads (pss_cons ?if2 (pss_cons ?words (pss_one ?res))))))), ?main⟩
  case lam =>
    exact pe_lam2 (T := tTab P1) (TT := TTk K B) (t := fun E => tMake C (spDInit K C CB) [] E (tCons (tVar 0) tNil)) (k := 5) (Ng := nT) (P := P1) rfl mT kT_ lT cT bT scTold rfl (Or.inl rfl) (told_gives Z.box) TB rfl List.mem_cons_self (fun q hq hp => by
        rw [List.mem_singleton.mp hq] <;> rfl) hr (lamS_by (by show lamSB (defScope sIsRead) _ = true; decide +kernel)) (by rfl) (fun _ _ _ _ _ => rfl)
      (fun A outer s H E f c' hr5 => pe_make MI GI hr5 rfl Z.dev.mg bI .nil (passes_call (takes_of (E := E) rfl rfl rfl rfl) (fun _ _ _ _ h => h)) (pa_cons (pv 0) pa_nil))
  case lines =>
    exact ps_setLc (i := 4) (te := tSl (rSlL K) (tM1 (fun x xs H Q => ∃ a b, x = .str a ∧ xs = [.str b] ∧ (b.length == 0) = false ∧ a.length + 2 ≤ sizeLine ∧ rNewStrs (Txt.split a b) H Q) (tVar 7) (tC (.str " "))) (tPart (tC (.int 1))) tNoPart) (tt := tYes) (own := [("_law_line", 7)]) (g := gName 7) rfl scIr.nd rfl rfl (sw_true rfl rfl rfl (by decide +kernel)) (pi_list (pe_slice sl_list (pe_split (pv 0) pe_str) po_none (po_some pe_int)))
      (blkOk_by (own := [("_law_line", 7)]) (N := nIr) (sc := defScope sIsRead) (by decide +kernel)) (fun _ _ _ _ _ => pg_name (i := 7) scIr.nd rfl (Or.inl rfl)) (fun _ _ _ _ _ => pts_nil)
      (fun _ _ _ _ _ => by exact pe_slice sl_list (pe_split (pv 7) pe_str) (po_some pe_int) po_none)
  case heads =>
    exact ps_set (i := 5) scIr.nd rfl (Or.inr rfl) (pe_tup (pa_cons (pe_callTy call_tuple_of rfl T.tuple (by decide +kernel) (pa_cons (pe_ix ix_list (pv 4) pe_int (fun _ _ => rfl)) pa_nil)) (pa_cons (pe_callTy call_tuple_of rfl T.tuple (by decide +kernel) (pa_cons (pe_ix ix_list (pv 4) pe_int (fun _ _ => rfl)) pa_nil)) (pa_cons (pe_callTy call_tuple_of rfl T.tuple (by decide +kernel) (pa_cons (pe_ix ix_list (pv 4) pe_int (fun _ _ => rfl)) pa_nil)) pa_nil))))
  case if2 =>
    exact ps_if (PW.pt (pw_or (pt_cmp (pc_notN (pv 1))) (pw_or1 (pt_cmpR op_ne (pe_callB (call_reprB hG hr.units) rfl T.repr (by decide +kernel) (pa_cons (pe_tup (pa_cons (pe_fld (pv 2) rfl) (pa_cons (pe_fld (pv 2) rfl) (pa_cons (pe_fld (pv 2) rfl) (pa_cons (pe_fld (pv 2) rfl) pa_nil))))) pa_nil))
      (pe_callB (call_reprB hG hr.units) rfl T.repr (by decide +kernel) (pa_cons (pe_op op_catT (pe_tup (pa_cons (pv 0) pa_nil)) (pv 5)) pa_nil)) (nomark _))))) (pss_one (ps_ret pe_bl)) pss_nil
  case words =>
    exact ps_set (i := 6) scIr.nd rfl (Or.inl rfl) (pe_op op_cat (pe_callTy call_list_of rfl T.list (by decide +kernel) (pa_cons (pe_ix ix_tup (pv 5) pe_int (fun _ _ => rfl)) pa_nil)) (pe_lst (pa_cons pe_str (pa_cons pe_str (pa_cons pe_non (pa_cons pe_int (pa_cons (pe_ix ix_tup (pv 5) pe_int (fun _ _ => rfl)) pa_nil)))))))
  case res =>
    exact ps_ret (pe_and (pe_cmpR op_eq (pe_callB (call_ownLen fN nN GN bN r2) rfl T.len PySem.boot_len (pa_cons (pv 2) pa_nil)) (pe_callB call_len_seq rfl T.len PySem.boot_len (pa_cons (pe_ix ix_tup (pv 5) pe_int (fun _ _ => rfl)) pa_nil)) (nomark _))
      (pe_one (pe_cmpR (op_eqD hr.units)
        (pe_lc (te := tOp (rOwnIn C (spHas K C) false) (tVar 8) (tVar 2)) (own := [("_law_word", 8)]) (g := gName 8) (tt := tYes) rfl scIr.nd (pi_list (pv 6)) (blkOk_by (own := [("_law_word", 8)]) (N := nIr) (sc := defScope sIsRead) (by decide +kernel)) (fun _ _ _ _ _ => pg_name (i := 8) scIr.nd rfl (Or.inl rfl)) (fun _ _ _ _ _ => pts_nil)
          (fun _ _ _ _ _ => by exact pe_cmpR (op_ownIn fH nH GH bH r2) (pv 8) (pv 2) (by rfl)))
        (pe_lc (te := tOp (rInTD K) (tVar 8) (tOp (rIxT K) (tVar 5) (tC (.int 2)))) (own := [("_law_word", 8)]) (g := gName 8) (tt := tYes) rfl scIr.nd (pi_list (pv 6)) (blkOk_by (own := [("_law_word", 8)]) (N := nIr) (sc := defScope sIsRead) (by decide +kernel)) (fun _ _ _ _ _ => pg_name (i := 8) scIr.nd rfl (Or.inl rfl)) (fun _ _ _ _ _ => pts_nil)
          (fun _ _ _ _ _ => by exact pe_cmpR (op_inTD (hu65 hr)) (pv 8) (pe_ix ix_tup (pv 5) pe_int (fun _ _ => rfl)) (by rfl))) (by rfl))))
  case main =>
    refine told_watch (K := K) (B := B) (C := C) (v := v) Z.eb hT (fun G E R eG rb ro => ?run) (fun n cv p G hn eG tG cG hp => ?bad) (fun X W x p G hv hp eG tG dG hpt => ?good)
    case run =>
      have so := vok.or eG
      have short : ∀ X, v = .str X → X.length ≤ 3900 := fun X e => by
        rw [e] at vok
        exact vok.text.1
      refine ⟨_, rfl, fun x dx nx ndx nex => ⟨x, dx, v, rfl, upd_same, ?_, short, fun T' D e hp G' but dev => ⟨rfl, ?_⟩, fun n hn d G' but nd hd => ?_⟩⟩
      · exact vok.or (eG.trans (ExtN.of ((same_new ndx _).trans (same_new (by rw [upd_ne (Ne.symm nex)]; exact nx) _))))
      · exact ro T' D x G' e hp (made nx ndx but) dev
      · refine rb n hn d G' (made nx ndx but) ?_ hd
        cases hg : G d with
        | none => rfl
        | some o =>
          by_cases e1 : d = x
          · rw [e1, nx] at hg
            cases hg
          · by_cases e2 : d = dx
            · rw [e2, ndx] at hg
              cases hg
            · rw [upd_ne e1, upd_ne e2, hg] at nd
              cases nd
    case bad =>
      have nl := bad_small vok hn
      refine ⟨p, _, rfl, .inl (.inl hp), rfl, _, _, rfl, _, _, rfl, rfl, ?_⟩
      refine ⟨_, rfl, v, rfl, ?_⟩
      have wb := wrong_bad vok eG hn
      obtain ⟨f1, f2, f3⟩ := int_fits (i := ((n : Nat) : Int)) (by omega)
      rcases wb with ⟨X, rfl, hl, ew⟩ | ⟨ty, rfl⟩
      case' inl =>
        refine .inl ⟨X, rfl, hl, fun G2 s2 => ?_⟩
        rw [ew]
      case' inr =>
        refine .inr ⟨ty, fun G2 s2 => ?_⟩
      all_goals
        have c2 := cG.ext (ExtN.of s2)
        obtain ⟨a, d, rfl, er⟩ := c2
        refine ⟨_, rfl, _, rfl, iteC rfl ?_⟩
        refine ⟨_, rfl, a, CB, d, _, _, _, true, rfl, .own CB, Z.eb.ec.er, er, kit_self, _, rfl, iteT ⟨_, rfl, a, CB, d, _, _, rfl, Z.eb.ec.er, Z.eb.ec.no, er, vf_get _, _, .int _, rfl, .flat (.int _), f1, f2, f3, _, rfl, _, .int _, rfl, .flat (.int _), f1, f2, f3, rfl, ?_⟩⟩
        have e : ∀ a b : V, a = b → Q (.bl (decide (a = b))) G2 := fun a b h => by
          rw [decide_eq_true h]
          exact q G2 (tG.ext s2) (eG.trans (ExtN.of s2))
        exact e _ _ rfl
    case good =>
      subst hv
      have hX : TOk 3900 X := ⟨vok.text.1, vok.text.2 (parse_long hp)⟩
      refine ⟨p, _, rfl, .inl (.inl hpt), rfl, _, _, rfl, _, _, rfl, rfl, ?_⟩
      refine ⟨_, rfl, .str X, rfl, .inl ⟨X, rfl, hX.len, fun G1 s1 => ?_⟩⟩
      have ew : wrongV X = .non := by
        unfold wrongV
        rw [hp]
      rw [ew]
      have d1 := dG.same s1
      have t1 := tG.ext s1
      have e1 := eG.trans (ExtN.of s1)
      clear dG tG eG s1 hpt
      refine ⟨_, rfl, _, rfl, iteN rfl ?_⟩
      obtain ⟨l0, l1, l2, r, hL, c0, a0, m0, okC, okA, okS⟩ := parse_inr hp
      refine ⟨_, rfl, ⟨_, rfl⟩, X, nl1, rfl, rfl, rfl, by rw [sizeLine_eq]; have := hX.len; omega, fun p1 np1 => ?_⟩
      rw [hL]
      have u1 := same_new np1 (.lst ((l0 :: l1 :: l2 :: r).map V.str))
      have hp1 : (upd G1 p1 (.lst ((l0 :: l1 :: l2 :: r).map V.str))) p1 = some (.lst ((l0 :: l1 :: l2 :: r).map V.str)) := upd_same
      show _
      generalize upd G1 p1 (.lst ((l0 :: l1 :: l2 :: r).map V.str)) = G2 at u1 hp1 ⊢
      refine ⟨3, rfl, p1, _, rfl, SqL.of hp1, fun p2 np2 => ?_⟩
      have ec : cutV ((l0 :: l1 :: l2 :: r).map V.str) none (some 3) = ([l0, l1, l2] : List Str).map V.str := by
        rw [show (3 : Int) = ((3 : Nat) : Int) from rfl, cut_upto]
        rfl
      rw [ec]
      have u2 := same_new np2 (.lst (([l0, l1, l2] : List Str).map V.str))
      have hp2 : (upd G2 p2 (.lst (([l0, l1, l2] : List Str).map V.str))) p2 = some (.lst (([l0, l1, l2] : List Str).map V.str)) := upd_same
      show _
      generalize upd G2 p2 (.lst (([l0, l1, l2] : List Str).map V.str)) = G3 at u2 hp2 ⊢
      have u12 := u1.trans u2
      have tx := split_ok hX nl1_ne nl1_k nl1_1
      rw [hL] at tx
      have tok : ∀ t ∈ ([l0, l1, l2] : List Str), t.length ≤ 3900 := fun t ht => (tx t (by
        simp only [List.mem_cons, List.not_mem_nil, or_false] at ht ⊢
        rcases ht with rfl | rfl | rfl <;> simp)).len
      clear tx hL ec
      refine ⟨p2, rfl, ⟨_, SqL.of hp2⟩, fun D nD => ?_⟩
      refine lc_it walk_list (D := D) (g := gName 7) (tt := tYes) (vs := [7]) (fun j G => Same G3 G ∧ ∃ rs, G D = some (.lst (rs.map V.ref)) ∧ rs.length = j ∧ ∀ k r, rs[k]? = some r → r ≠ D ∧ ∃ l, ([l0, l1, l2] : List Str)[k]? = some l ∧ G r = some (.lst ((Txt.split l sp1).tail.map V.str)))
        ⟨same_new nD _, ([] : List Addr), upd_same, rfl, fun k r h => (by rw [List.getElem?_nil] at h; cases h)⟩ (fun j G _ h => SqL.of (h.1 _ _ hp2)) ?_ ?_
      · rintro j y G G' hj ⟨sG, rs, hD, lr, hrs⟩ ⟨rfl, hy⟩
        have hj3 : j < 3 := hj
        have hjl : j < ([l0, l1, l2] : List Str).length := hj3
        rw [List.getElem?_map, List.getElem?_eq_getElem hjl] at hy
        have ey : y = .str ([l0, l1, l2] : List Str)[j] := (Option.some.inj hy).symm
        subst ey
        have tl := tok _ (List.getElem_mem hjl)
        have hl := List.getElem?_eq_getElem hjl
        generalize ([l0, l1, l2] : List Str)[j] = l at tl hl ⊢
        refine ⟨rfl, _, rfl, ⟨_, rfl⟩, l, sp1, rfl, rfl, rfl, by rw [sizeLine_eq]; omega, fun a na => ?_⟩
        have v1 := same_new na (.lst ((Txt.split l sp1).map V.str))
        have ha : (upd G' a (.lst ((Txt.split l sp1).map V.str))) a = some (.lst ((Txt.split l sp1).map V.str)) := upd_same
        show _
        generalize upd G' a (.lst ((Txt.split l sp1).map V.str)) = G4 at v1 ha ⊢
        refine ⟨1, rfl, a, _, rfl, SqL.of ha, fun b nb => ?_⟩
        rw [cut_tail]
        have v2 := same_new nb (.lst ((Txt.split l sp1).tail.map V.str))
        have hb : (upd G4 b (.lst ((Txt.split l sp1).tail.map V.str))) b = some (.lst ((Txt.split l sp1).tail.map V.str)) := upd_same
        show _
        generalize upd G4 b (.lst ((Txt.split l sp1).tail.map V.str)) = G5 at v2 hb ⊢
        have v12 := v1.trans v2
        have nbD : b ≠ D := fun z => by rw [z, v1 _ _ hD] at nb; cases nb
        refine ⟨_, v12 _ _ hD, by rw [List.length_map, sizeLine_eq]; omega, fun c o hc => ?_, rs ++ [b], ?_, by rw [List.length_append, lr]; rfl, fun k r hk => ?_⟩
        · rw [upd_ne (ne_of_none hc nD)]
          exact v12 _ _ (sG _ _ hc)
        · rw [upd_same, List.map_append]
          rfl
        · rcases Nat.lt_or_ge k rs.length with h | h
          · rw [List.getElem?_append_left h] at hk
            obtain ⟨h1, l', h2, h3⟩ := hrs k r hk
            exact ⟨h1, l', h2, by rw [upd_ne h1]; exact v12 _ _ h3⟩
          · rw [List.getElem?_append_right h] at hk
            have ek : k - rs.length = 0 := by
              rcases Nat.eq_zero_or_pos (k - rs.length) with h | h
              · exact h
              · rw [List.getElem?_eq_none (by show 1 ≤ _; omega)] at hk
                cases hk
            rw [ek] at hk
            cases hk
            have ek2 : k = j := by omega
            subst ek2
            exact ⟨nbD, l, hl, by rw [upd_ne nbD]; exact hb⟩
      · rintro G4 ⟨sG, rs, hD, lr, hrs⟩
        obtain ⟨ra, rb, rc, rfl⟩ : ∃ a b c, rs = [a, b, c] := by
          match rs, lr with
          | [a, b, c], _ => exact ⟨a, b, c, rfl⟩
        obtain ⟨_, _, ea, ha⟩ := hrs 0 ra rfl
        obtain ⟨_, _, eb, hb⟩ := hrs 1 rb rfl
        obtain ⟨_, _, ec, hc⟩ := hrs 2 rc rfl
        cases ea
        cases eb
        cases ec
        rw [c0] at ha
        rw [a0] at hb
        rw [m0] at hc
        have u4 := u12.trans sG
        have hD : G4 D = some (.lst [.ref ra, .ref rb, .ref rc]) := hD
        clear hrs lr tok hp1 hp2 u1 u2 np1 np2 nD u12 sG c0 a0 m0
        have d4 := d1.same u4
        have t4 := t1.ext u4
        have e4 := e1.trans (ExtN.of u4)
        clear d1 t1 e1 u4
        have at0 : atI [V.ref ra, .ref rb, .ref rc] 0 = some (.ref ra) := rfl
        have at1 : atI [V.ref ra, .ref rb, .ref rc] 1 = some (.ref rb) := rfl
        have at2 : atI [V.ref ra, .ref rb, .ref rc] 2 = some (.ref rc) := rfl
        refine ⟨_, rfl, D, _, _, _, rfl, rfl, SqL.of hD, at0, ra, _, rfl, .inl ⟨SqL.of ha, fun z0 nz0 => ?_⟩⟩
        have v1 := same_new nz0 (.tup (W.calls.map V.str))
        have hz0 : (upd G4 z0 (.tup (W.calls.map V.str))) z0 = some (.tup (W.calls.map V.str)) := upd_same
        show _
        generalize upd G4 z0 (.tup (W.calls.map V.str)) = G5 at v1 hz0 ⊢
        refine ⟨_, rfl, D, _, _, _, rfl, rfl, SqL.of (v1 _ _ hD), at1, rb, _, rfl, .inl ⟨SqL.of (v1 _ _ hb), fun z1 nz1 => ?_⟩⟩
        have v2 := same_new nz1 (.tup (W.answers.map V.str))
        have hz1 : (upd G5 z1 (.tup (W.answers.map V.str))) z1 = some (.tup (W.answers.map V.str)) := upd_same
        show _
        generalize upd G5 z1 (.tup (W.answers.map V.str)) = G6 at v2 hz1 ⊢
        have v12 := v1.trans v2
        refine ⟨_, rfl, D, _, _, _, rfl, rfl, SqL.of (v12 _ _ hD), at2, rc, _, rfl, .inl ⟨SqL.of (v12 _ _ hc), fun z2 nz2 => ⟨(by show 3 ≤ sizeLine; decide), fun hd nhd => ?_⟩⟩⟩
        have v3 := same_new nz2 (.tup (W.marks.map V.str))
        have hz2 : (upd G6 z2 (.tup (W.marks.map V.str))) z2 = some (.tup (W.marks.map V.str)) := upd_same
        show _
        generalize upd G6 z2 (.tup (W.marks.map V.str)) = G7 at v3 hz2 nhd ⊢
        have v4 := same_new nhd (.tup [.ref z0, .ref z1, .ref z2])
        have hhd : (upd G7 hd (.tup [.ref z0, .ref z1, .ref z2])) hd = some (.tup [.ref z0, .ref z1, .ref z2]) := upd_same
        have hz0 := ((v2.trans v3).trans v4) _ _ hz0
        have hz1 := (v3.trans v4) _ _ hz1
        have hz2 := v4 _ _ hz2
        have v14 := (v12.trans v3).trans v4
        show _
        generalize upd G7 hd (.tup [.ref z0, .ref z1, .ref z2]) = G8 at v4 hhd hz0 hz1 hz2 v14 ⊢
        have d8 := d4.same v14
        have t8 := t4.ext v14
        have e8 := e4.trans (ExtN.of v14)
        clear d4 t4 e4 v14 v12 v4 v3 v2 v1 hD ha hb hc at0 at1 at2 nz0 nz1 nz2 nhd
        obtain ⟨dx, cc, aa, ss, gg, hx, hcc, haa, hss, hgg⟩ := id d8
        refine ⟨_, rfl, _, rfl, iteN rfl ?_⟩
        refine ⟨_, rfl, x, C, dx, _, _, rfl, hx, Z.dev.cl, Z.dev.nt, rfl, _, rfl, x, C, dx, _, _, rfl, hx, Z.dev.cl, Z.dev.nc, rfl, _, rfl, x, C, dx, _, _, rfl, hx, Z.dev.cl, Z.dev.na, rfl, _, rfl, x, C, dx, _, _, rfl, hx, Z.dev.cl, Z.dev.ns, rfl, (by show 4 ≤ sizeLine; decide), fun tt ntt => ?_⟩
        have v1 := same_new ntt (.tup [.str X, .ref cc, .ref aa, .ref ss])
        have htt : (upd G8 tt (.tup [.str X, .ref cc, .ref aa, .ref ss])) tt = some (.tup [.str X, .ref cc, .ref aa, .ref ss]) := upd_same
        show _
        generalize upd G8 tt (.tup [.str X, .ref cc, .ref aa, .ref ss]) = G9 at v1 htt ⊢
        obtain ⟨f1, f2, f3⟩ := told_fits hX.len hX.asc okC okA okS
        have tw := fun (G : Hp) (t c a s : Addr) ht hc ha hs => told_w (K := K) (H := G) (t := t) (c := c) (a := a) (s := s) (T := X) (C := W.calls) (A := W.answers) (S := W.marks) ht hc ha hs
        generalize toldW X W.calls W.answers W.marks = dd at f1 f2 f3 tw
        refine ⟨_, _, rfl, tw _ _ _ _ _ (.inl (.inl htt)) (same_tup v1 hcc) (same_tup v1 haa) (same_tup v1 hss), f1, f2, f3, ?_⟩
        refine ⟨_, rfl, (by show 1 ≤ sizeLine; decide), fun t1 nt1 => ?_⟩
        have v2 := same_new nt1 (.tup [.str X])
        have ht1 : (upd G9 t1 (.tup [.str X])) t1 = some (.tup [.str X]) := upd_same
        show _
        generalize upd G9 t1 (.tup [.str X]) = G10 at v2 ht1 ⊢
        have v12 := v1.trans v2
        refine ⟨_, rfl, t1, hd, _, _, rfl, rfl, .inl (.inl ht1), .inl (.inl (v12 _ _ hhd)), by simp, (by show 4 ≤ sizeLine; decide), fun z => by simp at z, fun _ t2 nt2 => ?_⟩
        have v3 := same_new nt2 (.tup [.str X, .ref z0, .ref z1, .ref z2])
        have ht2 : (upd G10 t2 (.tup [.str X, .ref z0, .ref z1, .ref z2])) t2 = some (.tup [.str X, .ref z0, .ref z1, .ref z2]) := upd_same
        show _
        have v13 := v12.trans v3
        have eu : upd G10 t2 (.tup ([V.str X] ++ [.ref z0, .ref z1, .ref z2])) = upd G10 t2 (.tup [.str X, .ref z0, .ref z1, .ref z2]) := rfl
        rw [eu]
        generalize upd G10 t2 (.tup [.str X, .ref z0, .ref z1, .ref z2]) = G11 at v13 ht2 ⊢
        clear v3 eu
        refine ⟨_, _, rfl, tw _ _ _ _ _ (.inl (.inl ht2)) (.inl (.inl (v13 _ _ hz0))) (.inl (.inl (v13 _ _ hz1))) (.inl (.inl (v13 _ _ hz2))), f1, f2, f3, rfl, _, rfl, iteN ne_self ?_⟩
        have d11 := d8.same v13
        have hhd := v13 _ _ hhd
        have hz2 := v13 _ _ hz2
        have t11 := t8.ext v13
        have e11 := e8.trans (ExtN.of v13)
        clear d8 t8 e8 v13 v12 v2 v1 ht2 ht1 htt hx hcc haa hss hgg nt1 nt2 ntt f1 f2 f3 hz0 hz1
        obtain ⟨dx, cc, aa, ss, gg, hx, _⟩ := id d11
        have at2 : atI [V.ref z0, .ref z1, .ref z2] 2 = some (.ref z2) := rfl
        refine ⟨_, rfl, hd, _, _, _, rfl, rfl, .inl (.inl hhd), at2, z2, _, rfl, .inr (.inl (.inl hz2)), fun la nla => ?_⟩
        have v1 := same_new nla (.lst (W.marks.map V.str))
        have hla : (upd G11 la (.lst (W.marks.map V.str))) la = some (.lst (W.marks.map V.str)) := upd_same
        show _
        generalize upd G11 la (.lst (W.marks.map V.str)) = G12 at v1 hla ⊢
        refine ⟨_, rfl, hd, _, _, _, rfl, rfl, .inl (.inl (v1 _ _ hhd)), at2, (by show 5 ≤ sizeLine; decide), fun lb nlb => ?_⟩
        have v2 := same_new nlb (.lst [.str BRK, .str "", .non, .int 0, .ref z2])
        have hlb : (upd G12 lb (.lst [.str BRK, .str "", .non, .int 0, .ref z2])) lb = some (.lst [.str BRK, .str "", .non, .int 0, .ref z2]) := upd_same
        show _
        have eu : upd G12 lb (.lst [.str "broken", .str "", .non, .int 0, .ref z2]) = upd G12 lb (.lst [.str BRK, .str "", .non, .int 0, .ref z2]) := rfl
        rw [eu]
        generalize upd G12 lb (.lst [.str BRK, .str "", .non, .int 0, .ref z2]) = G13 at v2 hlb ⊢
        clear eu
        have lS := okS.len
        refine ⟨la, lb, _, _, rfl, rfl, v2 _ _ hla, hlb, by rw [List.length_map, sizeLine_eq]; show _ + 5 ≤ _; omega, fun lw nlw => ?_⟩
        have v3 := same_new nlw (.lst (wordsW W.marks z2))
        have hlw : (upd G13 lw (.lst (wordsW W.marks z2))) lw = some (.lst (wordsW W.marks z2)) := upd_same
        have eu : upd G13 lw (.lst (W.marks.map V.str ++ [.str BRK, .str "", .non, .int 0, .ref z2])) = upd G13 lw (.lst (wordsW W.marks z2)) := rfl
        rw [eu]
        show _
        generalize upd G13 lw (.lst (wordsW W.marks z2)) = G14 at v3 hlw ⊢
        clear eu
        have v13 := (v1.trans v2).trans v3
        have d14 := d11.same v13
        have hx := v13 _ _ hx
        have hhd := v13 _ _ hhd
        have hz2 := v13 _ _ hz2
        have t14 := t11.ext v13
        have e14 := e11.trans (ExtN.of v13)
        clear d11 t11 e11 v13 v3 v2 v1 hla hlb nla nlb nlw
        have wn := words_len W.marks z2
        have wa := fun {G : Hp} {i : Nat} {v : V} (hs : SqT K G z2 (W.marks.map V.str)) => words_at (G := G) (i := i) (v := v) hs okS (kit_nostr "NoneType" (by simp [tyNames]) (by simp)) (kit_nostr "int" (by simp [tyNames]) (by simp)) (kit_nostr "tuple" (by simp [tyNames]) (by simp))
        refine ⟨_, rfl, x, dx, _, rfl, hx, x, X, W, rfl, d14, _, rfl, by omega, _, rfl, hd, _, _, _, rfl, rfl, .inl (.inl hhd), at2, z2, _, rfl, .inr (.inl (.inl hz2)), rfl, _, rfl, iteC (decide_eq_true (by rw [List.length_map])) ?_⟩
        refine ⟨_, rfl, lw, rfl, ⟨_, SqL.of hlw⟩, fun D1 nD1 => ?_⟩
        generalize hbs : (List.range (W.marks.length + 5)).map (fun i => bitW W.marks ((wordsD W.marks).getD i .none)) = bs
        have bsl : bs.map V.bl = (List.range (W.marks.length + 5)).map fun i => V.bl (bitW W.marks ((wordsD W.marks).getD i .none)) := by rw [← hbs, List.map_map]; rfl
        refine lc_all walk_list nD1 (fun i => V.bl (bitW W.marks ((wordsD W.marks).getD i .none))) (by rw [wn, sizeLine_eq]; omega) (fun G sG => SqL.of (sG _ _ hlw)) ?_ ?_
        · rintro i y G G' Kt hi sG ⟨rfl, hy⟩ hK
          obtain ⟨d, hd1, dp, sh, so, eb⟩ := wa (.inl (.inl (sG _ _ hz2))) hy
          have hK := hK _ (Same.refl _)
          rw [List.getD_eq_getElem?_getD, hd1] at hK
          refine ⟨rfl, _, rfl, _, rfl, x, dx, _, rfl, sG _ _ hx, x, y, X, W, rfl, d14.same sG, so, _, rfl, ?_⟩
          rw [eb]
          exact hK
        · intro G15 s15 hD1
          rw [wn, ← bsl] at hD1
          refine ⟨_, rfl, lw, rfl, ⟨_, SqL.of (s15 _ _ hlw)⟩, fun D2 nD2 => ?_⟩
          refine lc_all walk_list nD2 (fun i => V.bl (bitW W.marks ((wordsD W.marks).getD i .none))) (by rw [wn, sizeLine_eq]; omega) (fun G sG => SqL.of ((s15.trans sG) _ _ hlw)) ?_ ?_
          · rintro i y G G' Kt hi sG ⟨rfl, hy⟩ hK
            have s2 := s15.trans sG
            obtain ⟨d, hd1, dp, sh, so, eb⟩ := wa (.inl (.inl (s2 _ _ hz2))) hy
            have hK := hK _ (Same.refl _)
            rw [List.getD_eq_getElem?_getD, hd1] at hK
            exact ⟨rfl, _, rfl, _, rfl, hd, _, _, _, rfl, rfl, .inl (.inl (s2 _ _ hhd)), at2, d, _, dp, .tup (.inl (.inl (s2 _ _ hz2))) (strs_dp _), sh, names_shaped okS, hK⟩
          · intro G16 s16 hD2
            rw [wn, ← bsl] at hD2
            have sh := bits_shaped bs
            have er := PySem.SeqAt.eqv_refl _ (SeqAt.canLay_of_shaped sh)
            generalize hdd : PyData.list (bs.map PyData.bool) = dd at sh er
            refine ⟨dd, dd, by rw [← hdd]; exact .lst (SqL.of (s16 _ _ hD1)) (bits_dp bs), by rw [← hdd]; exact .lst (SqL.of hD2) (bits_dp bs), sh, sh, ?_⟩
            rw [er]
            exact q G16 (t14.ext (s15.trans s16)) (e14.trans (ExtN.of (s15.trans s16)))
end
end K55
set_option Elab.async false
set_option linter.all false
set_option maxRecDepth 100000
set_option maxHeartbeats 2000000
/-! A drawn watch, as data. -/
namespace LG
open PySem L2
def poolM : List Str := ["m", "n", "idle", "on", "s0", "zz"]
theorem poolM_nd : poolM.Nodup := by decide +kernel
theorem poolM_w : ∀ x ∈ poolM, isNameB x = true := by
  have h : poolM.all isNameB = true := by decide +kernel
  exact List.all_eq_true.mp h
theorem poolM_nb : BRK ∉ poolM := by decide +kernel
/-- what the steps of a watch are like -/
def ValS (C A M : List Str) (g : Steps) : Prop := ∀ e ∈ g, e.1.1 ∈ M ∧ e.1.2.1 ∈ C ∧ e.1.2.2 ∈ A ∧ e.2 ∈ M ++ [BRK]
def putS (g : Steps) (k : Str × Str × Str) (x : Str) : Steps := if k ∈ g.map (·.1) then g.map fun e => if e.1 = k then (k, x) else e else g ++ [(k, x)]
theorem kvW_put (g : Steps) (k : Str × Str × Str) (x : Str) : putK (kvW g) (kT3 k) (.str x) = kvW (putS g k x) := by
  unfold putS
  by_cases h : k ∈ g.map (·.1)
  · rw [if_pos h]
    have any : ((kvW g).any fun kv => decide (kv.1 = kT3 k)) = true := by
      rw [List.any_eq_true]
      obtain ⟨e, he, e1⟩ := List.mem_map.mp h
      exact ⟨(kT3 e.1, .str e.2), List.mem_map.mpr ⟨e, he, rfl⟩, decide_eq_true (by rw [← e1])⟩
    unfold putK
    rw [if_pos any]
    unfold kvW
    rw [List.map_map, List.map_map]
    refine List.map_congr_left fun e _ => ?_
    show (if kT3 e.1 = kT3 k then (kT3 e.1, V.str x) else (kT3 e.1, V.str e.2)) = (kT3 (if e.1 = k then (k, x) else e).1, V.str (if e.1 = k then (k, x) else e).2)
    by_cases c : e.1 = k
    · rw [if_pos (kT3_inj.mpr c), if_pos c, c]
    · rw [if_neg (fun z => c (kT3_inj.mp z)), if_neg c]
  · rw [if_neg h, kvW_app]
    refine putK_new _ ?_
    rw [kvW_val]
    have : g.lookup k = none := by
      clear x
      induction g with
      | nil => rfl
      | cons e r ih =>
        obtain ⟨j, y⟩ := e
        have ne : ¬ k = j := fun z => h (by rw [z]; exact List.mem_cons_self)
        have nb : (k == j) = false := by simpa using ne
        have l : List.lookup k ((j, y) :: r) = List.lookup k r := by simp [List.lookup, nb]
        rw [l]
        exact ih fun z => h (List.mem_cons_of_mem _ z)
    rw [this]
    rfl
theorem putS_mem {g : Steps} {k : Str × Str × Str} {x : Str} : ∀ e ∈ putS g k x, e ∈ g ∨ e = (k, x) := by
  intro e he
  unfold putS at he
  by_cases h : k ∈ g.map (·.1)
  · rw [if_pos h] at he
    obtain ⟨f, hf, rfl⟩ := List.mem_map.mp he
    by_cases c : f.1 = k
    · rw [if_pos c]
      exact .inr rfl
    · rw [if_neg c]
      exact .inl hf
  · rw [if_neg h] at he
    rcases List.mem_append.mp he with he | he
    · exact .inl he
    · exact .inr (List.mem_singleton.mp he)
theorem putS_keys {g : Steps} {k : Str × Str × Str} {x : Str} (h : k ∈ g.map (·.1)) : (putS g k x).map (·.1) = g.map (·.1) := by
  unfold putS
  rw [if_pos h, List.map_map]
  refine List.map_congr_left fun e _ => ?_
  show (if e.1 = k then (k, x) else e).1 = e.1
  by_cases c : e.1 = k
  · rw [if_pos c, c]
  · rw [if_neg c]
theorem putS_nd {g : Steps} {k : Str × Str × Str} {x : Str} (h : (g.map (·.1)).Nodup) : ((putS g k x).map (·.1)).Nodup := by
  by_cases c : k ∈ g.map (·.1)
  · rw [putS_keys c]
    exact h
  · unfold putS
    rw [if_neg c, List.map_append, List.nodup_append]
    refine ⟨h, by simp, fun a ha b hb z => ?_⟩
    have hb : b = k := List.mem_singleton.mp hb
    rw [z, hb] at ha
    exact c ha
theorem putS_len {g : Steps} {k : Str × Str × Str} {x : Str} : (putS g k x).length ≤ g.length + 1 := by
  unfold putS
  by_cases c : k ∈ g.map (·.1)
  · rw [if_pos c, List.length_map]
    omega
  · rw [if_neg c, List.length_append]
    exact Nat.le_refl _
theorem putS_len2 {g : Steps} {k : Str × Str × Str} {x : Str} (h : k ∈ g.map (·.1)) : (putS g k x).length = g.length := by
  unfold putS
  rw [if_pos h, List.length_map]
theorem ValS.put {C A M : List Str} {g : Steps} {k : Str × Str × Str} {x : Str} (h : ValS C A M g) (v : k.1 ∈ M ∧ k.2.1 ∈ C ∧ k.2.2 ∈ A ∧ x ∈ M ++ [BRK]) : ValS C A M (putS g k x) := fun e he => by
  rcases putS_mem e he with he | rfl
  · exact h e he
  · exact v
/-- an own watch, drawn -/
structure DrawnW (W : Wat) : Prop where
  cn : W.calls.Nodup
  an : W.answers.Nodup
  mn : W.marks.Nodup
  c1 : 1 ≤ W.calls.length ∧ W.calls.length ≤ 3
  a1 : 2 ≤ W.answers.length ∧ W.answers.length ≤ 3
  m1 : 1 ≤ W.marks.length ∧ W.marks.length ≤ 4
  cw : ∀ x ∈ W.calls, isNameB x = true
  aw : ∀ x ∈ W.answers, isNameB x = true
  mw : ∀ x ∈ W.marks, isNameB x = true
  nb : BRK ∉ W.marks
  kn : (W.steps.map (·.1)).Nodup
  vals : ValS W.calls W.answers W.marks W.steps
  sl : W.steps.length ≤ 36
abbrev kvO (c a m r : Addr) : List (Key × V) := [(.inr ("calls" : Str), .ref c), (.inr ("answers" : Str), .ref a), (.inr ("marks" : Str), .ref m), (.inr ("steps" : Str), .ref r)]
def WatOwn (H : Hp) (o : Addr) (W : Wat) : Prop := ∃ c a m r, H o = some (.dK (kvO c a m r)) ∧ H c = some (.lst (W.calls.map V.str)) ∧ H a = some (.lst (W.answers.map V.str)) ∧ H m = some (.lst (W.marks.map V.str)) ∧ H r = some (.dT (kvW W.steps))
theorem WatOwn.same {H H' : Hp} {o : Addr} {W : Wat} (e : Same H H') (h : WatOwn H o W) : WatOwn H' o W := by
  obtain ⟨c, a, m, r, h1, h2, h3, h4, h5⟩ := h
  exact ⟨c, a, m, r, e _ _ h1, e _ _ h2, e _ _ h3, e _ _ h4, e _ _ h5⟩
/-- while the steps of a watch are drawn -/
structure WJ (p rr ms : Addr) (H G : Hp) (b : Nat) (C A M : List Str) (g : Steps) (n : Nat) : Prop where
  but : But p H G
  pot : PotAt G p (b + 2 * n)
  fm : G ms = some (.lst (M.map V.str))
  fr : G rr = some (.dT (kvW g))
  ok : ValS C A M g
  nd : (g.map (·.1)).Nodup
  len : g.length ≤ n
theorem WJ.mono {p rr ms : Addr} {H G : Hp} {b : Nat} {C A M : List Str} {g : Steps} {n m : Nat} (h : WJ p rr ms H G b C A M g n) (l : n ≤ m) : WJ p rr ms H G b C A M g m :=
  { h with pot := h.pot.mono (by omega), len := Nat.le_trans h.len l }
theorem WJ.go {p rr ms : Addr} {H G G' : Hp} {b : Nat} {C A M : List Str} {g : Steps} {n m : Nat} (h : WJ p rr ms H G b C A M g n) (nr : rr ≠ p) (nm : ms ≠ p) (e : But p G G') (pt : PotAt G' p (b + 2 * m)) (l : n ≤ m) : WJ p rr ms H G' b C A M g m :=
  ⟨h.but.trans e, pt, e _ _ h.fm nm, e _ _ h.fr nr, h.ok, h.nd, Nat.le_trans h.len l⟩
theorem WJ.put {p rr ms : Addr} {H G G' : Hp} {b : Nat} {C A M : List Str} {g : Steps} {n : Nat} {k : Str × Str × Str} {x : Str} (h : WJ p rr ms H G b C A M g n) (nr : rr ≠ p) (nm : ms ≠ p) (nrm : rr ≠ ms) (nH : H rr = none) (e : But p G G') (pt : PotAt G' p (b + 2 * (n + 1)))
    (v : k.1 ∈ M ∧ k.2.1 ∈ C ∧ k.2.2 ∈ A ∧ x ∈ M ++ [BRK]) : WJ p rr ms H (upd G' rr (.dT (putK (kvW g) (kT3 k) (.str x)))) b C A M (putS g k x) (n + 1) := by
  refine ⟨(h.but.trans e).put nH, ?_, by rw [upd_ne nrm.symm]; exact e _ _ h.fm nm, by rw [upd_same, kvW_put], h.ok.put v, putS_nd h.nd, ?_⟩
  · obtain ⟨own, sm, j, h1, h2⟩ := pt
    exact ⟨own, sm, j, by rw [upd_ne nr.symm]; exact h1, h2⟩
  · have := putS_len (g := g) (k := k) (x := x)
    have := h.len
    omega
theorem WJ.put2 {p rr ms : Addr} {H G G' : Hp} {b : Nat} {C A M : List Str} {g : Steps} {n : Nat} {k : Str × Str × Str} {x : Str} (h : WJ p rr ms H G b C A M g n) (nr : rr ≠ p) (nm : ms ≠ p) (nrm : rr ≠ ms) (nH : H rr = none) (e : Same G G')
    (hk : k ∈ g.map (·.1)) (v : k.1 ∈ M ∧ k.2.1 ∈ C ∧ k.2.2 ∈ A ∧ x ∈ M ++ [BRK]) : WJ p rr ms H (upd G' rr (.dT (putK (kvW g) (kT3 k) (.str x)))) b C A M (putS g k x) n := by
  refine ⟨(h.but.trans (But.of e)).put nH, ?_, by rw [upd_ne nrm.symm]; exact e _ _ h.fm, by rw [upd_same, kvW_put], h.ok.put v, putS_nd h.nd, ?_⟩
  · obtain ⟨own, sm, j, h1, h2⟩ := h.pot.same e
    exact ⟨own, sm, j, by rw [upd_ne nr.symm]; exact h1, h2⟩
  · rw [putS_len2 hk]
    exact h.len
theorem idx_str {ns : List Str} (nd : ns.Nodup) {x : Str} (h : x ∈ ns) : ∃ j, j < ns.length ∧ ns[j]? = some x ∧ ∀ (m : Nat) (z : V), m < j → (ns.map V.str)[m]? = some z → eqV z (.str x) = false := by
  obtain ⟨j, hj⟩ := List.getElem?_of_mem h
  refine ⟨j, (List.getElem?_eq_some_iff.mp hj).1, hj, fun m z hm hz => ?_⟩
  rw [List.getElem?_map] at hz
  cases e : ns[m]? with
  | none => rw [e] at hz; cases hz
  | some y =>
    rw [e] at hz
    cases hz
    show (y == x) = false
    obtain ⟨a1, a2⟩ := List.getElem?_eq_some_iff.mp e
    obtain ⟨b1, b2⟩ := List.getElem?_eq_some_iff.mp hj
    have ne : y ≠ x := fun z => by
      rw [← a2, ← b2] at z
      have := (List.getElem_inj nd).mp z
      omega
    simpa using ne
theorem cutF {p c : Option V → Hp → Steps → Prop} {d : Prop} (k : (∀ x G g, p x G g → c x G g) → d) (h : ∀ x G g, p x G g → c x G g) : d := k h
theorem last_of {M : List Str} (h : 0 < M.length) : ∃ M0 l, M = M0 ++ [l] := by
  have ne : M ≠ [] := List.length_pos_iff.mp h
  exact ⟨M.dropLast, M.getLast ne, (List.dropLast_concat_getLast ne).symm⟩
theorem unlock_same {K : PySem.W.Frag} {r : Addr} {G E : Hp} {u : HO} {o : Obj} (hr : G r = some u) (e : Same (upd G r (.frz o u)) E) : Same G (upd E r u) := fun b v h => by
  by_cases z : b = r
  · rw [z, hr] at h
    rw [z, upd_same, h]
  · rw [upd_ne z]
    exact e _ _ (by rw [upd_ne z]; exact h)
end LG
set_option Elab.async false
set_option linter.all false
set_option maxRecDepth 100000
set_option maxHeartbeats 1600000
/-! A watch is drawn. -/
namespace K55
open PySem L2 LG
section
variable {P : Program} {w : World} {K : PySem.W.Frag} {mg : Str → Option Value} {base : Heap}
def spWatch (K : PySem.W.Frag) : Sp := fun vs H Q _ => ∃ (p o : Addr) (b : Nat) (D : Dev), vs = [.ref p, .ref o] ∧ PotAt H p b ∧ b ≤ 50000 ∧ OwnAt K (mk p H) o D ∧ Drawn D ∧
  ∀ (o2 : Addr) (W : Wat) (H' : Hp), But p H H' → PotAt H' p (b + 100) → DrawnW W → WatOwn (mk p H') o2 W → Q (.ref o2) H'
abbrev nWt : List Str := ["_law_pot_here", "_law_device", "_law_marks", "_law_steps", "_law_wild", "_law_at", "_law_mark", "_law_call", "_law_answer", "_law_mine", "_law_goal", "_law_goals", "_law_key"]
theorem scWt : FnScope nWt ["_law_pot_here", "_law_device"] (defScope sWatch) := ⟨rfl, rfl, rfl, by decide +kernel, rfl, by decide +kernel, by decide +kernel⟩
theorem ok_watch {f g1 g2 g3 : Addr} {fd gd1 gd2 gd3 : FuncData} (F : Fun K "_law_watch" "_law_watch" sWatch f fd) (T : Bltn mg)
    (GT : FnOk P w K mg base CX0 1 g1 gd1 ["_law_pot_here", "_law_upto"] spTake) (mT : mg "_law_take" = some (.ref g1)) (kT_ : PySem.W.keepIn K (.ref g1) = true) (bT : Binds K gd1 ["_law_pot_here", "_law_upto"] [])
    (GO : FnOk P w K mg base CX0 2 g2 gd2 ["_law_pot_here", "_law_some_here"] (spOf K)) (mO : mg "_law_of" = some (.ref g2)) (kO : PySem.W.keepIn K (.ref g2) = true) (bO : Binds K gd2 ["_law_pot_here", "_law_some_here"] [])
    (GS : FnOk P w K mg base CX0 2 g3 gd3 ["_law_pot_here", "_law_pool", "_law_many"] (spSome K)) (mS : mg "_law_some" = some (.ref g3)) (kS : PySem.W.keepIn K (.ref g3) = true) (bS : Binds K gd3 ["_law_pot_here", "_law_pool", "_law_many"] []) :
    FnOk P w K mg base CX0 3 f fd ["_law_pot_here", "_law_device"] (spWatch K) := by
  refine F.ok scWt (fun vs H Q E h => ?_) (fun cdv A0 outer st H vs Q E hr h => ?_)
  · obtain ⟨p, o, b, D, rfl, _⟩ := h
    rfl
  obtain ⟨p, o, b, D, rfl, hp, hb, hO, dr, q⟩ := h
  obtain ⟨c, a, s, r, kvs, h1, h2, h3, h4, h5, h6⟩ := hO.ex
  obtain ⟨npo, h1⟩ := mk_some h1
  obtain ⟨npc, h2⟩ := mk_some h2
  obtain ⟨npa, h3⟩ := mk_some h3
  obtain ⟨nps, h4⟩ := mk_some h4
  obtain ⟨npr, h5⟩ := mk_some h5
  have h6 : GR K H kvs D.goals := h6.same (mk_self p H)
  obtain ⟨c1, c3⟩ := dr.c1
  obtain ⟨a2, a3⟩ := dr.a1
  obtain ⟨s1, s4⟩ := dr.s1
  have dK := fun (x : Str) (G : Hp) (e : G o = some (.dK [(.inr ("calls" : Str), .ref c), (.inr ("answers" : Str), .ref a), (.inr ("states" : Str), .ref s), (.inr ("rows" : Str), .ref r)])) => DGet.k (k := Sum.inr x) e
  have hu := hu_of hr
  have r2 : Room 2 _ := hr.mono (by decide)
  have r1 : Room 1 _ := hr.mono (by decide)
  refine' ⟨_, pss_cons ?marks (pss_cons ?two (pss_cons
      (ps_for PassesOwn.never rfl (pi_enum rfl T.enumerate (pa_cons (pv 2) pa_nil)) (pg_tup rfl (pgs_cons (pg_name (i := 5) scWt.nd rfl (Or.inl rfl)) (pgs_cons (pg_name (i := 6) scWt.nd rfl (Or.inl rfl)) pgs_nil)))
        (pss_one (ps_for PassesOwn.never rfl (pi_list (pe_dget hu (pv 1) pe_str (fun _ _ => rfl))) (pg_name (i := 7) scWt.nd rfl (Or.inl rfl))
          (pss_one (ps_for PassesOwn.never rfl (pi_list (pe_dget hu (pv 1) pe_str (fun _ _ => rfl))) (pg_name (i := 8) scWt.nd rfl (Or.inl rfl))
            (pss_one (ps_if ?test (pss_one (ps_if ?flip (pss_one ?put1) pss_nil)) (pss_cons ?mg (pss_cons ?gl (pss_cons ?gl2 (pss_one ?put2))))))))))) 
    (pss_cons (ps_if ?third (pss_one (ps_for PassesOwn.never rfl (pi_list ?keys) (pg_name (i := 12) scWt.nd rfl (Or.inl rfl)) (pss_one ?put3))) pss_nil)
    (pss_one (ps_ret (pe_disp (pps_cons pe_str (pe_dget hu (pv 1) pe_str (fun _ _ => rfl)) (pps_cons pe_str (pe_dget hu (pv 1) pe_str (fun _ _ => rfl)) (pps_cons pe_str (pv 2) (pps_cons pe_str (pv 3) pps_nil)))) (by rfl) (by rfl) (fun z => by cases z) (by show 4 ≤ 15; decide))))))), ?main⟩
  case marks =>
    exact ps_set (i := 2) scWt.nd rfl (Or.inr rfl) (pe_call GS r2 rfl mS kS bS .nil pass0 (pa_cons (pv 0) (pa_cons (pe_lst (pa_cons pe_str (pa_cons pe_str (pa_cons pe_str (pa_cons pe_str (pa_cons pe_str (pa_cons pe_str pa_nil)))))))
      (pa_cons (pe_callB (call_max2 rfl) rfl T.max (by decide +kernel) (pa_cons (pe_callB call_len_seq rfl T.len PySem.boot_len (pa_cons (pe_dget hu (pv 1) pe_str (fun _ _ => rfl)) pa_nil)) (pa_cons (pe_op op_add pe_int (pe_call GT r1 rfl mT kT_ bT .nil pass0 (pa_cons (pv 0) (pa_cons pe_int pa_nil)))) pa_nil))) pa_nil))))
  case two =>
    exact ps_par (i := 3) (j := 4) rfl scWt.nd rfl rfl (by decide) rfl rfl (pa_cons pe_dnewT (pa_cons (pe_call GT r1 rfl mT kT_ bT .nil pass0 (pa_cons (pv 0) (pa_cons pe_int pa_nil))) pa_nil)) (by rfl)
  case test =>
    exact PW.pt (pw_or (pt_cmpR op_eq (pv 4) pe_int (nomark _)) (pw_or1 (pt_cmpR op_ge (pv 5) (pe_callB call_len_seq rfl T.len PySem.boot_len (pa_cons (pe_dget hu (pv 1) pe_str (fun _ _ => rfl)) pa_nil)) (nomark _))))
  case flip => exact pt_cmpR op_eq (pe_call GT r1 rfl mT kT_ bT .nil pass0 (pa_cons (pv 0) (pa_cons pe_int pa_nil))) pe_int (nomark _)
  case put1 =>
    exact ps_dput hu (pv 3) (pe_tup (pa_cons (pv 6) (pa_cons (pv 7) (pa_cons (pv 8) pa_nil)))) (pe_call GO r2 rfl mO kO bO .nil pass0 (pa_cons (pv 0) (pa_cons (pe_op op_cat (pe_op op_cat (pv 2) (pv 2)) (pe_lst (pa_cons pe_str pa_nil))) pa_nil))) rfl
  case mg =>
    exact ps_asg (pe_dget hu (pe_dget hu (pv 1) pe_str (fun _ _ => rfl)) (pe_tup (pa_cons (pe_ix ix_list (pe_dget hu (pv 1) pe_str (fun _ _ => rfl)) (pv 5) (fun _ _ => rfl)) (pa_cons (pv 7) pa_nil))) (fun _ _ => rfl)) (pg_tup rfl (pgs_cons (pg_name (i := 9) scWt.nd rfl (Or.inl rfl)) (pgs_cons (pg_name (i := 10) scWt.nd rfl (Or.inl rfl)) pgs_nil)))
  case gl =>
    exact ps_set (i := 11) scWt.nd rfl (Or.inl rfl) (pe_op op_cat (pe_op op_rep (pe_lst (pa_cons (pe_ix ix_list (pv 2) (pe_bm PySem.F.plainAttrs_list PySem.F.slot_list_index PySem.F.type_list_index mt_index (pe_dget hu (pv 1) pe_str (fun _ _ => rfl)) (pa_cons (pv 10) pa_nil)) (fun _ _ => rfl)) pa_nil)) pe_int) (pe_lst (pa_cons (pv 6) pa_nil)))
  case gl2 =>
    exact ps_set (i := 11) scWt.nd rfl (Or.inl rfl) (pe_ifExp (pt_cmpR op_eq (pv 9) (pv 8) (nomark _)) (pv 11) (pe_lst (pa_cons pe_str (pa_cons pe_str (pa_cons (pv 6) pa_nil)))))
  case put2 =>
    exact ps_dput hu (pv 3) (pe_tup (pa_cons (pv 6) (pa_cons (pv 7) (pa_cons (pv 8) pa_nil)))) (pe_call GO r2 rfl mO kO bO .nil pass0 (pa_cons (pv 0) (pa_cons (pv 11) pa_nil))) rfl
  case third => exact pt_cmpR op_eq (pe_call GT r1 rfl mT kT_ bT .nil pass0 (pa_cons (pv 0) (pa_cons pe_int pa_nil))) pe_int (nomark _)
  case keys =>
    exact pe_lock (pe_lc (te := tVar 12) (tt := tTest (tOp rEq (tOp (rIxT K) (tVar 12) (tC (.int 0))) (tOp (rIxL K) (tVar 2) (tUn (rU fun i => .int (-i)) (tC (.int 1)))))) (own := [("_law_key", 12)]) (g := gName 12) rfl scWt.nd (pi_keys (pv 3)) (blkOk_by (own := [("_law_key", 12)]) (N := nWt) (sc := defScope sWatch) (by decide +kernel))
      (fun _ _ _ _ _ => pg_name (i := 12) scWt.nd rfl (Or.inl rfl)) (fun _ _ _ _ _ => by exact pts_one (pt_cmpR op_eq (pe_ix ix_tup (pv 12) pe_int (fun _ _ => rfl)) (pe_ix ix_list (pv 2) (pe_un un_neg pe_int) (fun _ _ => rfl)) (nomark _))) (fun _ _ _ _ _ => pv 12))
  case put3 => exact ps_dput hu (pv 3) (pv 12) (pe_ix ix_list (pv 2) (pe_un un_neg pe_int) (fun _ _ => rfl)) rfl
  case main =>
    have lne : ∀ {G : Hp} {l : Addr} {b : Nat}, PotAt G p b → G l = none → l ≠ p := fun hp' nl z => hp'.there (by rw [← z]; exact nl)
    -- the marks
    refine ⟨_, rfl, (by show 6 ≤ sizeLine; decide), fun l1 nl1 => ?_⟩
    have u1 := same_new nl1 (.lst (poolM.map V.str))
    have hl1 : (upd H l1 (.lst (poolM.map V.str))) l1 = some (.lst (poolM.map V.str)) := upd_same
    have eu : upd H l1 (.lst [.str "m", .str "n", .str "idle", .str "on", .str "s0", .str "zz"]) = upd H l1 (.lst (poolM.map V.str)) := rfl
    rw [eu]
    have nl1p := lne hp nl1
    show _
    generalize upd H l1 (.lst (poolM.map V.str)) = H1 at u1 hl1 ⊢
    clear eu
    refine ⟨_, rfl, o, _, rfl, dK "states" H1 (u1 _ _ h1), s, _, rfl, .inl (SqL.of (u1 _ _ h4)), _, rfl, p, 4, b, rfl, hp.same u1, by omega, by decide, by decide, fun k H2 k0 k4 but2 pot2 => ⟨_, _, rfl, rfl, _, _, rfl, ?_⟩⟩
    obtain ⟨k', rfl⟩ := Int.eq_ofNat_of_zero_le k0
    obtain ⟨m, em, m1, m4⟩ : ∃ m : Nat, (if (1 : Int) + ((k' : Nat) : Int) > ((D.states.map V.str).length : Int) then (1 : Int) + ((k' : Nat) : Int) else ((D.states.map V.str).length : Int)) = ((m : Nat) : Int) ∧ D.states.length ≤ m ∧ m ≤ 4 := by
      rw [List.length_map]
      by_cases c : (1 : Int) + ((k' : Nat) : Int) > (D.states.length : Int)
      · rw [if_pos c]
        exact ⟨1 + k', by omega, by omega, by omega⟩
      · rw [if_neg c]
        exact ⟨D.states.length, rfl, Nat.le_refl _, s4⟩
    rw [em]
    have hl2 := but2 _ _ hl1 nl1p
    have b2 : But p H H2 := (But.of u1).trans but2
    refine ⟨p, l1, m, b + 1, poolM.map V.str, rfl, pot2, by omega, SqL.of hl2, nl1p, by show m ≤ 6; omega, by show 6 ≤ 1000; decide, fun ms ys H3 but3 pot3 nms npms hms lys pm => ?_⟩
    obtain ⟨zs, pm⟩ := pm
    obtain ⟨M, rfl, ndM, memM⟩ := some_txt pm poolM_nd
    rw [List.length_map] at lys
    have b3 : But p H H3 := b2.trans but3
    have nms0 : H ms = none := by
      cases e : H ms with
      | none => rfl
      | some u =>
        have := b2 _ _ e npms
        rw [nms] at this
        cases this
    clear hl2 hl1 but2 but3 pot2 b2 u1 em k0 k4 nl1 nl1p pm nms
    -- the steps
    intro rr nrr
    have u4 := same_new nrr (.dT [])
    have hrr : (upd H3 rr (.dT [])) rr = some (.dT (kvW [])) := upd_same
    have nrp := lne pot3 nrr
    have nrms : rr ≠ ms := (ne_of_none hms nrr).symm
    have nrr0 : H rr = none := by
      cases e : H rr with
      | none => rfl
      | some u =>
        have := b3 _ _ e nrp
        rw [nrr] at this
        cases this
    have b4 : But p H (upd H3 rr (.dT [])) := b3.trans (But.of u4)
    have hms4 := u4 _ _ hms
    have pot4 := pot3.same u4
    show _
    generalize upd H3 rr (.dT []) = H4 at hrr b4 hms4 pot4 ⊢
    clear u4 pot3 b3 nrr hms
    refine ⟨_, rfl, p, 3, b + 1 + m, rfl, pot4, by omega, by decide, by decide, fun kw H5 _ _ but5 pot5 => ⟨_, _, rfl, ?_⟩⟩
    have W5 : WJ p rr ms H H5 (b + 1 + m + 1) D.calls D.answers M [] (9 * 0) := ⟨b4.trans but5, pot5.mono (by omega), but5 _ _ hms4 npms, but5 _ _ hrr nrp, (fun _ h => nomatch h), List.nodup_nil, Nat.zero_le _⟩
    clear b4 but5 hms4 hrr pot4 pot5
    generalize hB : b + 1 + m + 1 = B at W5
    have ml4 : M.length ≤ 4 := by omega
    have rd : ∀ {G : Hp}, But p H G → G o = some (.dK [(.inr ("calls" : Str), .ref c), (.inr ("answers" : Str), .ref a), (.inr ("states" : Str), .ref s), (.inr ("rows" : Str), .ref r)]) ∧ G c = some (.lst (D.calls.map V.str)) ∧ G a = some (.lst (D.answers.map V.str)) ∧ G s = some (.lst (D.states.map V.str)) ∧ G r = some (.dT kvs) ∧ GR K G kvs D.goals := fun e =>
      ⟨e _ _ h1 npo, e _ _ h2 npc, e _ _ h3 npa, e _ _ h4 nps, e _ _ h5 npr, h6.butp e hp⟩
    refine ⟨_, rfl, ms, _, rfl, SqL.of W5.fm, ?_⟩
    refine for_enumL (xs := M.map V.str) (fun i σ G => ∃ x5 x6 x7 x8 x9 x10 x11 x12 g, σ = [some (.ref p), some (.ref o), some (.ref ms), some (.ref rr), some (.int kw), x5, x6, x7, x8, x9, x10, x11, x12] ∧ WJ p rr ms H G B D.calls D.answers M g (9 * i))
      ⟨_, _, _, _, _, _, _, _, [], rfl, W5⟩ (fun i σ G ⟨_, _, _, _, _, _, _, _, _, _, w⟩ => SqL.of w.fm) ?_ ?_
    · rintro i x T1 σ G hx ⟨x5, x6, x7, x8, x9, x10, x11, x12, g, rfl, WG⟩ nT
      have hi : i < M.length := by
        have := (List.getElem?_eq_some_iff.mp hx).1
        simpa using this
      rw [List.getElem?_map, List.getElem?_eq_getElem hi] at hx
      have ex : x = .str M[i] := (Option.some.inj hx).symm
      subst ex
      have mm : M[i] ∈ M := List.getElem_mem hi
      generalize M[i] = mi at mm nT ⊢
      have sT := same_new nT (.tup [.int (i : Nat), .str mi])
      have hT : (upd G T1 (.tup [.int (i : Nat), .str mi])) T1 = some (.tup [.int (i : Nat), .str mi]) := upd_same
      show _
      generalize upd G T1 (.tup [.int (i : Nat), .str mi]) = G1 at sT hT ⊢
      have W1 := WG.go nrp npms (But.of sT) (WG.pot.same sT) (Nat.le_refl _)
      refine ⟨T1, _, rfl, .inl (.inl hT), rfl, _, _, rfl, _, _, rfl, rfl, ?_⟩
      obtain ⟨ro, rc, ra, rs, rrw, rg⟩ := rd W1.but
      refine ⟨_, rfl, o, _, rfl, dK "calls" G1 ro, c, rfl, ⟨_, SqL.of rc⟩, ?_⟩
      clear ro rc ra rs rrw rg hT sT nT WG
      refine for_list (xs := D.calls.map V.str) (fun j σ G => ∃ x7 x8 x9 x10 x11 x12 g, σ = [some (.ref p), some (.ref o), some (.ref ms), some (.ref rr), some (.int kw), some (.int (i : Nat)), some (.str mi), x7, x8, x9, x10, x11, x12] ∧ WJ p rr ms H G B D.calls D.answers M g (9 * i + 3 * j))
        ⟨_, _, _, _, _, _, g, rfl, W1⟩ (fun j σ G _ ⟨_, _, _, _, _, _, _, _, w⟩ => SqL.of (rd w.but).2.1) ?_ ?_
      · rintro j y σ G hy ⟨x7, x8, x9, x10, x11, x12, g, rfl, WG⟩
        have hj : j < D.calls.length := by
          have := (List.getElem?_eq_some_iff.mp hy).1
          simpa using this
        rw [List.getElem?_map, List.getElem?_eq_getElem hj] at hy
        have ey : y = .str D.calls[j] := (Option.some.inj hy).symm
        subst ey
        have mc : D.calls[j] ∈ D.calls := List.getElem_mem hj
        generalize D.calls[j] = cj at mc ⊢
        obtain ⟨ro, rc, ra, rs, rrw, rg⟩ := rd WG.but
        refine ⟨_, rfl, o, _, rfl, dK "answers" G ro, a, rfl, ⟨_, SqL.of ra⟩, ?_⟩
        clear ro rc ra rs rrw rg
        refine for_list (xs := D.answers.map V.str) (fun l σ G => ∃ x8 x9 x10 x11 x12 g, σ = [some (.ref p), some (.ref o), some (.ref ms), some (.ref rr), some (.int kw), some (.int (i : Nat)), some (.str mi), some (.str cj), x8, x9, x10, x11, x12] ∧ WJ p rr ms H G B D.calls D.answers M g (9 * i + 3 * j + l))
          ⟨_, _, _, _, _, g, rfl, WG⟩ (fun l σ G _ ⟨_, _, _, _, _, _, _, w⟩ => SqL.of (rd w.but).2.2.1) ?_ ?_
        · rintro l z σ G hz ⟨x8, x9, x10, x11, x12, g, rfl, WG⟩
          have hl : l < D.answers.length := by
            have := (List.getElem?_eq_some_iff.mp hz).1
            simpa using this
          rw [List.getElem?_map, List.getElem?_eq_getElem hl] at hz
          have ez : z = .str D.answers[l] := (Option.some.inj hz).symm
          subst ez
          have ma : D.answers[l] ∈ D.answers := List.getElem_mem hl
          generalize D.answers[l] = al at ma ⊢
          have n36 : 9 * i + 3 * j + l ≤ 36 := by omega
          have en : 9 * i + 3 * j + (l + 1) = 9 * i + 3 * j + l + 1 := rfl
          rw [en]
          generalize 9 * i + 3 * j + l = n at WG n36 ⊢
          obtain ⟨ro, rc, ra, rs, rrw, rg⟩ := rd WG.but
          have key : ∀ {x : Str}, x ∈ M ++ [BRK] → (mi, cj, al).1 ∈ M ∧ (mi, cj, al).2.1 ∈ D.calls ∧ (mi, cj, al).2.2 ∈ D.answers ∧ x ∈ M ++ [BRK] := fun h => ⟨mm, mc, ma, h⟩
          refine ⟨_, rfl, rfl, _, rfl, ?_⟩
          refine' cutG (p := True) (fun go => ?k) (fun _ => ?hh)
          case k =>
            refine ite2 (fun _ => iteT (go trivial)) (fun c4 => ?_)
            refine ⟨_, rfl, _, rfl, o, _, rfl, dK "states" G ro, s, _, rfl, .inl (SqL.of rs), _, _, rfl, rfl, _, rfl, ite2 (fun _ => go trivial) (fun c5 => ?_)⟩
            rw [List.length_map] at c5
            have hi5 : i < D.states.length := Nat.lt_of_not_le fun z => c5 (decide_eq_true (by omega))
            have his : D.states[i] ∈ D.states := List.getElem_mem hi5
            have hix : D.states[i]? = some D.states[i] := List.getElem?_eq_getElem hi5
            generalize D.states[i] = si at his hix
            refine ⟨_, rfl, o, _, rfl, dK "rows" G ro, _, rfl, o, _, rfl, dK "states" G ro, _, rfl, s, _, _, .str si, rfl, rfl, SqL.of rs, atI_nat (by rw [List.getElem?_map, hix]; rfl), _, rfl, (by show 2 ≤ sizeLine; decide), fun tk ntk => ?_⟩
            have v1 := same_new ntk (.tup [V.str si, .str cj])
            have htk : (upd G tk (.tup [V.str si, .str cj])) tk = some (.tup ((kT (si, cj)).map kV)) := upd_same
            show _
            generalize upd G tk (.tup [V.str si, .str cj]) = G1 at v1 htk ⊢
            have hk : (si, cj) ∈ D.goals.map (·.1) := by
              rw [dr.keys]
              exact prod_mem.mpr ⟨his, mc⟩
            obtain ⟨x, lx⟩ := lookup_some hk
            have vx := dr.vals _ (lookup_mem lx)
            rcases (rg.same v1).val (si, cj) with ⟨l1, _⟩ | ⟨x2, t2, l1, l2, l3⟩
            · rw [l1] at lx
              cases lx
            rw [lx] at l1
            cases l1
            have dg : DGet G1 r (.ref tk) (valV kvs (kT (si, cj))) := DGet.t (v1 _ _ rrw) htk
            rw [l2] at dg
            refine ⟨r, _, rfl, dg, t2, _, rfl, l3, rfl, _, _, rfl, _, _, rfl, rfl, ?_⟩
            have W1 := WG.go nrp npms (But.of v1) (WG.pot.same v1) (Nat.le_refl _)
            obtain ⟨ro1, _, _, rs1, _, _⟩ := rd W1.but
            obtain ⟨jg, hj1, hj2, hj3⟩ := idx_str dr.sn vx.2
            have hjm : jg < M.length := by omega
            have hgm : M[jg] ∈ M := List.getElem_mem hjm
            have hgx : M[jg]? = some M[jg] := List.getElem?_eq_getElem hjm
            generalize M[jg] = gm at hgm hgx
            clear ro rc ra rs rrw rg v1 htk ntk dg l2 l3 WG
            refine ⟨_, rfl, _, rfl, o, _, rfl, dK "states" G1 ro1, .inl ⟨rfl, _, SqL.of rs1⟩, _, rfl, s, _, _, jg, .str x.2, rfl, rfl, SqL.of rs1, rfl, L2.flat_strs _, by rw [List.getElem?_map, hj2]; rfl, (by show (x.2 == x.2) = true; simp), hj3, ms, _, _, .str gm, rfl, rfl, SqL.of W1.fm, atI_nat (by rw [List.getElem?_map, hgx]; rfl), (by show 1 ≤ sizeLine; decide), fun q1 nq1 => ?_⟩
            have v1 := same_new nq1 (.lst [V.str gm])
            have hq1 : (upd G1 q1 (.lst [V.str gm])) q1 = some (.lst [V.str gm]) := upd_same
            show _
            generalize upd G1 q1 (.lst [V.str gm]) = G2 at v1 hq1 ⊢
            refine ⟨q1, 12, _, rfl, rfl, hq1, by decide, by decide, (by show 12 ≤ sizeLine; decide), fun q2 nq2 => ?_⟩
            have v2 := same_new nq2 (.lst ((List.replicate 12 gm).map V.str))
            have hq2 : (upd G2 q2 (.lst ((List.replicate 12 gm).map V.str))) q2 = some (.lst ((List.replicate 12 gm).map V.str)) := upd_same
            have eu : upd G2 q2 (.lst (List.replicate (12 : Int).toNat [V.str gm]).flatten) = upd G2 q2 (.lst ((List.replicate 12 gm).map V.str)) := rfl
            rw [eu]
            show _
            generalize upd G2 q2 (.lst ((List.replicate 12 gm).map V.str)) = G3 at v2 hq2 ⊢
            clear eu
            refine ⟨_, rfl, (by show 1 ≤ sizeLine; decide), fun q3 nq3 => ?_⟩
            have v3 := same_new nq3 (.lst [V.str mi])
            have hq3 : (upd G3 q3 (.lst [V.str mi])) q3 = some (.lst [V.str mi]) := upd_same
            show _
            generalize upd G3 q3 (.lst [V.str mi]) = G4 at v3 hq3 ⊢
            refine ⟨q2, q3, _, _, rfl, rfl, v3 _ _ hq2, hq3, (by show 13 ≤ sizeLine; decide), fun q4 nq4 => ?_⟩
            have v4 := same_new nq4 (.lst ((List.replicate 12 gm ++ [mi]).map V.str))
            have hq4 : (upd G4 q4 (.lst ((List.replicate 12 gm ++ [mi]).map V.str))) q4 = some (.lst ((List.replicate 12 gm ++ [mi]).map V.str)) := upd_same
            have eu : upd G4 q4 (.lst ((List.replicate 12 gm).map V.str ++ [V.str mi])) = upd G4 q4 (.lst ((List.replicate 12 gm ++ [mi]).map V.str)) := rfl
            rw [eu]
            show _
            generalize upd G4 q4 (.lst ((List.replicate 12 gm ++ [mi]).map V.str)) = G5 at v4 hq4 ⊢
            clear eu
            have v14 := ((v1.trans v2).trans v3).trans v4
            have W5 := W1.go nrp npms (But.of v14) (W1.pot.same v14) (Nat.le_refl _)
            have mem4 : ∀ y ∈ List.replicate 12 gm ++ [mi], y ∈ M ++ [BRK] := fun y hy => by
              rcases List.mem_append.mp hy with hy | hy
              · rw [List.eq_of_mem_replicate hy]
                exact List.mem_append_left _ hgm
              · rw [List.mem_singleton.mp hy]
                exact List.mem_append_left _ mm
            have len4 : (List.replicate 12 gm ++ [mi]).length = 13 := rfl
            have nq4p : q4 ≠ p := fun z => (W1.pot.same ((v1.trans v2).trans v3)).there (by rw [← z]; exact nq4)
            generalize List.replicate 12 gm ++ [mi] = L4 at hq4 mem4 len4
            clear v1 v2 v3 v4 v14 hq1 hq2 hq3 nq1 nq2 nq3 nq4 W1 ro1 rs1
            refine ⟨_, rfl, _, rfl, rfl, _, rfl, ite2 (fun _ => ?a) (fun _ => ?b)⟩
            case' a =>
              refine ⟨_, rfl, ?_⟩
              have Wz := W5
              have hz := hq4
              have memz := mem4
              have lz : 0 < L4.length ∧ L4.length ≤ 1000 := by omega
              have nzp := nq4p
            case' b =>
              refine ⟨_, rfl, (by show 3 ≤ sizeLine; decide), fun q5 nq5 => ?_⟩
              have v5 := same_new nq5 (.lst (([BRK, BRK, mi] : List Str).map V.str))
              have hz : (upd G5 q5 (.lst (([BRK, BRK, mi] : List Str).map V.str))) q5 = some (.lst (([BRK, BRK, mi] : List Str).map V.str)) := upd_same
              have eu : upd G5 q5 (.lst [.str "broken", .str "broken", V.str mi]) = upd G5 q5 (.lst (([BRK, BRK, mi] : List Str).map V.str)) := rfl
              rw [eu]
              have nzp : q5 ≠ p := fun z => W5.pot.there (by rw [← z]; exact nq5)
              show _
              generalize upd G5 q5 (.lst (([BRK, BRK, mi] : List Str).map V.str)) = G6 at v5 hz ⊢
              have Wz := W5.go nrp npms (But.of v5) (W5.pot.same v5) (Nat.le_refl _)
              have memz : ∀ y ∈ ([BRK, BRK, mi] : List Str), y ∈ M ++ [BRK] := fun y hy => by
                simp only [List.mem_cons, List.not_mem_nil, or_false] at hy
                rcases hy with rfl | rfl | rfl
                · exact List.mem_append_right _ List.mem_cons_self
                · exact List.mem_append_right _ List.mem_cons_self
                · exact List.mem_append_left _ mm
              have lz : 0 < ([BRK, BRK, mi] : List Str).length ∧ ([BRK, BRK, mi] : List Str).length ≤ 1000 := ⟨by show 0 < 3; decide, by show 3 ≤ 1000; decide⟩
              generalize ([BRK, BRK, mi] : List Str) = L5 at hz memz lz
              clear eu v5
            all_goals
              refine ⟨_, rfl, _, rfl, p, _, _, _, rfl, Wz.pot, by omega, SqL.of hz, by rw [List.length_map]; exact lz.1, by rw [List.length_map]; exact lz.2, nzp, fun xv G7 hxv but7 pot7 => ?_⟩
              obtain ⟨xs, hxs, rfl⟩ := List.mem_map.mp hxv
              refine ⟨_, rfl, _, rfl, _, rfl, _, rfl, (by show 3 ≤ sizeLine; decide), fun tk2 ntk2 => ?_⟩
              have v8 := same_new ntk2 (.tup [.str mi, .str cj, .str al])
              have htk2 : (upd G7 tk2 (.tup [.str mi, .str cj, .str al])) tk2 = some (.tup ((kT3 (mi, cj, al)).map kV)) := upd_same
              show _
              generalize upd G7 tk2 (.tup [.str mi, .str cj, .str al]) = G8 at v8 htk2 ⊢
              have b8 := but7.trans (But.of v8)
              refine ⟨rr, _, rfl, DPut.t (b8 _ _ Wz.fr nrp) htk2 (by rw [kvW_len, sizeLine_eq]; have := Wz.len; omega), ?_⟩
              exact ⟨_, _, _, _, _, _, rfl, Wz.put nrp npms nrms nrr0 b8 ((pot7.same v8).mono (by omega)) (key (memz _ hxs))⟩
          case hh =>
            refine ⟨_, rfl, p, 2, _, rfl, WG.pot, by omega, by decide, by decide, fun k2 G1 _ _ but1 pot1 => ⟨rfl, _, rfl, ?_⟩⟩
            have W1 := WG.go nrp npms but1 (m := n + 1) (pot1.mono (by omega)) (by omega)
            refine ite2 (fun _ => ?_) (fun _ => ⟨_, _, _, _, _, g, rfl, W1⟩)
            refine ⟨_, rfl, _, rfl, _, rfl, ms, ms, _, _, rfl, rfl, W1.fm, W1.fm, by rw [List.length_map, sizeLine_eq]; omega, fun q1 nq1 => ?_⟩
            have v1 := same_new nq1 (.lst (M.map V.str ++ M.map V.str))
            have hq1 : (upd G1 q1 (.lst (M.map V.str ++ M.map V.str))) q1 = some (.lst (M.map V.str ++ M.map V.str)) := upd_same
            show _
            generalize upd G1 q1 (.lst (M.map V.str ++ M.map V.str)) = G2 at v1 hq1 ⊢
            refine ⟨(by show 1 ≤ sizeLine; decide), fun q2 nq2 => ?_⟩
            have v2 := same_new nq2 (.lst [V.str BRK])
            have hq2 : (upd G2 q2 (.lst [V.str BRK])) q2 = some (.lst [V.str BRK]) := upd_same
            have eu : upd G2 q2 (.lst [V.str "broken"]) = upd G2 q2 (.lst [V.str BRK]) := rfl
            rw [eu]
            show _
            generalize upd G2 q2 (.lst [V.str BRK]) = G3 at v2 hq2 ⊢
            clear eu
            refine ⟨q1, q2, _, _, rfl, rfl, v2 _ _ hq1, hq2, by rw [List.length_append, List.length_map, sizeLine_eq]; show _ + 1 ≤ _; omega, fun q3 nq3 => ?_⟩
            have eL : M.map V.str ++ M.map V.str ++ [V.str BRK] = (M ++ M ++ [BRK]).map V.str := by rw [List.map_append, List.map_append]; rfl
            rw [eL]
            have v3 := same_new nq3 (.lst ((M ++ M ++ [BRK]).map V.str))
            have hq3 : (upd G3 q3 (.lst ((M ++ M ++ [BRK]).map V.str))) q3 = some (.lst ((M ++ M ++ [BRK]).map V.str)) := upd_same
            have nzp : q3 ≠ p := fun z => (pot1.same (v1.trans v2)).there (by rw [← z]; exact nq3)
            show _
            generalize upd G3 q3 (.lst ((M ++ M ++ [BRK]).map V.str)) = G4 at v3 hq3 ⊢
            have v13 := (v1.trans v2).trans v3
            refine ⟨p, q3, _, _, rfl, pot1.same v13, by omega, SqL.of hq3, by rw [List.length_map, List.length_append]; show _ < _ + 1; omega, by rw [List.length_map, List.length_append, List.length_append]; show _ + 1 ≤ _; omega, nzp, fun xv G7 hxv but7 pot7 => ?_⟩
            obtain ⟨xs, hxs, rfl⟩ := List.mem_map.mp hxv
            have hxs : xs ∈ M ++ [BRK] := by
              rcases List.mem_append.mp hxs with hxs | hxs
              · rcases List.mem_append.mp hxs with hxs | hxs
                · exact List.mem_append_left _ hxs
                · exact List.mem_append_left _ hxs
              · exact List.mem_append_right _ hxs
            refine ⟨_, rfl, _, rfl, _, rfl, _, rfl, (by show 3 ≤ sizeLine; decide), fun tk2 ntk2 => ?_⟩
            have v8 := same_new ntk2 (.tup [.str mi, .str cj, .str al])
            have htk2 : (upd G7 tk2 (.tup [.str mi, .str cj, .str al])) tk2 = some (.tup ((kT3 (mi, cj, al)).map kV)) := upd_same
            show _
            generalize upd G7 tk2 (.tup [.str mi, .str cj, .str al]) = G8 at v8 htk2 ⊢
            have b8 := (But.of v13).trans (but7.trans (But.of v8))
            refine ⟨rr, _, rfl, DPut.t (b8 _ _ W1.fr nrp) htk2 (by rw [kvW_len, sizeLine_eq]; have := W1.len; omega), ?_⟩
            have b08 := but1.trans b8
            exact ⟨_, _, _, _, _, _, rfl, WG.put nrp npms nrms nrr0 b08 ((pot7.same v8).mono (by omega)) (key hxs)⟩
        · rintro σ G ⟨x8, x9, x10, x11, x12, g, rfl, WG⟩
          exact ⟨_, _, _, _, _, _, g, rfl, WG.mono (by rw [List.length_map]; omega)⟩
      · rintro σ G ⟨x7, x8, x9, x10, x11, x12, g, rfl, WG⟩
        exact ⟨_, _, _, _, _, _, _, _, g, rfl, WG.mono (by rw [List.length_map]; omega)⟩
    · rintro σ G ⟨x5, x6, x7, x8, x9, x10, x11, x12, g, rfl, WG⟩
      rw [List.length_map] at WG
      have g36 := WG.len
      refine ⟨_, rfl, p, 3, _, rfl, WG.pot, by omega, by decide, by decide, fun k2 G1 _ _ but1 pot1 => ⟨rfl, _, rfl, ?_⟩⟩
      have W1 := WG.go nrp npms but1 (m := 9 * M.length + 1) (pot1.mono (by omega)) (by omega)
      generalize hN : 9 * M.length + 1 = N at W1
      have n37 : N ≤ 37 := by omega
      have sl36 : g.length ≤ 36 := by omega
      refine' cutF (p := fun _ G g => WJ p rr ms H G B D.calls D.answers M g N ∧ g.length ≤ 36) (fun go => ?k) (fun x12 G g ⟨W, sl⟩ => ?hh)
      case k =>
        refine ite2 (fun _ => ?yes) (fun _ => ?no)
        case yes =>
          obtain ⟨M0, ml, eM⟩ := last_of (M := M) (by omega)
          have atl : atI (M.map V.str) (-1) = some (.str ml) := by
            rw [eM, List.map_append]
            exact atI_last _ _
          have mlm : ml ∈ M := by rw [eM]; exact List.mem_append_right _ List.mem_cons_self
          refine ⟨rr, _, W1.fr, trivial, fun od => ?_⟩
          have hfz : (upd G1 rr (.frz od (.dT (kvW g)))) rr = some (.frz od (.dT (kvW g))) := upd_same
          have hms1 : (upd G1 rr (.frz od (.dT (kvW g)))) ms = some (.lst (M.map V.str)) := by rw [upd_ne nrms.symm]; exact W1.fm
          have back := fun (E : Hp) (e : Same (upd G1 rr (.frz od (.dT (kvW g)))) E) => unlock_same (K := K) W1.fr e
          show _
          generalize upd G1 rr (.frz od (.dT (kvW g))) = GL at hfz hms1 back ⊢
          refine ⟨_, rfl, rr, od, rfl, .inr ⟨kvW g, hfz, fun Dd nD => ?_⟩⟩
          have kl := kvW_len g
          refine lc_it walk_keysT (D := Dd) (g := gName 12) (tt := tTest (tOp rEq (tOp (rIxT K) (tVar 12) (tC (.int 0))) (tOp (rIxL K) (tVar 2) (tUn (rU fun i => .int (-i)) (tC (.int 1)))))) (te := tVar 12) (vs := [12]) (fun j E => Same GL E ∧ ∃ qs : List Addr, E Dd = some (.lst (qs.map V.ref)) ∧ qs.length ≤ j ∧ ∀ q ∈ qs, q ≠ Dd ∧ ∃ k ∈ g.map (·.1), E q = some (.tup ((kT3 k).map kV)))
            ⟨same_new nD _, [], upd_same, Nat.zero_le _, fun q h => nomatch h⟩ (fun j E _ h => h.1 _ _ hfz) ?_ ?_
          · rintro j y E E' hj ⟨sE, qs, hD, lq, hqs⟩ ⟨rfl, kk, vv, q, hkv, rfl, hq⟩
            obtain ⟨k, hk, ek⟩ : ∃ k ∈ g.map (·.1), kk = kT3 k := by
              unfold kvW at hkv
              rw [List.getElem?_map] at hkv
              cases e : g[j]? with
              | none => rw [e] at hkv; cases hkv
              | some z =>
                rw [e] at hkv
                cases hkv
                exact ⟨z.1, List.mem_map.mpr ⟨z, List.mem_of_getElem? e, rfl⟩, rfl⟩
            subst ek
            have nqD : q ≠ Dd := fun z => by rw [z, hD] at hq; cases hq
            rw [kl] at hj
            refine ⟨rfl, _, rfl, q, _, 0, _, rfl, rfl, .inl (.inl hq), rfl, _, rfl, 1, rfl, ms, _, _, _, rfl, rfl, SqL.of (sE _ _ hms1), atl, rfl, _, rfl, ?_⟩
            refine ite2 (fun _ => ?_) (fun _ => ⟨sE, qs, hD, by omega, hqs⟩)
            refine ⟨_, rfl, _, hD, by rw [List.length_map, sizeLine_eq]; omega, fun c0 o0 hc => ?_, qs ++ [q], ?_, by rw [List.length_append]; show _ + 1 ≤ _; omega, fun z hz => ?_⟩
            · rw [upd_ne (ne_of_none hc nD)]
              exact sE _ _ hc
            · rw [upd_same, List.map_append]
              rfl
            · rcases List.mem_append.mp hz with hz | hz
              · obtain ⟨n1, k1, m1, f1⟩ := hqs z hz
                exact ⟨n1, k1, m1, by rw [upd_ne n1]; exact f1⟩
              · rw [List.mem_singleton.mp hz]
                exact ⟨nqD, k, hk, by rw [upd_ne nqD]; exact hq⟩
          · rintro E ⟨sE, qs, hD, lq, hqs⟩
            refine ⟨sE _ _ hfz, ?_⟩
            have sGE := back E sE
            have nDr : Dd ≠ rr := fun z => by rw [z, hfz] at nD; cases nD
            have hD2 : (upd E rr (.dT (kvW g))) Dd = some (.lst (qs.map V.ref)) := by rw [upd_ne nDr]; exact hD
            have hq2 : ∀ q ∈ qs, ∃ k ∈ g.map (·.1), (upd E rr (.dT (kvW g))) q = some (.tup ((kT3 k).map kV)) := fun q hq => by
              obtain ⟨_, k, hk, f⟩ := hqs q hq
              exact ⟨k, hk, by rw [upd_ne (fun z => by rw [z, sE _ _ hfz] at f; cases f)]; exact f⟩
            show _
            generalize upd E rr (.dT (kvW g)) = E2 at sGE hD2 hq2 ⊢
            clear hqs hD lq sE back hfz hms1 nD
            have W2 := W1.go nrp npms (But.of sGE) (W1.pot.same sGE) (Nat.le_refl _)
            refine ⟨Dd, rfl, ⟨_, SqL.of hD2⟩, ?_⟩
            refine for_list (xs := qs.map V.ref) (fun j σ F => ∃ x12 g2, σ = [some (.ref p), some (.ref o), some (.ref ms), some (.ref rr), some (.int kw), x5, x6, x7, x8, x9, x10, x11, x12] ∧ WJ p rr ms H F B D.calls D.answers M g2 N ∧ g2.map (·.1) = g.map (·.1) ∧ F Dd = some (.lst (qs.map V.ref)) ∧ ∀ q ∈ qs, ∃ k ∈ g.map (·.1), F q = some (.tup ((kT3 k).map kV)))
              ⟨_, g, rfl, W2, rfl, hD2, hq2⟩ (fun j σ F _ ⟨_, _, _, _, _, h, _⟩ => SqL.of h) ?_ ?_
            · rintro j y σ F hy ⟨x12, g2, rfl, WF, eg, hDF, hqF⟩
              have hj : j < qs.length := by
                have := (List.getElem?_eq_some_iff.mp hy).1
                simpa using this
              rw [List.getElem?_map, List.getElem?_eq_getElem hj] at hy
              have ey : y = .ref qs[j] := (Option.some.inj hy).symm
              subst ey
              obtain ⟨k, hk, hqk⟩ := hqF _ (List.getElem_mem hj)
              generalize qs[j] = q at hqk ⊢
              obtain ⟨z, hz, ez⟩ := List.mem_map.mp (by rw [eg]; exact hk : k ∈ g2.map (·.1))
              have vz := WF.ok z hz
              rw [ez] at vz
              refine ⟨_, rfl, 1, rfl, ms, _, _, _, rfl, rfl, SqL.of WF.fm, atl, _, rfl, _, rfl, rr, _, rfl, DPut.t WF.fr hqk (by rw [kvW_len, sizeLine_eq]; have := WF.len; omega), ?_⟩
              refine ⟨_, putS g2 k ml, rfl, WF.put2 nrp npms nrms nrr0 (Same.refl _) (by rw [eg]; exact hk) ⟨vz.1, vz.2.1, vz.2.2.1, List.mem_append_left _ mlm⟩, ?_, ?_, fun q' hq' => ?_⟩
              · rw [putS_keys (by rw [eg]; exact hk), eg]
              · rw [upd_ne nDr]
                exact hDF
              · obtain ⟨k', hk', f⟩ := hqF q' hq'
                exact ⟨k', hk', by rw [upd_ne (fun z => by rw [z, WF.fr] at f; cases f)]; exact f⟩
            · rintro σ F ⟨x12, g2, rfl, WF, eg, hDF, hqF⟩
              have lg := congrArg List.length eg
              rw [List.length_map, List.length_map] at lg
              exact go x12 F g2 ⟨WF, by omega⟩
        case no => exact go x12 G1 g ⟨W1, sl36⟩
      case hh =>
        obtain ⟨ro, rc, ra, rs, rrw, rg⟩ := rd W.but
        have em : mergeK [] (kvO c a ms rr) = kvO c a ms rr := by rfl
        intro o2 no2
        have u0 := same_new no2 (.dK [])
        refine ⟨_, rfl, o, _, rfl, dK "calls" _ (u0 _ _ ro), _, rfl, o, _, rfl, dK "answers" _ (u0 _ _ ro), _, rfl, _, rfl, upd_same, kvO c a ms rr, rfl, (by show 4 ≤ 15; decide), ?_⟩
        rw [em, upd_upd]
        have u1 := same_new no2 (.dK (kvO c a ms rr))
        have ho : (upd G o2 (.dK (kvO c a ms rr))) o2 = some (.dK (kvO c a ms rr)) := upd_same
        have npo2 := lne W.pot no2
        show _
        generalize upd G o2 (.dK (kvO c a ms rr)) = G9 at u1 ho ⊢
        refine q o2 ⟨D.calls, D.answers, M, g⟩ G9 (W.but.trans (But.of u1)) ((W.pot.same u1).mono (by omega)) ⟨dr.cn, dr.an, ndM, dr.c1, dr.a1, ⟨by show 1 ≤ M.length; omega, by show M.length ≤ 4; omega⟩, dr.cw, dr.aw, fun x hx => poolM_w x (memM x hx), fun h => poolM_nb (memM _ h), W.nd, W.ok, sl⟩
          ⟨c, a, ms, rr, mk_of npo2 ho, mk_of npc (u1 _ _ rc), mk_of npa (u1 _ _ ra), mk_of npms (u1 _ _ W.fm), mk_of nrp (u1 _ _ W.fr)⟩
end
end K55
set_option Elab.async false
set_option linter.all false
set_option maxRecDepth 100000
set_option maxHeartbeats 1600000
/-! The text of a watch. -/
namespace LG
open PySem L2
def stepOf (e : (Str × Str × Str) × Str) : Str := Txt.join sp1 ["step", e.1.1, e.1.2.1, e.1.2.2, e.2]
def headsW (W : Wat) : List Str := [("calls " : Str) ++ Txt.join sp1 W.calls, ("answers " : Str) ++ Txt.join sp1 W.answers, ("marks " : Str) ++ Txt.join sp1 W.marks]
def linesW (W : Wat) : List Str := headsW W ++ W.steps.map stepOf
def textW (W : Wat) : Str := Txt.join nl1 (linesW W)
theorem brk_name : isNameB BRK = true := by decide +kernel
theorem step_name : isNameB "step" = true := by decide +kernel
theorem DrawnW.names {W : Wat} (d : DrawnW W) {e : (Str × Str × Str) × Str} (h : e ∈ W.steps) : ∀ t ∈ ([("step" : Str), e.1.1, e.1.2.1, e.1.2.2, e.2] : List Str), isNameB t = true := by
  obtain ⟨h1, h2, h3, h4⟩ := d.vals e h
  intro t ht
  simp only [List.mem_cons, List.not_mem_nil, or_false] at ht
  rcases ht with rfl | rfl | rfl | rfl | rfl
  · exact step_name
  · exact d.mw _ h1
  · exact d.cw _ h2
  · exact d.aw _ h3
  · rcases List.mem_append.mp h4 with h4 | h4
    · exact d.mw _ h4
    · rw [List.mem_singleton.mp h4]
      exact brk_name
theorem names_join {ts : List Str} (h : ∀ t ∈ ts, isNameB t = true) (hl : ts.length ≤ 5) : TOk 45 (Txt.join sp1 ts) := by
  refine ⟨?_, join_asc sep_asc.1 fun t ht => name_asc (h t ht)⟩
  have := join_le1 sp1_1 (k := 8) (ts := ts) fun t ht => name_len (h t ht)
  omega
theorem headsW_eq {W : Wat} (d : DrawnW W) : headsW W = [Txt.join sp1 ("calls" :: W.calls), Txt.join sp1 ("answers" :: W.answers), Txt.join sp1 ("marks" :: W.marks)] := by
  have ne : ∀ {l : List Str} {n : Nat}, 1 ≤ n → n ≤ l.length → l ≠ [] := by
    intro l n h1 h2 e
    rw [e] at h2
    simp at h2
    omega
  have e1 : ("calls " : Str) = "calls" ++ sp1 := by decide +kernel
  have e2 : ("answers " : Str) = "answers" ++ sp1 := by decide +kernel
  have e3 : ("marks " : Str) = "marks" ++ sp1 := by decide +kernel
  unfold headsW
  rw [e1, e2, e3, head_line (ne (Nat.le_refl 1) d.c1.1), head_line (ne (by decide) d.a1.1), head_line (ne (Nat.le_refl 1) d.m1.1)]
theorem DrawnW.lines {W : Wat} (d : DrawnW W) : ∀ t ∈ linesW W, TOk 45 t := by
  have c1 := d.c1
  have a1 := d.a1
  have m1 := d.m1
  have cons : ∀ {w : Str} {ns : List Str}, isNameB w = true → (∀ x ∈ ns, isNameB x = true) → ns.length ≤ 4 → TOk 45 (Txt.join sp1 (w :: ns)) := by
    intro w ns hw hn hl
    refine names_join (fun t ht => ?_) (by rw [List.length_cons]; omega)
    rcases List.mem_cons.mp ht with rfl | ht
    · exact hw
    · exact hn t ht
  intro t ht
  unfold linesW at ht
  rw [headsW_eq d] at ht
  rcases List.mem_append.mp ht with ht | ht
  · simp only [List.mem_cons, List.not_mem_nil, or_false] at ht
    rcases ht with rfl | rfl | rfl
    · exact cons (by decide +kernel) d.cw (by omega)
    · exact cons (by decide +kernel) d.aw (by omega)
    · exact cons (by decide +kernel) d.mw (by omega)
  · obtain ⟨e, he, rfl⟩ := List.mem_map.mp ht
    exact names_join (d.names he) (by show 5 ≤ 5; decide)
theorem linesW_len (W : Wat) : (linesW W).length = 3 + W.steps.length := by
  unfold linesW
  rw [List.length_append, List.length_map]
  rfl
theorem DrawnW.text {W : Wat} (d : DrawnW W) : TOk 3000 (textW W) := by
  refine ⟨?_, join_asc sep_asc.2 fun t ht => (d.lines t ht).asc⟩
  have h1 := join_le1 nl1_1 (k := 45) (ts := linesW W) fun t ht => (d.lines t ht).len
  have := d.sl
  rw [linesW_len] at h1
  have h2 := Nat.mul_le_mul_right (45 + 1) (show 3 + W.steps.length ≤ 39 by omega)
  exact Nat.le_trans h1 (by omega)
theorem DrawnW.no10 {W : Wat} (d : DrawnW W) : ∀ t ∈ linesW W, 10 ∉ TL.tl t := by
  have cons : ∀ {w : Str} {ns : List Str}, (10 : Nat) ∉ TL.tl w → (∀ x ∈ ns, isNameB x = true) → 10 ∉ TL.tl (Txt.join sp1 (w :: ns)) := by
    intro w ns hw hn
    refine no10_join fun t ht => ?_
    rcases List.mem_cons.mp ht with rfl | ht
    · exact hw
    · exact no_sign (hn t ht) sign10
  intro t ht
  unfold linesW at ht
  rw [headsW_eq d] at ht
  rcases List.mem_append.mp ht with ht | ht
  · simp only [List.mem_cons, List.not_mem_nil, or_false] at ht
    rcases ht with rfl | rfl | rfl
    · exact cons (by decide +kernel) d.cw
    · exact cons (by decide +kernel) d.aw
    · exact cons (by decide +kernel) d.mw
  · obtain ⟨e, he, rfl⟩ := List.mem_map.mp ht
    exact no10_join fun t ht => no_sign (d.names he t ht) sign10
theorem DrawnW.split {W : Wat} (d : DrawnW W) : Txt.split (textW W) nl1 = linesW W := lines_join (by unfold linesW headsW; simp) d.no10
theorem look_none {g : Steps} {k : Str × Str × Str} (h : k ∉ g.map (·.1)) : g.lookup k = none := by
  induction g with
  | nil => rfl
  | cons e r ih =>
    obtain ⟨j, y⟩ := e
    have ne : ¬ k = j := fun z => h (by rw [z]; exact List.mem_cons_self)
    have nb : (k == j) = false := by simpa using ne
    have l : List.lookup k ((j, y) :: r) = List.lookup k r := by simp [List.lookup, nb]
    rw [l]
    exact ih fun z => h (List.mem_cons_of_mem _ z)
theorem DrawnW.goals_from {W : Wat} (d : DrawnW W) : ∀ {ks : Steps} {n : Nat} {g : Steps}, (∀ e ∈ ks, e ∈ W.steps) → (ks.map (·.1)).Nodup → (∀ e ∈ ks, e.1 ∉ g.map (·.1)) →
    goalsFrom W.calls W.answers W.marks (ks.map stepOf) n g = .inr (g ++ ks)
  | [], n, g, _, _, _ => by simp [goalsFrom]
  | e :: r, n, g, h, nd, out => by
    obtain ⟨n1, n2⟩ := List.nodup_cons.mp nd
    have he := h e List.mem_cons_self
    obtain ⟨h1, h2, h3, h4⟩ := d.vals e he
    have es : Txt.split (stepOf e) sp1 = [("step" : Str), e.1.1, e.1.2.1, e.1.2.2, e.2] := words_join (by simp) fun t ht => no_sign (d.names he t ht) sign32
    have hl : isLine ["step", e.1.1, e.1.2.1, e.1.2.2, e.2] W.calls W.answers W.marks = true := by
      have c4 : (W.marks ++ [BRK]).contains e.2 = true := List.contains_iff_mem.mpr h4
      have e0 : isLine ["step", e.1.1, e.1.2.1, e.1.2.2, e.2] W.calls W.answers W.marks = (decide (("step" : Str) = "step") && (W.marks.contains e.1.1 && (W.calls.contains e.1.2.1 && (W.answers.contains e.1.2.2 && (W.marks ++ [BRK]).contains e.2)))) := rfl
      rw [e0, c4, List.contains_iff_mem.mpr h1, List.contains_iff_mem.mpr h2, List.contains_iff_mem.mpr h3, decide_eq_true rfl]
      rfl
    have st : goalStep W.calls W.answers W.marks g (stepOf e) = some (g ++ [e]) := step_ok (g := g) (s := e.1.1) (c := e.1.2.1) (a := e.1.2.2) es hl (look_none (out e List.mem_cons_self))
    show (match goalStep W.calls W.answers W.marks g (stepOf e) with | none => _ | some g' => _) = _
    rw [st]
    have ih := goals_from d (ks := r) (n := n + 1) (g := g ++ [e]) (fun x hx => h x (List.mem_cons_of_mem _ hx)) n2 (fun x hx => by
      rw [List.map_append, List.mem_append]
      rintro (m | m)
      · exact out x (List.mem_cons_of_mem _ hx) m
      · have ex : x.1 = e.1 := by simpa using m
        exact n1 (show e.1 ∈ r.map (·.1) from by rw [← ex]; exact List.mem_map.mpr ⟨x, hx, rfl⟩))
    show goalsFrom W.calls W.answers W.marks (r.map stepOf) (n + 1) (g ++ [e]) = _
    rw [ih, List.append_assoc]
    rfl
theorem DrawnW.read {W : Wat} (d : DrawnW W) : parse (textW W) = .inr W := by
  have es := d.split
  have eL : linesW W = Txt.join sp1 ("calls" :: W.calls) :: Txt.join sp1 ("answers" :: W.answers) :: Txt.join sp1 ("marks" :: W.marks) :: W.steps.map stepOf := by
    unfold linesW
    rw [headsW_eq d]
    rfl
  have c1 := d.c1
  have a1 := d.a1
  have m1 := d.m1
  have i0 : headAt (linesW W) 0 = W.calls := by
    rw [eL]
    exact namesIn_of (by decide +kernel) d.cw d.cn (by omega) (by omega)
  have i1 : headAt (linesW W) 1 = W.answers := by
    rw [eL]
    exact namesIn_of (by decide +kernel) d.aw d.an (by omega) (by omega)
  have i2 : headAt (linesW W) 2 = W.marks := by
    rw [eL]
    exact namesIn_of (by decide +kernel) d.mw d.mn (by omega) (by omega)
  have ne : ∀ {l : List Str}, 1 ≤ l.length → l ≠ [] := by
    intro l h1 e
    rw [e] at h1
    simp at h1
  have eh : readHeads (linesW W) = ([W.calls, W.answers, W.marks], 0) := by
    unfold readHeads
    rw [i0, i1, i2, if_neg (ne c1.1), if_neg (ne (by omega)), if_neg (ne m1.1)]
  have eg : readGoals (linesW W) W.calls W.answers W.marks = .inr W.steps := by
    unfold readGoals
    have ed : (linesW W).drop 3 = W.steps.map stepOf := by
      rw [eL]
      rfl
    rw [ed, d.goals_from (fun _ h => h) d.kn (fun k _ => by simp), List.nil_append]
  rw [parse_heads (by rw [es]; exact eh) (g := []), es, eg, if_neg (by
    intro z
    exact d.nb (List.contains_iff_mem.mp z))]
end LG
namespace K55
open PySem L2 LG
section
variable {P : Program} {w : World} {K : PySem.W.Frag} {mg : Str → Option Value} {base : Heap}
def spWText (K : PySem.W.Frag) : Sp := fun vs H Q _ => ∃ (o : Addr) (W : Wat), vs = [.ref o] ∧ WatOwn H o W ∧ DrawnW W ∧ ∀ H', Same H H' → Q (.str (textW W)) H'
abbrev nWx : List Str := ["_law_watch_here", "_law_rows", "_law_key", "_law_goal"]
abbrev g23 (K : PySem.W.Frag) : TG := gTup K 2 (gCons (gName 2) (gCons (gName 3) gNil))
theorem scWx : FnScope nWx ["_law_watch_here"] (defScope sWText) := ⟨rfl, rfl, rfl, by decide +kernel, rfl, by decide +kernel, by decide +kernel⟩
theorem ok_wtext {f : Addr} {fd : FuncData} (F : Fun K "_law_watch_text" "_law_watch_text" sWText f fd) (T : Bltn mg) : FnOk P w K mg base CX0 1 f fd ["_law_watch_here"] (spWText K) := by
  refine F.ok scWx (fun vs H Q E h => ?_) (fun cdv A0 outer st H vs Q E hr h => ?_)
  · obtain ⟨o, W, rfl, _⟩ := h
    rfl
  obtain ⟨o, W, rfl, hO, dr, q⟩ := h
  have hu := hu_of hr
  refine' ⟨_, pss_cons (ps_set (i := 1) scWx.nd rfl (Or.inl rfl) (pe_lst (pa_cons (pe_op op_add_str pe_str (pe_join pe_str (pe_dget hu (pv 0) pe_str (fun _ _ => rfl)))) (pa_cons (pe_op op_add_str pe_str (pe_join pe_str (pe_dget hu (pv 0) pe_str (fun _ _ => rfl)))) pa_nil))))
    (pss_cons (ps_expr (pe_bm PySem.F.plainAttrs_list PySem.F.slot_list_append PySem.F.type_list_append mt_append (pv 1) (pa_cons (pe_op op_add_str pe_str (pe_join pe_str (pe_dget hu (pv 0) pe_str (fun _ _ => rfl)))) pa_nil)))
    (pss_one (ps_ret (pe_join pe_str (pe_op op_cat (pv 1) (pe_lock ?lc)))))), ?main⟩
  case lc =>
    exact pe_lc (te := tM1 (rJoinK K) (tC (.str " ")) (tOp rCat (tOp rCat (tLst (tCons (tC (.str "step")) tNil)) (tCB (fun xs H Q => ∃ p ys, xs = [.ref p] ∧ (SqL K H p ys ∨ SqT K H p ys) ∧ ∀ l, H l = none → Q (.ref l) (upd H l (.lst ys))) (tCons (tVar 2) tNil))) (tLst (tCons (tVar 3) tNil)))) (own := [("_law_key", 2), ("_law_goal", 3)]) (g := g23 K) (tt := tYes) rfl scWx.nd (pi_itemsT (pe_dget hu (pv 0) pe_str (fun _ _ => rfl))) (blkOk_by (own := [("_law_key", 2), ("_law_goal", 3)]) (N := nWx) (sc := defScope sWText) (by decide +kernel))
        (fun _ _ _ _ _ => by exact pg_tup rfl (pgs_cons (pg_name (i := 2) scWx.nd rfl (Or.inl rfl)) (pgs_cons (pg_name (i := 3) scWx.nd rfl (Or.inl rfl)) pgs_nil))) (fun _ _ _ _ _ => pts_nil)
        (fun _ _ _ _ _ => by exact pe_join pe_str (pe_op op_cat (pe_op op_cat (pe_lst (pa_cons pe_str pa_nil)) (pe_callTy call_list_of rfl T.list (by decide +kernel) (pa_cons (pv 2) pa_nil))) (pe_lst (pa_cons (pv 3) pa_nil))))
  case main =>
    obtain ⟨c, a, s, r, h1, h2, h3, h4, h5⟩ := hO
    have lc : ∀ t ∈ W.calls, t.length ≤ 8 := fun t h => name_len (dr.cw t h)
    have la : ∀ t ∈ W.answers, t.length ≤ 8 := fun t h => name_len (dr.aw t h)
    have ls : ∀ t ∈ W.marks, t.length ≤ 8 := fun t h => name_len (dr.mw t h)
    have c1 := dr.c1
    have a1 := dr.a1
    have s1 := dr.m1
    have jc := join_le1 sp1_1 lc
    have ja := join_le1 sp1_1 la
    have js := join_le1 sp1_1 ls
    have sc := sum_le lc
    have sa := sum_le la
    have ss := sum_le ls
    have dK := fun (x : Str) (G : Hp) (e : G o = some (.dK (kvO c a s r))) => DGet.k (k := Sum.inr x) e
    have sz := sizeLine_eq
    have n1 : sp1.length = 1 := sp1_1
    refine ⟨⟨_, rfl⟩, _, rfl, o, _, rfl, dK "calls" H h1, sp1, c, W.calls, rfl, rfl, .inl (SqL.of h2), by rw [n1]; omega, _, _, rfl, rfl, ?_, ⟨_, rfl⟩, _, rfl, o, _, rfl, dK "answers" H h1, sp1, a, W.answers, rfl, rfl, .inl (SqL.of h3), by rw [n1]; omega, _, _, rfl, rfl, ?_, (by show 2 ≤ sizeLine; decide), fun rw_ nr => ?_⟩
    · have e1 : ("calls " : Str).length = 6 := by decide +kernel
      rw [e1, sz]
      omega
    · have e1 : ("answers " : Str).length = 8 := by decide +kernel
      rw [e1, sz]
      omega
    have t1 := same_new nr (.lst [.str (("calls " : Str) ++ Txt.join sp1 W.calls), .str (("answers " : Str) ++ Txt.join sp1 W.answers)])
    have hr1 : (upd H rw_ (.lst [.str (("calls " : Str) ++ Txt.join sp1 W.calls), .str (("answers " : Str) ++ Txt.join sp1 W.answers)])) rw_ = some (.lst [.str (("calls " : Str) ++ Txt.join sp1 W.calls), .str (("answers " : Str) ++ Txt.join sp1 W.answers)]) := upd_same
    show _
    generalize upd H rw_ (.lst [.str (("calls " : Str) ++ Txt.join sp1 W.calls), .str (("answers " : Str) ++ Txt.join sp1 W.answers)]) = H1 at t1 hr1 ⊢
    refine ⟨_, rfl, .inl ⟨rfl, _, SqL.of hr1⟩, ⟨_, rfl⟩, _, rfl, o, _, rfl, dK "marks" H1 (t1 _ _ h1), sp1, s, W.marks, rfl, rfl, .inl (SqL.of (t1 _ _ h4)), by rw [n1]; omega, _, _, rfl, rfl, ?_, rw_, _, _, rfl, rfl, hr1, (by show 2 < sizeLine; decide), ?_⟩
    · have e1 : ("marks " : Str).length = 6 := by decide +kernel
      rw [e1, sz]
      omega
    have hr2 : (upd H1 rw_ (.lst ([.str (("calls " : Str) ++ Txt.join sp1 W.calls), .str (("answers " : Str) ++ Txt.join sp1 W.answers)] ++ [.str (("marks " : Str) ++ Txt.join sp1 W.marks)]))) rw_ = some (.lst ((headsW W).map V.str)) := upd_same
    have t2 : Same H (upd H1 rw_ (.lst ([.str (("calls " : Str) ++ Txt.join sp1 W.calls), .str (("answers " : Str) ++ Txt.join sp1 W.answers)] ++ [.str (("marks " : Str) ++ Txt.join sp1 W.marks)]))) := fun b u e => by
      rw [upd_ne (ne_of_none e nr)]
      exact t1 _ _ e
    generalize upd H1 rw_ (.lst ([.str (("calls " : Str) ++ Txt.join sp1 W.calls), .str (("answers " : Str) ++ Txt.join sp1 W.answers)] ++ [.str (("marks " : Str) ++ Txt.join sp1 W.marks)])) = H2 at hr2 t2 ⊢
    have hr5 := t2 _ _ h5
    refine ⟨⟨_, rfl⟩, _, rfl, r, _, hr5, trivial, fun od => ?_⟩
    have o_r : o ≠ r := fun z => by rw [z, h5] at h1; cases h1
    have hfz : (upd H2 r (.frz od (.dT (kvW W.steps)))) r = some (.frz od (.dT (kvW W.steps))) := upd_same
    have hoL : (upd H2 r (.frz od (.dT (kvW W.steps)))) o = some (.dK (kvO c a s r)) := by rw [upd_ne o_r]; exact t2 _ _ h1
    have back := fun (E : Hp) (e : Same (upd H2 r (.frz od (.dT (kvW W.steps)))) E) => unlock_same (K := K) hr5 e
    show _
    generalize upd H2 r (.frz od (.dT (kvW W.steps))) = HL at hfz hoL back ⊢
    refine ⟨_, rfl, o, _, rfl, dK "steps" HL hoL, r, od, kvW W.steps, rfl, hfz, fun D nD => ?_⟩
    have kl := kvW_len W.steps
    have sl := dr.sl
    refine lc_it walk_itemsT (D := D) (g := g23 K) (tt := tYes) (te := tM1 (rJoinK K) (tC (.str " ")) (tOp rCat (tOp rCat (tLst (tCons (tC (.str "step")) tNil)) (tCB (fun xs H Q => ∃ p ys, xs = [.ref p] ∧ (SqL K H p ys ∨ SqT K H p ys) ∧ ∀ l, H l = none → Q (.ref l) (upd H l (.lst ys))) (tCons (tVar 2) tNil))) (tLst (tCons (tVar 3) tNil)))) (vs := [2, 3])
      (fun j E => Same HL E ∧ E D = some (.lst ((W.steps.take j).map fun e => V.str (stepOf e)))) ⟨same_new nD _, upd_same⟩ (fun j E _ h => h.1 _ _ hfz) ?_ ?_
    · rintro j y E E' hj ⟨sE, hD⟩ ⟨T1, q1, k, v, hkv, hq1, rfl, nT, rfl⟩
      rw [kl] at hj
      have hjs : W.steps[j]? = some W.steps[j] := List.getElem?_eq_getElem hj
      have em : W.steps[j] ∈ W.steps := List.getElem_mem hj
      have et : W.steps.take (j + 1) = W.steps.take j ++ [W.steps[j]] := by rw [List.take_add_one, hjs]; rfl
      have ekv : k = kT3 W.steps[j].1 ∧ v = .str W.steps[j].2 := by
        unfold kvW at hkv
        rw [List.getElem?_map, hjs] at hkv
        cases hkv
        exact ⟨rfl, rfl⟩
      obtain ⟨rfl, rfl⟩ := ekv
      rw [et]
      generalize W.steps[j] = e at em hq1 nT ⊢
      have v0 := same_new nT (.tup [V.ref q1, .str e.2])
      have hT : (upd E T1 (.tup [V.ref q1, .str e.2])) T1 = some (.tup [V.ref q1, .str e.2]) := upd_same
      show _
      generalize upd E T1 (.tup [V.ref q1, .str e.2]) = E1 at v0 hT ⊢
      refine ⟨T1, _, rfl, .inl (.inl hT), rfl, _, _, rfl, _, _, rfl, rfl, rfl, ?_⟩
      refine ⟨⟨_, rfl⟩, (by show 1 ≤ sizeLine; decide), fun a1 na1 => ?_⟩
      have v1 := same_new na1 (.lst [V.str "step"])
      have ha1 : (upd E1 a1 (.lst [V.str "step"])) a1 = some (.lst [V.str "step"]) := upd_same
      show _
      generalize upd E1 a1 (.lst [V.str "step"]) = E2 at v1 ha1 ⊢
      have hq2 := v1 _ _ (v0 _ _ hq1)
      refine ⟨_, rfl, q1, _, rfl, .inr (.inl (.inl hq2)), fun a2 na2 => ?_⟩
      have ek : (kT3 e.1).map kV = [V.str e.1.1, .str e.1.2.1, .str e.1.2.2] := rfl
      rw [ek]
      have v2 := same_new na2 (.lst [V.str e.1.1, .str e.1.2.1, .str e.1.2.2])
      have ha2 : (upd E2 a2 (.lst [V.str e.1.1, .str e.1.2.1, .str e.1.2.2])) a2 = some (.lst [V.str e.1.1, .str e.1.2.1, .str e.1.2.2]) := upd_same
      show _
      generalize upd E2 a2 (.lst [V.str e.1.1, .str e.1.2.1, .str e.1.2.2]) = E3 at v2 ha2 ⊢
      refine ⟨a1, a2, _, _, rfl, rfl, v2 _ _ ha1, ha2, (by show 4 ≤ sizeLine; decide), fun a3 na3 => ?_⟩
      have v3 := same_new na3 (.lst ([V.str "step"] ++ [V.str e.1.1, .str e.1.2.1, .str e.1.2.2]))
      have ha3 : (upd E3 a3 (.lst ([V.str "step"] ++ [V.str e.1.1, .str e.1.2.1, .str e.1.2.2]))) a3 = some (.lst [V.str "step", V.str e.1.1, .str e.1.2.1, .str e.1.2.2]) := upd_same
      show _
      generalize upd E3 a3 (.lst ([V.str "step"] ++ [V.str e.1.1, .str e.1.2.1, .str e.1.2.2])) = E4 at v3 ha3 ⊢
      refine ⟨_, rfl, (by show 1 ≤ sizeLine; decide), fun a4 na4 => ?_⟩
      have v4 := same_new na4 (.lst [V.str e.2])
      have ha4 : (upd E4 a4 (.lst [V.str e.2])) a4 = some (.lst [V.str e.2]) := upd_same
      show _
      generalize upd E4 a4 (.lst [V.str e.2]) = E5 at v4 ha4 ⊢
      refine ⟨a3, a4, _, _, rfl, rfl, v4 _ _ ha3, ha4, (by show 5 ≤ sizeLine; decide), fun a5 na5 => ?_⟩
      have v5 := same_new na5 (.lst ([V.str "step", V.str e.1.1, .str e.1.2.1, .str e.1.2.2] ++ [V.str e.2]))
      have ha5 : (upd E5 a5 (.lst ([V.str "step", V.str e.1.1, .str e.1.2.1, .str e.1.2.2] ++ [V.str e.2]))) a5 = some (.lst ((["step", e.1.1, e.1.2.1, e.1.2.2, e.2] : List Str).map V.str)) := upd_same
      show _
      generalize upd E5 a5 (.lst ([V.str "step", V.str e.1.1, .str e.1.2.1, .str e.1.2.2] ++ [V.str e.2])) = E6 at v5 ha5 ⊢
      have v06 := ((((v0.trans v1).trans v2).trans v3).trans v4).trans v5
      have l8 := sum_le (k := 8) fun t ht => name_len (dr.names em t ht)
      refine ⟨sp1, a5, _, rfl, rfl, .inl (SqL.of ha5), ?_, ?_⟩
      · rw [n1]
        simp only [List.length_cons, List.length_nil] at l8 ⊢
        omega
      refine ⟨_, v06 _ _ hD, by rw [List.length_map, List.length_take, sz]; omega, fun c0 o0 hc => ?_, ?_⟩
      · rw [upd_ne (ne_of_none hc nD)]
        exact v06 _ _ (sE _ _ hc)
      · rw [upd_same, List.map_append]
        rfl
    · rintro E ⟨sE, hD⟩
      rw [kl, List.take_length] at hD
      refine ⟨sE _ _ hfz, ?_⟩
      have sHE := back E sE
      have nDr : D ≠ r := fun z => by rw [z, hfz] at nD; cases nD
      have hD2 : (upd E r (.dT (kvW W.steps))) D = some (.lst ((W.steps.map stepOf).map V.str)) := by
        rw [upd_ne nDr, List.map_map]
        exact hD
      show _
      generalize upd E r (.dT (kvW W.steps)) = E2 at sHE hD2 ⊢
      have hr3 := sHE _ _ hr2
      have len3 : ((headsW W).map V.str).length = 3 := rfl
      refine ⟨rw_, D, _, _, rfl, rfl, hr3, hD2, by rw [len3, List.length_map, List.length_map, sz]; omega, fun p3 np3 => ?_⟩
      have v3 := same_new np3 (.lst ((headsW W).map V.str ++ (W.steps.map stepOf).map V.str))
      have hp3 : (upd E2 p3 (.lst ((headsW W).map V.str ++ (W.steps.map stepOf).map V.str))) p3 = some (.lst ((linesW W).map V.str)) := by
        rw [upd_same, ← List.map_append]
        rfl
      have ll := sum_le (k := 45) fun t ht => (dr.lines t ht).len
      rw [linesW_len] at ll
      refine ⟨nl1, p3, linesW W, rfl, rfl, .inl (SqL.of hp3), ?_, q _ ((t2.trans sHE).trans v3)⟩
      rw [linesW_len, nl1_1]
      omega
end
end K55
set_option Elab.async false
set_option linter.all false
set_option maxRecDepth 100000
set_option maxHeartbeats 1600000
/-! A line of a watch's text is spoilt. -/
namespace LG
open PySem L2
theorem jlen_sum (ws : List Str) : (ws.map (·.length)).sum + ws.length * 1 = jlen ws := by
  induction ws with
  | nil => rfl
  | cons x r ih =>
    rw [jlen_cons, List.map_cons, List.sum_cons, List.length_cons]
    omega
theorem cut_mid (xs : List V) (a b : Nat) (h : a ≤ xs.length) : cutV xs (some (a : Int)) (some (b : Int)) = (xs.drop a).take (b - a) := by
  unfold cutV
  rw [HT.sIx_nat, HT.sIx_nat, Nat.min_eq_left h]
  rcases Nat.le_total b xs.length with h2 | h2
  · rw [Nat.min_eq_left h2]
  · rw [Nat.min_eq_right h2, List.take_of_length_le (by rw [List.length_drop]; exact Nat.le_refl _), List.take_of_length_le (by rw [List.length_drop]; omega)]
theorem const_ok {m : Nat} (t : Str) (h1 : t.length ≤ 9) (h2 : t.cps.toList.all (fun c => decide (c < 128)) = true) : TOk (m + 9) t := ⟨by omega, fun c hc => of_decide_eq_true (List.all_eq_true.mp h2 c hc)⟩
theorem pool_ok {w z : Str} (h : TOk 45 w) (hz : TOk 45 z) : ∀ t ∈ (["", "broken", "step", "marks", "calls", "nosuch", "Idle", "1a", "abcdefghi", z, w] : List Str), TOk 45 t := by
  intro t ht
  simp only [List.mem_cons, List.not_mem_nil, or_false] at ht
  rcases ht with rfl | rfl | rfl | rfl | rfl | rfl | rfl | rfl | rfl | rfl | rfl
  all_goals first
    | exact (const_ok (m := 0) _ (by decide +kernel) (by decide +kernel)).mono (by decide)
    | exact h
    | exact hz
theorem jlen_cut (ws : List Str) (k : Nat) : jlen (ws.take k) + jlen (ws.drop k) = jlen ws := by
  rw [← jlen_app, List.take_append_drop]
end LG
namespace K55
open PySem L2 LG
section
variable {P : Program} {w : World} {K : PySem.W.Frag} {mg : Str → Option Value} {base : Heap}
def spSpoilt (K : PySem.W.Frag) : Sp := fun vs H Q _ => ∃ (p l : Addr) (b : Nat) (ts : List Str), vs = [.ref p, .ref l] ∧ PotAt H p b ∧ b ≤ 50000 ∧ H l = some (.lst (ts.map V.str)) ∧ l ≠ p ∧ 1 ≤ ts.length ∧ ts.length ≤ 40 ∧ (∀ t ∈ ts, TOk 45 t) ∧
  ∀ (l2 : Addr) (us : List Str) (H' : Hp), But p H H' → PotAt H' p (b + 5) → H l2 = none → l2 ≠ p → H' l2 = some (.lst (us.map V.str)) → us.length ≤ ts.length + 1 → ts.length ≤ us.length + 1 → (∀ t ∈ us, TOk 95 t) → Q (.ref l2) H'
abbrev nSp : List Str := ["_law_pot_here", "_law_lines", "_law_way", "_law_at", "_law_words", "_law_spot", "_law_more"]
theorem scSpoilt : FnScope nSp ["_law_pot_here", "_law_lines"] (defScope sSpoilt) := ⟨rfl, rfl, rfl, by decide +kernel, rfl, by decide +kernel, by decide +kernel⟩
theorem ok_spoilt {f gt go : Addr} {fd gtd god : FuncData} (F : Fun K "_law_spoilt" "_law_spoilt" sSpoilt f fd) (T : Bltn mg)
    (GT : FnOk P w K mg base CX0 1 gt gtd ["_law_pot_here", "_law_upto"] spTake) (mT : mg "_law_take" = some (.ref gt)) (kT : PySem.W.keepIn K (.ref gt) = true) (bT : Binds K gtd ["_law_pot_here", "_law_upto"] [])
    (GO : FnOk P w K mg base CX0 2 go god ["_law_pot_here", "_law_some_here"] (spOf K)) (mO : mg "_law_of" = some (.ref go)) (kO : PySem.W.keepIn K (.ref go) = true) (bO : Binds K god ["_law_pot_here", "_law_some_here"] []) :
    FnOk P w K mg base CX0 3 f fd ["_law_pot_here", "_law_lines"] (spSpoilt K) := by
  refine F.ok scSpoilt (fun vs H Q E h => ?_) (fun cdv A0 outer st H vs Q E hr h => ?_)
  · obtain ⟨p, l, b, ts, rfl, _⟩ := h
    rfl
  obtain ⟨p, l, b, ts, rfl, hp, hb, hl, nlp, n1, n40, tok, q⟩ := h
  have r1 : Room 1 _ := hr.mono (by decide)
  refine' ⟨_, pss_cons ?wa (pss_cons ?if0 (pss_cons ?if1 (pss_cons ?words (pss_cons ?spot (pss_cons ?more (pss_cons ?words2 (pss_one ?re))))))), ?main⟩
  case wa =>
    exact ps_par (i := 2) (j := 3) rfl scSpoilt.nd rfl rfl (by decide) rfl rfl (pa_cons (pe_call GT r1 rfl mT kT bT .nil pass0 (pa_cons (pv 0) (pa_cons pe_int pa_nil))) (pa_cons (pe_call GT r1 rfl mT kT bT .nil pass0 (pa_cons (pv 0) (pa_cons (pe_callB call_len_seq rfl T.len PySem.boot_len (pa_cons (pv 1) pa_nil)) pa_nil))) pa_nil)) (by rfl)
  case if0 =>
    exact ps_if (pt_cmpR op_eq (pv 2) pe_int (nomark _)) (pss_one (ps_ret (pe_op op_cat (pe_slice sl_list (pv 1) po_none (po_some (pv 3))) (pe_slice sl_list (pv 1) (po_some (pe_op op_add (pv 3) pe_int)) po_none)))) pss_nil
  case if1 =>
    exact ps_if (pt_cmpR op_lt (pv 2) pe_int (nomark _)) (pss_one (ps_ret (pe_ifExp (pt_cmpR op_eq (pv 2) pe_int (nomark _)) (pe_op op_cat (pe_slice sl_list (pv 1) po_none (po_some (pe_op op_add (pv 3) pe_int))) (pe_slice sl_list (pv 1) (po_some (pv 3)) po_none))
      (pe_op op_cat (pe_op op_cat (pe_slice sl_list (pv 1) po_none (po_some (pv 3))) (pe_backL (pe_slice sl_list (pv 1) (po_some (pv 3)) (po_some (pe_op op_add (pv 3) pe_int))) (pe_un un_neg pe_int))) (pe_slice sl_list (pv 1) (po_some (pe_op op_add (pv 3) pe_int)) po_none))))) pss_nil
  case words => exact ps_set (i := 4) scSpoilt.nd rfl (Or.inl rfl) (pe_split (pe_ix ix_list (pv 1) (pv 3) (fun _ _ => rfl)) pe_str)
  case spot => exact ps_set (i := 5) scSpoilt.nd rfl (Or.inl rfl) (pe_call GT r1 rfl mT kT bT .nil pass0 (pa_cons (pv 0) (pa_cons (pe_callB call_len_seq rfl T.len PySem.boot_len (pa_cons (pv 4) pa_nil)) pa_nil)))
  case more =>
    exact ps_set (i := 6) scSpoilt.nd rfl (Or.inl rfl) (pe_lst (pa_cons pe_str (pa_cons pe_str (pa_cons pe_str (pa_cons pe_str (pa_cons pe_str (pa_cons pe_str (pa_cons pe_str (pa_cons pe_str (pa_cons pe_str (pa_cons (pe_ix ix_list (pv 4) (pe_un un_neg pe_int) (fun _ _ => rfl)) (pa_cons (pe_ix ix_list (pv 4) pe_int (fun _ _ => rfl)) pa_nil))))))))))))
  case words2 =>
    exact ps_set (i := 4) scSpoilt.nd rfl (Or.inl rfl) (pe_op op_cat (pe_op op_cat (pe_slice sl_list (pv 4) po_none (po_some (pv 5))) (pe_ifExp (pt_cmpR op_eq (pv 2) pe_int (nomark _)) (pe_lst pa_nil) (pe_lst (pa_cons (pe_call GO hr rfl mO kO bO .nil pass0 (pa_cons (pv 0) (pa_cons (pv 6) pa_nil))) pa_nil))))
      (pe_slice sl_list (pv 4) (po_some (pe_op op_add (pv 5) (pe_callTy call_int1 rfl T.int (by decide +kernel) (pa_cons (pe_cmpR op_ne (pv 2) pe_int (nomark _)) pa_nil)))) po_none))
  case re =>
    exact ps_ret (pe_op op_cat (pe_op op_cat (pe_slice sl_list (pv 1) po_none (po_some (pv 3))) (pe_lst (pa_cons (pe_join pe_str (pv 4)) pa_nil))) (pe_slice sl_list (pv 1) (po_some (pe_op op_add (pv 3) pe_int)) po_none))
  case main =>
    have tlen : (ts.map V.str).length = ts.length := List.length_map _
    refine ⟨_, rfl, p, 6, b, rfl, hp, by omega, by decide, by decide, fun wy H1 wy0 wy1 but1 pot1 => ?_⟩
    have hl1 := but1 _ _ hl nlp
    refine ⟨_, rfl, _, rfl, l, _, rfl, .inl (SqL.of hl1), p, _, b + 1, rfl, pot1, by omega, by rw [tlen]; omega, by rw [tlen]; omega, fun k1 H3 k10 k11 but2 pt3 => ⟨_, _, rfl, ?_⟩⟩
    obtain ⟨n, rfl⟩ := Int.eq_ofNat_of_zero_le k10
    have hn : n < ts.length := by rw [tlen] at k11; omega
    have b3 := but1.trans but2
    have hl3 := but2 _ _ hl1 nlp
    have tm := tok _ (List.getElem_mem hn)
    have fin := q
    have tok2 : ∀ t ∈ ts, TOk 95 t := fun t ht => (tok t ht).mono (by omega)
    have fresh_ : ∀ {G : Hp} {z : Addr} {k : Nat}, But p H G → PotAt G p k → G z = none → H z = none ∧ z ≠ p := fun {G z k} bG pG nz => by
      have np : z ≠ p := fun e => pG.there (by rw [← e]; exact nz)
      refine ⟨?_, np⟩
      cases e : H z with
      | none => rfl
      | some o =>
        have := bG _ _ e np
        rw [nz] at this
        cases this
    clear q but1 but2 pot1 hl1 k10 k11 tlen
    refine ⟨_, rfl, rfl, _, rfl, ite2 (fun c0 => ?_) (fun c0 => ?_)⟩
    · skip
      refine ⟨_, rfl, _, rfl, n, rfl, l, _, rfl, SqL.of (hl3), fun p1 np1 => ?_⟩
      rw [cut_upto, ← List.map_take]
      have u1 := same_new np1 (.lst ((ts.take (n)).map V.str))
      have hp1 : (upd H3 p1 (.lst ((ts.take (n)).map V.str))) p1 = some (.lst ((ts.take (n)).map V.str)) := upd_same
      show _
      generalize upd H3 p1 (.lst ((ts.take (n)).map V.str)) = G1 at u1 hp1 ⊢
      refine ⟨_, rfl, _, rfl, _, _, rfl, rfl, n + 1, rfl, l, _, rfl, SqL.of (u1 _ _ hl3), fun p2 np2 => ?_⟩
      rw [show ((n : Nat) : Int) + 1 = ((n + 1 : Nat) : Int) from rfl]
      rw [cut_from, ← List.map_drop]
      have u2 := same_new np2 (.lst ((ts.drop (n + 1)).map V.str))
      have hp2 : (upd G1 p2 (.lst ((ts.drop (n + 1)).map V.str))) p2 = some (.lst ((ts.drop (n + 1)).map V.str)) := upd_same
      show _
      generalize upd G1 p2 (.lst ((ts.drop (n + 1)).map V.str)) = G2 at u2 hp2 ⊢
      refine ⟨p1, p2, _, _, rfl, rfl, u2 _ _ hp1, hp2, by simp only [List.length_map, List.length_append, List.length_take, List.length_drop, List.length_reverse, List.length_cons, List.length_nil]; rw [sizeLine_eq]; omega, fun p3 np3 => ?_⟩
      rw [← List.map_append]
      have u3 := same_new np3 (.lst ((ts.take n ++ ts.drop (n + 1)).map V.str))
      have hp3 : (upd G2 p3 (.lst ((ts.take n ++ ts.drop (n + 1)).map V.str))) p3 = some (.lst ((ts.take n ++ ts.drop (n + 1)).map V.str)) := upd_same
      show _
      generalize upd G2 p3 (.lst ((ts.take n ++ ts.drop (n + 1)).map V.str)) = G3 at u3 hp3 ⊢
      refine fin p3 (ts.take n ++ ts.drop (n + 1)) _ (b3.trans (But.of ((u1.trans u2).trans u3))) ((pt3.same ((u1.trans u2).trans u3)).mono (by omega)) (fresh_ (b3.trans (But.of (u1.trans u2))) (pt3.same (u1.trans u2)) np3).1 (fresh_ (b3.trans (But.of (u1.trans u2))) (pt3.same (u1.trans u2)) np3).2 hp3 (by simp only [List.length_append, List.length_take, List.length_drop, List.length_reverse, List.length_cons, List.length_nil]; omega) (by simp only [List.length_append, List.length_take, List.length_drop, List.length_reverse, List.length_cons, List.length_nil]; omega) fun t ht => ?_
      rcases List.mem_append.mp ht with ht | ht
      · exact tok2 t (List.mem_of_mem_take ht)
      · exact tok2 t (List.mem_of_mem_drop ht)
    refine ⟨_, rfl, _, _, rfl, rfl, _, rfl, ite2 (fun c1 => ?_) (fun c1 => ?_)⟩
    · refine ⟨_, rfl, rfl, _, rfl, ite2 (fun c2 => ?_) (fun c2 => ?_)⟩
      · skip
        refine ⟨_, rfl, _, rfl, _, _, rfl, rfl, n + 1, rfl, l, _, rfl, SqL.of (hl3), fun p1 np1 => ?_⟩
        rw [show ((n : Nat) : Int) + 1 = ((n + 1 : Nat) : Int) from rfl]
        rw [cut_upto, ← List.map_take]
        have u1 := same_new np1 (.lst ((ts.take (n + 1)).map V.str))
        have hp1 : (upd H3 p1 (.lst ((ts.take (n + 1)).map V.str))) p1 = some (.lst ((ts.take (n + 1)).map V.str)) := upd_same
        show _
        generalize upd H3 p1 (.lst ((ts.take (n + 1)).map V.str)) = G1 at u1 hp1 ⊢
        refine ⟨_, rfl, _, rfl, n, rfl, l, _, rfl, SqL.of (u1 _ _ hl3), fun p2 np2 => ?_⟩
        rw [cut_from, ← List.map_drop]
        have u2 := same_new np2 (.lst ((ts.drop (n)).map V.str))
        have hp2 : (upd G1 p2 (.lst ((ts.drop (n)).map V.str))) p2 = some (.lst ((ts.drop (n)).map V.str)) := upd_same
        show _
        generalize upd G1 p2 (.lst ((ts.drop (n)).map V.str)) = G2 at u2 hp2 ⊢
        refine ⟨p1, p2, _, _, rfl, rfl, u2 _ _ hp1, hp2, by simp only [List.length_map, List.length_append, List.length_take, List.length_drop, List.length_reverse, List.length_cons, List.length_nil]; rw [sizeLine_eq]; omega, fun p3 np3 => ?_⟩
        rw [← List.map_append]
        have u3 := same_new np3 (.lst ((ts.take (n + 1) ++ ts.drop n).map V.str))
        have hp3 : (upd G2 p3 (.lst ((ts.take (n + 1) ++ ts.drop n).map V.str))) p3 = some (.lst ((ts.take (n + 1) ++ ts.drop n).map V.str)) := upd_same
        show _
        generalize upd G2 p3 (.lst ((ts.take (n + 1) ++ ts.drop n).map V.str)) = G3 at u3 hp3 ⊢
        refine fin p3 (ts.take (n + 1) ++ ts.drop n) _ (b3.trans (But.of ((u1.trans u2).trans u3))) ((pt3.same ((u1.trans u2).trans u3)).mono (by omega)) (fresh_ (b3.trans (But.of (u1.trans u2))) (pt3.same (u1.trans u2)) np3).1 (fresh_ (b3.trans (But.of (u1.trans u2))) (pt3.same (u1.trans u2)) np3).2 hp3 (by simp only [List.length_append, List.length_take, List.length_drop, List.length_reverse, List.length_cons, List.length_nil]; omega) (by simp only [List.length_append, List.length_take, List.length_drop, List.length_reverse, List.length_cons, List.length_nil]; omega) fun t ht => ?_
        rcases List.mem_append.mp ht with ht | ht
        · exact tok2 t (List.mem_of_mem_take ht)
        · exact tok2 t (List.mem_of_mem_drop ht)
      · skip
        refine ⟨_, rfl, _, rfl, n, rfl, l, _, rfl, SqL.of (hl3), fun p1 np1 => ?_⟩
        rw [cut_upto, ← List.map_take]
        have u1 := same_new np1 (.lst ((ts.take (n)).map V.str))
        have hp1 : (upd H3 p1 (.lst ((ts.take (n)).map V.str))) p1 = some (.lst ((ts.take (n)).map V.str)) := upd_same
        show _
        generalize upd H3 p1 (.lst ((ts.take (n)).map V.str)) = G1 at u1 hp1 ⊢
        refine ⟨_, rfl, _, rfl, n, rfl, _, rfl, _, _, rfl, rfl, n + 2, rfl, l, _, rfl, SqL.of (u1 _ _ hl3), fun p2 np2 => ?_⟩
        rw [show ((n : Nat) : Int) + 2 = ((n + 2 : Nat) : Int) from rfl, cut_mid _ _ _ (by rw [List.length_map]; omega), ← List.map_drop, ← List.map_take]
        have u2 := same_new np2 (.lst (((ts.drop n).take (n + 2 - n)).map V.str))
        have hp2 : (upd G1 p2 (.lst (((ts.drop n).take (n + 2 - n)).map V.str))) p2 = some (.lst (((ts.drop n).take (n + 2 - n)).map V.str)) := upd_same
        show _
        generalize upd G1 p2 (.lst (((ts.drop n).take (n + 2 - n)).map V.str)) = G2 at u2 hp2 ⊢
        refine ⟨1, rfl, p2, _, rfl, rfl, SqL.of hp2, fun p3 np3 => ?_⟩
        rw [← List.map_reverse]
        have u3 := same_new np3 (.lst ((((ts.drop n).take (n + 2 - n)).reverse).map V.str))
        have hp3 : (upd G2 p3 (.lst ((((ts.drop n).take (n + 2 - n)).reverse).map V.str))) p3 = some (.lst ((((ts.drop n).take (n + 2 - n)).reverse).map V.str)) := upd_same
        show _
        generalize upd G2 p3 (.lst ((((ts.drop n).take (n + 2 - n)).reverse).map V.str)) = G3 at u3 hp3 ⊢
        refine ⟨p1, p3, _, _, rfl, rfl, (u2.trans u3) _ _ hp1, hp3, by simp only [List.length_map, List.length_append, List.length_take, List.length_drop, List.length_reverse, List.length_cons, List.length_nil]; rw [sizeLine_eq]; omega, fun p4 np4 => ?_⟩
        rw [← List.map_append]
        have u4 := same_new np4 (.lst ((ts.take n ++ ((ts.drop n).take (n + 2 - n)).reverse).map V.str))
        have hp4 : (upd G3 p4 (.lst ((ts.take n ++ ((ts.drop n).take (n + 2 - n)).reverse).map V.str))) p4 = some (.lst ((ts.take n ++ ((ts.drop n).take (n + 2 - n)).reverse).map V.str)) := upd_same
        show _
        generalize upd G3 p4 (.lst ((ts.take n ++ ((ts.drop n).take (n + 2 - n)).reverse).map V.str)) = G4 at u4 hp4 ⊢
        have u14 := ((u1.trans u2).trans u3).trans u4
        refine ⟨_, rfl, _, rfl, _, _, rfl, rfl, n + 2, rfl, l, _, rfl, SqL.of (u14 _ _ hl3), fun p5 np5 => ?_⟩
        rw [show ((n : Nat) : Int) + 2 = ((n + 2 : Nat) : Int) from rfl]
        rw [cut_from, ← List.map_drop]
        have u5 := same_new np5 (.lst ((ts.drop (n + 2)).map V.str))
        have hp5 : (upd G4 p5 (.lst ((ts.drop (n + 2)).map V.str))) p5 = some (.lst ((ts.drop (n + 2)).map V.str)) := upd_same
        show _
        generalize upd G4 p5 (.lst ((ts.drop (n + 2)).map V.str)) = G5 at u5 hp5 ⊢
        refine ⟨p4, p5, _, _, rfl, rfl, u5 _ _ hp4, hp5, by simp only [List.length_map, List.length_append, List.length_take, List.length_drop, List.length_reverse, List.length_cons, List.length_nil]; rw [sizeLine_eq]; omega, fun p6 np6 => ?_⟩
        rw [← List.map_append]
        have u6 := same_new np6 (.lst (((ts.take n ++ ((ts.drop n).take (n + 2 - n)).reverse) ++ ts.drop (n + 2)).map V.str))
        have hp6 : (upd G5 p6 (.lst (((ts.take n ++ ((ts.drop n).take (n + 2 - n)).reverse) ++ ts.drop (n + 2)).map V.str))) p6 = some (.lst (((ts.take n ++ ((ts.drop n).take (n + 2 - n)).reverse) ++ ts.drop (n + 2)).map V.str)) := upd_same
        show _
        generalize upd G5 p6 (.lst (((ts.take n ++ ((ts.drop n).take (n + 2 - n)).reverse) ++ ts.drop (n + 2)).map V.str)) = G6 at u6 hp6 ⊢
        refine fin p6 ((ts.take n ++ ((ts.drop n).take (n + 2 - n)).reverse) ++ ts.drop (n + 2)) _ (b3.trans (But.of ((u14.trans u5).trans u6))) ((pt3.same ((u14.trans u5).trans u6)).mono (by omega)) (fresh_ (b3.trans (But.of (u14.trans u5))) (pt3.same (u14.trans u5)) np6).1 (fresh_ (b3.trans (But.of (u14.trans u5))) (pt3.same (u14.trans u5)) np6).2 hp6 (by simp only [List.length_append, List.length_take, List.length_drop, List.length_reverse, List.length_cons, List.length_nil]; omega) (by simp only [List.length_append, List.length_take, List.length_drop, List.length_reverse, List.length_cons, List.length_nil]; omega) fun t ht => ?_
        rcases List.mem_append.mp ht with ht | ht
        · rcases List.mem_append.mp ht with ht | ht
          · exact tok2 t (List.mem_of_mem_take ht)
          · exact tok2 t (List.mem_of_mem_drop (List.mem_of_mem_take (List.mem_reverse.mp ht)))
        · exact tok2 t (List.mem_of_mem_drop ht)
    refine ⟨_, rfl, _, rfl, l, _, _, _, rfl, rfl, SqL.of hl3, atI_nat (j := n) (by rw [List.getElem?_map, List.getElem?_eq_getElem hn]; rfl), ⟨_, rfl⟩, ts[n], sp1, rfl, rfl, rfl, by rw [sizeLine_eq]; have := tm.len; omega, fun w0 nw0 => ?_⟩
    have wok := split_ok tm sp1_ne sp1_k sp1_1
    have wj := split_jlen ts[n]
    have wne := words_some ts[n]
    have tl45 := tm.len
    generalize Txt.split ts[n] sp1 = ws at wok wj wne nw0 ⊢
    have jm : jlen ws ≤ 46 := by omega
    have wl : ws.length ≤ 300 := by have e := jlen_sum ws; omega
    have wpos : 0 < ws.length := List.length_pos_iff.mpr wne
    have u4 := same_new nw0 (.lst ((ws).map V.str))
    have hw0 : (upd H3 w0 (.lst ((ws).map V.str))) w0 = some (.lst ((ws).map V.str)) := upd_same
    show _
    generalize upd H3 w0 (.lst ((ws).map V.str)) = H4 at u4 hw0 ⊢
    have hl4 := u4 _ _ hl3
    have pt4 := pt3.same u4
    have b4 := b3.trans (But.of u4)
    have nwp : w0 ≠ p := fun z => pt3.there (by rw [← z]; exact nw0)
    have wlen : (ws.map V.str).length = ws.length := List.length_map _
    refine ⟨_, rfl, _, rfl, w0, _, rfl, .inl (SqL.of hw0), p, _, b + 2, rfl, pt4, by omega, by rw [wlen]; omega, by rw [wlen]; omega, fun k3 H5 k30 k31 but5 pt5 => ?_⟩
    obtain ⟨sp, rfl⟩ := Int.eq_ofNat_of_zero_le k30
    have hsp : sp < ws.length := by rw [wlen] at k31; omega
    have hl5 := but5 _ _ hl4 nlp
    have hw5 := but5 _ _ hw0 nwp
    have b5 := b4.trans but5
    clear hw0 hl4 hl3 u4 pt4 pt3 b4 b3 but5 nw0 k30 k31 wlen hl
    have e0 : ws[0]? = some ws[0] := List.getElem?_eq_getElem wpos
    obtain ⟨w1, wz, ewz⟩ := last_of wpos
    have mz : wz ∈ ws := by rw [ewz]; exact List.mem_append_right _ List.mem_cons_self
    have atl : atI (ws.map V.str) (-1) = some (.str wz) := by rw [ewz, List.map_append]; exact atI_last _ _
    refine ⟨_, rfl, 1, rfl, w0, _, _, _, rfl, rfl, SqL.of hw5, atl, _, rfl, w0, _, _, _, rfl, rfl, SqL.of hw5, atI_nat (j := 0) (by rw [List.getElem?_map, e0]; rfl), (by show 11 ≤ sizeLine; decide), fun l7 nl7 => ?_⟩
    have pok := pool_ok (wok _ (List.getElem_mem wpos)) (wok _ mz)
    have pl : (["", "broken", "step", "marks", "calls", "nosuch", "Idle", "1a", "abcdefghi", wz, ws[0]] : List Str).length = 11 := rfl
    have eu : upd H5 l7 (.lst [V.str "", V.str "broken", V.str "step", V.str "marks", V.str "calls", V.str "nosuch", V.str "Idle", V.str "1a", V.str "abcdefghi", V.str wz, V.str ws[0]]) = upd H5 l7 (.lst ((["", "broken", "step", "marks", "calls", "nosuch", "Idle", "1a", "abcdefghi", wz, ws[0]] : List Str).map V.str)) := rfl
    rw [eu]
    clear eu
    generalize (["", "broken", "step", "marks", "calls", "nosuch", "Idle", "1a", "abcdefghi", wz, ws[0]] : List Str) = pool at pok pl ⊢
    have u6 := same_new nl7 (.lst ((pool).map V.str))
    have hl7 : (upd H5 l7 (.lst ((pool).map V.str))) l7 = some (.lst ((pool).map V.str)) := upd_same
    show _
    generalize upd H5 l7 (.lst ((pool).map V.str)) = H6 at u6 hl7 ⊢
    have n7p : l7 ≠ p := fun z => pt5.there (by rw [← z]; exact nl7)
    have hl6 := u6 _ _ hl5
    have hw6 := u6 _ _ hw5
    have pt6 := pt5.same u6
    have b6 := b5.trans (But.of u6)
    clear u6 hl5 hw5 pt5 b5 nl7 e0 atl
    have wasc : ∀ t ∈ ws, ∀ c ∈ TL.tl t, c < 128 := fun t ht => (wok t ht).asc
    refine ⟨_, rfl, _, rfl, sp, rfl, w0, _, rfl, SqL.of (hw6), fun p1 np1 => ?_⟩
    rw [cut_upto, ← List.map_take]
    have u7 := same_new np1 (.lst ((ws.take (sp)).map V.str))
    have hp1 : (upd H6 p1 (.lst ((ws.take (sp)).map V.str))) p1 = some (.lst ((ws.take (sp)).map V.str)) := upd_same
    show _
    generalize upd H6 p1 (.lst ((ws.take (sp)).map V.str)) = H7 at u7 hp1 ⊢
    have hl7q := u7 _ _ hl7
    have hl7 := u7 _ _ hl6
    have hw7 := u7 _ _ hw6
    have h1p : p1 ≠ p := fun z => pt6.there (by rw [← z]; exact np1)
    have pt7 := pt6.same u7
    have b7 := b6.trans (But.of u7)
    refine ⟨_, rfl, rfl, _, rfl, ite2 (fun _ => ?a) (fun _ => ?b)⟩
    case' a =>
      refine ⟨(by show 0 ≤ sizeLine; decide), fun p2 np2 => ?_⟩
      have u8 := same_new np2 (.lst (([] : List Str).map V.str))
      have hp2 : (upd H7 p2 (.lst (([] : List Str).map V.str))) p2 = some (.lst (([] : List Str).map V.str)) := upd_same
      have eu : upd H7 p2 (.lst []) = upd H7 p2 (.lst (([] : List Str).map V.str)) := rfl
      rw [eu]
      show _
      generalize upd H7 p2 (.lst (([] : List Str).map V.str)) = HZ at u8 hp2 ⊢
      have hlz := u8 _ _ hl7
      have hwz := u8 _ _ hw7
      have h1z := u8 _ _ hp1
      have ptz : PotAt HZ p (b + 5) := (pt7.same u8).mono (by omega)
      have bz := b7.trans (But.of u8)
      have mok : ∀ t ∈ ([] : List Str), TOk 45 t := fun t ht => nomatch ht
      have ml : ([] : List Str).length ≤ 1 := Nat.zero_le _
      clear eu
      generalize ([] : List Str) = mid at mok ml hp2
    case' b =>
      refine ⟨_, rfl, _, rfl, p, l7, _, b + 3, rfl, pt7, by omega, SqL.of hl7q, by rw [List.length_map]; omega, by rw [List.length_map]; omega, n7p, fun x H8 hx but8 pt8 => ⟨(by show 1 ≤ sizeLine; decide), fun p2 np2 => ?_⟩⟩
      obtain ⟨fr, hfr, rfl⟩ := List.mem_map.mp hx
      have u8 := same_new np2 (.lst (([fr] : List Str).map V.str))
      have hp2 : (upd H8 p2 (.lst (([fr] : List Str).map V.str))) p2 = some (.lst (([fr] : List Str).map V.str)) := upd_same
      have eu : upd H8 p2 (.lst [V.str fr]) = upd H8 p2 (.lst (([fr] : List Str).map V.str)) := rfl
      rw [eu]
      show _
      generalize upd H8 p2 (.lst (([fr] : List Str).map V.str)) = HZ at u8 hp2 ⊢
      have hlz := u8 _ _ (but8 _ _ hl7 nlp)
      have hwz := u8 _ _ (but8 _ _ hw7 nwp)
      have h1z := u8 _ _ (but8 _ _ hp1 h1p)
      have ptz : PotAt HZ p (b + 5) := (pt8.same u8).mono (by omega)
      have bz := b7.trans (but8.trans (But.of u8))
      have mok : ∀ t ∈ ([fr] : List Str), TOk 45 t := fun t ht => by rw [List.mem_singleton.mp ht]; exact pok fr hfr
      have ml : ([fr] : List Str).length ≤ 1 := Nat.le_refl _
      clear eu
      generalize ([fr] : List Str) = mid at mok ml hp2
    all_goals
      refine ⟨p1, p2, _, _, rfl, rfl, h1z, hp2, by simp only [List.length_map, List.length_take]; rw [sizeLine_eq]; omega, fun p3 np3 => ?_⟩
      rw [← List.map_append]
      have jmid : jlen mid ≤ 46 := by
        match mid, ml, mok with
        | [], _, _ => exact Nat.zero_le _
        | [x], _, mok =>
          have := (mok x List.mem_cons_self).len
          have e : jlen [x] = x.length + 1 + jlen [] := jlen_cons x []
          have e2 : jlen [] = 0 := rfl
          omega
      have u9 := same_new np3 (.lst ((ws.take sp ++ mid).map V.str))
      have hp3 : (upd HZ p3 (.lst ((ws.take sp ++ mid).map V.str))) p3 = some (.lst ((ws.take sp ++ mid).map V.str)) := upd_same
      have hl9 := u9 _ _ hlz
      have hw9 := u9 _ _ hwz
      have b9 := bz.trans (But.of u9)
      have pt9 := ptz.same u9
      show _
      generalize upd HZ p3 (.lst ((ws.take sp ++ mid).map V.str)) = J1 at u9 hp3 hl9 hw9 b9 pt9 ⊢
      clear u9 h1z hp2 hlz hwz bz ptz u8
      obtain ⟨d, ed, d1⟩ : ∃ d : Nat, (if (!decide (V.int wy = V.int 5)) = true then (1 : Int) else 0) = ((d : Nat) : Int) ∧ d ≤ 1 := by
        by_cases c : (!decide (V.int wy = V.int 5)) = true
        · exact ⟨1, by rw [if_pos c]; rfl, Nat.le_refl _⟩
        · exact ⟨0, by rw [if_neg c]; rfl, Nat.zero_le _⟩
      refine ⟨_, rfl, _, rfl, _, rfl, rfl, .inr ⟨_, rfl, _, _, rfl, rfl, ?_⟩⟩
      rw [ed]
      refine ⟨((sp + d : Nat) : Int), by rw [Int.natCast_add], w0, _, rfl, SqL.of hw9, fun p4 np4 => ?_⟩
      rw [cut_from, ← List.map_drop]
      have v2 := same_new np4 (.lst ((ws.drop (sp + d)).map V.str))
      have hp4 : (upd J1 p4 (.lst ((ws.drop (sp + d)).map V.str))) p4 = some (.lst ((ws.drop (sp + d)).map V.str)) := upd_same
      show _
      generalize upd J1 p4 (.lst ((ws.drop (sp + d)).map V.str)) = J2 at v2 hp4 ⊢
      refine ⟨p3, p4, _, _, rfl, rfl, v2 _ _ hp3, hp4, by simp only [List.length_map, List.length_append, List.length_take, List.length_drop, List.length_reverse, List.length_cons, List.length_nil]; rw [sizeLine_eq]; omega, fun p5 np5 => ?_⟩
      rw [← List.map_append]
      have jw : jlen ((ws.take sp ++ mid) ++ ws.drop (sp + d)) ≤ 93 := by
        have e1 := jlen_cut ws sp
        have e2 := jlen_cut (ws.drop sp) d
        rw [List.drop_drop] at e2
        rw [jlen_app, jlen_app]
        omega
      have wa : ∀ t ∈ (ws.take sp ++ mid) ++ ws.drop (sp + d), ∀ c ∈ TL.tl t, c < 128 := fun t ht => by
        rcases List.mem_append.mp ht with ht | ht
        · rcases List.mem_append.mp ht with ht | ht
          · exact wasc t (List.mem_of_mem_take ht)
          · exact (mok t ht).asc
        · exact wasc t (List.mem_of_mem_drop ht)
      generalize (ws.take sp ++ mid) ++ ws.drop (sp + d) = wf at jw wa ⊢
      have v3 := same_new np5 (.lst ((wf).map V.str))
      have hp5 : (upd J2 p5 (.lst ((wf).map V.str))) p5 = some (.lst ((wf).map V.str)) := upd_same
      show _
      generalize upd J2 p5 (.lst ((wf).map V.str)) = J3 at v3 hp5 ⊢
      have v23 := v2.trans v3
      have hl3 := v23 _ _ hl9
      have pt3 := pt9.same v23
      have b3 := b9.trans (But.of v23)
      clear v23 v3 v2 hl9 pt9 b9 hp3 hp4 hw9 ed d1
      refine ⟨_, rfl, _, rfl, n, rfl, l, _, rfl, SqL.of (hl3), fun q1 nq1 => ?_⟩
      rw [cut_upto, ← List.map_take]
      have u1 := same_new nq1 (.lst ((ts.take (n)).map V.str))
      have hq1 : (upd J3 q1 (.lst ((ts.take (n)).map V.str))) q1 = some (.lst ((ts.take (n)).map V.str)) := upd_same
      show _
      generalize upd J3 q1 (.lst ((ts.take (n)).map V.str)) = G1 at u1 hq1 ⊢
      refine ⟨⟨_, rfl⟩, _, rfl, sp1, p5, wf, rfl, rfl, .inl (SqL.of (u1 _ _ hp5)), by rw [sp1_1, jlen_sum]; omega, (by show 1 ≤ sizeLine; decide), fun q2 nq2 => ?_⟩
      have tj : TOk 95 (Txt.join sp1 wf) := (join_ok wa jw).mono (by decide)
      generalize Txt.join sp1 wf = tn at tj nq2 ⊢
      have eu : upd G1 q2 (.lst [V.str tn]) = upd G1 q2 (.lst (([tn] : List Str).map V.str)) := rfl
      rw [eu]
      clear eu
      have u2 := same_new nq2 (.lst ((([tn] : List Str)).map V.str))
      have hq2 : (upd G1 q2 (.lst ((([tn] : List Str)).map V.str))) q2 = some (.lst ((([tn] : List Str)).map V.str)) := upd_same
      show _
      generalize upd G1 q2 (.lst ((([tn] : List Str)).map V.str)) = G2 at u2 hq2 ⊢
      refine ⟨q1, q2, _, _, rfl, rfl, u2 _ _ hq1, hq2, by simp only [List.length_map, List.length_append, List.length_take, List.length_drop, List.length_reverse, List.length_cons, List.length_nil]; rw [sizeLine_eq]; omega, fun q3 nq3 => ?_⟩
      rw [← List.map_append]
      have u3 := same_new nq3 (.lst ((ts.take n ++ [tn]).map V.str))
      have hq3 : (upd G2 q3 (.lst ((ts.take n ++ [tn]).map V.str))) q3 = some (.lst ((ts.take n ++ [tn]).map V.str)) := upd_same
      show _
      generalize upd G2 q3 (.lst ((ts.take n ++ [tn]).map V.str)) = G3 at u3 hq3 ⊢
      have u13 := (u1.trans u2).trans u3
      refine ⟨_, rfl, _, rfl, _, _, rfl, rfl, n + 1, rfl, l, _, rfl, SqL.of (u13 _ _ hl3), fun q4 nq4 => ?_⟩
      rw [show ((n : Nat) : Int) + 1 = ((n + 1 : Nat) : Int) from rfl]
      rw [cut_from, ← List.map_drop]
      have u4 := same_new nq4 (.lst ((ts.drop (n + 1)).map V.str))
      have hq4 : (upd G3 q4 (.lst ((ts.drop (n + 1)).map V.str))) q4 = some (.lst ((ts.drop (n + 1)).map V.str)) := upd_same
      show _
      generalize upd G3 q4 (.lst ((ts.drop (n + 1)).map V.str)) = G4 at u4 hq4 ⊢
      refine ⟨q3, q4, _, _, rfl, rfl, u4 _ _ hq3, hq4, by simp only [List.length_map, List.length_append, List.length_take, List.length_drop, List.length_reverse, List.length_cons, List.length_nil]; rw [sizeLine_eq]; omega, fun q5 nq5 => ?_⟩
      rw [← List.map_append]
      have u5 := same_new nq5 (.lst (((ts.take n ++ [tn]) ++ ts.drop (n + 1)).map V.str))
      have hq5 : (upd G4 q5 (.lst (((ts.take n ++ [tn]) ++ ts.drop (n + 1)).map V.str))) q5 = some (.lst (((ts.take n ++ [tn]) ++ ts.drop (n + 1)).map V.str)) := upd_same
      show _
      generalize upd G4 q5 (.lst (((ts.take n ++ [tn]) ++ ts.drop (n + 1)).map V.str)) = G5 at u5 hq5 ⊢
      refine fin q5 ((ts.take n ++ [tn]) ++ ts.drop (n + 1)) _ (b3.trans (But.of ((u13.trans u4).trans u5))) ((pt3.same ((u13.trans u4).trans u5)).mono (by omega)) (fresh_ (b3.trans (But.of (u13.trans u4))) (pt3.same (u13.trans u4)) nq5).1 (fresh_ (b3.trans (But.of (u13.trans u4))) (pt3.same (u13.trans u4)) nq5).2 hq5 (by simp only [List.length_append, List.length_take, List.length_drop, List.length_reverse, List.length_cons, List.length_nil]; omega) (by simp only [List.length_append, List.length_take, List.length_drop, List.length_reverse, List.length_cons, List.length_nil]; omega) fun t ht => ?_
      rcases List.mem_append.mp ht with ht | ht
      · rcases List.mem_append.mp ht with ht | ht
        · exact tok2 t (List.mem_of_mem_take ht)
        · rw [List.mem_singleton.mp ht]
          exact tj
      · exact tok2 t (List.mem_of_mem_drop ht)
end
end K55
set_option Elab.async false
set_option linter.all false
set_option maxRecDepth 100000
set_option maxHeartbeats 1600000
/-! The texts written by hand. -/
namespace LG
open PySem L2
def Trip (H : Hp) (v : V) : Prop := ∃ q a b c, v = .ref q ∧ H q = some (.tup [.str a, .str b, .str c]) ∧ TOk 1 a ∧ TOk 1 b ∧ TOk 1 c
theorem Trip.same {H H' : Hp} {v : V} (e : Same H H') (h : Trip H v) : Trip H' v := by
  obtain ⟨q, a, b, c, h1, h2, h3⟩ := h
  exact ⟨q, a, b, c, h1, e _ _ h2, h3⟩
theorem Trip.upd {H : Hp} {v : V} {f : Addr} {xs : List V} {o : HO} (hf : H f = some (.lst xs)) (h : Trip H v) : Trip (upd H f o) v := by
  obtain ⟨q, a, b, c, h1, h2, h3⟩ := h
  exact ⟨q, a, b, c, h1, by rw [upd_ne (fun z => by rw [z, hf] at h2; cases h2)]; exact h2, h3⟩
theorem sign_ok {z : Str} (h : z.cps.toList.all (fun c => decide (c < 128)) = true) {i c : Nat} (hc : z.cps[i]? = some c) : TOk 1 (⟨#[c]⟩ : Str) := by
  refine ⟨Nat.le_refl _, fun d hd => ?_⟩
  have e : d = c := by simpa [TL.tl] using hd
  rw [e]
  have m : c ∈ z.cps.toList := by
    rw [← Array.getElem?_toList] at hc
    exact List.mem_of_getElem? hc
  exact of_decide_eq_true (List.all_eq_true.mp h c m)
theorem TOk.app {m n : Nat} {a b : Str} (h : TOk m a) (h2 : TOk n b) : TOk (m + n) (a ++ b) := by
  refine ⟨by rw [strLen_append]; have := h.len; have := h2.len; omega, fun c hc => ?_⟩
  rw [TL.tl_append] at hc
  rcases List.mem_append.mp hc with hc | hc
  · exact h.asc c hc
  · exact h2.asc c hc
theorem lit_ok {m : Nat} (t : Str) (h1 : decide (t.length ≤ m) = true) (h2 : t.cps.toList.all (fun c => decide (c < 128)) = true) : TOk m t := ⟨of_decide_eq_true h1, fun c hc => of_decide_eq_true (List.all_eq_true.mp h2 c hc)⟩
end LG
namespace K55
open PySem L2 LG
section
variable {P : Program} {w : World} {K : PySem.W.Frag} {mg : Str → Option Value} {base : Heap}
def spThrees : Sp := fun vs H Q _ => vs = [] ∧ ∀ (f : Addr) (xs : List V) (H' : Hp), Same H H' → H f = none → H' f = some (.lst xs) → xs.length = 36 → (∀ v ∈ xs, Trip H' v) → Q (.ref f) H'
abbrev nTh : List Str := ["_law_found", "_law_mark", "_law_call", "_law_answer"]
theorem scTh : FnScope nTh [] (defScope sThrees) := ⟨rfl, rfl, rfl, by decide +kernel, rfl, by decide +kernel, by decide +kernel⟩
theorem ok_threes {f : Addr} {fd : FuncData} (F : Fun K "_law_threes" "_law_threes" sThrees f fd) : FnOk P w K mg base CX0 1 f fd [] spThrees := by
  refine F.ok scTh (fun vs H Q E h => ?_) (fun cdv A0 outer st H vs Q E hr h => ?_)
  · obtain ⟨rfl, _⟩ := h
    rfl
  obtain ⟨rfl, q⟩ := h
  refine' ⟨_, pss_cons (ps_set (i := 0) scTh.nd rfl (Or.inl rfl) (pe_lst pa_nil))
    (pss_cons (ps_for PassesOwn.never rfl (pi_str pe_str) (pg_name (i := 1) scTh.nd rfl (Or.inr rfl)) (pss_one (ps_for PassesOwn.never rfl (pi_str pe_str) (pg_name (i := 2) scTh.nd rfl (Or.inr rfl))
      (pss_one (ps_expr (pe_bm PySem.F.plainAttrs_list PySem.F.slot_list_extend PySem.F.type_list_extend mt_extend (pv 0) (pa_cons ?lc pa_nil)))))))
    (pss_one (ps_ret (pv 0)))), ?main⟩
  case lc =>
    exact pe_lc (te := tTup (tCons (tVar 1) (tCons (tVar 2) (tCons (tVar 3) tNil)))) (own := [("_law_answer", 3)]) (g := gName 3) (tt := tYes) rfl scTh.nd (pi_str pe_str) (blkOk_by (own := [("_law_answer", 3)]) (N := nTh) (sc := defScope sThrees) (by decide +kernel))
      (fun _ _ _ _ _ => pg_name (i := 3) scTh.nd rfl (Or.inl rfl)) (fun _ _ _ _ _ => pts_nil) (fun _ _ _ _ _ => by exact pe_tup (pa_cons (pv 1) (pa_cons (pv 2) (pa_cons (pv 3) pa_nil))))
  case main =>
    refine ⟨(by show 0 ≤ sizeLine; decide), fun fo nf => ?_⟩
    have s1 := same_new nf (.lst [])
    have hf : (upd H fo (.lst [])) fo = some (.lst []) := upd_same
    show _
    generalize upd H fo (.lst []) = H1 at s1 hf ⊢
    refine ⟨_, rfl, ?_⟩
    refine for_it walk_str (fun i σ G => ∃ x1 x2 x3 xs, σ = [some (.ref fo), x1, x2, x3] ∧ Same H G ∧ G fo = some (.lst xs) ∧ xs.length = 9 * i ∧ ∀ v ∈ xs, Trip G v) ⟨_, _, _, [], rfl, s1, hf, rfl, fun v hv => nomatch hv⟩ (fun _ _ _ _ _ => trivial) ?_ ?_
    · rintro i x σ G G' hi ⟨x1, x2, x3, xs, rfl, sG, hG, lx, tx⟩ ⟨rfl, c1, hc1, rfl⟩
      have k1 := sign_ok (by decide +kernel) hc1
      generalize (⟨#[c1]⟩ : Str) = m1 at k1 ⊢
      refine ⟨_, rfl, ?_⟩
      refine for_it walk_str (fun j σ G => ∃ x2 x3 xs, σ = [some (.ref fo), some (.str m1), x2, x3] ∧ Same H G ∧ G fo = some (.lst xs) ∧ xs.length = 9 * i + 3 * j ∧ ∀ v ∈ xs, Trip G v) ⟨_, _, xs, rfl, sG, hG, lx, tx⟩ (fun _ _ _ _ _ => trivial) ?_ ?_
      · rintro j y σ G G' hj ⟨x2, x3, xs, rfl, sG, hG, lx, tx⟩ ⟨rfl, c2, hc2, rfl⟩
        have k2 := sign_ok (by decide +kernel) hc2
        generalize (⟨#[c2]⟩ : Str) = m2 at k2 ⊢
        have hi4 : i < 4 := hi
        have hj3 : j < 3 := hj
        refine ⟨_, rfl, .inl ⟨rfl, _, SqL.of hG⟩, _, rfl, fun D nD => ?_⟩
        refine lc_it walk_str (D := D) (g := gName 3) (tt := tYes) (te := tTup (tCons (tVar 1) (tCons (tVar 2) (tCons (tVar 3) tNil)))) (vs := [3]) (fun k E => Same G' E ∧ ∃ ys, E D = some (.lst ys) ∧ ys.length = k ∧ ∀ v ∈ ys, Trip E v) ⟨same_new nD _, [], upd_same, rfl, fun v hv => nomatch hv⟩ (fun _ _ _ _ => trivial) ?_ ?_
        · rintro k z E E' hk ⟨sE, ys, hD, ly, ty⟩ ⟨rfl, c3, hc3, rfl⟩
          have k3 := sign_ok (by decide +kernel) hc3
          generalize (⟨#[c3]⟩ : Str) = m3 at k3 ⊢
          have hk3 : k < 3 := hk
          refine ⟨rfl, _, rfl, _, rfl, _, rfl, (by show 3 ≤ sizeLine; decide), fun t nt => ?_⟩
          have v1 := same_new nt (.tup [V.str m1, .str m2, .str m3])
          have ht : (upd E' t (.tup [V.str m1, .str m2, .str m3])) t = some (.tup [V.str m1, .str m2, .str m3]) := upd_same
          have hD1 := v1 _ _ hD
          show _
          generalize upd E' t (.tup [V.str m1, .str m2, .str m3]) = E1 at v1 ht hD1 ⊢
          refine ⟨_, hD1, by rw [ly, sizeLine_eq]; omega, fun b o h => ?_, ys ++ [.ref t], upd_same, by rw [List.length_append, ly]; rfl, fun v hv => ?_⟩
          · rw [upd_ne (ne_of_none h nD)]
            exact v1 _ _ (sE _ _ h)
          · rcases List.mem_append.mp hv with hv | hv
            · exact ((ty v hv).same v1).upd hD1
            · rw [List.mem_singleton.mp hv]
              exact Trip.upd hD1 ⟨t, m1, m2, m3, rfl, ht, k1, k2, k3⟩
        · rintro E ⟨sE, ys, hD, ly, ty⟩
          have ly : ys.length = 3 := ly
          have hf2 := sE _ _ hG
          refine ⟨fo, D, _, _, rfl, rfl, hf2, hD, by rw [lx, ly, sizeLine_eq]; omega, _, _, _, rfl, fun b o h => ?_, upd_same, by rw [List.length_append, lx, ly]; omega, fun v hv => ?_⟩
          · rw [upd_ne (ne_of_none h nf)]
            exact sE _ _ (sG _ _ h)
          · rcases List.mem_append.mp hv with hv | hv
            · exact ((tx v hv).same sE).upd hf2
            · exact (ty v hv).upd hf2
      · rintro σ G ⟨x2, x3, xs, rfl, sG, hG, lx, tx⟩
        exact ⟨_, _, _, xs, rfl, sG, hG, by rw [lx]; show 9 * i + 3 * 3 = _; omega, tx⟩
    · rintro σ G ⟨x1, x2, x3, xs, rfl, sG, hG, lx, tx⟩
      exact ⟨_, rfl, q fo xs G sG nf hG (by rw [lx]; rfl) tx⟩
end
end K55
set_option Elab.async false
set_option linter.all false
set_option maxRecDepth 100000
set_option maxHeartbeats 1600000
namespace K55
open PySem L2 LG
section
variable {P : Program} {w : World} {K : PySem.W.Frag} {mg : Str → Option Value} {base : Heap}
def spByHand : Sp := fun vs H Q _ => vs = [] ∧ ∀ (f : Addr) (L : List Str) (H' : Hp), Same H H' → H f = none → H' f = some (.lst (L.map V.str)) → L.length = 16 → (∀ t ∈ L, TOk 3900 t) → Q (.ref f) H'
abbrev nBh : List Str := ["_law_head_here", "_law_small", "_law_steps", "_law_mark", "_law_call", "_law_answer", "_law_found"]
abbrev g345 (K : PySem.W.Frag) : TG := gTup K 3 (gCons (gName 3) (gCons (gName 4) (gCons (gName 5) gNil)))
theorem scBh : FnScope nBh [] (defScope sByHand) := ⟨rfl, rfl, rfl, by decide +kernel, rfl, by decide +kernel, by decide +kernel⟩
abbrev rAddStr : R2 := fun x y H Q => ∃ i j, x = .str i ∧ y = .str j ∧ i.length + j.length ≤ sizeLine ∧ Q (.str (i ++ j)) H
abbrev teSt : TE := tOp rAddStr (tOp rAddStr (tOp rAddStr (tOp rAddStr (tOp rAddStr (tOp rAddStr (tC (.str "step ")) (tVar 3)) (tC (.str " "))) (tVar 4)) (tC (.str " "))) (tVar 5)) (tC (.str " broken"))
theorem ok_byhand {f g : Addr} {fd gd : FuncData} (F : Fun K "_law_by_hand" "_law_by_hand" sByHand f fd) (T : Bltn mg)
    (GT : FnOk P w K mg base CX0 1 g gd [] spThrees) (mT : mg "_law_threes" = some (.ref g)) (kT_ : PySem.W.keepIn K (.ref g) = true) (bT : Binds K gd [] []) : FnOk P w K mg base CX0 2 f fd [] spByHand := by
  refine F.ok scBh (fun vs H Q E h => ?_) (fun cdv A0 outer st H vs Q E hr h => ?_)
  · obtain ⟨rfl, _⟩ := h
    rfl
  obtain ⟨rfl, q⟩ := h
  refine' ⟨_, pss_cons ?two (pss_cons ?steps (pss_cons ?found (pss_cons ?e1 (pss_cons ?e2 (pss_cons ?e3 (pss_one ?re)))))), ?main⟩
  case two => exact ps_asg (pe_tup (pa_cons pe_str (pa_cons pe_str pa_nil))) (pg_tup rfl (pgs_cons (pg_name (i := 0) scBh.nd rfl (Or.inl rfl)) (pgs_cons (pg_name (i := 1) scBh.nd rfl (Or.inl rfl)) pgs_nil)))
  case steps =>
    exact ps_setLc (i := 2) (te := teSt) (tt := tYes) (own := [("_law_mark", 3), ("_law_call", 4), ("_law_answer", 5)]) (g := g345 K) rfl scBh.nd rfl rfl (sw_true rfl rfl rfl (by decide +kernel)) (pi_list (pe_call0 GT hr rfl mT kT_ bT .nil pass0))
      (blkOk_by (own := [("_law_mark", 3), ("_law_call", 4), ("_law_answer", 5)]) (N := nBh) (sc := defScope sByHand) (by decide +kernel)) (fun _ _ _ _ _ => by exact pg_tup rfl (pgs_cons (pg_name (i := 3) scBh.nd rfl (Or.inl rfl)) (pgs_cons (pg_name (i := 4) scBh.nd rfl (Or.inl rfl)) (pgs_cons (pg_name (i := 5) scBh.nd rfl (Or.inl rfl)) pgs_nil)))) (fun _ _ _ _ _ => pts_nil)
      (fun _ _ _ _ _ => by exact pe_op op_add_str (pe_op op_add_str (pe_op op_add_str (pe_op op_add_str (pe_op op_add_str (pe_op op_add_str pe_str (pv 3)) pe_str) (pv 4)) pe_str) (pv 5)) pe_str)
  case found =>
    exact ps_set (i := 6) scBh.nd rfl (Or.inl rfl) (pe_lst (pa_cons pe_str (pa_cons (pv 0) (pa_cons (pe_op op_add_str (pv 0) pe_str) (pa_cons (pe_join pe_str (pe_op op_cat (pe_lst (pa_cons (pv 0) pa_nil)) (pv 2))) (pa_cons (pe_join pe_str (pe_op op_cat (pe_op op_cat (pe_lst (pa_cons (pv 0) pa_nil)) (pv 2)) (pe_lst (pa_cons pe_str pa_nil)))) pa_nil))))))
  case e1 =>
    exact ps_expr (pe_bm PySem.F.plainAttrs_list PySem.F.slot_list_extend PySem.F.type_list_extend mt_extend (pv 6) (pa_cons (pe_lst (pa_cons (pe_op op_add_str (pv 0) pe_str) (pa_cons pe_str (pa_cons pe_str (pa_cons pe_str pa_nil))))) pa_nil))
  case e2 =>
    exact ps_expr (pe_bm PySem.F.plainAttrs_list PySem.F.slot_list_extend PySem.F.type_list_extend mt_extend (pv 6) (pa_cons (pe_lst (pa_cons pe_str pa_nil)) pa_nil))
  case e3 =>
    exact ps_expr (pe_bm PySem.F.plainAttrs_list PySem.F.slot_list_extend PySem.F.type_list_extend mt_extend (pv 6) (pa_cons (pe_lst (pa_cons (pe_op op_add_str (pv 1) pe_str) (pa_cons (pe_op op_add_str (pe_slice sl_str (pv 1) po_none (po_some (pe_un un_neg pe_int))) pe_str) (pa_cons pe_str pa_nil)))) pa_nil))
  case re =>
    exact ps_ret (pe_op op_cat (pv 6) (pe_lst (pa_cons (pe_op op_add_str (pv 1) pe_str) (pa_cons (pe_op op_add_str (pv 1) pe_str) (pa_cons (pe_op op_add_str (pv 1) pe_str) pa_nil)))))
  case main =>
    refine ⟨(by show 2 ≤ sizeLine; decide), fun t0 nt0 => ⟨t0, _, rfl, .inl (.inl upd_same), rfl, _, _, rfl, _, _, rfl, rfl, ?_⟩⟩
    have s0 := same_new nt0 (.tup [V.str "calls a b c\nanswers x y z\nmarks m n o p", .str "calls a\nanswers x y\nmarks m"])
    show _
    generalize upd H t0 (.tup [V.str "calls a b c\nanswers x y z\nmarks m n o p", .str "calls a\nanswers x y\nmarks m"]) = H0 at s0 ⊢
    have kh : TOk 50 ("calls a b c\nanswers x y z\nmarks m n o p" : Str) := lit_ok _ (by decide +kernel) (by decide +kernel)
    have ks : TOk 50 ("calls a\nanswers x y\nmarks m" : Str) := lit_ok _ (by decide +kernel) (by decide +kernel)
    have kc : TOk 50 (cutS ("calls a\nanswers x y\nmarks m" : Str) none (some (-1))) := lit_ok _ (by decide +kernel) (by decide +kernel)
    generalize ("calls a b c\nanswers x y z\nmarks m n o p" : Str) = hd at kh ⊢
    generalize ("calls a\nanswers x y\nmarks m" : Str) = sm at ks kc ⊢
    have sz := sizeLine_eq
    have lh := kh.len
    have ls := ks.len
    have lc := kc.len
    refine ⟨rfl, fun fo xs H1 s1 nf1 hfo l36 trip => ?_⟩
    refine ⟨fo, rfl, ⟨_, SqL.of hfo⟩, fun D nD => ?_⟩
    refine lc_it walk_list (D := D) (g := g345 K) (tt := tYes) (te := teSt) (vs := [3, 4, 5]) (fun j G => Same H1 G ∧ ∃ ts : List Str, G D = some (.lst (ts.map V.str)) ∧ ts.length = j ∧ ∀ t ∈ ts, TOk 30 t)
      ⟨same_new nD _, ([] : List Str), upd_same, rfl, fun t ht => nomatch ht⟩ (fun j G _ h => SqL.of (h.1 _ _ hfo)) ?_ ?_
    · rintro j y G G' hj ⟨sG, ts, hD, lt, tt⟩ ⟨rfl, hy⟩
      obtain ⟨q1, a, b, c, rfl, hq1, ka, kb, kcc⟩ := (trip y (List.mem_of_getElem? hy)).same sG
      have la := ka.len
      have lb := kb.len
      have lcc := kcc.len
      have k0 : TOk 5 ("step " : Str) := lit_ok _ (by decide +kernel) (by decide +kernel)
      have k1 : TOk 1 (" " : Str) := lit_ok _ (by decide +kernel) (by decide +kernel)
      have k2 : TOk 7 (" broken" : Str) := lit_ok _ (by decide +kernel) (by decide +kernel)
      refine ⟨q1, _, rfl, .inl (.inl hq1), rfl, _, _, rfl, _, _, rfl, _, _, rfl, rfl, rfl, ?_⟩
      have m1 := k0.app ka
      have m2 := m1.app k1
      have m3 := m2.app kb
      have m4 := m3.app k1
      have m5 := m4.app kcc
      have m6 := m5.app k2
      have l0 := k0.len
      have l1 := k1.len
      have l2 := k2.len
      refine ⟨_, rfl, _, _, rfl, rfl, by omega, _, _, rfl, rfl, by have := m1.len; omega, _, rfl, _, _, rfl, rfl, by have := m2.len; omega, _, _, rfl, rfl, by have := m3.len; omega, _, rfl, _, _, rfl, rfl, by have := m4.len; omega, _, _, rfl, rfl, by have := m5.len; omega, ?_⟩
      refine ⟨_, hD, by rw [List.length_map, lt, sz]; omega, fun b o h => ?_, ts ++ [("step " : Str) ++ a ++ (" " : Str) ++ b ++ (" " : Str) ++ c ++ (" broken" : Str)], by rw [upd_same, List.map_append]; rfl, by rw [List.length_append, lt]; rfl, fun t ht => ?_⟩
      · rw [upd_ne (ne_of_none h nD)]
        exact sG _ _ h
      · rcases List.mem_append.mp ht with ht | ht
        · exact tt t ht
        · rw [List.mem_singleton.mp ht]
          exact m6.mono (by omega)
    · rintro G ⟨sG, ts, hD, lt, tt⟩
      have lt : ts.length = 36 := lt.trans l36
      have sHG := (s0.trans s1).trans sG
      have nDH : H D = none := (s0.trans s1).free nD
      clear trip hfo sG s1 s0 nf1 nt0 l36 nD
      have bnd : ∀ us : List Str, (∀ t ∈ us, TOk 50 t) → us.length ≤ 38 → (us.map (·.length)).sum + us.length * nl1.length ≤ 16777216 ∧ TOk 3000 (Txt.join nl1 us) := fun us hu hl => by
        have h1 := sum_le (k := 50) fun t ht => (hu t ht).len
        have h2 := join_le1 nl1_1 (k := 50) fun t ht => (hu t ht).len
        have h3 := Nat.mul_le_mul_right (50 + 1) hl
        have h4 := Nat.mul_le_mul_right 50 hl
        rw [nl1_1]
        exact ⟨by omega, by omega, join_asc sep_asc.2 fun t ht => (hu t ht).asc⟩
      have hok : ∀ t ∈ hd :: ts, TOk 50 t := fun t ht => by
        rcases List.mem_cons.mp ht with rfl | ht
        · exact kh
        · exact (tt t ht).mono (by decide)
      obtain ⟨j1, j2⟩ := bnd (hd :: ts) hok (by rw [List.length_cons]; omega)
      have kx : TOk 50 ("step m a x n" : Str) := lit_ok _ (by decide +kernel) (by decide +kernel)
      obtain ⟨j3, j4⟩ := bnd (hd :: ts ++ [("step m a x n" : Str)]) (fun t ht => by
        rcases List.mem_append.mp ht with ht | ht
        · exact hok t ht
        · rw [List.mem_singleton.mp ht]
          exact kx) (by rw [List.length_append, List.length_cons]; show _ + 1 ≤ _; omega)
      have kn : TOk 1 ("\n" : Str) := lit_ok _ (by decide +kernel) (by decide +kernel)
      refine ⟨_, rfl, _, rfl, _, _, rfl, rfl, by have := kn.len; omega, ⟨_, rfl⟩, _, rfl, (by show 1 ≤ sizeLine; decide), fun a1 na1 => ?_⟩
      have v1 := same_new na1 (.lst (([hd] : List Str).map V.str))
      have ha1 : (upd G a1 (.lst (([hd] : List Str).map V.str))) a1 = some (.lst (([hd] : List Str).map V.str)) := upd_same
      have eu : upd G a1 (.lst [V.str hd]) = upd G a1 (.lst (([hd] : List Str).map V.str)) := rfl
      rw [eu]
      clear eu
      show _
      generalize upd G a1 (.lst (([hd] : List Str).map V.str)) = G1 at v1 ha1 ⊢
      refine ⟨_, rfl, a1, D, _, _, rfl, rfl, ha1, v1 _ _ hD, by rw [List.length_map, List.length_map, sz]; show 1 + _ ≤ _; omega, fun a2 na2 => ?_⟩
      rw [← List.map_append]
      have v2 := same_new na2 (.lst (([hd] ++ ts).map V.str))
      have ha2 : (upd G1 a2 (.lst (([hd] ++ ts).map V.str))) a2 = some (.lst (([hd] ++ ts).map V.str)) := upd_same
      show _
      generalize upd G1 a2 (.lst (([hd] ++ ts).map V.str)) = G2 at v2 ha2 ⊢
      refine ⟨nl1, a2, _, rfl, rfl, .inl (SqL.of ha2), j1, ⟨_, rfl⟩, _, rfl, (by show 1 ≤ sizeLine; decide), fun a3 na3 => ?_⟩
      have v3 := same_new na3 (.lst (([hd] : List Str).map V.str))
      have ha3 : (upd G2 a3 (.lst (([hd] : List Str).map V.str))) a3 = some (.lst (([hd] : List Str).map V.str)) := upd_same
      have eu : upd G2 a3 (.lst [V.str hd]) = upd G2 a3 (.lst (([hd] : List Str).map V.str)) := rfl
      rw [eu]
      clear eu
      show _
      generalize upd G2 a3 (.lst (([hd] : List Str).map V.str)) = G3 at v3 ha3 ⊢
      have v13 := (v1.trans v2).trans v3
      refine ⟨_, rfl, a3, D, _, _, rfl, rfl, ha3, v13 _ _ hD, by rw [List.length_map, List.length_map, sz]; show 1 + _ ≤ _; omega, fun a4 na4 => ?_⟩
      rw [← List.map_append]
      have v4 := same_new na4 (.lst (([hd] ++ ts).map V.str))
      have ha4 : (upd G3 a4 (.lst (([hd] ++ ts).map V.str))) a4 = some (.lst (([hd] ++ ts).map V.str)) := upd_same
      show _
      generalize upd G3 a4 (.lst (([hd] ++ ts).map V.str)) = G4 at v4 ha4 ⊢
      refine ⟨(by show 1 ≤ sizeLine; decide), fun a5 na5 => ?_⟩
      have v5 := same_new na5 (.lst (([("step m a x n" : Str)] : List Str).map V.str))
      have ha5 : (upd G4 a5 (.lst (([("step m a x n" : Str)] : List Str).map V.str))) a5 = some (.lst (([("step m a x n" : Str)] : List Str).map V.str)) := upd_same
      have eu : upd G4 a5 (.lst [V.str "step m a x n"]) = upd G4 a5 (.lst (([("step m a x n" : Str)] : List Str).map V.str)) := rfl
      rw [eu]
      clear eu
      show _
      generalize upd G4 a5 (.lst (([("step m a x n" : Str)] : List Str).map V.str)) = G5 at v5 ha5 ⊢
      refine ⟨a4, a5, _, _, rfl, rfl, v5 _ _ ha4, ha5, by rw [List.length_map, List.length_map, List.length_append, sz]; show 1 + _ + 1 ≤ _; omega, fun a6 na6 => ?_⟩
      rw [← List.map_append]
      have v6 := same_new na6 (.lst (([hd] ++ ts ++ [("step m a x n" : Str)]).map V.str))
      have ha6 : (upd G5 a6 (.lst (([hd] ++ ts ++ [("step m a x n" : Str)]).map V.str))) a6 = some (.lst (([hd] ++ ts ++ [("step m a x n" : Str)]).map V.str)) := upd_same
      show _
      generalize upd G5 a6 (.lst (([hd] ++ ts ++ [("step m a x n" : Str)]).map V.str)) = G6 at v6 ha6 ⊢
      have j2' : TOk 3000 (Txt.join nl1 ([hd] ++ ts)) := j2
      have j4' : TOk 3000 (Txt.join nl1 ([hd] ++ ts ++ [("step m a x n" : Str)])) := j4
      refine ⟨nl1, a6, _, rfl, rfl, .inl (SqL.of ha6), j3, (by show 5 ≤ sizeLine; decide), fun fo nfo => ?_⟩
      generalize Txt.join nl1 ([hd] ++ ts ++ [("step m a x n" : Str)]) = t4 at j4' nfo ⊢
      generalize Txt.join nl1 ([hd] ++ ts) = t2 at j2' nfo ⊢
      have v7 := same_new nfo (.lst (([("" : Str), hd, hd ++ ("\n" : Str), t2, t4] : List Str).map V.str))
      have h0 : (upd G6 fo (.lst (([("" : Str), hd, hd ++ ("\n" : Str), t2, t4] : List Str).map V.str))) fo = some (.lst (([("" : Str), hd, hd ++ ("\n" : Str), t2, t4] : List Str).map V.str)) := upd_same
      have eu : upd G6 fo (.lst [V.str "", V.str hd, V.str (hd ++ "\n"), V.str t2, V.str t4]) = upd G6 fo (.lst (([("" : Str), hd, hd ++ ("\n" : Str), t2, t4] : List Str).map V.str)) := rfl
      rw [eu]
      clear eu
      have kq : TOk 20 (" q" : Str) := lit_ok _ (by decide +kernel) (by decide +kernel)
      have sH6 := sHG.trans (((((v1.trans v2).trans v3).trans v4).trans v5).trans v6)
      have sH7 := sH6.trans v7
      have nfoH : H fo = none := sH6.free nfo
      have l0 : ∀ t ∈ ([("" : Str), hd, hd ++ ("\n" : Str), t2, t4] : List Str), TOk 3900 t := fun t ht => by
        simp only [List.mem_cons, List.not_mem_nil, or_false] at ht
        rcases ht with rfl | rfl | rfl | rfl | rfl
        · exact lit_ok _ (by decide +kernel) (by decide +kernel)
        · exact kh.mono (by decide)
        · exact (kh.app kn).mono (by decide)
        · exact j2'.mono (by decide)
        · exact j4'.mono (by decide)
      have ll0 : ([("" : Str), hd, hd ++ ("\n" : Str), t2, t4] : List Str).length = 5 := rfl
      show _
      generalize upd G6 fo (.lst (([("" : Str), hd, hd ++ ("\n" : Str), t2, t4] : List Str).map V.str)) = G7 at h0 sH7 ⊢
      generalize ([("" : Str), hd, hd ++ ("\n" : Str), t2, t4] : List Str) = L0 at h0 l0 ll0
      clear v1 v2 v3 v4 v5 v6 v7 v13 ha1 ha2 ha3 ha4 ha5 ha6 j1 j2 j3 j4 j2' j4' hok tt lt hD bnd na1 na2 na3 na4 na5 na6 nfo sHG sH6
      have ext : ∀ {G8 : Hp} {b : Addr} {L M : List Str}, G8 fo = some (.lst (L.map V.str)) → Same H G8 → G8 b = some (.lst (M.map V.str)) → Same H (upd G8 fo (.lst (L.map V.str ++ M.map V.str))) ∧ (upd G8 fo (.lst (L.map V.str ++ M.map V.str))) fo = some (.lst ((L ++ M).map V.str)) := fun h s hb => by
        refine ⟨fun c o hc => ?_, by rw [upd_same, List.map_append]⟩
        rw [upd_ne (ne_of_none hc nfoH)]
        exact s _ _ hc
      have kw : ∀ x : Str, x.length ≤ 60 → x.cps.toList.all (fun c => decide (c < 128)) = true → TOk 3900 x := fun x h1 h2 => ⟨by omega, fun c hc => of_decide_eq_true (List.all_eq_true.mp h2 c hc)⟩
      have kb : ∀ x : Str, TOk 60 x → TOk 3900 (sm ++ x) := fun x h => (ks.app h).mono (by decide)
      refine ⟨_, rfl, .inl ⟨rfl, _, SqL.of h0⟩, _, rfl, _, _, rfl, rfl, by have := kq.len; omega, (by show 4 ≤ sizeLine; decide), fun b1 nb1 => ?_⟩
      have m1s := same_new nb1 (.lst (([(hd ++ (" q" : Str)), ("calls a\nanswers x\nmarks m" : Str), ("calls a\nanswers x y" : Str), ("calls a" : Str)] : List Str).map V.str))
      have hb1 : (upd G7 b1 (.lst (([(hd ++ (" q" : Str)), ("calls a\nanswers x\nmarks m" : Str), ("calls a\nanswers x y" : Str), ("calls a" : Str)] : List Str).map V.str))) b1 = some (.lst (([(hd ++ (" q" : Str)), ("calls a\nanswers x\nmarks m" : Str), ("calls a\nanswers x y" : Str), ("calls a" : Str)] : List Str).map V.str)) := upd_same
      have eu : upd G7 b1 (.lst [V.str (hd ++ (" q" : Str)), V.str ("calls a\nanswers x\nmarks m" : Str), V.str ("calls a\nanswers x y" : Str), V.str ("calls a" : Str)]) = upd G7 b1 (.lst (([(hd ++ (" q" : Str)), ("calls a\nanswers x\nmarks m" : Str), ("calls a\nanswers x y" : Str), ("calls a" : Str)] : List Str).map V.str)) := rfl
      rw [eu]
      clear eu
      have h0' := m1s _ _ h0
      have sH' := sH7.trans m1s
      show _
      generalize upd G7 b1 (.lst (([(hd ++ (" q" : Str)), ("calls a\nanswers x\nmarks m" : Str), ("calls a\nanswers x y" : Str), ("calls a" : Str)] : List Str).map V.str)) = G8 at hb1 h0' sH' ⊢
      clear m1s h0 sH7
      have l1 : ∀ t ∈ ([(hd ++ (" q" : Str)), ("calls a\nanswers x\nmarks m" : Str), ("calls a\nanswers x y" : Str), ("calls a" : Str)] : List Str), TOk 3900 t := fun t ht => by
        simp only [List.mem_cons, List.not_mem_nil, or_false] at ht
        rcases ht with rfl | rfl | rfl | rfl
        · exact (kh.app kq).mono (by decide)
        · exact kw _ (by decide +kernel) (by decide +kernel)
        · exact kw _ (by decide +kernel) (by decide +kernel)
        · exact kw _ (by decide +kernel) (by decide +kernel)
      have ll1 : ([(hd ++ (" q" : Str)), ("calls a\nanswers x\nmarks m" : Str), ("calls a\nanswers x y" : Str), ("calls a" : Str)] : List Str).length = 4 := rfl
      generalize ([(hd ++ (" q" : Str)), ("calls a\nanswers x\nmarks m" : Str), ("calls a\nanswers x y" : Str), ("calls a" : Str)] : List Str) = L1 at hb1 l1 ll1
      refine ⟨fo, b1, _, _, rfl, rfl, h0', hb1, by rw [List.length_map, List.length_map, ll0, ll1]; decide, ?_⟩
      obtain ⟨sH7, h0⟩ := ext h0' sH' hb1
      show _
      generalize upd G8 fo (.lst (L0.map V.str ++ L1.map V.str)) = G9 at sH7 h0 ⊢
      clear h0' sH' hb1
      refine ⟨_, rfl, .inl ⟨rfl, _, SqL.of h0⟩, (by show 1 ≤ sizeLine; decide), fun b2 nb2 => ?_⟩
      have m2s := same_new nb2 (.lst (([("calls calls\nanswers answers marks\nmarks marks step\nstep marks calls marks broken" : Str)] : List Str).map V.str))
      have hb2 : (upd G9 b2 (.lst (([("calls calls\nanswers answers marks\nmarks marks step\nstep marks calls marks broken" : Str)] : List Str).map V.str))) b2 = some (.lst (([("calls calls\nanswers answers marks\nmarks marks step\nstep marks calls marks broken" : Str)] : List Str).map V.str)) := upd_same
      have eu : upd G9 b2 (.lst [V.str ("calls calls\nanswers answers marks\nmarks marks step\nstep marks calls marks broken" : Str)]) = upd G9 b2 (.lst (([("calls calls\nanswers answers marks\nmarks marks step\nstep marks calls marks broken" : Str)] : List Str).map V.str)) := rfl
      rw [eu]
      clear eu
      have h0' := m2s _ _ h0
      have sH' := sH7.trans m2s
      show _
      generalize upd G9 b2 (.lst (([("calls calls\nanswers answers marks\nmarks marks step\nstep marks calls marks broken" : Str)] : List Str).map V.str)) = G10 at hb2 h0' sH' ⊢
      clear m2s h0 sH7
      have l2 : ∀ t ∈ ([("calls calls\nanswers answers marks\nmarks marks step\nstep marks calls marks broken" : Str)] : List Str), TOk 3900 t := fun t ht => by
        rw [List.mem_singleton.mp ht]
        exact (lit_ok (m := 100) _ (by decide +kernel) (by decide +kernel)).mono (by decide)
      have ll2 : ([("calls calls\nanswers answers marks\nmarks marks step\nstep marks calls marks broken" : Str)] : List Str).length = 1 := rfl
      generalize ([("calls calls\nanswers answers marks\nmarks marks step\nstep marks calls marks broken" : Str)] : List Str) = L2_ at hb2 l2 ll2
      refine ⟨fo, b2, _, _, rfl, rfl, h0', hb2, by rw [List.length_map, List.length_map, List.length_append, ll0, ll1, ll2]; decide, ?_⟩
      obtain ⟨sH7, h0⟩ := ext h0' sH' hb2
      show _
      generalize upd G10 fo (.lst ((L0 ++ L1).map V.str ++ L2_.map V.str)) = G11 at sH7 h0 ⊢
      clear h0' sH' hb2
      have kd1 : TOk 60 ("\nstep broken a x m" : Str) := lit_ok _ (by decide +kernel) (by decide +kernel)
      have kd2 : TOk 60 ("broken" : Str) := lit_ok _ (by decide +kernel) (by decide +kernel)
      refine ⟨_, rfl, .inl ⟨rfl, _, SqL.of h0⟩, _, rfl, _, _, rfl, rfl, by have := kd1.len; omega, _, rfl, 1, rfl, _, rfl, sm, rfl, by omega, _, _, rfl, rfl, by have := kd2.len; omega, (by show 3 ≤ sizeLine; decide), fun b3 nb3 => ?_⟩
      have m3s := same_new nb3 (.lst (([(sm ++ ("\nstep broken a x m" : Str)), (cutS sm none (some (-1)) ++ ("broken" : Str)), ("marks m\ncalls a\nanswers x y" : Str)] : List Str).map V.str))
      have hb3 : (upd G11 b3 (.lst (([(sm ++ ("\nstep broken a x m" : Str)), (cutS sm none (some (-1)) ++ ("broken" : Str)), ("marks m\ncalls a\nanswers x y" : Str)] : List Str).map V.str))) b3 = some (.lst (([(sm ++ ("\nstep broken a x m" : Str)), (cutS sm none (some (-1)) ++ ("broken" : Str)), ("marks m\ncalls a\nanswers x y" : Str)] : List Str).map V.str)) := upd_same
      have eu : upd G11 b3 (.lst [V.str (sm ++ ("\nstep broken a x m" : Str)), V.str (cutS sm none (some (-1)) ++ ("broken" : Str)), V.str ("marks m\ncalls a\nanswers x y" : Str)]) = upd G11 b3 (.lst (([(sm ++ ("\nstep broken a x m" : Str)), (cutS sm none (some (-1)) ++ ("broken" : Str)), ("marks m\ncalls a\nanswers x y" : Str)] : List Str).map V.str)) := rfl
      rw [eu]
      clear eu
      have h0' := m3s _ _ h0
      have sH' := sH7.trans m3s
      show _
      generalize upd G11 b3 (.lst (([(sm ++ ("\nstep broken a x m" : Str)), (cutS sm none (some (-1)) ++ ("broken" : Str)), ("marks m\ncalls a\nanswers x y" : Str)] : List Str).map V.str)) = G12 at hb3 h0' sH' ⊢
      clear m3s h0 sH7
      have l3 : ∀ t ∈ ([(sm ++ ("\nstep broken a x m" : Str)), (cutS sm none (some (-1)) ++ ("broken" : Str)), ("marks m\ncalls a\nanswers x y" : Str)] : List Str), TOk 3900 t := fun t ht => by
        simp only [List.mem_cons, List.not_mem_nil, or_false] at ht
        rcases ht with rfl | rfl | rfl
        · exact kb _ kd1
        · exact (kc.app kd2).mono (by decide)
        · exact kw _ (by decide +kernel) (by decide +kernel)
      have ll3 : ([(sm ++ ("\nstep broken a x m" : Str)), (cutS sm none (some (-1)) ++ ("broken" : Str)), ("marks m\ncalls a\nanswers x y" : Str)] : List Str).length = 3 := rfl
      generalize ([(sm ++ ("\nstep broken a x m" : Str)), (cutS sm none (some (-1)) ++ ("broken" : Str)), ("marks m\ncalls a\nanswers x y" : Str)] : List Str) = L3 at hb3 l3 ll3
      refine ⟨fo, b3, _, _, rfl, rfl, h0', hb3, by rw [List.length_map, List.length_map, List.length_append, List.length_append, ll0, ll1, ll2, ll3]; decide, ?_⟩
      obtain ⟨sH7, h0⟩ := ext h0' sH' hb3
      show _
      generalize upd G12 fo (.lst ((L0 ++ L1 ++ L2_).map V.str ++ L3.map V.str)) = G13 at sH7 h0 ⊢
      clear h0' sH' hb3
      have ke1 : TOk 60 ("\nstep m a x broken\nstep m a x m" : Str) := lit_ok _ (by decide +kernel) (by decide +kernel)
      have ke2 : TOk 60 ("\nstep m a y m" : Str) := lit_ok _ (by decide +kernel) (by decide +kernel)
      have ke3 : TOk 60 (" m" : Str) := lit_ok _ (by decide +kernel) (by decide +kernel)
      refine ⟨_, rfl, _, rfl, _, _, rfl, rfl, by have := ke1.len; omega, _, rfl, _, _, rfl, rfl, by have := ke2.len; omega, _, rfl, _, _, rfl, rfl, by have := ke3.len; omega, (by show 3 ≤ sizeLine; decide), fun b4 nb4 => ?_⟩
      have m4s := same_new nb4 (.lst (([(sm ++ ("\nstep m a x broken\nstep m a x m" : Str)), (sm ++ ("\nstep m a y m" : Str)), (sm ++ (" m" : Str))] : List Str).map V.str))
      have hb4 : (upd G13 b4 (.lst (([(sm ++ ("\nstep m a x broken\nstep m a x m" : Str)), (sm ++ ("\nstep m a y m" : Str)), (sm ++ (" m" : Str))] : List Str).map V.str))) b4 = some (.lst (([(sm ++ ("\nstep m a x broken\nstep m a x m" : Str)), (sm ++ ("\nstep m a y m" : Str)), (sm ++ (" m" : Str))] : List Str).map V.str)) := upd_same
      have eu : upd G13 b4 (.lst [V.str (sm ++ ("\nstep m a x broken\nstep m a x m" : Str)), V.str (sm ++ ("\nstep m a y m" : Str)), V.str (sm ++ (" m" : Str))]) = upd G13 b4 (.lst (([(sm ++ ("\nstep m a x broken\nstep m a x m" : Str)), (sm ++ ("\nstep m a y m" : Str)), (sm ++ (" m" : Str))] : List Str).map V.str)) := rfl
      rw [eu]
      clear eu
      have h0' := m4s _ _ h0
      have sH' := sH7.trans m4s
      show _
      generalize upd G13 b4 (.lst (([(sm ++ ("\nstep m a x broken\nstep m a x m" : Str)), (sm ++ ("\nstep m a y m" : Str)), (sm ++ (" m" : Str))] : List Str).map V.str)) = G14 at hb4 h0' sH' ⊢
      clear m4s h0 sH7
      have l4 : ∀ t ∈ ([(sm ++ ("\nstep m a x broken\nstep m a x m" : Str)), (sm ++ ("\nstep m a y m" : Str)), (sm ++ (" m" : Str))] : List Str), TOk 3900 t := fun t ht => by
        simp only [List.mem_cons, List.not_mem_nil, or_false] at ht
        rcases ht with rfl | rfl | rfl
        · exact kb _ ke1
        · exact kb _ ke2
        · exact kb _ ke3
      have ll4 : ([(sm ++ ("\nstep m a x broken\nstep m a x m" : Str)), (sm ++ ("\nstep m a y m" : Str)), (sm ++ (" m" : Str))] : List Str).length = 3 := rfl
      generalize ([(sm ++ ("\nstep m a x broken\nstep m a x m" : Str)), (sm ++ ("\nstep m a y m" : Str)), (sm ++ (" m" : Str))] : List Str) = L4 at hb4 l4 ll4
      refine ⟨fo, b4, _, _, rfl, rfl, h0', hb4, by rw [List.length_map, List.length_map, List.length_append, List.length_append, List.length_append, ll0, ll1, ll2, ll3, ll4]; decide, fun r nr => ?_⟩
      rw [← List.map_append]
      have s9 := same_new nr (.lst ((L0 ++ L1 ++ L2_ ++ L3 ++ L4).map V.str))
      refine q r _ _ (sH'.trans s9) (sH'.free nr) upd_same (by simp only [List.length_append, ll0, ll1, ll2, ll3, ll4]) fun t ht => ?_
      rcases List.mem_append.mp ht with ht | ht
      · rcases List.mem_append.mp ht with ht | ht
        · rcases List.mem_append.mp ht with ht | ht
          · rcases List.mem_append.mp ht with ht | ht
            · exact l0 t ht
            · exact l1 t ht
          · exact l2 t ht
        · exact l3 t ht
      · exact l4 t ht
end
end K55
set_option Elab.async false
set_option linter.all false
set_option maxRecDepth 100000
set_option maxHeartbeats 1600000
namespace LG
open PySem L2 LamX
theorem tabs_upd {T : List (Addr × Str)} {H : Hp} {a : Addr} {xs : List V} {o : HO} (h : H a = some (.lst xs)) (t : Tabs T H) : Tabs T (upd H a o) := by
  intro q hq
  obtain ⟨ps, t1, t2, t3⟩ := t q hq
  refine ⟨ps, by rw [upd_ne (fun z => by rw [z, h] at t1; cases t1)]; exact t1, t2, fun pos cv hc => ?_⟩
  obtain ⟨c, e1, e2⟩ := t3 pos cv hc
  exact ⟨c, e1, by rw [upd_ne (fun z => by rw [z, h] at e2; have e3 : HO.lst _ = HO.ext _ := Option.some.inj e2; cases e3)]; exact e2⟩
theorem all_tr (n : Nat) : ((List.replicate n true).all id) = true := by simp
theorem gx_len {K : PySem.W.Frag} {n : Nat} {H : Hp} {x : Str} (h : Gx K n H (.str x)) : x.length ≤ 20 := by
  obtain ⟨d, h, sm⟩ := h
  cases h with
  | flat h =>
    cases h
    simp only [small, Bool.and_eq_true, decide_eq_true_eq] at sm
    exact sm.1
theorem WatOwn.mk {H : Hp} {p : Addr} {b : Nat} {o : Addr} {W : Wat} (hp : PotAt H p b) (h : WatOwn (mk p H) o W) : WatOwn H o W := h.same (mk_self p H)
end LG
namespace K55
open PySem L2 LG LamX
section
variable {P : Program} {w : World} {K : PySem.W.Frag} {mg : Str → Option Value} {base : Heap}
structure KitR (P : Program) (w : World) (K : PySem.W.Frag) (mg : Str → Option Value) (base : Heap) (fI C CB P1 : Addr) : Prop where
  any : ∃ g gd, FnOk P w K mg base CX0 3 g gd ["_law_pot_here", "_law_many", "_law_sizes"] (spAny K) ∧ mg "_law_any_device" = some (.ref g) ∧ PySem.W.keepIn K (.ref g) = true ∧ L2.Binds K gd ["_law_pot_here", "_law_many", "_law_sizes"] []
  take : ∃ g gd, FnOk P w K mg base CX0 1 g gd ["_law_pot_here", "_law_upto"] spTake ∧ mg "_law_take" = some (.ref g) ∧ PySem.W.keepIn K (.ref g) = true ∧ L2.Binds K gd ["_law_pot_here", "_law_upto"] []
  of : ∃ g gd, FnOk P w K mg base CX0 2 g gd ["_law_pot_here", "_law_some_here"] (spOf K) ∧ mg "_law_of" = some (.ref g) ∧ PySem.W.keepIn K (.ref g) = true ∧ L2.Binds K gd ["_law_pot_here", "_law_some_here"] []
  watch : ∃ g gd, FnOk P w K mg base CX0 3 g gd ["_law_pot_here", "_law_device"] (spWatch K) ∧ mg "_law_watch" = some (.ref g) ∧ PySem.W.keepIn K (.ref g) = true ∧ L2.Binds K gd ["_law_pot_here", "_law_device"] []
  text : ∃ g gd, FnOk P w K mg base CX0 1 g gd ["_law_watch_here"] (spWText K) ∧ mg "_law_watch_text" = some (.ref g) ∧ PySem.W.keepIn K (.ref g) = true ∧ L2.Binds K gd ["_law_watch_here"] []
  init : ∃ g gd, FnOk P w K mg base (L2.CX P w) 4 g gd ["self", "text"] (spDInit K C CB) ∧ Mk K C g ∧ L2.Binds K gd ["self", "text"] []
  eq : ∃ g gd, FnOk P w K mg base CX0 1 g gd ["self", "other"] (spDEq K C) ∧ PySem.W.findIn K (.ref C) "__eq__" = some (some (.ref g)) ∧ PySem.W.isFn K (.ref g) = true ∧ L2.Binds K gd ["self", "other"] []
  ne : PySem.W.findIn K (.ref C) "__ne__" = some (some (.builtin "object.__ne__"))
  ob : PySem.W.mroIn K C (.type "object") = some true
  hand : ∃ g gd, FnOk P w K mg base CX0 2 g gd [] spByHand ∧ mg "_law_by_hand" = some (.ref g) ∧ PySem.W.keepIn K (.ref g) = true ∧ L2.Binds K gd [] []
  odd : ∃ g gd, FnOk P w K mg base CX0 3 g gd ["_law_pot_here"] (spOdd K) ∧ mg "_law_odd" = some (.ref g) ∧ PySem.W.keepIn K (.ref g) = true ∧ L2.Binds K gd ["_law_pot_here"] []
  spoilt : ∃ g gd, FnOk P w K mg base CX0 3 g gd ["_law_pot_here", "_law_lines"] (spSpoilt K) ∧ mg "_law_spoilt" = some (.ref g) ∧ PySem.W.keepIn K (.ref g) = true ∧ L2.Binds K gd ["_law_pot_here", "_law_lines"] []
  read : ∃ g gd, GnOk P w K mg base 8 g gd ["_law_value"] (spIsRead K P1) ∧ mg "_law_is_read" = some (.ref g) ∧ PySem.W.keepIn K (.ref g) = true ∧ L2.Binds K gd ["_law_value"] []
  dev : DevCl K mg C
  is : DevIs K C
  tys : ∀ T ∈ tyNames, PySem.W.kitOne K (.type T) (.ref C) = some false ∧ PySem.W.notFirst K C (.type T) = true
def spRight (P1 : Addr) : Sp := fun vs H Q _ => ∃ (p : Addr) (b : Nat), vs = [.ref p] ∧ Tabs (tTab P1) H ∧ PotAt H p b ∧ b ≤ 20000 ∧ ∀ H', Tabs (tTab P1) H' → BtR p H H' → PotAt H' p (b + 400) → Q (.bl true) H'
abbrev nRt : List Str := ["_law_pot_here", "_law_device", "_law_watch_here", "_law_other", "_law_text", "_law_far", "_law_one", "_law_two", "_law_values", "_law_value", "_law_lap"]
theorem scRt : FnScope nRt ["_law_pot_here"] (defScope sRight) := ⟨rfl, rfl, rfl, by decide +kernel, rfl, by decide +kernel, by decide +kernel⟩
abbrev rSplitK : V → List V → Hp → VK → Prop := fun x xs H Q => ∃ a b, x = .str a ∧ xs = [.str b] ∧ (b.length == 0) = false ∧ a.length + 2 ≤ sizeLine ∧ rNewStrs (Txt.split a b) H Q
abbrev teLap (K : PySem.W.Frag) (P1 : Addr) : TE := fun σ H Q => tM1 (rJoinK K) (tC (.str "\n")) (tCall (spSpoilt K) [] E0 (tCons (tVar 0) (tCons (tM1 rSplitK (tVar 4) (tC (.str "\n"))) tNil))) σ H fun v H1 => spIsRead K P1 [v] H1 Q E0
theorem ok_right {f fI C CB P1 : Addr} {fd : FuncData} (F : Fun K "_law_right" "_law_right" sRight f fd) (T : Bltn mg) (Z : KitR P w K mg base fI C CB P1) : GnOk P w K mg base 9 f fd ["_law_pot_here"] (spRight P1) := by
  obtain ⟨ga, gad, GA, mA, kA, bA⟩ := Z.any
  obtain ⟨gt, gtd, GT, mT, kT_, bT⟩ := Z.take
  obtain ⟨gz, gzd, GZ, mZ, kZ, bZ⟩ := Z.of
  obtain ⟨gw, gwd, GW, mW, kW, bW⟩ := Z.watch
  obtain ⟨gx, gxd, GX, mX, kX, bX⟩ := Z.text
  obtain ⟨gi, gid, GI, MI, bI⟩ := Z.init
  obtain ⟨ge, ged, GE, fE, nE, bE⟩ := Z.eq
  obtain ⟨gb, gbd, GB, mB, kB, bB⟩ := Z.hand
  obtain ⟨go, god, GO, mO, kO, bO⟩ := Z.odd
  obtain ⟨gs, gsd, GS, mS, kS, bS⟩ := Z.spoilt
  obtain ⟨gq, gqd, GQ, mQ, kQ, bQ⟩ := Z.read
  refine gn_of F scRt (fun vs H Q E h => ?_) (fun cdv A0 outer s H vs Q hG hr h => ?_)
  · obtain ⟨p, b, rfl, _⟩ := h
    rfl
  obtain ⟨p, b, rfl, hT, hp, hb, q⟩ := h
  have r5 : Room 5 _ := hr.mono (by decide)
  have r3 : Room 3 _ := hr.mono (by decide)
  have r2 : Room 2 _ := hr.mono (by decide)
  have r1 : Room 1 _ := hr.mono (by decide)
  have hu := hu_of hr
  refine' ⟨_, pss_cons ?dev (pss_cons ?two (pss_cons ?texts (pss_cons ?ones (pss_cons ?cmp (pss_cons ?vals (pss_cons ?all (pss_one ?re))))))), ?main⟩
  case dev =>
    exact ps_set (i := 1) scRt.nd rfl (Or.inl rfl) (pe_call GA r3 rfl mA kA bA .nil pass0 (pa_cons (pv 0) (pa_cons (pe_op op_add pe_int (pe_call GT r1 rfl mT kT_ bT .nil pass0 (pa_cons (pv 0) (pa_cons pe_int pa_nil)))) (pa_cons (pe_call GZ r2 rfl mZ kZ bZ .nil pass0 (pa_cons (pv 0) (pa_cons (pe_lst (sz_cons (sz_item (i := 1) (j := 2)) (sz_cons (sz_item (i := 2) (j := 2)) (sz_cons (sz_item (i := 3) (j := 3)) (sz_cons (sz_item (i := 2) (j := 3)) sz_nil))))) pa_nil))) pa_nil))))
  case two =>
    exact ps_par (i := 2) (j := 3) rfl scRt.nd rfl rfl (by decide) rfl rfl (pa_cons (pe_call GW r3 rfl mW kW bW .nil pass0 (pa_cons (pv 0) (pa_cons (pv 1) pa_nil))) (pa_cons (pe_call GW r3 rfl mW kW bW .nil pass0 (pa_cons (pv 0) (pa_cons (pv 1) pa_nil))) pa_nil)) (by rfl)
  case texts =>
    exact ps_asg (pe_tup (pa_cons (pe_call GX r1 rfl mX kX bX .nil pass0 (pa_cons (pv 2) pa_nil)) (pa_cons (pe_call GX r1 rfl mX kX bX .nil pass0 (pa_cons (pv 3) pa_nil)) pa_nil))) (pg_tup rfl (pgs_cons (pg_name (i := 4) scRt.nd rfl (Or.inr rfl)) (pgs_cons (pg_name (i := 5) scRt.nd rfl (Or.inl rfl)) pgs_nil)))
  case ones =>
    exact ps_par (i := 6) (j := 7) rfl scRt.nd rfl rfl (by decide) rfl rfl (pa_cons (pe_make MI GI r5 rfl Z.dev.mg bI .nil passF (pa_cons (pv 4) pa_nil)) (pa_cons (pe_make MI GI r5 rfl Z.dev.mg bI .nil passF (pa_cons (pv 5) pa_nil)) pa_nil)) (by rfl)
  case cmp =>
    exact ps_if (PW.pt (pw_or (pt_cmpR (op_ownNe fE nE Z.ne Z.ob GE bE r2) (pv 6) (pe_make MI GI r5 rfl Z.dev.mg bI .nil passF (pa_cons (pv 4) pa_nil)) (by rfl))
      (pw_or (pt_cmpR op_ne (pe_cmpR (op_ownEq fE nE GE bE r1) (pv 6) (pv 7) (by rfl)) (pe_cmpR op_eq (pv 4) (pv 5) (nomark _)) (nomark _))
        (pw_or (pt_cmpR (op_ownEq fE nE GE bE r1) (pv 6) (pv 4) (by rfl)) (pw_or1 (pt_cmpR (op_ownEq fE nE GE bE r1) (pv 6) pe_non (by rfl))))))) (pss_one (ps_ret pe_bl)) pss_nil
  case vals =>
    exact ps_set (i := 8) scRt.nd rfl (Or.inl rfl) (pe_op op_cat (pe_call0 GB r2 rfl mB kB bB .nil pass0) (pe_lst (pa_cons (pv 4) (pa_cons pe_non (pa_cons pe_int (pa_cons (pe_lst (pa_cons (pv 4) pa_nil)) (pa_cons (pe_split (pv 4) pe_str) (pa_cons (pe_call GO r3 rfl mO kO bO .nil pass0 (pa_cons (pv 0) pa_nil)) pa_nil))))))))
  case all =>
    exact ps_if (pt_not (pt_val (pe_callB (cr_all rfl) rfl T.all (by decide +kernel) (pa_cons (pe_lc (te := fun σ H Q => tCons (tVar 9) tNil σ H fun vs H1 => spIsRead K P1 vs H1 Q E0) (own := [("_law_value", 9)]) (g := gName 9) (tt := tYes) rfl scRt.nd (pi_list (pv 8))
      (blkOk_by (own := [("_law_value", 9)]) (N := nRt) (sc := defScope sRight) (by decide +kernel)) (fun _ _ _ _ _ => pg_name (i := 9) scRt.nd rfl (Or.inl rfl)) (fun _ _ _ _ _ => pts_nil)
      (fun _ _ _ _ _ => by exact pe_gcall GQ hG hr rfl mQ kQ bQ (pa_cons (pv 9) pa_nil))) pa_nil)))) (pss_one (ps_ret pe_bl)) pss_nil
  case re =>
    exact ps_ret (pe_callB (cr_all rfl) rfl T.all (by decide +kernel) (pa_cons (pe_lc (te := teLap K P1) (own := [("_law_lap", 10)]) (g := gName 10) (tt := tYes) rfl scRt.nd (pi_range1 rfl T.range (pa_cons pe_int pa_nil))
      (blkOk_by (own := [("_law_lap", 10)]) (N := nRt) (sc := defScope sRight) (by decide +kernel)) (fun _ _ _ _ _ => pg_name (i := 10) scRt.nd rfl (Or.inl rfl)) (fun _ _ _ _ _ => pts_nil)
      (fun _ _ _ _ _ => by exact pe_imp (pe_gcall GQ hG hr rfl mQ kQ bQ (pa_cons (pe_join pe_str (pe_call GS r3 rfl mS kS bS .nil pass0 (pa_cons (pv 0) (pa_cons (pe_split (pv 4) pe_str) pa_nil)))) pa_nil)) fun _ _ _ h => h)) pa_nil))
  case main =>
    refine ⟨_, rfl, _, rfl, p, 4, b, rfl, hp, by omega, by decide, by decide, fun k H1 k0 k4 but1 pot1 => ?_⟩
    obtain ⟨k', rfl⟩ := Int.eq_ofNat_of_zero_le k0
    refine ⟨_, _, rfl, rfl, _, rfl, fun xs H2 s2 l2 g2 => ⟨by rw [l2]; decide, fun lz nlz => ?_⟩⟩
    have s3 := same_new nlz (.lst xs)
    have pot2 := pot1.same s2
    refine ⟨p, lz, xs, b + 1, rfl, pot2.same s3, by omega, SqL.of upd_same, by omega, by omega, fun z => pot2.there (by rw [← z]; exact nlz), fun xz H3 hx but3 pot3 => ?_⟩
    obtain ⟨tz, n1, n2, rfl, htz, z1, z2, z3, z4⟩ := (g2 xz hx).same s3
    have npz : tz ≠ p := fun z => by
      obtain ⟨own, sm, n, e, _⟩ := pot2.same s3
      rw [z, e] at htz
      cases htz
    refine ⟨p, tz, 1 + k', n1, n2, b + 1 + 1, rfl, pot3, by omega, by omega, by omega, mk_of npz (but3 _ _ htz npz), z1, z2, z3, z4, fun o D H4 but4 pot4 dr _ hO => ?_⟩
    have b4 : But p H H4 := but1.trans ((But.of (s2.trans s3)).trans (but3.trans but4))
    have hT4 : Tabs (tTab P1) H4 := Tabs.but b4 hp hT
    clear but1 but3 but4 pot1 pot2 pot3 s2 s3 g2 hx htz nlz
    refine ⟨_, rfl, _, rfl, p, o, _, D, rfl, pot4, by omega, hO, dr, fun o1 W1 H5 b5 p5 d1 w1 => ⟨_, rfl, _, rfl, p, o, _, D, rfl, p5, by omega, hO.same (mk_but b5), dr, fun o2 W2 H6 b6 p6 d2 w2 => ⟨_, _, rfl, ?_⟩⟩⟩
    refine ⟨_, rfl, o1, W1, rfl, (w1.same (mk_but b6)).same (mk_self p H6), d1, fun H7 s7 => ⟨_, rfl, o2, W2, rfl, (w2.same (mk_self p H6)).same s7, d2, fun H8 s8 => ⟨(by show 2 ≤ sizeLine; decide), fun t0 nt0 => ⟨t0, _, rfl, .inl (.inl upd_same), rfl, _, _, rfl, _, _, rfl, rfl, ?_⟩⟩⟩⟩
    have kt1 := d1.text
    have kt2 := d2.text
    have tp1 := d1.read
    have tp2 := d2.read
    have tsp := d1.split
    have tln := d1.lines
    have ln39 := linesW_len W1
    have sl36 := d1.sl
    generalize textW W1 = Tx at kt1 tp1 tsp nt0 ⊢
    generalize textW W2 = Ty at kt2 tp2 nt0 ⊢
    have s9 := same_new nt0 (.tup [V.str Tx, .str Ty])
    have b9 : But p H (upd H8 t0 (.tup [V.str Tx, .str Ty])) := b4.trans (b5.trans (b6.trans (But.of ((s7.trans s8).trans s9))))
    have pot9 : PotAt (upd H8 t0 (.tup [V.str Tx, .str Ty])) p (b + 1 + 1 + 50 + 100 + 100) := p6.same ((s7.trans s8).trans s9)
    have hT9 := Tabs.but b9 hp hT
    show _
    generalize upd H8 t0 (.tup [V.str Tx, .str Ty]) = H9 at b9 pot9 hT9 ⊢
    clear s9 s8 s7 nt0 w1 w2 b5 b6 p5 p6 hO dr pot4 hT4 b4 d1 d2
    generalize linesW W1 = ls at tsp tln ln39
    have tl1 := kt1.len
    have tl2 := kt2.len
    have mkx : ∀ {X : Str} {W : Wat}, X.length ≤ 3000 → parse X = .inr W → ∀ {G : Hp} {R : Addr → Hp → Prop}, (∀ x G', Same G G' → DevAt K G' x C X W → R x G') → ∀ (x dx : Addr), G x = none → G dx = none → dx ≠ x → spDInit K C CB [.ref x, .str X] (upd (upd G dx (.own x)) x (.ins C dx [])) (fun v H' => v = .non ∧ R x H') (fun _ _ _ => False) := fun {X W} hl hp' {G R} k x dx nx ndx nex =>
      ⟨x, dx, .str X, rfl, upd_same, .inl ⟨X, rfl⟩, fun T' e => by cases e; omega, fun T' D' e hq H' but dev => ⟨rfl, by
        cases e
        rw [hp'] at hq
        cases hq
        exact k x H' (made nx ndx but) dev⟩, fun n hn => absurd (hn.symm.trans hp') (fun z => by cases z)⟩
    refine ⟨_, rfl, mkx tl1 tp1 fun x H10 s10 dev1 => ⟨_, rfl, mkx tl2 tp2 fun x2 H11 s11 dev2 => ⟨_, _, rfl, ?_⟩⟩⟩
    have s911 := s10.trans s11
    have dev1 := dev1.same s11
    have nfC : PySem.W.notFirst K C (.ref C) = true := by simp [PySem.W.notFirst]
    obtain ⟨ks1, ks2⟩ := Z.tys "str" (by simp [tyNames])
    obtain ⟨kn1, kn2⟩ := Z.tys "NoneType" (by simp [tyNames])
    have eVV : decide (V.str Tx = V.str Ty) = decide (Tx = Ty) := by
      by_cases h : Tx = Ty
      · simp [h]
      · simp [h]
    have dTT : decide (Tx = Tx) = true := decide_eq_true rfl
    refine ⟨_, rfl, _, rfl, mkx tl1 tp1 fun x3 H12 s12 dev3 => ?_⟩
    have s912 := s911.trans s12
    have dev1 := dev1.same s12
    have dev2 := dev2.same s12
    obtain ⟨dx1, c1_, a1_, s1_, g1_, hx1, _⟩ := id dev1
    have ty2 := dev_ty Z.dev Z.is dev2
    have ty3 := dev_ty Z.dev Z.is dev3
    refine ⟨x, dx1, _, .ref C, rfl, hx1, ty3, nfC, x, .ref x3, Tx, _, rfl, dev1, .inl ⟨x3, Tx, _, rfl, dev3, _, rfl, _, rfl, ?_⟩⟩
    refine iteN (by rw [dTT]; rfl) ⟨_, rfl, _, rfl, x, dx1, _, .ref C, rfl, hx1, ty2, nfC, x, .ref x2, Tx, _, rfl, dev1, .inl ⟨x2, Ty, _, rfl, dev2, _, rfl, _, rfl, _, rfl, rfl, rfl, _, rfl, ?_⟩⟩
    rw [eVV]
    generalize decide (Tx = Ty) = e0
    refine iteN ne_self ⟨_, rfl, _, rfl, x, dx1, _, _, rfl, hx1, .base (.str Tx), ks2, x, _, Tx, _, rfl, dev1, .inr ⟨_, .base (.str Tx), ks1, _, rfl, _, rfl, iteN rfl ?_⟩⟩
    refine ⟨_, rfl, x, dx1, _, _, rfl, hx1, .base .non, kn2, x, _, Tx, _, rfl, dev1, .inr ⟨_, .base .non, kn1, _, rfl, _, rfl, iteN rfl ?_⟩⟩
    have b12 := b9.trans (But.of s912)
    have pot12 := pot9.same s912
    have hT12 := hT9.ext s912
    clear b9 pot9 hT9 s912 s911 s12 s11 s10 dev1 dev2 dev3 hx1 ty2 ty3 mkx eVV dTT ks1 ks2 kn1 kn2 nfC
    refine ⟨rfl, fun fb L H13 s13 nfb hfb l16 okL => ?_⟩
    refine ⟨_, rfl, _, rfl, (by show 1 ≤ sizeLine; decide), fun q1 nq1 => ?_⟩
    have u1 := same_new nq1 (.lst [V.str Tx])
    have hq1 : (upd H13 q1 (.lst [V.str Tx])) q1 = some (.lst [V.str Tx]) := upd_same
    show _
    generalize upd H13 q1 (.lst [V.str Tx]) = H14 at u1 hq1 ⊢
    refine ⟨_, rfl, ⟨_, rfl⟩, Tx, nl1, rfl, rfl, rfl, by rw [sizeLine_eq]; omega, fun q2 nq2 => ?_⟩
    rw [tsp]
    have u2 := same_new nq2 (.lst (ls.map V.str))
    have hq2 : (upd H14 q2 (.lst (ls.map V.str))) q2 = some (.lst (ls.map V.str)) := upd_same
    show _
    generalize upd H14 q2 (.lst (ls.map V.str)) = H15 at u2 hq2 ⊢
    have b15 := b12.trans (But.of ((s13.trans u1).trans u2))
    have pot15 := pot12.same ((s13.trans u1).trans u2)
    have hT15 := hT12.ext ((s13.trans u1).trans u2)
    have hfb := u2 _ _ (u1 _ _ hfb)
    have hq1 := u2 _ _ hq1
    have nfp : fb ≠ p := fun z => pot12.there (by rw [← z]; exact nfb)
    have npq1 : q1 ≠ p := fun z => (pot12.same s13).there (by rw [← z]; exact nq1)
    have npq2 : q2 ≠ p := fun z => (pot12.same (s13.trans u1)).there (by rw [← z]; exact nq2)
    clear b12 pot12 hT12 s13 u1 u2 nfb nq1 nq2
    refine ⟨_, rfl, p, _, rfl, pot15, by omega, fun od H16 but16 pot16 gO => ⟨(by show 6 ≤ sizeLine; decide), fun q3 nq3 => ?_⟩⟩
    have v1 := same_new nq3 (.lst [V.str Tx, .non, .int 0, .ref q1, .ref q2, od])
    have hq3 : (upd H16 q3 (.lst [V.str Tx, .non, .int 0, .ref q1, .ref q2, od])) q3 = some (.lst [V.str Tx, .non, .int 0, .ref q1, .ref q2, od]) := upd_same
    have gM := (gO.same (mn_self _ _)).same v1
    have hfb := v1 _ _ (but16 _ _ hfb nfp)
    have hq1 := v1 _ _ (but16 _ _ hq1 npq1)
    have hq2 := v1 _ _ (but16 _ _ hq2 npq2)
    have b17 := b15.trans (but16.trans (But.of v1))
    have pot17 := pot16.same v1
    have hT17 := (Tabs.but but16 pot15 hT15).ext v1
    show _
    generalize upd H16 q3 (.lst [V.str Tx, .non, .int 0, .ref q1, .ref q2, od]) = H17 at hq3 gM hfb hq1 hq2 b17 pot17 hT17 ⊢
    clear v1 gO but16 pot16 b15 pot15 hT15 nq3
    refine ⟨fb, q3, _, _, rfl, rfl, hfb, hq3, by rw [List.length_map, l16]; show 16 + 6 ≤ sizeLine; decide, fun q4 nq4 => ?_⟩
    have v2 := same_new nq4 (.lst (L.map V.str ++ [V.str Tx, .non, .int 0, .ref q1, .ref q2, od]))
    have hq4 : (upd H17 q4 (.lst (L.map V.str ++ [V.str Tx, .non, .int 0, .ref q1, .ref q2, od]))) q4 = some (.lst (L.map V.str ++ [V.str Tx, .non, .int 0, .ref q1, .ref q2, od])) := upd_same
    have gM := gM.same v2
    have hq1 := v2 _ _ hq1
    have hq2 := v2 _ _ hq2
    have b18 := b17.trans (But.of v2)
    have pot18 := pot17.same v2
    have hT18 := hT17.ext v2
    show _
    generalize upd H17 q4 (.lst (L.map V.str ++ [V.str Tx, .non, .int 0, .ref q1, .ref q2, od])) = H18 at hq4 gM hq1 hq2 b18 pot18 hT18 ⊢
    clear v2 hfb hq3 b17 pot17 hT17 nq4
    have vok : ∀ v ∈ L.map V.str ++ [V.str Tx, .non, .int 0, .ref q1, .ref q2, od], VRd K H18 v := by
      intro v hv G eG
      rcases List.mem_append.mp hv with hv | hv
      · obtain ⟨X, hX, rfl⟩ := List.mem_map.mp hv
        exact .inl ⟨X, rfl, (okL X hX).len, fun _ => (okL X hX).asc⟩
      simp only [List.mem_cons, List.not_mem_nil, or_false] at hv
      rcases hv with rfl | rfl | rfl | rfl | rfl | rfl
      · exact .inl ⟨Tx, rfl, by omega, fun _ => kt1.asc⟩
      · exact .inr ⟨_, .base .non, kit_nostr "NoneType" (by simp [tyNames]) (by simp), fun x z => nomatch z⟩
      · exact .inr ⟨_, .base (.int 0), kit_nostr "int" (by simp [tyNames]) (by simp), fun x z => nomatch z⟩
      · exact .inr ⟨_, .base (.lst (eG _ _ hq1 (fun ps z => by cases z))), kit_nostr "list" (by simp [tyNames]) (by simp), fun x z => nomatch z⟩
      · exact .inr ⟨_, .base (.lst (eG _ _ hq2 (fun ps z => by cases z))), kit_nostr "list" (by simp [tyNames]) (by simp), fun x z => nomatch z⟩
      · rcases (gM.ext eG).ty with ⟨x, rfl, _⟩ | ⟨T0, hT0, ne, ty, no⟩
        · have := gx_len gM
          exact .inl ⟨x, rfl, by omega, fun h => by omega⟩
        · exact .inr ⟨_, ty, kit_nostr T0 hT0 ne, no⟩
    have lv : (L.map V.str ++ [V.str Tx, .non, .int 0, .ref q1, .ref q2, od]).length = 22 := by rw [List.length_append, List.length_map, l16]; rfl
    generalize L.map V.str ++ [V.str Tx, .non, .int 0, .ref q1, .ref q2, od] = vals at hq4 vok lv
    clear gM hq1 hq2 okL l16
    refine ⟨_, rfl, q4, rfl, ⟨_, SqL.of hq4⟩, fun D1 nD1 => ?_⟩
    have nD1p : D1 ≠ p := fun z => pot18.there (by rw [← z]; exact nD1)
    refine lc_it walk_list (D := D1) (g := gName 9) (tt := tYes) (te := fun σ H Q => tCons (tVar 9) tNil σ H fun vs H1 => spIsRead K P1 vs H1 Q E0) (vs := [9]) (fun j G4 => ExtN H18 G4 ∧ Tabs (tTab P1) G4 ∧ G4 D1 = some (.lst ((List.replicate j true).map V.bl))) ⟨ExtN.of (same_new nD1 _), Tabs.ext hT18 (same_new nD1 _), upd_same⟩ (fun j G4 _ h => SqL.of (h.1 _ _ hq4 (fun ps z => by cases z))) ?_ ?_
    · rintro j v G4 G5 hj ⟨e4, t4, d4⟩ ⟨rfl, hv⟩
      refine ⟨rfl, _, rfl, v, rfl, fun G eG => vok v (List.mem_of_getElem? hv) G (e4.trans eG), t4, fun G6 t6 e6 => ?_⟩
      have d6 := e6 _ _ d4 (fun ps z => by cases z)
      refine ⟨_, d6, by rw [List.length_map, List.length_replicate, sizeLine_eq]; omega, fun c' o' hc ht => ?_, tabs_upd d6 t6, ?_⟩
      · rw [upd_ne (fun z => by rw [z, nD1] at hc; cases hc)]
        exact e6 _ _ (e4 _ _ hc ht) ht
      · rw [upd_same, List.replicate_succ', List.map_append]
        rfl
    · rintro G4 ⟨e4, t4, d4⟩
      refine ⟨D1, _, rfl, SqL.of d4, ?_⟩
      rw [all_tr]
      refine ⟨_, rfl, iteF ?_⟩
      have pot4 := pot18.ext e4
      have bt4 : BtR p H G4 := (BtR.of b18).trans (BtR.ex e4)
      clear d4 nD1p nD1 hq4 vok hT18 pot18 b18 e4
      generalize hB : b + 1 + 1 + 50 + 100 + 100 + 1 = B at pot4
      refine ⟨12, rfl, by decide, by decide, fun D2 nD2 => ?_⟩
      have nD2p : D2 ≠ p := fun z => pot4.there (by rw [← z]; exact nD2)
      refine lc_it (walk_range (lo := 0) (n := 12)) (D := D2) (g := gName 10) (tt := tYes) (te := teLap K P1) (vs := [10]) (fun i G => BtR p G4 G ∧ Tabs (tTab P1) G ∧ PotAt G p (B + 5 * i) ∧ G D2 = some (.lst ((List.replicate i true).map V.bl)))
        ⟨BtR.of (But.of (same_new nD2 _)), Tabs.ext t4 (same_new nD2 _), pot4.same (same_new nD2 _), upd_same⟩ (fun _ _ _ _ => trivial) ?_ ?_
      · rintro i v E E' hi ⟨bE, tE, pE, dE⟩ ⟨rfl, rfl⟩
        refine ⟨rfl, ⟨_, rfl⟩, _, rfl, _, rfl, ⟨_, rfl⟩, Tx, nl1, rfl, rfl, rfl, by rw [sizeLine_eq]; omega, fun l nl => ?_⟩
        rw [tsp]
        have u1 := same_new nl (.lst (ls.map V.str))
        have hl : (upd E' l (.lst (ls.map V.str))) l = some (.lst (ls.map V.str)) := upd_same
        have nlp : l ≠ p := fun z => pE.there (by rw [← z]; exact nl)
        show _
        generalize upd E' l (.lst (ls.map V.str)) = E1 at u1 hl ⊢
        refine ⟨p, l, _, ls, rfl, pE.same u1, by omega, hl, nlp, by omega, by omega, tln, fun l2 us E2 but2 pot2 nl2 nl2p hl2 lu1 lu2 uok => ?_⟩
        have b02 := (But.of u1).trans but2
        have t2 := Tabs.but b02 pE tE
        have d2 := b02 _ _ dE nD2p
        have jl : (us.map (·.length)).sum ≤ 40 * 95 := by
          have := sum_le (k := 95) fun t ht => (uok t ht).len
          have := Nat.mul_le_mul_right 95 (show us.length ≤ 40 by omega)
          omega
        have jj := join_le1 (y := nl1) nl1_1 (k := 95) fun t ht => (uok t ht).len
        have jm := Nat.mul_le_mul_right (95 + 1) (show us.length ≤ 40 by omega)
        have ja := join_asc sep_asc.2 fun t ht => (uok t ht).asc
        refine ⟨nl1, l2, us, rfl, rfl, .inl (SqL.of hl2), by rw [nl1_1]; omega, .str (Txt.join nl1 us), rfl, fun G eG => .inl ⟨_, rfl, by omega, fun _ => ja⟩, t2, fun E3 t3 e3 => ?_⟩
        have d3 := e3 _ _ d2 (fun ps z => by cases z)
        have p3 := pot2.ext e3
        refine ⟨_, d3, by rw [List.length_map, List.length_replicate, sizeLine_eq]; omega, fun c' o' hc ne ht => ?_, tabs_upd d3 t3, ?_, ?_⟩
        · rw [upd_ne (fun z => by rw [z, nD2] at hc; cases hc)]
          exact e3 _ _ (b02 _ _ (bE _ _ hc ne ht) ne) ht
        · obtain ⟨own, sm, n', e1, e2⟩ := p3
          exact ⟨own, sm, n', by rw [upd_ne (Ne.symm nD2p)]; exact e1, by omega⟩
        · rw [upd_same, List.replicate_succ', List.map_append]
          rfl
      · rintro G5 ⟨b5, t5, p5, d5⟩
        refine ⟨D2, _, rfl, SqL.of d5, ?_⟩
        rw [all_tr]
        exact q G5 t5 (bt4.trans b5) (p5.mono (by omega))
end
end K55
set_option Elab.async false
set_option linter.all false
set_option maxRecDepth 100000
set_option maxHeartbeats 4000000
namespace LG
open PySem L2 LamX
theorem ext_bt {p : Addr} {H H' : Hp} (np : H p = none) (e : BtR p H H') : ExtN H H' := fun b o h t => e b o h (fun z => by rw [z, np] at h; cases h) t
end LG
namespace K55
open PySem L2 LG LamX
section
variable {P : Program} {w : World} {K : PySem.W.Frag} {mg : Str → Option Value} {base : Heap}
def spLaw (K : PySem.W.Frag) (P1 : Addr) : Sp := fun vs H Q _ => ∃ (a : Addr) (ns : List Int), vs = [.ref a] ∧ SqL K H a (ns.map V.int) ∧ ns.length ≤ 63 ∧ Tabs (tTab P1) H ∧ ∀ H', Q (.bl true) H'
abbrev nLw : List Str := ["_law_script", "_law_place"]
theorem scLaw : FnScope nLw ["_law_script"] (defScope sLaw) := ⟨rfl, rfl, rfl, by decide +kernel, rfl, by decide +kernel, by decide +kernel⟩
theorem ok_law {f gr gp gc P1 : Addr} {fd grd gpd gcd : FuncData} (F : Fun K "law" "law" sLaw f fd) (T : Bltn mg)
    (GR : GnOk P w K mg base 9 gr grd ["_law_pot_here"] (spRight P1)) (mR : mg "_law_right" = some (.ref gr)) (kR : PySem.W.keepIn K (.ref gr) = true) (bR : Binds K grd ["_law_pot_here"] [])
    (GP : FnOk P w K mg base CX0 1 gp gpd ["_law_script", "_law_place"] (spPot K)) (mP : mg "_law_pot" = some (.ref gp)) (kP : PySem.W.keepIn K (.ref gp) = true) (bP : Binds K gpd ["_law_script", "_law_place"] [])
    (GC : FnOk P w K mg base CX0 1 gc gcd ["_law_script", "_law_limit"] (spCells K)) (mC : mg "_law_cells" = some (.ref gc)) (kC : PySem.W.keepIn K (.ref gc) = true) (bC : Binds K gcd ["_law_script", "_law_limit"] []) :
    GnOk P w K mg base 10 f fd ["_law_script"] (spLaw K P1) := by
  refine gn_of F scLaw (fun vs H Q E h => ?_) (fun cdv A0 outer s H vs Q hG hr h => ?_)
  · obtain ⟨a, ns, rfl, _⟩ := h
    rfl
  obtain ⟨a, ns, rfl, hS, h63, hT, q⟩ := h
  have r1 : Room 1 _ := hr.mono (by decide)
  refine ⟨_, pss_one (ps_ret (pe_callB (cr_all rfl) rfl T.all (by decide +kernel) (pa_cons (pe_lc (te := fun σ H Q => tCons (tCall (spPot K) [] E0 (tCons (tVar 0) (tCons (tVar 1) tNil))) tNil σ H fun vs H1 => spRight P1 vs H1 Q E0) (own := [("_law_place", 1)]) (g := gName 1) (tt := tYes) rfl scLaw.nd (pi_list (pe_call GC r1 rfl mC kC bC .nil pass0 (pa_cons (pv 0) (pa_cons pe_int pa_nil))))
      (blkOk_by (own := [("_law_place", 1)]) (N := nLw) (sc := defScope sLaw) (by decide +kernel)) (fun _ _ _ _ _ => pg_name (i := 1) scLaw.nd rfl (Or.inl rfl)) (fun _ _ _ _ _ => pts_nil)
      (fun _ _ _ _ _ => by exact pe_gcall GR hG hr rfl mR kR bR (pa_cons (pe_call GP r1 rfl mP kP bP .nil pass0 (pa_cons (pv 0) (pa_cons (pv 1) pa_nil))) pa_nil))) pa_nil))), ?_⟩
  refine ⟨_, rfl, a, ns, 4, rfl, hS, h63, by decide, by decide, fun lp n H1 s1 nlp n1 n63 hlp => ⟨lp, rfl, ⟨_, SqL.of hlp⟩, fun D nD => ?_⟩⟩
  refine lc_it walk_list (D := D) (g := gName 1) (tt := tYes) (te := fun σ H Q => tCons (tCall (spPot K) [] E0 (tCons (tVar 0) (tCons (tVar 1) tNil))) tNil σ H fun vs H1 => spRight P1 vs H1 Q E0) (vs := [1]) (fun i G => ExtN H1 G ∧ Tabs (tTab P1) G ∧ G D = some (.lst ((List.replicate i true).map V.bl))) ⟨ExtN.of (same_new nD _), Tabs.ext (Tabs.ext hT s1) (same_new nD _), upd_same⟩ (fun i G _ h => SqL.of (h.1 _ _ hlp (fun ps z => by cases z))) ?_ ?_
  · rintro i y G4 G5 hj ⟨e4, t4, d4⟩ ⟨rfl, hy⟩
    rw [List.length_map, List.length_range] at hj
    have ey : y = V.int (i : Nat) := by
      rw [List.getElem?_map, List.getElem?_range hj] at hy
      exact (Option.some.inj hy).symm
    subst ey
    refine ⟨rfl, _, rfl, _, rfl, a, ns, (i : Nat), rfl, SqLext e4 (s1.seq hS), h63, by omega, by omega, fun pp G2 s2 npp pot => ?_⟩
    refine ⟨pp, 0, rfl, Tabs.ext t4 s2, pot, by decide, fun G6 t6 b6 p6 => ?_⟩
    have npD : D ≠ pp := fun z => by rw [z, npp] at d4; cases d4
    have d6 := b6 _ _ (s2 _ _ d4) npD (fun ps z => by cases z)
    refine ⟨_, d6, by rw [List.length_map, List.length_replicate, sizeLine_eq]; omega, fun c o hc ht => ?_, tabs_upd d6 t6, ?_⟩
    · rw [upd_ne (fun z => by rw [z, nD] at hc; cases hc)]
      have h4 := e4 _ _ hc ht
      exact b6 c o (s2 _ _ h4) (fun z => by rw [z, npp] at h4; cases h4) ht
    · rw [upd_same, List.replicate_succ', List.map_append]
      rfl
  · rintro G4 ⟨e4, t4, d4⟩
    refine ⟨D, _, rfl, SqL.of d4, ?_⟩
    rw [all_tr]
    exact q G4
end
end K55
set_option Elab.async false
set_option linter.all false
set_option maxRecDepth 100000
set_option maxHeartbeats 4000000
namespace LG
open PySem PySem.Spec PyProof.Rows L2 LamX
theorem g_walkU {l : PySem.W.OpenLaw} {k : Nat} {q : Program} {loose : List Str} {XP : (Str → Option Value) → Heap → Prop} {YP : World → Heap → Prop} {d : DefRec} {K : Params → PySem.W.Frag} {x : Str}
    (most : l.most = some 63) (nodef : d.params.defaults = []) (hr : Room k callerA) (inK : ∀ (w : World) (h : Heap), YP w h → (K w.params).In h)
    (F : ∀ (w : World) (mg mb : Str → Option Value) (fa : Addr) (h : Heap) (mean : ExcName → Option Value), YP w h → PyProof.Rows.Top q (PySem.W.looseW q loose) mean mg mb h → (K w.params).In h → h.Ns mainGlobals mg → mg d.name = some (.ref fa) → GLawAt l w (K w.params) k x mg fa h) :
    PySem.W.WalkO q loose XP YP l.row.toRowW d [] (fun f vs => PySem.call f vs) := by
  refine Att.attach_call most nodef fun w s₀ s₁ mg mb fa o pm cd doc a vs ns G Y ho hd hcd hmg hobj hints hlen hg => ?_
  have KX := inK w _ Y
  obtain ⟨fd, cs, sp, hT, nT, C, hb, hsp, hF⟩ := F w mg mb fa _ _ Y G.T KX G.T.g hmg
  exact g_lawT KX G.T.g G.T.b G.T.builtins G.T.nolimit hg hT nT C G.T.bmain hobj hints (Nat.le_trans hlen (by decide)) hr hF hb fun H hH hS => hsp H a ns hlen hH hS
def errsB (K : PySem.W.Frag) (fI B : Addr) (Cs : List Addr) : Bool :=
  (Cs.all fun C => errB K C (.ref B :: PySem.HandSPX.veTail)) && ((Cs.all fun C => decide (PySem.W.findIn K (.ref C) "__init__" = some (some (.ref fI))) && (decide (PySem.W.findIn K (.ref C) "value" = some none) && decide (PySem.W.exmOne K (.ref C) (.ref B) = some true))) &&
  (decide (PySem.W.specialIn K (.builtin "object.__class__") "__get__" = some (some (.builtin "getset_descriptor.__get__"))) && (decide (PySem.W.takesIn K (.builtin "object.__class__") = some true) && decide (PySem.W.typeIn K (.ref fI) = some (.type "function")))))
structure ErrsF (K : PySem.W.Frag) (fI B : Addr) (Cs : List Addr) : Prop where
  each : ∀ C ∈ Cs, errB K C (.ref B :: PySem.HandSPX.veTail) = true
  ini : ∀ C ∈ Cs, PySem.W.findIn K (.ref C) "__init__" = some (some (.ref fI))
  val : ∀ C ∈ Cs, PySem.W.findIn K (.ref C) "value" = some none
  box : ∀ C ∈ Cs, PySem.W.exmOne K (.ref C) (.ref B) = some true
  dsc : ClsD K
  fn : PySem.W.typeIn K (.ref fI) = some (.type "function")
theorem errsB_ok {K : PySem.W.Frag} {fI B : Addr} {Cs : List Addr} (h : errsB K fI B Cs = true) : ErrsF K fI B Cs := by
  unfold errsB at h
  simp only [Bool.and_eq_true] at h
  obtain ⟨h2, h3, h7, h8, h9⟩ := h
  have h3' := List.all_eq_true.mp h3
  refine ⟨fun C hC => List.all_eq_true.mp h2 C hC, fun C hC => ?_, fun C hC => ?_, fun C hC => ?_, ⟨of_decide_eq_true h7, of_decide_eq_true h8⟩, of_decide_eq_true h9⟩
  · have := h3' C hC
    simp only [Bool.and_eq_true] at this
    exact of_decide_eq_true this.1
  · have := h3' C hC
    simp only [Bool.and_eq_true] at this
    exact of_decide_eq_true this.2.1
  · have := h3' C hC
    simp only [Bool.and_eq_true] at this
    exact of_decide_eq_true this.2.2
end LG
namespace K55
open PySem L2 LG LamX
def devB (K : PySem.W.Frag) (C : Addr) : Bool :=
  PySem.W.plainGet K C Str.empty && (PySem.W.hasDictIn K C && (PySem.W.plainOver K C && (decide (PySem.W.findIn K (.ref C) "__setattr__" = some (some (.builtin "object.__setattr__"))) &&
  (decide (PySem.W.findIn K (.ref C) "text" = some none) && (decide (PySem.W.findIn K (.ref C) "calls" = some none) && (decide (PySem.W.findIn K (.ref C) "answers" = some none) && (decide (PySem.W.findIn K (.ref C) "marks" = some none) && (decide (PySem.W.findIn K (.ref C) "_goals" = some none) &&
  (decide (PySem.W.findIn K (.ref C) "__class__" = some (some (.builtin "object.__class__"))) && (decide (PySem.W.specialIn K (.builtin "object.__class__") "__get__" = some (some (.builtin "getset_descriptor.__get__"))) && (decide (PySem.W.takesIn K (.builtin "object.__class__") = some true) && (decide (PySem.W.mroIn K C (.type "object") = some true) &&
  (PySem.W.makesIn K C && (PySem.W.keepIn K (.ref C) && (decide (PySem.W.findIn K (.ref C) "__ne__" = some (some (.builtin "object.__ne__"))) && (tyNames.all fun T => decide (PySem.W.kitOne K (.type T) (.ref C) = some false) && PySem.W.notFirst K C (.type T)))))))))))))))))
theorem devB_ok {K : PySem.W.Frag} {C : Addr} (h : devB K C = true) : (∀ mg : Str → Option Value, mg "Watch" = some (.ref C) → DevCl K mg C) ∧ DevIs K C ∧ PySem.W.makesIn K C = true ∧ PySem.W.keepIn K (.ref C) = true ∧ PySem.W.findIn K (.ref C) "__ne__" = some (some (.builtin "object.__ne__")) ∧
    ∀ T ∈ tyNames, PySem.W.kitOne K (.type T) (.ref C) = some false ∧ PySem.W.notFirst K C (.type T) = true := by
  unfold devB at h
  simp only [Bool.and_eq_true, decide_eq_true_eq] at h
  obtain ⟨h1, h2, h3, h4, t1, t2, t3, t4, t5, k1, k2, k3, k4, m1, m2, m3, m4⟩ := h
  refine ⟨fun mg hm => ⟨hm, ⟨h1, h2, h3, h4⟩, t1, t2, t3, t4, t5⟩, ⟨k1, k2, k3, k4⟩, m1, m2, m3, fun T hT => ?_⟩
  have := List.all_eq_true.mp m4 T hT
  simp only [Bool.and_eq_true, decide_eq_true_eq] at this
  exact this
section
variable {P : Program} {w : World} {K : PySem.W.Frag} {mg : Str → Option Value} {base : Heap}
theorem scInit : FnScope ["self", "value"] ["self", "value"] (defScope sInit) := ⟨rfl, rfl, rfl, by decide +kernel, rfl, by decide +kernel, by decide +kernel⟩
theorem ok_init {f : Addr} {fd : FuncData} (F : Fun K "__init__" "BoxError.__init__" sInit f fd) : FnOk P w K mg base CX0 1 f fd ["self", "value"] (spInit K) := by
  refine F.ok scInit (fun vs H Q E h => ?_) (fun cdv A outer s H vs Q E hr h => ?_)
  · obtain ⟨a, C, v, rfl, _⟩ := h
    rfl
  obtain ⟨a, C, v, rfl, T, no, ha, q⟩ := h
  refine ⟨_, pss_one (ps_ost (pv 0) (pv 1)), ?_⟩
  exact ⟨_, rfl, _, rfl, a, C, rfl, T, no, .inl ⟨ha, fun d nd ne => q d nd ne⟩⟩
end
end K55
set_option Elab.async false
set_option linter.all false
set_option maxRecDepth 100000
set_option maxHeartbeats 8000000
namespace K55
open PySem L2 LG LamX
theorem all_mk {l : PySem.W.OpenLaw} {w : World} {K : PySem.W.Frag} {h : Heap} {mg : Str → Option Value} {fa B C CB hA a0 a1 a2  cRd P1 fIsName fNamesIn fReadHeads fAmong fReadSteps fIsLine fPot fTake fOf fSome fAny fCells fTold fOdd fWatch fWText fName2 fHeadIn fWrong fIsRead fSpoilt fThrees fByHand fRight fLaw fInit fDInit fDLen fDHas fDEq : Addr}
    {odIsName anIsName odNamesIn anNamesIn odReadHeads anReadHeads odAmong anAmong odReadSteps anReadSteps odIsLine anIsLine odPot anPot odTake anTake odOf anOf odSome anSome odAny anAny odCells anCells odTold anTold odOdd anOdd odWatch anWatch odWText anWText odName2 anName2 odHeadIn anHeadIn odWrong anWrong odIsRead anIsRead odSpoilt anSpoilt odThrees anThrees odByHand anByHand odRight anRight odLaw anLaw odInit anInit odDInit anDInit odDLen anDLen odDHas anDHas odDEq anDEq dH dH0 dH1 dH2 dKIsRead : Option Addr} {slIsName slNamesIn slReadHeads slAmong slReadSteps slIsLine slPot slTake slOf slSome slAny slCells slTold slOdd slWatch slWText slName2 slHeadIn slWrong slIsRead slSpoilt slThrees slByHand slRight slLaw slInit slDInit slDLen slDHas slDEq slH slH0 slH1 slH2 slKIsRead : Array (Option Value)} {ocIsName kVIsName dcIsName pmIsName cdIsName ctIsName ocNamesIn kVNamesIn dcNamesIn pmNamesIn cdNamesIn ctNamesIn ocReadHeads kVReadHeads dcReadHeads pmReadHeads cdReadHeads ctReadHeads ocAmong kVAmong dcAmong pmAmong cdAmong ctAmong ocReadSteps kVReadSteps dcReadSteps pmReadSteps cdReadSteps ctReadSteps ocIsLine kVIsLine dcIsLine pmIsLine cdIsLine ctIsLine ocPot kVPot dcPot pmPot cdPot ctPot ocTake kVTake dcTake pmTake cdTake ctTake ocOf kVOf dcOf pmOf cdOf ctOf ocSome kVSome dcSome pmSome cdSome ctSome ocAny kVAny dcAny pmAny cdAny ctAny ocCells kVCells dcCells pmCells cdCells ctCells ocTold kVTold dcTold pmTold cdTold ctTold ocOdd kVOdd dcOdd pmOdd cdOdd ctOdd ocWatch kVWatch dcWatch pmWatch cdWatch ctWatch ocWText kVWText dcWText pmWText cdWText ctWText ocName2 kVName2 dcName2 pmName2 cdName2 ctName2 ocHeadIn kVHeadIn dcHeadIn pmHeadIn cdHeadIn ctHeadIn ocWrong kVWrong dcWrong pmWrong cdWrong ctWrong ocSpoilt kVSpoilt dcSpoilt pmSpoilt cdSpoilt ctSpoilt ocThrees kVThrees dcThrees pmThrees cdThrees ctThrees ocByHand kVByHand dcByHand pmByHand cdByHand ctByHand ocRight kVRight dcRight pmRight cdRight ctRight ocLaw kVLaw dcLaw pmLaw cdLaw ctLaw ocInit kVInit dcInit pmInit cdInit ctInit ocDInit kVDInit dcDInit pmDInit cdDInit ctDInit ocDLen kVDLen dcDLen pmDLen cdDLen ctDLen ocDHas kVDHas dcDHas pmDHas cdDHas ctDHas ocDEq kVDEq dcDEq pmDEq cdDEq ctDEq ocIsRead kVIsRead dcIsRead pmIsRead ctIsRead : Value} {vKIsRead : Array Value} {nH nH0 nH1 nH2 : Nat} {tL tF tBrk tw0 tw1 tw2 tx0 tx1 tx2 ty0 ty1 ty2 : Tok} (X : K.In h) (G : h.Ns mainGlobals mg) (hfa : mg "law" = some (.ref fa))
    (tab1 : PySem.W.tabIn K "_law_is_read" = some (cRd, P1) → PySem.W.CodeHd h cRd P1 ∧ h.get? P1 = some (PySem.W.tabObj #[]))
    (aB : PySem.W.nsIn K mainGlobals "BoxError" = some (some (.ref B)))
    (eCB : PySem.W.nsIn K mainGlobals "BadWatch" = some (some (.ref CB)))
    (aC : PySem.W.nsIn K mainGlobals "Watch" = some (some (.ref C)))
    (aInit : PySem.W.findIn K (.ref B) "__init__" = some (some (.ref fInit)))
    (lInit : K.lookup fInit = some ⟨ocInit, odInit, .func (PySem.W.fnOf "__init__" "BoxError.__init__" (defArgs sInit) (defBody sInit) (defScope sInit) .none kVInit dcInit pmInit anInit cdInit ctInit), slInit⟩)
    (cInit : PySem.W.codeIn K cdInit "BoxError.__init__" = true)
    (kInit : PySem.W.keepIn K (.ref fInit) = true)
    (nInit : PySem.W.isFn K (.ref fInit) = true)
    (aDInit : PySem.W.findIn K (.ref C) "__init__" = some (some (.ref fDInit)))
    (lDInit : K.lookup fDInit = some ⟨ocDInit, odDInit, .func (PySem.W.fnOf "__init__" "Watch.__init__" (defArgs sDInit) (defBody sDInit) (defScope sDInit) .none kVDInit dcDInit pmDInit anDInit cdDInit ctDInit), slDInit⟩)
    (cDInit : PySem.W.codeIn K cdDInit "Watch.__init__" = true)
    (kDInit : PySem.W.keepIn K (.ref fDInit) = true)
    (nDInit : PySem.W.isFn K (.ref fDInit) = true)
    (aDLen : PySem.W.findIn K (.ref C) "__len__" = some (some (.ref fDLen)))
    (lDLen : K.lookup fDLen = some ⟨ocDLen, odDLen, .func (PySem.W.fnOf "__len__" "Watch.__len__" (defArgs sDLen) (defBody sDLen) (defScope sDLen) .none kVDLen dcDLen pmDLen anDLen cdDLen ctDLen), slDLen⟩)
    (cDLen : PySem.W.codeIn K cdDLen "Watch.__len__" = true)
    (kDLen : PySem.W.keepIn K (.ref fDLen) = true)
    (nDLen : PySem.W.isFn K (.ref fDLen) = true)
    (aDHas : PySem.W.findIn K (.ref C) "__contains__" = some (some (.ref fDHas)))
    (lDHas : K.lookup fDHas = some ⟨ocDHas, odDHas, .func (PySem.W.fnOf "__contains__" "Watch.__contains__" (defArgs sDContains) (defBody sDContains) (defScope sDContains) .none kVDHas dcDHas pmDHas anDHas cdDHas ctDHas), slDHas⟩)
    (cDHas : PySem.W.codeIn K cdDHas "Watch.__contains__" = true)
    (kDHas : PySem.W.keepIn K (.ref fDHas) = true)
    (nDHas : PySem.W.isFn K (.ref fDHas) = true)
    (aDEq : PySem.W.findIn K (.ref C) "__eq__" = some (some (.ref fDEq)))
    (lDEq : K.lookup fDEq = some ⟨ocDEq, odDEq, .func (PySem.W.fnOf "__eq__" "Watch.__eq__" (defArgs sDEq) (defBody sDEq) (defScope sDEq) .none kVDEq dcDEq pmDEq anDEq cdDEq ctDEq), slDEq⟩)
    (cDEq : PySem.W.codeIn K cdDEq "Watch.__eq__" = true)
    (kDEq : PySem.W.keepIn K (.ref fDEq) = true)
    (nDEq : PySem.W.isFn K (.ref fDEq) = true)
    (aIsName : PySem.W.nsIn K mainGlobals "is_name" = some (some (.ref fIsName)))
    (lIsName : K.lookup fIsName = some ⟨ocIsName, odIsName, .func (PySem.W.fnOf "is_name" "is_name" (defArgs sIsName) (defBody sIsName) (defScope sIsName) .none kVIsName dcIsName pmIsName anIsName cdIsName ctIsName), slIsName⟩)
    (cIsName : PySem.W.codeIn K cdIsName "is_name" = true)
    (kIsName : PySem.W.keepIn K (.ref fIsName) = true)
    (aNamesIn : PySem.W.nsIn K mainGlobals "names_in" = some (some (.ref fNamesIn)))
    (lNamesIn : K.lookup fNamesIn = some ⟨ocNamesIn, odNamesIn, .func (PySem.W.fnOf "names_in" "names_in" (defArgs sNamesIn) (defBody sNamesIn) (defScope sNamesIn) .none kVNamesIn dcNamesIn pmNamesIn anNamesIn cdNamesIn ctNamesIn), slNamesIn⟩)
    (cNamesIn : PySem.W.codeIn K cdNamesIn "names_in" = true)
    (kNamesIn : PySem.W.keepIn K (.ref fNamesIn) = true)
    (aReadHeads : PySem.W.nsIn K mainGlobals "read_heads" = some (some (.ref fReadHeads)))
    (lReadHeads : K.lookup fReadHeads = some ⟨ocReadHeads, odReadHeads, .func (PySem.W.fnOf "read_heads" "read_heads" (defArgs sReadHeads) (defBody sReadHeads) (defScope sReadHeads) .none kVReadHeads dcReadHeads pmReadHeads anReadHeads cdReadHeads ctReadHeads), slReadHeads⟩)
    (cReadHeads : PySem.W.codeIn K cdReadHeads "read_heads" = true)
    (kReadHeads : PySem.W.keepIn K (.ref fReadHeads) = true)
    (aAmong : PySem.W.nsIn K mainGlobals "is_among" = some (some (.ref fAmong)))
    (lAmong : K.lookup fAmong = some ⟨ocAmong, odAmong, .func (PySem.W.fnOf "is_among" "is_among" (defArgs sIsAmong) (defBody sIsAmong) (defScope sIsAmong) .none kVAmong dcAmong pmAmong anAmong cdAmong ctAmong), slAmong⟩)
    (cAmong : PySem.W.codeIn K cdAmong "is_among" = true)
    (kAmong : PySem.W.keepIn K (.ref fAmong) = true)
    (aReadSteps : PySem.W.nsIn K mainGlobals "read_steps" = some (some (.ref fReadSteps)))
    (lReadSteps : K.lookup fReadSteps = some ⟨ocReadSteps, odReadSteps, .func (PySem.W.fnOf "read_steps" "read_steps" (defArgs sReadSteps) (defBody sReadSteps) (defScope sReadSteps) .none kVReadSteps dcReadSteps pmReadSteps anReadSteps cdReadSteps ctReadSteps), slReadSteps⟩)
    (cReadSteps : PySem.W.codeIn K cdReadSteps "read_steps" = true)
    (kReadSteps : PySem.W.keepIn K (.ref fReadSteps) = true)
    (aIsLine : PySem.W.nsIn K mainGlobals "is_line_of_step" = some (some (.ref fIsLine)))
    (lIsLine : K.lookup fIsLine = some ⟨ocIsLine, odIsLine, .func (PySem.W.fnOf "is_line_of_step" "is_line_of_step" (defArgs sIsLine) (defBody sIsLine) (defScope sIsLine) .none kVIsLine dcIsLine pmIsLine anIsLine cdIsLine ctIsLine), slIsLine⟩)
    (cIsLine : PySem.W.codeIn K cdIsLine "is_line_of_step" = true)
    (kIsLine : PySem.W.keepIn K (.ref fIsLine) = true)
    (aPot : PySem.W.nsIn K mainGlobals "_law_pot" = some (some (.ref fPot)))
    (lPot : K.lookup fPot = some ⟨ocPot, odPot, .func (PySem.W.fnOf "_law_pot" "_law_pot" (defArgs sPot) (defBody sPot) (defScope sPot) .none kVPot dcPot pmPot anPot cdPot ctPot), slPot⟩)
    (cPot : PySem.W.codeIn K cdPot "_law_pot" = true)
    (kPot : PySem.W.keepIn K (.ref fPot) = true)
    (aTake : PySem.W.nsIn K mainGlobals "_law_take" = some (some (.ref fTake)))
    (lTake : K.lookup fTake = some ⟨ocTake, odTake, .func (PySem.W.fnOf "_law_take" "_law_take" (defArgs sTake) (defBody sTake) (defScope sTake) .none kVTake dcTake pmTake anTake cdTake ctTake), slTake⟩)
    (cTake : PySem.W.codeIn K cdTake "_law_take" = true)
    (kTake : PySem.W.keepIn K (.ref fTake) = true)
    (aOf : PySem.W.nsIn K mainGlobals "_law_of" = some (some (.ref fOf)))
    (lOf : K.lookup fOf = some ⟨ocOf, odOf, .func (PySem.W.fnOf "_law_of" "_law_of" (defArgs sOf) (defBody sOf) (defScope sOf) .none kVOf dcOf pmOf anOf cdOf ctOf), slOf⟩)
    (cOf : PySem.W.codeIn K cdOf "_law_of" = true)
    (kOf : PySem.W.keepIn K (.ref fOf) = true)
    (aSome : PySem.W.nsIn K mainGlobals "_law_some" = some (some (.ref fSome)))
    (lSome : K.lookup fSome = some ⟨ocSome, odSome, .func (PySem.W.fnOf "_law_some" "_law_some" (defArgs sSome) (defBody sSome) (defScope sSome) .none kVSome dcSome pmSome anSome cdSome ctSome), slSome⟩)
    (cSome : PySem.W.codeIn K cdSome "_law_some" = true)
    (kSome : PySem.W.keepIn K (.ref fSome) = true)
    (aAny : PySem.W.nsIn K mainGlobals "_law_any_device" = some (some (.ref fAny)))
    (lAny : K.lookup fAny = some ⟨ocAny, odAny, .func (PySem.W.fnOf "_law_any_device" "_law_any_device" (defArgs sAny) (defBody sAny) (defScope sAny) .none kVAny dcAny pmAny anAny cdAny ctAny), slAny⟩)
    (cAny : PySem.W.codeIn K cdAny "_law_any_device" = true)
    (kAny : PySem.W.keepIn K (.ref fAny) = true)
    (aCells : PySem.W.nsIn K mainGlobals "_law_cells" = some (some (.ref fCells)))
    (lCells : K.lookup fCells = some ⟨ocCells, odCells, .func (PySem.W.fnOf "_law_cells" "_law_cells" (defArgs sCells) (defBody sCells) (defScope sCells) .none kVCells dcCells pmCells anCells cdCells ctCells), slCells⟩)
    (cCells : PySem.W.codeIn K cdCells "_law_cells" = true)
    (kCells : PySem.W.keepIn K (.ref fCells) = true)
    (aTold : PySem.W.nsIn K mainGlobals "_law_heard_of" = some (some (.ref fTold)))
    (lTold : K.lookup fTold = some ⟨ocTold, odTold, .func (PySem.W.fnOf "_law_heard_of" "_law_heard_of" (defArgs sTold) (defBody sTold) (defScope sTold) .none kVTold dcTold pmTold anTold cdTold ctTold), slTold⟩)
    (cTold : PySem.W.codeIn K cdTold "_law_heard_of" = true)
    (kTold : PySem.W.keepIn K (.ref fTold) = true)
    (aOdd : PySem.W.nsIn K mainGlobals "_law_odd" = some (some (.ref fOdd)))
    (lOdd : K.lookup fOdd = some ⟨ocOdd, odOdd, .func (PySem.W.fnOf "_law_odd" "_law_odd" (defArgs sOdd) (defBody sOdd) (defScope sOdd) .none kVOdd dcOdd pmOdd anOdd cdOdd ctOdd), slOdd⟩)
    (cOdd : PySem.W.codeIn K cdOdd "_law_odd" = true)
    (kOdd : PySem.W.keepIn K (.ref fOdd) = true)
    (aWatch : PySem.W.nsIn K mainGlobals "_law_watch" = some (some (.ref fWatch)))
    (lWatch : K.lookup fWatch = some ⟨ocWatch, odWatch, .func (PySem.W.fnOf "_law_watch" "_law_watch" (defArgs sWatch) (defBody sWatch) (defScope sWatch) .none kVWatch dcWatch pmWatch anWatch cdWatch ctWatch), slWatch⟩)
    (cWatch : PySem.W.codeIn K cdWatch "_law_watch" = true)
    (kWatch : PySem.W.keepIn K (.ref fWatch) = true)
    (aWText : PySem.W.nsIn K mainGlobals "_law_watch_text" = some (some (.ref fWText)))
    (lWText : K.lookup fWText = some ⟨ocWText, odWText, .func (PySem.W.fnOf "_law_watch_text" "_law_watch_text" (defArgs sWText) (defBody sWText) (defScope sWText) .none kVWText dcWText pmWText anWText cdWText ctWText), slWText⟩)
    (cWText : PySem.W.codeIn K cdWText "_law_watch_text" = true)
    (kWText : PySem.W.keepIn K (.ref fWText) = true)
    (aName2 : PySem.W.nsIn K mainGlobals "_law_is_name" = some (some (.ref fName2)))
    (lName2 : K.lookup fName2 = some ⟨ocName2, odName2, .func (PySem.W.fnOf "_law_is_name" "_law_is_name" (defArgs sName2) (defBody sName2) (defScope sName2) .none kVName2 dcName2 pmName2 anName2 cdName2 ctName2), slName2⟩)
    (cName2 : PySem.W.codeIn K cdName2 "_law_is_name" = true)
    (kName2 : PySem.W.keepIn K (.ref fName2) = true)
    (aHeadIn : PySem.W.nsIn K mainGlobals "_law_head" = some (some (.ref fHeadIn)))
    (lHeadIn : K.lookup fHeadIn = some ⟨ocHeadIn, odHeadIn, .func (PySem.W.fnOf "_law_head" "_law_head" (defArgs sHeadIn) (defBody sHeadIn) (defScope sHeadIn) .none kVHeadIn dcHeadIn pmHeadIn anHeadIn cdHeadIn ctHeadIn), slHeadIn⟩)
    (cHeadIn : PySem.W.codeIn K cdHeadIn "_law_head" = true)
    (kHeadIn : PySem.W.keepIn K (.ref fHeadIn) = true)
    (aWrong : PySem.W.nsIn K mainGlobals "_law_wrong" = some (some (.ref fWrong)))
    (lWrong : K.lookup fWrong = some ⟨ocWrong, odWrong, .func (PySem.W.fnOf "_law_wrong" "_law_wrong" (defArgs sWrong) (defBody sWrong) (defScope sWrong) .none kVWrong dcWrong pmWrong anWrong cdWrong ctWrong), slWrong⟩)
    (cWrong : PySem.W.codeIn K cdWrong "_law_wrong" = true)
    (kWrong : PySem.W.keepIn K (.ref fWrong) = true)
    (aIsRead : PySem.W.nsIn K mainGlobals "_law_is_read" = some (some (.ref fIsRead)))
    (lIsRead : K.lookup fIsRead = some ⟨ocIsRead, odIsRead, .func (PySem.W.fnOf "_law_is_read" "_law_is_read" (defArgs sIsRead) (defBody sIsRead) (defScope sIsRead) .none kVIsRead dcIsRead pmIsRead anIsRead (.ref cRd) ctIsRead), slIsRead⟩)
    (cIsRead : PySem.W.codeIn K (.ref cRd) "_law_is_read" = true)
    (kIsRead : PySem.W.keepIn K (.ref fIsRead) = true)
    (aSpoilt : PySem.W.nsIn K mainGlobals "_law_spoilt" = some (some (.ref fSpoilt)))
    (lSpoilt : K.lookup fSpoilt = some ⟨ocSpoilt, odSpoilt, .func (PySem.W.fnOf "_law_spoilt" "_law_spoilt" (defArgs sSpoilt) (defBody sSpoilt) (defScope sSpoilt) .none kVSpoilt dcSpoilt pmSpoilt anSpoilt cdSpoilt ctSpoilt), slSpoilt⟩)
    (cSpoilt : PySem.W.codeIn K cdSpoilt "_law_spoilt" = true)
    (kSpoilt : PySem.W.keepIn K (.ref fSpoilt) = true)
    (aThrees : PySem.W.nsIn K mainGlobals "_law_threes" = some (some (.ref fThrees)))
    (lThrees : K.lookup fThrees = some ⟨ocThrees, odThrees, .func (PySem.W.fnOf "_law_threes" "_law_threes" (defArgs sThrees) (defBody sThrees) (defScope sThrees) .none kVThrees dcThrees pmThrees anThrees cdThrees ctThrees), slThrees⟩)
    (cThrees : PySem.W.codeIn K cdThrees "_law_threes" = true)
    (kThrees : PySem.W.keepIn K (.ref fThrees) = true)
    (aByHand : PySem.W.nsIn K mainGlobals "_law_by_hand" = some (some (.ref fByHand)))
    (lByHand : K.lookup fByHand = some ⟨ocByHand, odByHand, .func (PySem.W.fnOf "_law_by_hand" "_law_by_hand" (defArgs sByHand) (defBody sByHand) (defScope sByHand) .none kVByHand dcByHand pmByHand anByHand cdByHand ctByHand), slByHand⟩)
    (cByHand : PySem.W.codeIn K cdByHand "_law_by_hand" = true)
    (kByHand : PySem.W.keepIn K (.ref fByHand) = true)
    (aRight : PySem.W.nsIn K mainGlobals "_law_right" = some (some (.ref fRight)))
    (lRight : K.lookup fRight = some ⟨ocRight, odRight, .func (PySem.W.fnOf "_law_right" "_law_right" (defArgs sRight) (defBody sRight) (defScope sRight) .none kVRight dcRight pmRight anRight cdRight ctRight), slRight⟩)
    (cRight : PySem.W.codeIn K cdRight "_law_right" = true)
    (kRight : PySem.W.keepIn K (.ref fRight) = true)
    (aLaw : PySem.W.nsIn K mainGlobals "law" = some (some (.ref fLaw)))
    (lLaw : K.lookup fLaw = some ⟨ocLaw, odLaw, .func (PySem.W.fnOf "law" "law" (defArgs sLaw) (defBody sLaw) (defScope sLaw) .none kVLaw dcLaw pmLaw anLaw cdLaw ctLaw), slLaw⟩)
    (cLaw : PySem.W.codeIn K cdLaw "law" = true)
    (kLaw : PySem.W.keepIn K (.ref fLaw) = true)
    (z0 : PySem.W.nsIn K mainGlobals "len" = some none)
    (z1 : PySem.W.nsIn K mainGlobals "sum" = some none)
    (z2 : PySem.W.nsIn K mainGlobals "int" = some none)
    (z3 : PySem.W.nsIn K mainGlobals "abs" = some none)
    (z4 : PySem.W.nsIn K mainGlobals "list" = some none)
    (z5 : PySem.W.nsIn K mainGlobals "range" = some none)
    (z6 : PySem.W.nsIn K mainGlobals "max" = some none)
    (z7 : PySem.W.nsIn K mainGlobals "min" = some none)
    (z8 : PySem.W.nsIn K mainGlobals "isinstance" = some none)
    (z9 : PySem.W.nsIn K mainGlobals "tuple" = some none)
    (z10 : PySem.W.nsIn K mainGlobals "bool" = some none)
    (z11 : PySem.W.nsIn K mainGlobals "str" = some none)
    (z12 : PySem.W.nsIn K mainGlobals "enumerate" = some none)
    (z13 : PySem.W.nsIn K mainGlobals "repr" = some none)
    (z14 : PySem.W.nsIn K mainGlobals "all" = some none)
    (z15 : PySem.W.nsIn K mainGlobals "ValueError" = some none)
    (z16 : PySem.W.nsIn K mainGlobals "set" = some none)
    (z17 : PySem.W.nsIn K mainGlobals "dict" = some none)
    (aL : PySem.W.nsIn K mainGlobals "LETTERS" = some (some (.str LET tL)))
    (aF : PySem.W.nsIn K mainGlobals "FIGURES" = some (some (.str FIG tF)))
    (aH : PySem.W.nsIn K mainGlobals "HEADS" = some (some (.ref hA)))
    (h0 : K.lookup hA = some ⟨.type "tuple", dH, .seq #[.ref a0, .ref a1, .ref a2] nH, slH⟩)
    (h1 : K.lookup a0 = some ⟨.type "tuple", dH0, .seq #[.str "calls" tw0, .int 1 tx0, .int 3 ty0] nH0, slH0⟩)
    (h2 : K.lookup a1 = some ⟨.type "tuple", dH1, .seq #[.str "answers" tw1, .int 2 tx1, .int 3 ty1] nH1, slH1⟩)
    (h3 : K.lookup a2 = some ⟨.type "tuple", dH2, .seq #[.str "marks" tw2, .int 1 tx2, .int 4 ty2] nH2, slH2⟩)
    (KcRd : K.lookup cRd = some ⟨.type "code", dKIsRead, .fields vKIsRead, slKIsRead⟩)
    (hP1 : vKIsRead[11]? = some (Value.ref P1))
    (nP1 : K.lookup P1 = none)
    (tb1 : PySem.W.tabIn K "_law_is_read" = some (cRd, P1))
    (eb : errsB K fInit B [CB] = true)
    (db : devB K C = true)
    (aBrk : PySem.W.nsIn K mainGlobals "BROKEN" = some (some (.str BRK tBrk))) :
    GLawAt l w K 10 "_law_script" mg fa h := by
  have e := hfa.symm.trans (PySem.W.mg_of X G aLaw)
  cases e
  have T : Bltn mg := ⟨PySem.W.mg_none_of X G z0, PySem.W.mg_none_of X G z1, PySem.W.mg_none_of X G z2, PySem.W.mg_none_of X G z3, PySem.W.mg_none_of X G z4, PySem.W.mg_none_of X G z5, PySem.W.mg_none_of X G z6, PySem.W.mg_none_of X G z7, PySem.W.mg_none_of X G z8, PySem.W.mg_none_of X G z9, PySem.W.mg_none_of X G z10, PySem.W.mg_none_of X G z11, PySem.W.mg_none_of X G z12, PySem.W.mg_none_of X G z13, PySem.W.mg_none_of X G z14, PySem.W.mg_none_of X G z15, PySem.W.mg_none_of X G z16⟩
  have mDict := PySem.W.mg_none_of X G z17
  have FInit := fun_mk (st := sInit) lInit cInit kInit
  have FDInit := fun_mk (st := sDInit) lDInit cDInit kDInit
  have FDLen := fun_mk (st := sDLen) lDLen cDLen kDLen
  have FDHas := fun_mk (st := sDContains) lDHas cDHas kDHas
  have FDEq := fun_mk (st := sDEq) lDEq cDEq kDEq
  have FIsName := fun_mk (st := sIsName) lIsName cIsName kIsName
  have FNamesIn := fun_mk (st := sNamesIn) lNamesIn cNamesIn kNamesIn
  have FReadHeads := fun_mk (st := sReadHeads) lReadHeads cReadHeads kReadHeads
  have FAmong := fun_mk (st := sIsAmong) lAmong cAmong kAmong
  have FReadSteps := fun_mk (st := sReadSteps) lReadSteps cReadSteps kReadSteps
  have FIsLine := fun_mk (st := sIsLine) lIsLine cIsLine kIsLine
  have FPot := fun_mk (st := sPot) lPot cPot kPot
  have FTake := fun_mk (st := sTake) lTake cTake kTake
  have FOf := fun_mk (st := sOf) lOf cOf kOf
  have FSome := fun_mk (st := sSome) lSome cSome kSome
  have FAny := fun_mk (st := sAny) lAny cAny kAny
  have FCells := fun_mk (st := sCells) lCells cCells kCells
  have FTold := fun_mk (st := sTold) lTold cTold kTold
  have FOdd := fun_mk (st := sOdd) lOdd cOdd kOdd
  have FWatch := fun_mk (st := sWatch) lWatch cWatch kWatch
  have FWText := fun_mk (st := sWText) lWText cWText kWText
  have FName2 := fun_mk (st := sName2) lName2 cName2 kName2
  have FHeadIn := fun_mk (st := sHeadIn) lHeadIn cHeadIn kHeadIn
  have FWrong := fun_mk (st := sWrong) lWrong cWrong kWrong
  have FSpoilt := fun_mk (st := sSpoilt) lSpoilt cSpoilt kSpoilt
  have FThrees := fun_mk (st := sThrees) lThrees cThrees kThrees
  have FByHand := fun_mk (st := sByHand) lByHand cByHand kByHand
  have FRight := fun_mk (st := sRight) lRight cRight kRight
  have FLaw := fun_mk (st := sLaw) lLaw cLaw kLaw
  have bInit := FInit.binds (ps := ["self", "value"]) fun _ _ _ _ _ _ us hl => match us, hl with | [_, _], _ => rfl
  have bDInit := FDInit.binds (ps := ["self", "text"]) fun _ _ _ _ _ _ us hl => match us, hl with | [_, _], _ => rfl
  have bDLen := FDLen.binds (ps := ["self"]) fun _ _ _ _ _ _ us hl => match us, hl with | [_], _ => rfl
  have bDHas := FDHas.binds (ps := ["self", "value"]) fun _ _ _ _ _ _ us hl => match us, hl with | [_, _], _ => rfl
  have bDEq := FDEq.binds (ps := ["self", "other"]) fun _ _ _ _ _ _ us hl => match us, hl with | [_, _], _ => rfl
  have bIsName := FIsName.binds (ps := ["word"]) fun _ _ _ _ _ _ us hl => match us, hl with | [_], _ => rfl
  have bNamesIn := FNamesIn.binds (ps := ["line", "head", "fewest", "most"]) fun _ _ _ _ _ _ us hl => match us, hl with | [_, _, _, _], _ => rfl
  have bReadHeads := FReadHeads.binds (ps := ["lines", "heads"]) fun _ _ _ _ _ _ us hl => match us, hl with | [_, _], _ => rfl
  have bAmong := FAmong.binds (ps := ["value", "names"]) fun _ _ _ _ _ _ us hl => match us, hl with | [_, _], _ => rfl
  have bReadSteps := FReadSteps.binds (ps := ["lines", "calls", "answers", "marks"]) fun _ _ _ _ _ _ us hl => match us, hl with | [_, _, _, _], _ => rfl
  have bIsLine := FIsLine.binds (ps := ["words", "calls", "answers", "marks"]) fun _ _ _ _ _ _ us hl => match us, hl with | [_, _, _, _], _ => rfl
  have bPot := FPot.binds (ps := ["_law_script", "_law_place"]) fun _ _ _ _ _ _ us hl => match us, hl with | [_, _], _ => rfl
  have bTake := FTake.binds (ps := ["_law_pot_here", "_law_upto"]) fun _ _ _ _ _ _ us hl => match us, hl with | [_, _], _ => rfl
  have bOf := FOf.binds (ps := ["_law_pot_here", "_law_some_here"]) fun _ _ _ _ _ _ us hl => match us, hl with | [_, _], _ => rfl
  have bSome := FSome.binds (ps := ["_law_pot_here", "_law_pool", "_law_many"]) fun _ _ _ _ _ _ us hl => match us, hl with | [_, _, _], _ => rfl
  have bAny := FAny.binds (ps := ["_law_pot_here", "_law_many", "_law_sizes"]) fun _ _ _ _ _ _ us hl => match us, hl with | [_, _, _], _ => rfl
  have bCells := FCells.binds (ps := ["_law_script", "_law_limit"]) fun _ _ _ _ _ _ us hl => match us, hl with | [_, _], _ => rfl
  have bTold := FTold.binds (ps := ["_law_look"]) fun _ _ _ _ _ _ us hl => match us, hl with | [_], _ => rfl
  have bOdd := FOdd.binds (ps := ["_law_pot_here"]) fun _ _ _ _ _ _ us hl => match us, hl with | [_], _ => rfl
  have bWatch := FWatch.binds (ps := ["_law_pot_here", "_law_device"]) fun _ _ _ _ _ _ us hl => match us, hl with | [_, _], _ => rfl
  have bWText := FWText.binds (ps := ["_law_watch_here"]) fun _ _ _ _ _ _ us hl => match us, hl with | [_], _ => rfl
  have bName2 := FName2.binds (ps := ["_law_word"]) fun _ _ _ _ _ _ us hl => match us, hl with | [_], _ => rfl
  have bHeadIn := FHeadIn.binds (ps := ["_law_line", "_law_word", "_law_least", "_law_most"]) fun _ _ _ _ _ _ us hl => match us, hl with | [_, _, _, _], _ => rfl
  have bWrong := FWrong.binds (ps := ["_law_value"]) fun _ _ _ _ _ _ us hl => match us, hl with | [_], _ => rfl
  have bIsRead := (fun_mk (st := sIsRead) lIsRead cIsRead kIsRead).binds (ps := ["_law_value"]) fun _ _ _ _ _ _ us hl => match us, hl with | [_], _ => rfl
  have bSpoilt := FSpoilt.binds (ps := ["_law_pot_here", "_law_lines"]) fun _ _ _ _ _ _ us hl => match us, hl with | [_, _], _ => rfl
  have bThrees := FThrees.binds (ps := []) fun _ _ _ _ _ _ us hl => match us, hl with | [], _ => rfl
  have bByHand := FByHand.binds (ps := []) fun _ _ _ _ _ _ us hl => match us, hl with | [], _ => rfl
  have bRight := FRight.binds (ps := ["_law_pot_here"]) fun _ _ _ _ _ _ us hl => match us, hl with | [_], _ => rfl
  have bLaw := FLaw.binds (ps := ["_law_script"]) fun _ _ _ _ _ _ us hl => match us, hl with | [_], _ => rfl
  obtain ⟨t11, t12⟩ := tab1 tb1
  have A := errsB_ok eb
  have DD := devB_ok db
  have cl : ∀ {Ce : Addr} {x : Str}, Ce ∈ [CB] → mg x = some (.ref Ce) → EQl K mg fInit B x Ce := fun hC hx => ⟨⟨hx, errB_ok (A.each _ hC), A.ini _ hC, A.val _ hC⟩, A.box _ hC⟩
  have qCB := cl (x := "BadWatch") (by simp) (PySem.W.mg_of X G eCB)
  have DC : DevCl K mg C := DD.1 mg (PySem.W.mg_of X G aC)
  have HA : HeadsAt K hA := ⟨a0, a1, a2, fun H => .inr ⟨_, _, _, h0, rfl, rfl, (by show 3 ≤ sizeLine; decide), .cons rfl (.cons rfl (.cons rfl .nil))⟩, fun H => .inr ⟨_, _, _, h1, rfl, rfl, (by show 3 ≤ sizeLine; decide), .cons ⟨_, rfl⟩ (.cons ⟨_, rfl⟩ (.cons ⟨_, rfl⟩ .nil))⟩,
    fun H => .inr ⟨_, _, _, h2, rfl, rfl, (by show 3 ≤ sizeLine; decide), .cons ⟨_, rfl⟩ (.cons ⟨_, rfl⟩ (.cons ⟨_, rfl⟩ .nil))⟩, fun H => .inr ⟨_, _, _, h3, rfl, rfl, (by show 3 ≤ sizeLine; decide), .cons ⟨_, rfl⟩ (.cons ⟨_, rfl⟩ (.cons ⟨_, rfl⟩ .nil))⟩⟩
  have allT : ∀ {R : Addr × Addr → Prop}, R (cRd, P1) → ∀ p ∈ [(cRd, P1)], R p := fun r0 p hp => by
    rw [List.mem_singleton.mp hp]
    exact r0
  have i1 : (cRd, P1) ∈ [(cRd, P1)] := List.mem_cons_self
  refine ⟨PySem.W.fnOf "law" "law" (defArgs sLaw) (defBody sLaw) (defScope sLaw) .none kVLaw dcLaw pmLaw anLaw cdLaw ctLaw, [(cRd, P1)], spLaw K P1, allT t12, allT nP1, allT t11, fun s v => .of_eq rfl, ?_, ?_⟩
  · intro H a ns hl hH hS
    refine ⟨a, ns, rfl, hS, hl, fun q hq => ?_, fun _ => rfl⟩
    rw [List.mem_singleton.mp hq]
    exact ⟨#[], hH (cRd, P1) i1, trivial, fun pos cv hc => by cases hc⟩
  intro base inK gl hT
  have TB1 : TabB base mg cRd P1 := hT (cRd, P1) i1
  have II : Ini l.prog w K mg base fInit := ⟨⟨_, ok_init FInit, bInit⟩, A.fn⟩
  have IS : DevIs K C := DD.2.1
  have GName := ok_name (P := l.prog) (w := w) (base := base) FIsName T ⟨⟨_, PySem.W.mg_of X G aL⟩, ⟨_, PySem.W.mg_of X G aBrk⟩, ⟨_, PySem.W.mg_of X G aF⟩⟩
  have GNames := ok_names FNamesIn T GName (PySem.W.mg_of X G aIsName) kIsName bIsName
  have GHeads := ok_heads FReadHeads T GNames (PySem.W.mg_of X G aNamesIn) kNamesIn bNamesIn
  have GAmong := ok_among (P := l.prog) (w := w) (base := base) FAmong T
  have HB : ∃ t, mg "BROKEN" = some (.str BRK t) := ⟨_, PySem.W.mg_of X G aBrk⟩
  have GLine := ok_line (P := l.prog) (w := w) (base := base) FIsLine T HB
  have GSteps := ok_steps FReadSteps T (PySem.W.mg_of X G aH) HA II qCB.ec GLine (PySem.W.mg_of X G aIsLine) kIsLine bIsLine
  have GDInit := ok_dinit FDInit T (PySem.W.mg_of X G aH) HA II qCB.ec DC HB GHeads (PySem.W.mg_of X G aReadHeads) kReadHeads bReadHeads GSteps (PySem.W.mg_of X G aReadSteps) kReadSteps bReadSteps
  have GHas := ok_has FDHas DC GAmong (PySem.W.mg_of X G aAmong) kAmong bAmong
  have GLen := ok_len (P := l.prog) (w := w) (base := base) FDLen T DC
  have GDEq := ok_eq (P := l.prog) (w := w) (base := base) FDEq T DC IS
  have MI : Mk K C fDInit := ⟨DD.2.2.1, aDInit, nDInit, DD.2.2.2.1⟩
  have GTake := ok_take (P := l.prog) (w := w) (base := base) FTake T
  have GOf := ok_of FOf T GTake (PySem.W.mg_of X G aTake) kTake bTake
  have GSome := ok_some FSome T GTake (PySem.W.mg_of X G aTake) kTake bTake
  have GAny := ok_any FAny GSome (PySem.W.mg_of X G aSome) kSome bSome GOf (PySem.W.mg_of X G aOf) kOf bOf
  have GOdd := ok_odd FOdd GOf (PySem.W.mg_of X G aOf) kOf bOf
  have GName2 := ok_name2 (P := l.prog) (w := w) (base := base) FName2 T
  have GHeadIn := ok_headin FHeadIn T GName2 (PySem.W.mg_of X G aName2) kName2 bName2
  have GWrong := ok_wrong FWrong T GHeadIn (PySem.W.mg_of X G aHeadIn) kHeadIn bHeadIn
  have GWatch := ok_watch FWatch T GTake (PySem.W.mg_of X G aTake) kTake bTake GOf (PySem.W.mg_of X G aOf) kOf bOf GSome (PySem.W.mg_of X G aSome) kSome bSome
  have GWText := ok_wtext (P := l.prog) (w := w) (base := base) FWText T
  have GSpoilt := ok_spoilt FSpoilt T GTake (PySem.W.mg_of X G aTake) kTake bTake GOf (PySem.W.mg_of X G aOf) kOf bOf
  have GThrees := ok_threes (P := l.prog) (w := w) (base := base) (mg := mg) FThrees
  have GByHand := ok_byhand FByHand T GThrees (PySem.W.mg_of X G aThrees) kThrees bThrees
  have ZD : KitD l.prog w K mg base fInit C CB B P1 := ⟨⟨_, _, GWrong, PySem.W.mg_of X G aWrong, kWrong, bWrong⟩, ⟨_, _, GDInit, MI, bDInit⟩, ⟨_, _, GLen, aDLen, nDLen, bDLen⟩, ⟨_, _, GHas, aDHas, nDHas, bDHas⟩, ⟨_, _, _, _, _, _, _, _, _, _, PySem.W.mg_of X G aTold, kTold, lTold, cTold, bTold⟩, PySem.W.mg_of X G aB, qCB, DC, A.dsc⟩
  have GIsRead := ok_isread (P := l.prog) (w := w) (base := base) T ZD lIsRead cIsRead TB1
  have ZR : KitR l.prog w K mg base fInit C CB P1 := ⟨⟨_, _, GAny, PySem.W.mg_of X G aAny, kAny, bAny⟩, ⟨_, _, GTake, PySem.W.mg_of X G aTake, kTake, bTake⟩, ⟨_, _, GOf, PySem.W.mg_of X G aOf, kOf, bOf⟩, ⟨_, _, GWatch, PySem.W.mg_of X G aWatch, kWatch, bWatch⟩, ⟨_, _, GWText, PySem.W.mg_of X G aWText, kWText, bWText⟩, ⟨_, _, GDInit, MI, bDInit⟩, ⟨_, _, GDEq, aDEq, nDEq, bDEq⟩, DD.2.2.2.2.1, IS.cm, ⟨_, _, GByHand, PySem.W.mg_of X G aByHand, kByHand, bByHand⟩, ⟨_, _, GOdd, PySem.W.mg_of X G aOdd, kOdd, bOdd⟩, ⟨_, _, GSpoilt, PySem.W.mg_of X G aSpoilt, kSpoilt, bSpoilt⟩, ⟨_, _, GIsRead, PySem.W.mg_of X G aIsRead, kIsRead, bIsRead⟩, DC, IS, DD.2.2.2.2.2⟩
  have GRight := ok_right FRight T ZR
  exact ok_law FLaw T GRight (PySem.W.mg_of X G aRight) kRight bRight (ok_pot FPot T) (PySem.W.mg_of X G aPot) kPot bPot (ok_cells FCells T) (PySem.W.mg_of X G aCells) kCells bCells
end K55
open PySem PySem.W PyProof.Rows
set_option Elab.async false
set_option maxRecDepth 100000 in
set_option maxHeartbeats 0 in
theorem PySem.Challenge.cw_toldboxes_k55_watches_as_told_and_first_holds : PySem.Challenge.rw_toldboxes_k55_watches_as_told_and_first.Holds := by
  w_on; o_law; k_head; (case hw => w_witness2)
  k_fill
  refine LG.g_walkU (l := PySem.Challenge.rw_toldboxes_k55_watches_as_told_and_first) (k := 10) (x := "_law_script") rfl rfl ⟨rfl, by decide, by decide⟩ (fun w h Y => PySem.W.km_in_of Y) ?F
  case F =>
    intro w mg mb fa h mean Y Tp KX G hmg
    refine' K55.all_mk KX G hmg (fun tb => PySem.W.tab_of Tp KX rfl tb) ?aB ?eCB ?aC ?aInit ?lInit ?cInit ?kInit ?nInit ?aDInit ?lDInit ?cDInit ?kDInit ?nDInit ?aDLen ?lDLen ?cDLen ?kDLen ?nDLen ?aDHas ?lDHas ?cDHas ?kDHas ?nDHas ?aDEq ?lDEq ?cDEq ?kDEq ?nDEq ?aIsName ?lIsName ?cIsName ?kIsName ?aNamesIn ?lNamesIn ?cNamesIn ?kNamesIn ?aReadHeads ?lReadHeads ?cReadHeads ?kReadHeads ?aAmong ?lAmong ?cAmong ?kAmong ?aReadSteps ?lReadSteps ?cReadSteps ?kReadSteps ?aIsLine ?lIsLine ?cIsLine ?kIsLine ?aPot ?lPot ?cPot ?kPot ?aTake ?lTake ?cTake ?kTake ?aOf ?lOf ?cOf ?kOf ?aSome ?lSome ?cSome ?kSome ?aAny ?lAny ?cAny ?kAny ?aCells ?lCells ?cCells ?kCells ?aTold ?lTold ?cTold ?kTold ?aOdd ?lOdd ?cOdd ?kOdd ?aWatch ?lWatch ?cWatch ?kWatch ?aWText ?lWText ?cWText ?kWText ?aName2 ?lName2 ?cName2 ?kName2 ?aHeadIn ?lHeadIn ?cHeadIn ?kHeadIn ?aWrong ?lWrong ?cWrong ?kWrong ?aIsRead ?lIsRead ?cIsRead ?kIsRead ?aSpoilt ?lSpoilt ?cSpoilt ?kSpoilt ?aThrees ?lThrees ?cThrees ?kThrees ?aByHand ?lByHand ?cByHand ?kByHand ?aRight ?lRight ?cRight ?kRight ?aLaw ?lLaw ?cLaw ?kLaw ?z0 ?z1 ?z2 ?z3 ?z4 ?z5 ?z6 ?z7 ?z8 ?z9 ?z10 ?z11 ?z12 ?z13 ?z14 ?z15 ?z16 ?z17 ?aL ?aF ?aH ?h0 ?h1 ?h2 ?h3 ?KcRd ?hP1 ?nP1 ?tb1 ?eb ?db ?aBrk
    (case aB => k_is)
    (case eCB => k_is)
    (case aC => k_is)
    (case aInit => k_is)
    (case lInit => k_is)
    (case cInit => k_is)
    (case kInit => k_is)
    (case nInit => k_is)
    (case aDInit => k_is)
    (case lDInit => k_is)
    (case cDInit => k_is)
    (case kDInit => k_is)
    (case nDInit => k_is)
    (case aDLen => k_is)
    (case lDLen => k_is)
    (case cDLen => k_is)
    (case kDLen => k_is)
    (case nDLen => k_is)
    (case aDHas => k_is)
    (case lDHas => k_is)
    (case cDHas => k_is)
    (case kDHas => k_is)
    (case nDHas => k_is)
    (case aDEq => k_is)
    (case lDEq => k_is)
    (case cDEq => k_is)
    (case kDEq => k_is)
    (case nDEq => k_is)
    (case aIsName => k_is)
    (case lIsName => k_is)
    (case cIsName => k_is)
    (case kIsName => k_is)
    (case aNamesIn => k_is)
    (case lNamesIn => k_is)
    (case cNamesIn => k_is)
    (case kNamesIn => k_is)
    (case aReadHeads => k_is)
    (case lReadHeads => k_is)
    (case cReadHeads => k_is)
    (case kReadHeads => k_is)
    (case aAmong => k_is)
    (case lAmong => k_is)
    (case cAmong => k_is)
    (case kAmong => k_is)
    (case aReadSteps => k_is)
    (case lReadSteps => k_is)
    (case cReadSteps => k_is)
    (case kReadSteps => k_is)
    (case aIsLine => k_is)
    (case lIsLine => k_is)
    (case cIsLine => k_is)
    (case kIsLine => k_is)
    (case aPot => k_is)
    (case lPot => k_is)
    (case cPot => k_is)
    (case kPot => k_is)
    (case aTake => k_is)
    (case lTake => k_is)
    (case cTake => k_is)
    (case kTake => k_is)
    (case aOf => k_is)
    (case lOf => k_is)
    (case cOf => k_is)
    (case kOf => k_is)
    (case aSome => k_is)
    (case lSome => k_is)
    (case cSome => k_is)
    (case kSome => k_is)
    (case aAny => k_is)
    (case lAny => k_is)
    (case cAny => k_is)
    (case kAny => k_is)
    (case aCells => k_is)
    (case lCells => k_is)
    (case cCells => k_is)
    (case kCells => k_is)
    (case aTold => k_is)
    (case lTold => k_is)
    (case cTold => k_is)
    (case kTold => k_is)
    (case aOdd => k_is)
    (case lOdd => k_is)
    (case cOdd => k_is)
    (case kOdd => k_is)
    (case aWatch => k_is)
    (case lWatch => k_is)
    (case cWatch => k_is)
    (case kWatch => k_is)
    (case aWText => k_is)
    (case lWText => k_is)
    (case cWText => k_is)
    (case kWText => k_is)
    (case aName2 => k_is)
    (case lName2 => k_is)
    (case cName2 => k_is)
    (case kName2 => k_is)
    (case aHeadIn => k_is)
    (case lHeadIn => k_is)
    (case cHeadIn => k_is)
    (case kHeadIn => k_is)
    (case aWrong => k_is)
    (case lWrong => k_is)
    (case cWrong => k_is)
    (case kWrong => k_is)
    (case aIsRead => k_is)
    (case lIsRead => k_is)
    (case cIsRead => k_is)
    (case kIsRead => k_is)
    (case aSpoilt => k_is)
    (case lSpoilt => k_is)
    (case cSpoilt => k_is)
    (case kSpoilt => k_is)
    (case aThrees => k_is)
    (case lThrees => k_is)
    (case cThrees => k_is)
    (case kThrees => k_is)
    (case aByHand => k_is)
    (case lByHand => k_is)
    (case cByHand => k_is)
    (case kByHand => k_is)
    (case aRight => k_is)
    (case lRight => k_is)
    (case cRight => k_is)
    (case kRight => k_is)
    (case aLaw => k_is)
    (case lLaw => k_is)
    (case cLaw => k_is)
    (case kLaw => k_is)
    (case z0 => k_is)
    (case z1 => k_is)
    (case z2 => k_is)
    (case z3 => k_is)
    (case z4 => k_is)
    (case z5 => k_is)
    (case z6 => k_is)
    (case z7 => k_is)
    (case z8 => k_is)
    (case z9 => k_is)
    (case z10 => k_is)
    (case z11 => k_is)
    (case z12 => k_is)
    (case z13 => k_is)
    (case z14 => k_is)
    (case z15 => k_is)
    (case z16 => k_is)
    (case z17 => k_is)
    (case aL => k_is)
    (case aF => k_is)
    (case aH => k_is)
    (case h0 => k_is)
    (case h1 => k_is)
    (case h2 => k_is)
    (case h3 => k_is)
    (case KcRd => k_is)
    (case hP1 => exact rfl)
    (case nP1 => kernel_rfl)
    (case tb1 => kernel_rfl)
    (case eb => kernel_rfl)
    (case db => kernel_rfl)
    (case aBrk => k_is)
