import PyProof.Rows.All
import Wide.All
import OpenK.AllK
import Wide.FinOn
import PyProof.EqAt
import PyProof.EqKinds
import PyProof.TupleCall
import PyProof.ReprRoads
import PyProof.Rows.NestShow
import PyProof.Rows.RuleB_pow
import HandS.Base
import HandS.Call
import HandS.List
import HandS.Ends
import HandS.Words
import HandS.Lambda
import HandS.EndTab
import PyProof.ReprText
import PyProof.StrLawsRepr
import PyProof.FitsInt
import PyProof.RowDictHeap
import HandS.Comp
import HandS.Dict
import HandS.Text
import HandS.TupAny
import HandS.Rev
import KE.KRevSl
import HandS.Exc
import HandS.ExcInit
import HandS.ExcField
import HandS.ExcIs
import HandS.IsInst
import KE.KExcInit
import KE.GoesMore
import PyProof.Draws
import HandS.Strs
import PyProof.Rows.SetFrom
import PyProof.InstNe
import HandS.NoneIn
import PyProof.AssignAttr
import KE.KAssignIn
import HandS.ForMost
import HandS.Conv
import HandS.Style
import HandS.Walk
import HandS.WordsExc
import HandS.TupLen
import KE.KDictWalk
import HandS.Deep
import HandS.DeepEq
import HandS.TupMul
import HandS.DictTup
import HandS.WordsDict
import HandS.Zip
import KE.KDictZip
import KE.KDictItemsList
import HandS.ListItems
import HandS.DictComp
import PyProof.NeKinds
import KE.KDictPairs
import KE.KNest
import PySem.Challenge.RW_toldboxes_k51_whole_which_versions_are_l
set_option Elab.async false
set_option linter.all false
set_option maxRecDepth 100000
/-! Promises that are kept where no repr is under way: calls within such bodies, the law's own end, repr of data. -/
namespace LG
open PySem PySem.Spec PyProof.Rows L2
/-- a promise of a def that is called where no guard of a repr stands around -/
structure GnOk (P : Program) (w : World) (K : PySem.W.Frag) (mg : Str → Option Value) (base : Heap) (k : Nat) (f : Addr) (fd : FuncData) (ps : List Str) (sp : Sp) : Prop where
  many : ∀ vs H Q E, sp vs H Q E → vs.length = ps.length
  goes : ∀ (B : Around) (callers : List Env) (z : Shared) (H : Hp) (args : Args) (us : List Value) (vs : List V) (Q : VK),
    B.guards = some [] → Room k B → Env0 P w K mg base B callers z H → BindsTo z fd args (ps.zip us) → Vals vs us → sp vs H Q E0 → codeAny (model P w) B (.call (.ref f) args) (CR CX0 callers P w H z Q E0) z
section
variable {P : Program} {w : World} {K : PySem.W.Frag} {mg : Str → Option Value} {base : Heap}
theorem GnOk.of {k : Nat} {f : Addr} {fd : FuncData} {ps : List Str} {sp : Sp} (F : FnOk P w K mg base CX0 k f fd ps sp) : GnOk P w K mg base k f fd ps sp :=
  ⟨F.len, fun B cs z H args us vs Q _ hr e0 hb r h => F.run B cs z H args us vs Q E0 hr e0 hb r h⟩
/-- a def's promise by its body, the guards known -/
theorem gn_of {x qual : Str} {st : Stmt} {f : Addr} {fd : FuncData} {N ps : List Str} {k : Nat} {sp : Sp} (F : Fun K x qual st f fd) (S : FnScope N ps (defScope st))
    (len : ∀ vs H Q E, sp vs H Q E → vs.length = ps.length)
    (body : ∀ (cv : Value) (B : Around) (callers : List Env) (z : Shared) (H : Hp) (vs : List V) (Q : VK), B.guards = some [] → Room k (B.deeper (envOfC qual (defScope st) z.heap.objs.size f cv)) → sp vs H Q E0 →
      ∃ t, PSs (cxOf CX0 P w K mg base N qual (defScope st) f cv B callers z H E0).nox (defBody st) t ∧ t { nx := fun _ H' => Q .non H', rt := Q } (start N vs) H) :
    GnOk P w K mg base (k + 1) f fd ps sp := by
  obtain ⟨oc, od, kV, doc, pm, an, cv, ct, osl, rfl, lk, hcd⟩ := F.ex
  refine ⟨len, fun B callers z H args us vs Q hg hr e0 hb r hsp => ?_⟩
  have many := len _ _ _ _ hsp
  have inK : K.In z.heap := e0.mod.kin.keeps fun b o e => (e0.bs b o e).1
  have nolim : z.heap.NoLimit := e0.mod.nolimit.keeps fun b o e => (e0.bs b o e).1
  have kinds : ∀ y ∈ ps.zip us, (defScope st).names.lookup y.1 = some .local ∨ ((defScope st).names.lookup y.1 = some .cell ∧ ((cellsFrom (z.heap.objs.size + 1) (defScope st).names []).lookup y.1).isSome = true) := by
    rintro ⟨n, v⟩ hy
    cases S.par n (List.of_mem_zip hy).1 with
    | inl q => exact .inl q
    | inr q => exact .inr ⟨q, PySem.W.cellsFrom_some _ _ _ (.inl q)⟩
  refine codeAny_call_function hr.depth (inK _ _ lk) rfl S.co S.gen rfl (PySem.W.codeRec_of inK hcd) (hb _ _ _ _ ?_)
  refine wpAny_newFunctionEnv_cells S.kind kinds fun env he z1 entered => ?_
  subst he
  refine ⟨nolim.keeps entered.toInCall.keep, codeAny_func ?_⟩
  obtain ⟨t, ht, q0⟩ := body cv B callers z H vs Q hg (hr.deeper _) hsp
  have J := inv_start (CX := CX0) (E := E0) S hr.hd e0 many r entered
  refine wpAny_mono (ht.nox.run [] z1 (start N vs) H _ J q0) (fun fl z' ends => ?_) fun _ _ e => e
  cases fl with
  | ret u =>
    obtain ⟨v, σ', H', J', rv, q⟩ := ends
    exact ⟨v, H', J'.os, J'.bare, J'.base, J'.hok, rv, q⟩
  | next =>
    obtain ⟨σ', H', J', q⟩ := ends
    exact ⟨V.non, H', J'.os, J'.bare, J'.base, J'.hok, rfl, q⟩
  | brk =>
    obtain ⟨_, _, _, q⟩ := ends
    exact q.elim
  | cont =>
    obtain ⟨_, _, _, q⟩ := ends
    exact q.elim
end
section
variable {X : Cx} {k : Nat} {f : Addr} {fd : FuncData} {ps : List Str} {sp : Sp} {x : Str} {p pos : Pos} {e : Expr} {es : List Expr} {t : TA}
theorem g_run {pins : List (Addr × Obj)} {σ : L2.St} {H : Hp} {z : Shared} {Q : VK} {us : List Value} {vs : List V} (F : GnOk X.prog X.w X.K X.mg X.base k f fd ps sp) (hg : X.A.guards = some []) (hr : Room k X.A) (hb : Binds X.K fd ps [])
    (I : Inv X pins σ H z) (r : Vals vs us) (h : sp vs H Q E0) : wpAny (model X.prog X.w) X.A (call (.ref f) us) (EP X pins σ Q) X.xe z := by
  have hl : (us ++ []).length = ps.length := by
    rw [List.append_nil, ← r.length]
    exact F.many _ _ _ _ h
  have hb' := hb z us I.kIn hl
  rw [List.append_nil] at hb'
  refine wpAny_call (codeAny_mono (F.goes X.A X.stack z H ⟨us, []⟩ us vs Q hg hr I.env0 hb' r h) fun res z' q => ?_)
  match res, q with
  | .ok (.ret u), q => exact I.after q
  | .ok .next, q => exact q.elim
  | .ok .brk, q => exact q.elim
  | .ok .cont, q => exact q.elim
  | .error _, q => exact q.elim
/-- f(e, ..) where no repr is under way -/
theorem pe_gcall (F : GnOk X.prog X.w X.K X.mg X.base k f fd ps sp) (hG : X.A.guards = some []) (hr : Room k X.A) (hg : Gl X x) (hm : X.mg x = some (.ref f)) (hk : PySem.W.keepIn X.K (.ref f) = true) (hb : Binds X.K fd ps [])
    (ha : PA X (e :: es) t) (hdb : (x == ("__debug__" : Str)) = false := by decide) (he : starEach (e :: es) X.env = (false, eval e X.env) :: starEach es X.env := by rfl) (hpl : (backTo pos (starEach es X.env)).any (·.1) = false := by rfl) :
    PE X (.Call (.Name x p) (e :: es) [] pos) (fun σ H Q => t σ H fun vs H1 => sp vs H1 Q E0) := by
  refine ⟨fun pins z σ H Q I h => wpAny_Call_Name_kw (ld_glob I hg hm ?_ hdb)⟩
  refine PySem.W.callWith_K (h₀ := X.base) I.ok.mod.kin hk (thn (ha.run pos pins z σ H _ I h) ?_) he hpl
  rintro us z1 ⟨vs, H1, I1, r, q⟩
  exact ⟨I1.kIn, g_run F hG hr hb I1 r q⟩
end
end LG
set_option Elab.async false
set_option linter.all false
set_option maxRecDepth 100000
namespace LG
open PySem PySem.Spec PyProof.Rows L2
/-- the law's call from the heap behind the top, for a promise of the kind GnOk -/
theorem g_law {P : Program} {w : World} {K : PySem.W.Frag} {mg mb : Str → Option Value} {k : Nat} {fa a : Addr} {fd : FuncData} {x : Str} {sp : Sp} {z : Shared} {vs : List Value} {ns : List Int}
    (inK : K.In z.heap) (gl : z.heap.Ns mainGlobals mg) (bl : z.heap.Ns builtinsNs mb) (boot : ∀ x : Str, x ≠ "__name__" → mb x = bootBuiltins x) (nolim : z.heap.NoLimit) (nogen : z.gens = #[])
    (at_ : z.heap.get? a = some { cls := .type "list", data := .seq vs.toArray }) (isInts : IntsAre vs ns) (fits : ns.length ≤ sizeLine) (hr : Room k callerA)
    (F : ∀ base : Heap, K.In base → base.Ns mainGlobals mg → GnOk P w K mg base k fa fd [x] sp) (binds : ∀ (s : Shared) (u : Value), BindsTo s fd ⟨[u], []⟩ [(x, u)])
    (told : ∀ H : Hp, Only H → SqL K H a (ns.map V.int) → sp [.ref a] H (fun v _ => v = .bl true) E0) :
    codeAny (model P w) callerA (.call (.ref fa) ⟨[.ref a], []⟩) (fun r s' => r = .ok (.ret (.bool true)) ∧ OldK z.heap s'.heap ∧ s'.os = z.os ∧ AllBare s'.gens) z := by
  have vals := vals_ints isInts
  have many := isInts.length
  have go : ∀ H : Hp, Only H → SqL K H a (ns.map V.int) → HOk P w H z.heap → (∀ b, H b ≠ none → b = a) → (H a ≠ none → K.lookup a = none) →
      codeAny (model P w) callerA (.call (.ref fa) ⟨[.ref a], []⟩) (fun r s' => r = .ok (.ret (.bool true)) ∧ OldK z.heap s'.heap ∧ s'.os = z.os ∧ AllBare s'.gens) z := by
    intro H only seq hok just notK
    have dicts : ∀ {b : Addr} {o : Obj} {es : Array DictEntry} {ep : Nat}, z.heap.get? b = some o → o.data = .dict es ep → H b = none := by
      intro b o es ep e d
      cases q : H b with
      | none => rfl
      | some u =>
        have same : b = a := just b (by rw [q]; exact fun t => nomatch t)
        rw [same, at_] at e
        cases e
        exact nomatch (show Data.seq vs.toArray _ = Data.dict es ep from d)
    have nsH : ∀ {b : Addr} {m : Str → Option Value}, z.heap.Ns b m → (hidT z.heap H).Ns b m := by
      rintro b m ⟨o, es, ep, e, d, r⟩
      exact ⟨o, es, ep, hidT_get e (dicts e d), d, r⟩
    have inH : K.In (hidT z.heap H) := by
      intro b o e
      refine hidT_get (inK b o e) ?_
      cases q : H b with
      | none => rfl
      | some u =>
        have same : b = a := just b (by rw [q]; exact fun t => nomatch t)
        have no := notK (by rw [← same, q]; exact fun t => nomatch t)
        rw [same, no] at e
        cases e
    have M : Mod K mg (hidT z.heap H) := ⟨inH, nsH gl, ⟨mb, nsH bl, boot⟩, by
      obtain ⟨mc, n1, n2⟩ := nolim
      exact ⟨mc, nsH n1, n2⟩⟩
    have e0 : Env0 P w K mg (hidT z.heap H) callerA [] z H :=
      ⟨rfl, M, fun b o e => of_hidT e, Nat.le_of_eq (hidT_size _ _), trivial, fun b hb => absurd hb (by simp [frs]), hok, .of_eq nogen⟩
    refine codeAny_mono ((F _ inH (nsH gl)).goes callerA [] z H ⟨[.ref a], []⟩ [.ref a] [.ref a] _ rfl hr e0 (binds z (.ref a)) (.cons rfl .nil) (told H only seq)) fun r s' h => ?_
    match r, h with
    | .error _, h => exact h.elim
    | .ok .next, h => exact h.elim
    | .ok .brk, h => exact h.elim
    | .ok .cont, h => exact h.elim
    | .ok (.ret u), h =>
      obtain ⟨v, H', os, bare, un, hok', r', q⟩ := h
      have q' : v = .bl true := q
      subst q'
      have r2 : u = Value.bool true := r'
      subst r2
      refine ⟨rfl, OldK.of_keep fun b o e => ?_, os, bare⟩
      cases q : H b with
      | none => exact un.keep b o e q (by simp [frs]) (by simp)
      | some u =>
        rcases only b with t | ⟨ob, xs, t⟩
        · rw [q] at t
          cases t
        · obtain ⟨e1, _⟩ := hok b _ t
          obtain ⟨e2, _⟩ := hok' b _ (un.frzs b ob _ t)
          rw [e] at e1
          cases e1
          exact e2
  cases hk : K.lookup a with
  | some o =>
    have e := inK a o hk
    rw [at_] at e
    cases e
    refine go (fun _ => none) (fun _ => .inl rfl) (.inr ⟨_, vs.toArray, _, hk, rfl, rfl, rfl, ?_, ?_⟩) (fun b u t => nomatch (show (none : Option HO) = some u from t)) (fun b t => absurd rfl t) fun t => absurd rfl t
    · rw [List.size_toArray, many]
      exact fits
    · simpa using vals
  | none =>
    refine go (fun b => if b = a then some (.frz { cls := .type "list", data := .seq vs.toArray } (.lst (ns.map V.int))) else none) ?_ (.inl (.inr ⟨_, if_pos rfl⟩)) ?_ ?_ fun _ => hk
    · intro b
      by_cases same : b = a
      · exact .inr ⟨_, _, if_pos same⟩
      · exact .inl (if_neg same)
    · intro b u t
      by_cases same : b = a
      · have t' := (if_pos same).symm.trans t
        cases t'
        rw [same]
        exact ⟨at_, by rw [List.length_map]; exact fits, vs, _, vals, at_⟩
      · exact nomatch (if_neg same).symm.trans t
    · intro b t
      by_cases same : b = a
      · exact same
      · exact absurd (if_neg same) t
theorem g_walk {l : PySem.W.OpenLaw} {k : Nat} {q : Program} {loose : List Str} {XP : (Str → Option Value) → Heap → Prop} {YP : World → Heap → Prop} {d : DefRec} {K : Params → PySem.W.Frag} {sp : PySem.W.Frag → Sp} {x : Str}
    (most : l.most = some 63) (nodef : d.params.defaults = []) (hr : Room k callerA) (inK : ∀ (w : World) (h : Heap), YP w h → (K w.params).In h)
    (F : ∀ (w : World) (mg : Str → Option Value) (fa : Addr) (h : Heap), (K w.params).In h → h.Ns mainGlobals mg → mg d.name = some (.ref fa) →
      ∃ fd : FuncData, (∀ (s : Shared) (u : Value), BindsTo s fd ⟨[u], []⟩ [(x, u)]) ∧ ∀ base : Heap, (K w.params).In base → base.Ns mainGlobals mg → GnOk l.prog w (K w.params) mg base k fa fd [x] (sp (K w.params)))
    (told : ∀ (K : PySem.W.Frag) (H : Hp) (a : Addr) (ns : List Int), ns.length ≤ 63 → Only H → SqL K H a (ns.map V.int) → sp K [.ref a] H (fun v _ => v = .bl true) E0) :
    PySem.W.WalkO q loose XP YP l.row.toRowW d [] (fun f vs => PySem.call f vs) := by
  refine Att.attach_call most nodef fun w s₀ s₁ mg mb fa o pm cd doc a vs ns G Y ho hd hcd hmg hobj hints hlen hg => ?_
  have KX := inK w _ Y
  obtain ⟨fd, hb, hF⟩ := F w mg fa _ KX G.T.g hmg
  exact g_law KX G.T.g G.T.b G.T.builtins G.T.nolimit hg hobj hints (Nat.le_trans hlen (by decide)) hr hF hb fun H only seq => told _ H a ns hlen only seq
end LG
set_option Elab.async false
set_option linter.all false
set_option maxRecDepth 100000
set_option maxHeartbeats 1000000
/-! The law's end for GnOk with tables of code objects. -/
namespace LG
open PySem PySem.Spec PyProof.Rows L2 LamX
theorem g_lawT {P : Program} {w : World} {K : PySem.W.Frag} {mg mb : Str → Option Value} {k : Nat} {fa a : Addr} {cs : List (Addr × Addr)} {fd : FuncData} {x : Str} {sp : Sp} {z : Shared} {vs : List Value} {ns : List Int}
    (inK : K.In z.heap) (gl : z.heap.Ns mainGlobals mg) (bl : z.heap.Ns builtinsNs mb) (boot : ∀ x : Str, x ≠ "__name__" → mb x = bootBuiltins x) (nolim : z.heap.NoLimit) (nogen : z.gens = #[])
    (tab : ∀ p ∈ cs, z.heap.get? p.2 = some { cls := .none, data := .fields #[] }) (tabK : ∀ p ∈ cs, K.lookup p.2 = none) (hd : ∀ p ∈ cs, PySem.W.CodeHd z.heap p.1 p.2)
    (bmod : ∃ (bm : Addr) (ob : Obj), mg "__builtins__" = some (.ref bm) ∧ bm ≠ builtinsNs ∧ z.heap.get? bm = some ob ∧ ob.cls = .type "module" ∧ ob.dict = some builtinsNs ∧ ob.data = .plain)
    (at_ : z.heap.get? a = some { cls := .type "list", data := .seq vs.toArray }) (isInts : IntsAre vs ns) (fits : ns.length ≤ sizeLine) (hr : Room k callerA)
    (F : ∀ base : Heap, K.In base → base.Ns mainGlobals mg → (∀ p ∈ cs, TabB base mg p.1 p.2) → GnOk P w K mg base k fa fd [x] sp) (binds : ∀ (s : Shared) (u : Value), BindsTo s fd ⟨[u], []⟩ [(x, u)])
    (told : ∀ H : Hp, (∀ p ∈ cs, H p.2 = some (.tbl #[])) → SqL K H a (ns.map V.int) → sp [.ref a] H (fun v _ => v = .bl true) E0) :
    codeAny (model P w) callerA (.call (.ref fa) ⟨[.ref a], []⟩) (fun r s' => r = .ok (.ret (.bool true)) ∧ OldK z.heap s'.heap ∧ s'.os = z.os ∧ AllBare s'.gens) z := by
  have vals := vals_ints isInts
  have many := isInts.length
  let T : Addr → Prop := fun b => ∃ p ∈ cs, p.2 = b
  have tabT : ∀ b, T b → z.heap.get? b = some { cls := .none, data := .fields #[] } := by
    rintro b ⟨p, hp, rfl⟩
    exact tab p hp
  have aT : ¬ T a := fun q => by
    have e := tabT a q
    rw [at_] at e
    exact nomatch (show Data.seq vs.toArray _ = Data.fields #[] from congrArg Obj.data (Option.some.inj e))
  have go : ∀ H : Hp, (∀ p ∈ cs, H p.2 = some (.tbl #[])) → (∀ b, H b = none ∨ T b ∨ ∃ o xs, H b = some (.frz o (.lst xs))) → SqL K H a (ns.map V.int) → HOk P w H z.heap → (∀ b, H b ≠ none → b = a ∨ T b) → (H a ≠ none → K.lookup a = none) →
      codeAny (model P w) callerA (.call (.ref fa) ⟨[.ref a], []⟩) (fun r s' => r = .ok (.ret (.bool true)) ∧ OldK z.heap s'.heap ∧ s'.os = z.os ∧ AllBare s'.gens) z := by
    intro H isT kinds seq hok just notK
    have out : ∀ {b : Addr} {o : Obj}, z.heap.get? b = some o → (∀ us n, o.data ≠ .seq us n) → o.data ≠ .fields #[] → H b = none := by
      intro b o e n1 n2
      cases q : H b with
      | none => rfl
      | some u =>
        rcases just b (by rw [q]; exact fun t => nomatch t) with r | r
        · rw [r, at_] at e
          cases e
          exact (n1 _ _ rfl).elim
        · rw [tabT b r] at e
          cases e
          exact (n2 rfl).elim
    have outD : ∀ {b : Addr} {o : Obj} {es : Array DictEntry} {ep : Nat}, z.heap.get? b = some o → o.data = .dict es ep → H b = none := by
      intro b o es ep e d
      exact out e (fun us n q => by rw [d] at q; cases q) (fun q => by rw [d] at q; cases q)
    have nsH : ∀ {b : Addr} {m : Str → Option Value}, z.heap.Ns b m → (hidT z.heap H).Ns b m := by
      rintro b m ⟨o, es, ep, e, d, r⟩
      exact ⟨o, es, ep, hidT_get e (outD e d), d, r⟩
    have inH : K.In (hidT z.heap H) := by
      intro b o e
      refine hidT_get (inK b o e) ?_
      cases q : H b with
      | none => rfl
      | some u =>
        have some_ : H b ≠ none := by rw [q]; exact fun t => nomatch t
        rcases just b some_ with r | ⟨p, hp, r⟩
        · rw [r] at e some_
          rw [notK some_] at e
          cases e
        · rw [← r, tabK p hp] at e
          cases e
    have M : Mod K mg (hidT z.heap H) := ⟨inH, nsH gl, ⟨mb, nsH bl, boot⟩, by
      obtain ⟨mc, n1, n2⟩ := nolim
      exact ⟨mc, nsH n1, n2⟩⟩
    have tabB : ∀ p ∈ cs, TabB (hidT z.heap H) mg p.1 p.2 := by
      intro p hp
      refine ⟨?_, ?_, fun same => ?_⟩
      · obtain ⟨o, us, file, tf, flags, tg, inF, text, tt, e1, r1, r2, r3, r4, r5, r6, r7, r8, ne⟩ := hd p hp
        refine ⟨o, us, file, tf, flags, tg, inF, text, tt, hidT_get e1 (out e1 (fun us n q => ?_) fun q => ?_), r1, r2, r3, r4, r5, r6, r7, r8, ne⟩
        · rw [r2] at q
          cases q
        · rw [r2] at q
          cases q
          simp at r3
      · obtain ⟨bm, ob, b1, b2, b3, b4, b5, b6⟩ := bmod
        have n1 : bm ≠ mainGlobals := fun q => by
          obtain ⟨o, es, ep, e, d, _⟩ := gl
          rw [q, e] at b3
          cases b3
          rw [d] at b6
          cases b6
        have n2 : bm ≠ p.2 := fun q => by
          rw [q, tab p hp] at b3
          cases b3
          cases b6
        refine ⟨bm, ob, b1, b2, n1, n2, hidT_get b3 (out b3 (fun us n q => ?_) fun q => ?_), b4, b5, b6⟩
        · rw [b6] at q
          cases q
        · rw [b6] at q
          cases q
      · obtain ⟨o, es, ep, e, d, _⟩ := gl
        rw [same, tab p hp] at e
        cases e
        cases d
    have e0 : Env0 P w K mg (hidT z.heap H) callerA [] z H :=
      ⟨rfl, M, fun b o e => of_hidT e, Nat.le_of_eq (hidT_size _ _), trivial, fun b hb => absurd hb (by simp [frs]), hok, .of_eq nogen⟩
    refine codeAny_mono ((F _ inH (nsH gl) tabB).goes callerA [] z H ⟨[.ref a], []⟩ [.ref a] [.ref a] _ rfl hr e0 (binds z (.ref a)) (.cons rfl .nil) (told H isT seq)) fun r s' h => ?_
    match r, h with
    | .error _, h => exact h.elim
    | .ok .next, h => exact h.elim
    | .ok .brk, h => exact h.elim
    | .ok .cont, h => exact h.elim
    | .ok (.ret u), h =>
      obtain ⟨v, H', os, bare, un, hok', r', q⟩ := h
      have q' : v = .bl true := q
      subst q'
      have r2 : u = Value.bool true := r'
      subst r2
      have stay : ∀ b o, ¬ T b → z.heap.get? b = some o → s'.heap.get? b = some o := by
        intro b o nb e
        cases q : H b with
        | none => exact un.keep b o e q (by simp [frs]) (by simp)
        | some u =>
          rcases kinds b with t | t | ⟨ob, xs, t⟩
          · rw [q] at t
            cases t
          · exact absurd t nb
          · obtain ⟨e1, _⟩ := hok b _ t
            obtain ⟨e2, _⟩ := hok' b _ (un.frzs b ob _ t)
            rw [e] at e1
            cases e1
            exact e2
      have grow : ∀ p ∈ cs, ∃ more : Array Value, s'.heap.get? p.2 = some { cls := .none, data := .fields more } := by
        intro p hp
        obtain ⟨more, t⟩ := un.tbls p.2 #[] (isT p hp)
        exact ⟨_, hok' p.2 _ t⟩
      refine ⟨rfl, ⟨fun b o e => ?_, fun b o e => ?_⟩, os, bare⟩
      · rcases Classical.em (T b) with t | t
        · obtain ⟨p, hp, rfl⟩ := t
          obtain ⟨more, m⟩ := grow p hp
          rw [tab p hp] at e
          cases e
          exact .inr (.inl ⟨((hd p hp).tab (tab p hp)).isCodeTable, rfl, #[], more, rfl, by rw [Array.empty_append]; exact m⟩)
        · exact .inl (stay b o t e)
      · rcases Classical.em (T b) with t | t
        · obtain ⟨p, hp, rfl⟩ := t
          obtain ⟨more, m⟩ := grow p hp
          exact ⟨_, m⟩
        · exact ⟨o, stay b o t e⟩
  classical
  cases hk : K.lookup a with
  | some o =>
    have e := inK a o hk
    rw [at_] at e
    cases e
    have hT : ∀ b, (if T b then some (HO.tbl #[]) else none) = none ∨ T b := fun b => if c : T b then .inr c else .inl (if_neg c)
    refine go (fun b => if T b then some (.tbl #[]) else none) (fun p hp => if_pos ⟨p, hp, rfl⟩) (fun b => (hT b).elim .inl fun t => .inr (.inl t)) (.inr ⟨_, vs.toArray, _, hk, rfl, rfl, rfl, ?_, ?_⟩) (fun b u t => ?_) (fun b t => ?_) fun t => absurd (if_neg aT) t
    · rw [List.size_toArray, many]
      exact fits
    · simpa using vals
    · by_cases c : T b
      · have t' := (if_pos c).symm.trans t
        cases t'
        exact tabT b c
      · exact nomatch (if_neg c).symm.trans t
    · exact (hT b).elim (fun q => absurd q t) .inr
  | none =>
    refine go (fun b => if b = a then some (.frz { cls := .type "list", data := .seq vs.toArray } (.lst (ns.map V.int))) else if T b then some (.tbl #[]) else none) (fun p hp => ?_) (fun b => ?_) (.inl (.inr ⟨_, if_pos rfl⟩)) (fun b u t => ?_) (fun b t => ?_) fun _ => hk
    · have ne : ¬ p.2 = a := fun q => aT ⟨p, hp, q⟩
      exact (if_neg ne).trans (if_pos ⟨p, hp, rfl⟩)
    · by_cases c : b = a
      · exact .inr (.inr ⟨_, _, if_pos c⟩)
      · by_cases c2 : T b
        · exact .inr (.inl c2)
        · exact .inl ((if_neg c).trans (if_neg c2))
    · by_cases c : b = a
      · have t' := (if_pos c).symm.trans t
        cases t'
        rw [c]
        exact ⟨at_, by rw [List.length_map]; exact fits, vs, _, vals, at_⟩
      · have t1 := (if_neg c).symm.trans t
        by_cases c2 : T b
        · have t' := (if_pos c2).symm.trans t1
          cases t'
          exact tabT b c2
        · exact nomatch (if_neg c2).symm.trans t1
    · by_cases c : b = a
      · exact .inl c
      · by_cases c2 : T b
        · exact .inr c2
        · exact absurd ((if_neg c).trans (if_neg c2)) t
/-- what is known of the law at the head's heap -/
def GLawAt (l : PySem.W.OpenLaw) (w : World) (K : PySem.W.Frag) (k : Nat) (x : Str) (mg : Str → Option Value) (fa : Addr) (h : Heap) : Prop :=
  ∃ (fd : FuncData) (cs : List (Addr × Addr)) (sp : Sp), (∀ p ∈ cs, h.get? p.2 = some { cls := .none, data := .fields #[] }) ∧ (∀ p ∈ cs, K.lookup p.2 = none) ∧ (∀ p ∈ cs, PySem.W.CodeHd h p.1 p.2) ∧ (∀ (s : Shared) (u : Value), BindsTo s fd ⟨[u], []⟩ [(x, u)]) ∧
    (∀ (H : Hp) (a : Addr) (ns : List Int), ns.length ≤ 63 → (∀ p ∈ cs, H p.2 = some (.tbl #[])) → SqL K H a (ns.map V.int) → sp [.ref a] H (fun v _ => v = .bl true) E0) ∧
    ∀ base : Heap, K.In base → base.Ns mainGlobals mg → (∀ p ∈ cs, TabB base mg p.1 p.2) → GnOk l.prog w K mg base k fa fd [x] sp
theorem g_walkT {l : PySem.W.OpenLaw} {k : Nat} {q : Program} {loose : List Str} {XP : (Str → Option Value) → Heap → Prop} {YP : World → Heap → Prop} {d : DefRec} {K : Params → PySem.W.Frag} {x : Str}
    (most : l.most = some 63) (nodef : d.params.defaults = []) (hr : Room k callerA) (inK : ∀ (w : World) (h : Heap), YP w h → (K w.params).In h)
    (F : ∀ (w : World) (mg : Str → Option Value) (fa : Addr) (h : Heap), YP w h → (K w.params).In h → h.Ns mainGlobals mg → mg d.name = some (.ref fa) → GLawAt l w (K w.params) k x mg fa h) :
    PySem.W.WalkO q loose XP YP l.row.toRowW d [] (fun f vs => PySem.call f vs) := by
  refine Att.attach_call most nodef fun w s₀ s₁ mg mb fa o pm cd doc a vs ns G Y ho hd hcd hmg hobj hints hlen hg => ?_
  have KX := inK w _ Y
  obtain ⟨fd, cs, sp, hT, nT, C, hb, hsp, hF⟩ := F w mg fa _ Y KX G.T.g hmg
  exact g_lawT KX G.T.g G.T.b G.T.builtins G.T.nolimit hg hT nT C G.T.bmain hobj hints (Nat.le_trans hlen (by decide)) hr hF hb fun H hH hS => hsp H a ns hlen hH hS
end LG
set_option Elab.async false
set_option linter.all false
set_option maxRecDepth 100000
set_option maxHeartbeats 1000000
namespace LG
open PySem PySem.Spec PyProof.Rows L2
/-! ### data that are small: their text fits -/
mutual
def small : Nat → PyData → Bool
  | _, .none => true
  | _, .bool _ => true
  | _, .int i => decide (i.natAbs < 10 ^ 12)
  | _, .str x => decide (x.length ≤ 40) && x.cps.toList.all fun c => decide (c < 16 ^ 8)
  | 0, .list _ => false
  | 0, .tuple _ => false
  | n + 1, .list xs => decide (xs.length ≤ 25) && smalls n xs
  | n + 1, .tuple xs => decide (xs.length ≤ 25) && smalls n xs
  | _, .dict kvs => smallKv kvs && decide (kvs.length ≤ 2)
def smalls : Nat → List PyData → Bool
  | _, [] => true
  | n, d :: ds => small n d && smalls n ds
def smallKv : List (PyData × PyData) → Bool
  | [] => true
  | (k, v) :: r => (match k with | .str x => decide (x.length ≤ 40) && x.cps.toList.all fun c => decide (c < 16 ^ 8) | _ => false) && (match v with | .int i => decide (i.natAbs < 10 ^ 12) | _ => false) && smallKv r
end
def signs : Nat → Nat
  | 0 => 1000
  | n + 1 => 25 * (signs n + 2) + 1000
theorem signs_ge (n : Nat) : 1000 ≤ signs n := by
  cases n with
  | zero => exact Nat.le_refl _
  | succ n => exact Nat.le_add_left _ _
theorem log2_small {i : Int} (h : i.natAbs < 10 ^ 12) : i.natAbs.log2 < 1920 := by
  by_cases z : i.natAbs = 0
  · rw [z]
    decide
  · have h2 := Nat.log2_lt z (k := 1920)
    refine h2.mpr (Nat.lt_trans h ?_)
    decide +kernel
theorem text_small {x : Str} (h : (decide (x.length ≤ 40) && x.cps.toList.all fun c => decide (c < 16 ^ 8)) = true) : (reprText x).length ≤ 410 := by
  rw [Bool.and_eq_true, decide_eq_true_eq, List.all_eq_true] at h
  have h2 := PySem.StrLaws.reprText_len x fun c hc => of_decide_eq_true (h.2 c hc)
  omega
theorem int_small {i : Int} (h : i.natAbs < 10 ^ 12) : (Str.ofString (toString i)).length ≤ 13 := by
  have h1 := int_text_length_le10 (a := i) (k := 12) (by decide) h
  rw [PySem.ofString_length]
  exact h1
theorem join_le {sep : Str} (hs : sep.length = 2) : ∀ {ts : List Str} {m : Nat}, (∀ t ∈ ts, t.length ≤ m) → (Str.join sep ts).length ≤ ts.length * (m + 2)
  | [], _, _ => by
    show (Str.empty).length ≤ _
    exact Nat.zero_le _
  | [x], m, h => by
    have h1 := h x (List.mem_singleton.mpr rfl)
    show x.length ≤ _
    simp only [List.length_cons, List.length_nil]
    omega
  | x :: y :: r, m, h => by
    have h1 := h x List.mem_cons_self
    have ih := join_le hs (ts := y :: r) (m := m) fun t ht => h t (List.mem_cons_of_mem _ ht)
    have e : Str.join sep (x :: y :: r) = x ++ sep ++ Str.join sep (y :: r) := rfl
    rw [e, strLen_append, strLen_append, hs]
    simp only [List.length_cons] at ih ⊢
    have e2 : (r.length + 1 + 1) * (m + 2) = (r.length + 1) * (m + 2) + (m + 2) := Nat.succ_mul _ _
    omega

theorem str_len (x : String) : (Str.ofString x).length = x.length := PySem.ofString_length x
theorem list_le {ts : List Str} {m : Nat} (h : ∀ t ∈ ts, t.length ≤ m) (hl : ts.length ≤ 25) : (listText ts).length ≤ 25 * (m + 2) + 2 := by
  rw [listText_eq_join, strLen_append, strLen_append]
  have h1 := join_le (sep := ", ") (by decide +kernel) h
  have e1 : ("[" : Str).length = 1 := by decide +kernel
  have e2 : ("]" : Str).length = 1 := by decide +kernel
  have h2 := Nat.mul_le_mul_right (m + 2) hl
  omega
theorem tuple_le {ts : List Str} {m : Nat} (h : ∀ t ∈ ts, t.length ≤ m) (hl : ts.length ≤ 25) : (tupleText ts).length ≤ 25 * (m + 2) + 3 := by
  unfold tupleText
  rw [strLen_append, strLen_append]
  have h1 := join_le (sep := ", ") (by decide +kernel) h
  have e1 : ("(" : Str).length = 1 := by decide +kernel
  have e2 : (Str.ofString (if (ts.length == 1) = true then ",)" else ")" : String)).length ≤ 2 := by
    split <;> decide +kernel
  have h2 := Nat.mul_le_mul_right (m + 2) hl
  omega
theorem dict_le {ts : List Str} {m : Nat} (h : ∀ t ∈ ts, t.length ≤ m) (hl : ts.length ≤ 2) : (dictText ts).length ≤ 2 * (m + 2) + 2 := by
  unfold dictText
  rw [strLen_append, strLen_append]
  have h1 := join_le (sep := ", ") (by decide +kernel) h
  have e1 : ("{" : Str).length = 1 := by decide +kernel
  have e2 : ("}" : Str).length = 1 := by decide +kernel
  have h2 := Nat.mul_le_mul_right (m + 2) hl
  omega
theorem shownAll_length : ∀ xs : List PyData, (PyData.shownAll xs).length = xs.length
  | [] => rfl
  | x :: xs => by
    simp only [PyData.shownAll, List.length_cons, shownAll_length xs]
theorem shownKv_length : ∀ xs : List (PyData × PyData), (PyData.shownKv xs).length = xs.length
  | [] => rfl
  | (k, v) :: xs => by
    simp only [PyData.shownKv, List.length_cons, shownKv_length xs]
theorem smallKv_shown : ∀ kvs : List (PyData × PyData), smallKv kvs = true → ∀ t ∈ PyData.shownKv kvs, t.length ≤ 430
  | [], _, t, ht => by
    simp only [PyData.shownKv] at ht
    cases ht
  | (k, v) :: r, h, t, ht => by
    simp only [smallKv, Bool.and_eq_true] at h
    obtain ⟨⟨h1, h2⟩, h3⟩ := h
    simp only [PyData.shownKv, List.mem_cons] at ht
    rcases ht with rfl | ht
    · cases k with
      | str x =>
        cases v with
        | int i =>
          have a1 := text_small (x := x) h1
          have a2 := int_small (i := i) (of_decide_eq_true h2)
          have e : (": " : Str).length = 2 := by decide +kernel
          simp only [PyData.shown]
          rw [strLen_append, strLen_append, e]
          omega
        | _ => cases h2
      | _ => cases h1
    · exact smallKv_shown r h3 t ht
mutual
theorem small_shown : ∀ (n : Nat) (d : PyData), small n d = true → d.shown.length ≤ signs n
  | n, .none, _ => by
    simp only [PyData.shown]
    have := signs_ge n
    have e : ("None" : Str).length = 4 := by decide +kernel
    omega
  | n, .bool b, _ => by
    simp only [PyData.shown]
    have := signs_ge n
    have e1 : (Str.ofString "True").length = 4 := by decide +kernel
    have e2 : (Str.ofString "False").length = 5 := by decide +kernel
    cases b
    · rw [if_neg (by decide)]
      omega
    · rw [if_pos rfl]
      omega
  | n, .int i, h => by
    have := signs_ge n
    have h' := int_small (i := i) (by
      simp only [small] at h
      exact of_decide_eq_true h)
    simp only [PyData.shown]
    omega
  | n, .str x, h => by
    have := signs_ge n
    have h' := text_small (x := x) (by
      simp only [small] at h
      exact h)
    simp only [PyData.shown]
    omega
  | 0, .list xs, h => by
    simp only [small] at h
    cases h
  | 0, .tuple xs, h => by
    simp only [small] at h
    cases h
  | n + 1, .list xs, h => by
    simp only [small, Bool.and_eq_true, decide_eq_true_eq] at h
    have h1 := list_le (small_shownAll n xs h.2) (by rw [shownAll_length]; exact h.1)
    simp only [PyData.shown, signs]
    omega
  | n + 1, .tuple xs, h => by
    simp only [small, Bool.and_eq_true, decide_eq_true_eq] at h
    have h1 := tuple_le (small_shownAll n xs h.2) (by rw [shownAll_length]; exact h.1)
    simp only [PyData.shown, signs]
    omega
  | n, .dict kvs, h => by
    have := signs_ge n
    have h : smallKv kvs = true ∧ kvs.length ≤ 2 := by
      cases n <;> (simp only [small, Bool.and_eq_true, decide_eq_true_eq] at h; exact h)
    have h1 := dict_le (m := 430) (smallKv_shown kvs h.1) (by rw [shownKv_length]; exact h.2)
    simp only [PyData.shown]
    omega
theorem small_shownAll : ∀ (n : Nat) (ds : List PyData), smalls n ds = true → ∀ t ∈ PyData.shownAll ds, t.length ≤ signs n
  | n, [], _, t, ht => by
    simp only [PyData.shownAll] at ht
    cases ht
  | n, d :: ds, h, t, ht => by
    simp only [smalls, Bool.and_eq_true] at h
    simp only [PyData.shownAll, List.mem_cons] at ht
    rcases ht with rfl | ht
    · exact small_shown n d h.1
    · exact small_shownAll n ds h.2 t ht
end
end LG
set_option Elab.async false
set_option linter.all false
set_option maxRecDepth 100000
set_option maxHeartbeats 1000000
namespace LG
open PySem PySem.Spec PyProof.Rows L2
mutual
theorem small_showable : ∀ (n : Nat) (d : PyData), small n d = true → d.showable = true
  | n, .none, _ => by simp only [PyData.showable]
  | n, .bool b, _ => by simp only [PyData.showable]
  | n, .int i, h => by
    simp only [small, decide_eq_true_eq] at h
    simp only [PyData.showable, decide_eq_true_eq]
    exact log2_small h
  | n, .str x, h => by simp only [PyData.showable]
  | 0, .list xs, h => by
    simp only [small] at h
    cases h
  | 0, .tuple xs, h => by
    simp only [small] at h
    cases h
  | n + 1, .list xs, h => by
    simp only [small, Bool.and_eq_true, decide_eq_true_eq] at h
    simp only [PyData.showable]
    exact smalls_showable n xs h.2
  | n + 1, .tuple xs, h => by
    simp only [small, Bool.and_eq_true, decide_eq_true_eq] at h
    simp only [PyData.showable]
    exact smalls_showable n xs h.2
  | n, .dict kvs, h => by
    have h : smallKv kvs = true ∧ kvs.length ≤ 2 := by
      cases n <;> (simp only [small, Bool.and_eq_true, decide_eq_true_eq] at h; exact h)
    simp only [PyData.showable]
    exact smallKv_showable kvs h.1
theorem smalls_showable : ∀ (n : Nat) (ds : List PyData), smalls n ds = true → PyData.showableAll ds = true
  | n, [], _ => by simp only [PyData.showableAll]
  | n, d :: ds, h => by
    simp only [smalls, Bool.and_eq_true] at h
    simp only [PyData.showableAll, small_showable n d h.1, smalls_showable n ds h.2, Bool.and_self]
theorem smallKv_showable : ∀ kvs : List (PyData × PyData), smallKv kvs = true → PyData.showableKv kvs = true
  | [], _ => by simp only [PyData.showableKv]
  | (k, v) :: r, h => by
    simp only [smallKv, Bool.and_eq_true] at h
    obtain ⟨⟨h1, h2⟩, h3⟩ := h
    cases k with
    | str x =>
      cases v with
      | int i =>
        have a2 := log2_small (i := i) (of_decide_eq_true h2)
        simp only [PyData.showableKv, PyData.showable, smallKv_showable r h3, decide_eq_true a2, Bool.and_self]
      | _ => cases h2
    | _ => cases h1
end
mutual
theorem small_depth : ∀ (n : Nat) (d : PyData), small n d = true → d.depth ≤ n + 1
  | n, .none, _ => by simp only [PyData.depth]; omega
  | n, .bool b, _ => by simp only [PyData.depth]; omega
  | n, .int i, h => by simp only [PyData.depth]; omega
  | n, .str x, h => by simp only [PyData.depth]; omega
  | 0, .list xs, h => by
    simp only [small] at h
    cases h
  | 0, .tuple xs, h => by
    simp only [small] at h
    cases h
  | n + 1, .list xs, h => by
    simp only [small, Bool.and_eq_true, decide_eq_true_eq] at h
    simp only [PyData.depth]
    have := smalls_depth n xs h.2
    omega
  | n + 1, .tuple xs, h => by
    simp only [small, Bool.and_eq_true, decide_eq_true_eq] at h
    simp only [PyData.depth]
    have := smalls_depth n xs h.2
    omega
  | n, .dict kvs, h => by
    have h : smallKv kvs = true ∧ kvs.length ≤ 2 := by
      cases n <;> (simp only [small, Bool.and_eq_true, decide_eq_true_eq] at h; exact h)
    simp only [PyData.depth]
    have := smallKv_depth kvs h.1
    omega
theorem smalls_depth : ∀ (n : Nat) (ds : List PyData), smalls n ds = true → PyData.depthAll ds ≤ n + 1
  | n, [], _ => by simp only [PyData.depthAll]; omega
  | n, d :: ds, h => by
    simp only [smalls, Bool.and_eq_true] at h
    simp only [PyData.depthAll]
    have := small_depth n d h.1
    have := smalls_depth n ds h.2
    omega
theorem smallKv_depth : ∀ kvs : List (PyData × PyData), smallKv kvs = true → PyData.depthKv kvs = 0
  | [], _ => by simp only [PyData.depthKv]
  | (k, v) :: r, h => by
    simp only [smallKv, Bool.and_eq_true] at h
    obtain ⟨⟨h1, h2⟩, h3⟩ := h
    cases k with
    | str x =>
      cases v with
      | int i => simp only [PyData.depthKv, PyData.depth, smallKv_depth r h3]; omega
      | _ => cases h2
    | _ => cases h1
end
mutual
theorem noDict {K : PySem.W.Frag} {H : Hp} : ∀ (d : PyData) (v : V), Dp K H v d → d.hasDict = false
  | .none, _, _ => by simp only [PyData.hasDict]
  | .bool _, _, _ => by simp only [PyData.hasDict]
  | .int _, _, _ => by simp only [PyData.hasDict]
  | .str _, _, _ => by simp only [PyData.hasDict]
  | .list ds, _, h => by
    cases h with
    | lst _ ha =>
      simp only [PyData.hasDict]
      exact noDicts ds _ ha
  | .tuple ds, _, h => by
    cases h with
    | tup _ ha =>
      simp only [PyData.hasDict]
      exact noDicts ds _ ha
  | .dict _, _, h => by cases h
theorem noDicts {K : PySem.W.Frag} {H : Hp} : ∀ (ds : List PyData) (vs : List V), DpAll K H vs ds → PyData.hasDictAll ds = false
  | [], _, _ => by simp only [PyData.hasDictAll]
  | d :: ds, _, h => by
    cases h with
    | cons h1 h2 => simp only [PyData.hasDictAll, noDict d _ h1, noDicts ds _ h2, Bool.or_self]
end
theorem same_tup {K : PySem.W.Frag} {H H' : Hp} {a : Addr} {xs : List V} (e : Same H H') (h : SqT K H a xs) : SqT K H' a xs := by
  rcases h with (h | ⟨o, h⟩) | h
  · exact .inl (.inl (e _ _ h))
  · exact .inl (.inr ⟨o, e _ _ h⟩)
  · exact .inr h
mutual
theorem Dp_same {K : PySem.W.Frag} {H H' : Hp} (e : Same H H') : ∀ (d : PyData) (v : V), Dp K H v d → Dp K H' v d
  | .none, _, h => by cases h; exact .non
  | .bool b, _, h => by cases h; exact .bl b
  | .int i, _, h => by cases h; exact .int i
  | .str x, _, h => by cases h; exact .str x
  | .list ds, _, h => by
    cases h with
    | lst hs ha => exact .lst (e.seq hs) (DpAll_same e ds _ ha)
  | .tuple ds, _, h => by
    cases h with
    | tup hs ha => exact .tup (same_tup e hs) (DpAll_same e ds _ ha)
  | .dict _, _, h => by cases h
theorem DpAll_same {K : PySem.W.Frag} {H H' : Hp} (e : Same H H') : ∀ (ds : List PyData) (vs : List V), DpAll K H vs ds → DpAll K H' vs ds
  | [], _, h => by cases h; exact .nil
  | d :: ds, _, h => by
    cases h with
    | cons h1 h2 => exact .cons (Dp_same e d _ h1) (DpAll_same e ds _ h2)
end
/-! ### data, or a dict of flat data -/
def keyD : Key → PyData
  | .inl i => .int i
  | .inr x => .str x
inductive PairsS : List (Key × V) → List (PyData × PyData) → Prop
  | nil : PairsS [] []
  | int {k : Key} {i : Int} {r : List (Key × V)} {D : List (PyData × PyData)} : PairsS r D → PairsS ((k, .int i) :: r) ((keyD k, .int i) :: D)
inductive Dx (K : PySem.W.Frag) (H : Hp) : V → PyData → Prop
  | flat {v : V} {d : PyData} : Dp K H v d → Dx K H v d
  | dct {a : Addr} {kvs : List (Key × V)} {D : List (PyData × PyData)} : H a = some (.dK kvs) → PairsS kvs D → Dx K H (.ref a) (.dict D)
theorem Dx_same {K : PySem.W.Frag} {H H' : Hp} (e : Same H H') {d : PyData} {v : V} (h : Dx K H v d) : Dx K H' v d := by
  cases h with
  | flat h => exact .flat (Dp_same e _ _ h)
  | dct h p => exact .dct (e _ _ h) p
theorem pairs_read {h : Heap} {kvs : List (Key × V)} {D : List (PyData × PyData)} {vs : List (Key × Value)} (p : PairsS kvs D) : KV kvs vs → PyProof.V.PairsRead h keyD vs D [] := by
  induction p generalizing vs with
  | nil =>
    intro r
    cases r
    exact .nil
  | int p ih =>
    intro r
    cases r with
    | @cons _ q _ r' r1 r2 =>
      obtain ⟨k', v'⟩ := q
      obtain ⟨e1, t, e2⟩ := r1
      subst e1
      subst e2
      exact .cons (.int _ _) (ih r2)
section
variable {X : Cx} {pins : List (Addr × Obj)} {σ : L2.St} {H : Hp} {s : Shared}
theorem Dx_reads (I : Inv X pins σ H s) {d : PyData} {v : V} {u : Value} (h : Dx X.K H v d) (r : RelV v u) : ∃ as, Reads s.heap u d as ∧ (d.hasDict = true → sysModules ∉ as) := by
  cases h with
  | flat h =>
    obtain ⟨as, q⟩ := Dp.reads I d v u h r
    exact ⟨as, q, PyData.noDict_hsm (noDict d v h)⟩
  | @dct a kvs D hd p =>
    have e : u = Value.ref a := r
    subst e
    obtain ⟨_, hne, vs, rk, D0⟩ := (show ObjOk X.prog X.w H s.heap a (.dK kvs) from I.hok a _ hd)
    refine ⟨_, PyProof.V.reads_dictOf (enc := keyD) (fun k key hk => ?_) D0 (pairs_read p rk), fun _ hm => ?_⟩
    · rcases keyIs_shape hk with ⟨i, t, rfl, rfl⟩ | ⟨x, t, rfl, rfl⟩
      · exact .int i t
      · exact .str x t
    · have z : sysModules = a := by simpa using hm
      rw [z] at hne
      simp at hne
/-- repr(x), x data that are small -/
def rRepr (K : PySem.W.Frag) : List V → Hp → VK → Prop := fun xs H Q => ∃ (v : V) (d : PyData) (n : Nat), xs = [v] ∧ Dx K H v d ∧ n ≤ 40 ∧ small n d = true ∧ signs n ≤ sizeLine ∧ Q (.str d.shown) H
end
section
variable {X : Cx}
theorem call_repr (hg : X.A.guards = some []) (hu : X.A.units + 64 < cLine) : CallR X (.builtin "repr") (rRepr X.K) := by
  intro pins s σ H xs us Q I r h
  obtain ⟨v, d, n, rfl, hd, hn, hs, hz, q⟩ := h
  obtain ⟨u, rfl, ru⟩ := vals1 r
  have fits := Nat.le_trans (small_shown n d hs) hz
  have deep := small_depth n d hs
  have show_ := small_showable n d hs
  obtain ⟨as, rd, sm⟩ := Dx_reads I hd ru
  cases rd with
  | none => exact PySem.P.repr_of_none ⟨.str _, H, I.tok _, ⟨_, rfl⟩, q⟩
  | bool b => 
    refine PySem.P.repr_of_bool ⟨.str _, H, I.tok _, ⟨_, rfl⟩, ?_⟩
    cases b <;> exact q
  | int i t => exact PySem.P.repr_of_int (of_decide_eq_true (by simpa only [PyData.showable] using show_)) ⟨.str _, H, I.tok _, ⟨_, rfl⟩, q⟩
  | str x t => exact PySem.P.repr_of_str ⟨.str _, H, I.tok _, ⟨_, rfl⟩, q⟩ fits
  | list a1 a2 a3 a4 => exact repr_of_reads' (.list a1 a2 a3 a4) show_ sm hg (by omega) (fun _ _ e => e) (fun h' w tk k => ⟨.str _, H, I.kept (t' := tk) k, ⟨w, rfl⟩, q⟩) fits
  | tuple a1 a2 a3 a4 => exact repr_of_reads' (.tuple a1 a2 a3 a4) show_ sm hg (by omega) (fun _ _ e => e) (fun h' w tk k => ⟨.str _, H, I.kept (t' := tk) k, ⟨w, rfl⟩, q⟩) fits
  | dict a1 a2 a3 a4 a5 => exact repr_of_reads' (.dict a1 a2 a3 a4 a5) show_ sm hg (by omega) (fun _ _ e => e) (fun h' w tk k => ⟨.str _, H, I.kept (t' := tk) k, ⟨w, rfl⟩, q⟩) fits
/-! ### powers -/
theorem op_powB : OpR X (binaryOp .Pow) (rI (fun i j => 0 ≤ j ∧ (Builtin.Int.intBits i : Int) * j ≤ 2 ^ 27) fun i j => .int (i ^ j.toNat)) := opI fun _ _ _ _ _ _ _ hc q => pow_int hc.1 hc.2 q
end
end LG
set_option Elab.async false
set_option linter.all false
set_option maxRecDepth 100000
set_option maxHeartbeats 1000000
namespace LG
open PySem PySem.Spec PyProof.Rows L2
section
variable {prog : Program} {w : World} {A : Around} {E : Value → Shared → Prop} {s : Shared}
theorem applied_back {sl : Addr} {n : Nat} {t : Tok} {Q : Int × Int × Nat → Shared → Prop} (hs : s.heap.IsSliceOf sl .none .none (.int (-1) t)) (h : Q ((n : Int) - 1, -1, n) s) :
    wpAny (model prog w) A (Builtin.Slice.sliceApplied (.ref sl) (pure (n : Int))) Q E s := by
  obtain ⟨os, hos, hcs, hds⟩ := id hs
  unfold Builtin.Slice.sliceApplied Builtin.Slice.sliceFields
  refine wpAny_bind (wpAny_bind (wpAny_field hos hds (x := .none) rfl (wpAny_bind (wpAny_field hos hds (x := .none) rfl (wpAny_bind (wpAny_field hos hds (x := .int (-1) t) rfl (wpAny_pure ?_)))))))
  refine wpAny_bind (slicePart_int ?_)
  show wpAny _ _ (if ((-1 : Int) == 0) = true then _ else _) _ _ s
  rw [if_neg (by decide)]
  refine wpAny_bind (slicePart_none (wpAny_bind (slicePart_none (wpAny_bind (wpAny_pure ?_)))))
  have e1 : Builtin.Slice.sliceAdjust none none (-1) (n : Int) = ((n : Int) - 1, -1) := rfl
  have e2 : Builtin.Slice.slicePlaces ((n : Int) - 1) (-1) (-1) = n := by
    unfold Builtin.Slice.slicePlaces
    rw [if_neg (by decide)]
    by_cases z : (n : Int) - 1 > -1
    · rw [if_pos z]
      have : ((n : Int) - 1 - -1 - 1) / (- -1) + 1 = n := by
        have e3 : (- -1 : Int) = 1 := by decide
        rw [e3, Int.ediv_one]
        omega
      rw [this]
      exact Int.toNat_natCast n
    · rw [if_neg z]
      omega
  show wpAny _ _ (match Builtin.Slice.sliceAdjust none none (-1) (n : Int) with | (lo, hi) => pure (lo, (-1 : Int), Builtin.Slice.slicePlaces lo hi (-1))) _ _ s
  rw [e1]
  show wpAny _ _ (pure ((n : Int) - 1, (-1 : Int), Builtin.Slice.slicePlaces ((n : Int) - 1) (-1) (-1))) _ _ s
  rw [e2]
  exact wpAny_pure h
theorem pick_back (xs : Array Value) : ((List.range xs.size).filterMap fun (k : Nat) => xs[((xs.size : Int) - 1 + (k : Int) * -1).toNat]?).toArray = xs.toList.reverse.toArray := by
  have e : (List.range xs.size).filterMap (fun (k : Nat) => xs[((xs.size : Int) - 1 + (k : Int) * -1).toNat]?) = ((List.range xs.size).map fun k => xs.size - 1 - k).filterMap (xs[·]?) := by
    rw [List.filterMap_map]
    have same : (fun (k : Nat) => xs[((xs.size : Int) - 1 + (k : Int) * -1).toNat]?) = ((xs[·]?) ∘ fun k => xs.size - 1 - k) := by
      funext k
      show _ = xs[xs.size - 1 - k]?
      have : ((xs.size : Int) - 1 + (k : Int) * -1).toNat = xs.size - 1 - k := by omega
      rw [this]
    rw [same]
  rw [e, PySem.W.krv_range, List.filterMap_reverse, PySem.W.krv_all]
theorem item_back {t sl : Addr} {items : Array Value} {tk : Tok} {Q : Value → Shared → Prop} (ht : IsTup s.heap t items) (hs : s.heap.IsSliceOf sl .none .none (.int (-1) tk)) (fits : items.size ≤ sizeLine)
    (h : Q (.ref s.heap.objs.size) { s with heap := s.heap.push { cls := .type "tuple", data := .seq items.toList.reverse.toArray } }) : wpAny (model prog w) A (getItem (.ref t) (.ref sl)) Q E s := by
  have fits2 : sizeOk (.seq items.toList.reverse.toArray) := by
    show items.toList.reverse.toArray.size ≤ sizeLine
    simpa using fits
  obtain ⟨os, hos, hcs, hds⟩ := id hs
  have isSlice : s.TypeIs (.ref sl) "slice" := ⟨os, hos, hcs⟩
  unfold getItem
  try with_reducible refine wpAny_holding ?_
  first | refine wpAny_bind (wpAny_pure ?_) | skip
  refine wpAny_bind (wpAny_sequenceKey ht.typeIs (by decide) ?_)
  refine wpAny_bind (wpAny_callSpecial?_slot (name := Str.ofString "__getitem__") ht.typeIs PyProof.Rows.slot_tuple_getitem
    (wpAny_call_entry PyProof.Rows.slot_tuple_getitem ht.typeIs entry_tuple_getitem ?_ (args_tuple_getitem _ _)))
  show wpAny _ _ (Builtin.Tuple.tupleItemsOf (.ref t) >>= _) _ _ s
  refine wpAny_bind (tupleItemsOf_ ht ?_)
  refine wpAny_bind (wpAny_typeOf isSlice ?_)
  rw [if_pos (by decide)]
  refine wpAny_bind (applied_back hs ?_)
  have no : ¬ ((((items.size : Int) - 1) == 0 && (-1 : Int) == 1 && items.size == items.size) = true) := by
    have : ((-1 : Int) == 1) = false := by decide
    rw [this]
    simp
  show wpAny _ _ (if (((items.size : Int) - 1) == 0 && (-1 : Int) == 1 && items.size == items.size) = true then _ else _) _ _ s
  rw [if_neg no, pick_back items]
  first
    | exact wpAny_bind (m := Builtin.Tuple.tupleExact _) (wpAny_newObj_type (wpAny_pure ⟨_, rfl, wpAny_pure h⟩) fits2)
    | exact wpAny_bind (m := Builtin.Tuple.tupleExact _) (wpAny_newObj_type (wpAny_bind (wpAny_pure (wpAny_pure ⟨_, rfl, wpAny_pure h⟩))) fits2)
    | exact wpAny_bind (wpAny_bind (m := Builtin.Tuple.tupleExact _) (wpAny_newObj_type (wpAny_pure (wpAny_pure ⟨_, rfl, wpAny_pure h⟩)) fits2))
    | exact wpAny_bind (wpAny_bind (m := Builtin.Tuple.tupleExact _) (wpAny_newObj_type (wpAny_pure ⟨_, rfl, wpAny_pure h⟩) fits2))
end
section
variable {X : Cx} {e st : Expr} {te ts : TE} {pos p2 : Pos}
/-- t[::-1], t a tuple -/
def tBack (K : PySem.W.Frag) (te ts : TE) : TE := fun σ H Q => te σ H fun x H1 => ts σ H1 fun k H2 => ∃ a xs, k = .int (-1) ∧ x = .ref a ∧ SqT K H2 a xs ∧ ∀ p, H2 p = none → Q (.ref p) (upd H2 p (.tup xs.reverse))
theorem vals_back {xs : List V} {us : List Value} (r : Vals xs us) : Vals xs.reverse us.reverse := by
  induction r with
  | nil => exact .nil
  | cons a b ih =>
    rw [List.reverse_cons, List.reverse_cons]
    exact Vals.append ih (.cons a .nil)
theorem pe_back (he : PE X e te) (hst : PE X st ts) : PE X (.Subscript e (.Slice none none (some st) p2) pos) (tBack X.K te ts) := by
  refine ⟨fun pins s σ H Q I h => ?_⟩
  refine Subscript_ (thn (he.run pins s σ H _ I h) fun v s1 ⟨x, H1, I1, r1, q1⟩ => ?_)
  refine wpAny_Slice ?_
  rw [evalPart_none]
  refine wpAny_pure (wpAny_pure ?_)
  rw [evalPart_some]
  refine thn (hst.run pins s1 σ H1 _ I1 q1) fun vs s2 ⟨k, H2, I2, r2, a, xs, ek, ex, hx, q⟩ => ?_
  subst ek
  subst ex
  obtain ⟨tk, rfl⟩ := r2
  have ev : v = Value.ref a := r1
  subst ev
  have I3 : Inv X pins σ H2 { s2 with heap := s2.heap.push { cls := .type "slice", data := .fields #[.none, .none, .int (-1) tk] } } := I2.kept (t' := s2.toks) fun b ob q => Heap.get?_push_of_some _ q
  obtain ⟨its, r, ht, hz⟩ := I3.tuple hx
  have fits : its.toArray.size ≤ sizeLine := by
    rw [List.size_toArray, ← r.length]
    exact hz
  refine tail_any (s := { s2 with heap := s2.heap.push { cls := .type "slice", data := .fields #[.none, .none, .int (-1) tk] } }) (ops := [.ref a, .ref s2.heap.objs.size]) ht.typeIs PyProof.Rows.slot_tuple_getitem.lookup ?_ (by with_unfolding_all rfl)
  refine item_back ht (Heap.IsSliceOf.new ..) fits ?_
  refine ⟨.ref _, _, I3.laid (t' := s2.toks) (o := .tup xs.reverse) (fun b ob q => Heap.get?_push_of_some _ q) (Nat.le_refl _) ?_, rfl, q _ (I3.hok.fresh (Nat.le_refl _))⟩
  refine ⟨by rw [List.length_reverse]; exact hz, _, vals_back r, ?_⟩
  have z := IsTup.new (s2.heap.push { cls := .type "slice", data := .fields #[.none, .none, .int (-1) tk] }) its.reverse.toArray
  exact z
end
end LG
set_option Elab.async false
set_option linter.all false
set_option maxRecDepth 100000
set_option maxHeartbeats 1000000
/-! Errors of own classes as values: made by their __init__, their fields, isinstance. -/
namespace LG
open PySem PySem.Spec PyProof.Rows L2
/-- what the written part says of a class of errors -/
structure ErrC (K : PySem.W.Frag) (C : Addr) : Prop where
  ox : OexC K C
  xf : XfC K C
  ca : PySem.W.findIn K (.ref C) "__class__" = some (some (.builtin "object.__class__"))
  mo : PySem.W.mroIn K C (.type "object") = some true
/-- of the descriptor __class__ -/
structure ClsD (K : PySem.W.Frag) : Prop where
  get : PySem.W.specialIn K (.builtin "object.__class__") "__get__" = some (some (.builtin "getset_descriptor.__get__"))
  set : PySem.W.takesIn K (.builtin "object.__class__") = some true
section
open PySem.W PySem.Calls
variable {prog : Program} {w : World} {A : Around} {E : Value → Shared → Prop} {s : Shared} {K : Frag} {x D : Addr} {ox : Obj} {od : Option Obj}
theorem data_found {C : Addr} {name : Str} {a g : Value} (hc : (clsIn K C).isSome = true) (ha : findIn K (.ref C) name = some (some a)) (hg : specialIn K a "__get__" = some (some g)) (ht : takesIn K a = some true) : findObj K C od name = some (.bind g a) := by
  obtain ⟨cd, e⟩ := Option.isSome_iff_exists.mp hc
  unfold findObj
  rw [e, Option.bind_some, ha, Option.bind_some]
  simp [hg, ht]
theorem class_of_err (T : ErrC K D) (U : ClsD K) {Q : Option Value → Shared → Prop} (X : K.In s.heap) (I : PySem.W.InstAt s.heap x ox D od) (h : Q (some (.ref D)) { s with toks := s.toks + 1 }) : wpAny (model prog w) A (getAttr? (.ref x) "__class__") Q E s := by
  have found : findObj K D od "__class__" = some (.bind (.builtin "getset_descriptor.__get__") (.builtin "object.__class__")) := data_found (by obtain ⟨cd, e, _⟩ := any_some T.xf.hdC; rw [e]; rfl) T.ca U.get U.set
  obtain ⟨hp, g, d, t, os⟩ := s
  have l0 := I.type (M := model prog w)
  have l1 := looks_findIn (M := model prog w) X T.xf.ga
  have l2 := looks_findIn (M := model prog w) X T.xf.gg
  have l3 := looks_find (M := model prog w) X I found
  have isB : Looks (model prog w) hp (isInstance (.ref x) (.type "BaseException")) true := l0.andThen (looks_subIn X T.xf.exC)
  have e2 : (Value.builtin "BaseException.__getattribute__" == Value.builtin "object.__getattribute__") = false := by decide +kernel
  have e1 : (onTheHeap (Value.ref D) && Value.builtin "BaseException.__getattribute__" == Value.builtin "object.__getattribute__") = false := by
    rw [e2]
    rfl
  have e0 : (false && onTheHeap (Value.builtin "BaseException.__getattribute__")) = false := rfl
  unfold getAttr? getAttrBy? getAttrBy
  refine wpAny_bind (wpAny_mkText (wpAny_bind (wpAny_attempt (wpAny_holding (wpAny_bind (l0.at (wpAny_bind (l1.at ?_))))))))
  show wpAny _ _ (if (onTheHeap (Value.ref D) && Value.builtin "BaseException.__getattribute__" == Value.builtin "object.__getattribute__") = true then _ else _) _ _ _
  rw [e1, if_neg Bool.false_ne_true]
  unfold getAttrByItsOwn hookBefore
  refine wpAny_bind ?_
  rw [if_pos (show onTheHeap (Value.ref D) = true from rfl)]
  refine l2.at (wpAny_bind (wpAny_attempt (wpAny_holding ?_)))
  unfold callGetattribute
  rw [e0, if_neg Bool.false_ne_true]
  unfold boundAndCalled
  rw [PySem.F.excAttr_ValueError.ga.bind (.ref x)]
  refine wpAny_bind (wpAny_pure ?_)
  show wpAny _ _ (call (.builtin "BaseException.__getattribute__") [.ref x, .str "__class__" t]) _ _ _
  refine wpAny_call (codeAny_call_builtin PySem.F.excAttr_ValueError.ga.plain PySem.F.entry_bexc_ga ?_)
  refine @check_slot (model prog w) _ _ ⟨hp, g, d, t + 1, os⟩ "BaseException.__getattribute__" "BaseException" "__getattribute__" (.ref x) [.str "__class__" t] [] _ (by decide +kernel) (by decide +kernel) isB (PySem.F.args_bexc_ga (.ref x) (.str "__class__" t)) ?_
  unfold Builtin.«object.__getattribute__»
  refine wpAny_bind (wpAny_of_eq (a := ((Value.ref x : Value), [Value.str "__class__" t])) (by first | rfl | (simp only [slotArgs]; rfl)) ?_)
  refine wpAny_bind (wpAny_pure (wpAny_bind (l0.at (wpAny_bind (l3.at ?_)))))
  show wpAny _ _ (holding [Value.builtin "object.__class__"] (call (.builtin "getset_descriptor.__get__") [.builtin "object.__class__", .ref x, .ref D]) >>= ret) _ _ _
  refine wpAny_bind (wpAny_holding (wpAny_call (class_get (s := ⟨hp, g, d, t + 1, os⟩) (ox := ox) (od := od) X I T.mo ?_)))
  refine wpAny_pure ?_
  show wpAny _ _ (handedOut (.ref D)) _ _ _
  rw [handedOut_of (v := .ref D) rfl]
  first
    | exact wpAny_pure (wpAny_pure h)
    | exact wpAny_pure h
    | exact wpAny_pure (wpAny_bind (wpAny_pure (wpAny_pure h)))
theorem kit_err (T : ErrC K D) (U : ClsD K) : KitX K (.ref x) (.ref D) (fun h => PySem.W.InstAt h x ox D od) where
  ty := fun _ _ _ I => I.type
  it := fun _ _ X _ => by
    obtain ⟨cd, e, _⟩ := any_some T.xf.hdC
    unfold clsIn at e
    split at e
    · rename_i c' d' cd' sl' ho
      intro A' Q' E' s' k q
      unfold isType loadHead
      exact wpAny_bind (wpAny_loadPart (k _ _ (X _ _ ho)) (wpAny_pure q))
    · cases e
  ne := (handS_kitx_exc (x := x) (ox := ox) T.xf.ga T.xf.gg T.xf.exC T.xf.hdC T.ca U.get U.set T.mo).ne
  ca := fun X I k => class_of_err T U X I k
end
section
variable {X : Cx} {pins : List (Addr × Obj)} {σ : L2.St} {H : Hp} {s : Shared}
/-- an error at a of the class at C, its dict at d holds fs -/
structure ErrAt (H : Hp) (a C d : Addr) (fs : List (Str × V)) : Prop where
  ob : H a = some (exo a C (some d))
  dc : H d = some (exd d fs)
theorem ErrAt.same {H' : Hp} {a C d : Addr} {fs : List (Str × V)} (e : Same H H') (h : ErrAt H a C d fs) : ErrAt H' a C d fs := ⟨e _ _ h.ob, e _ _ h.dc⟩
theorem err_inst {a C d : Addr} {fs : List (Str × V)} (I : Inv X pins σ H s) (h : ErrAt H a C d fs) : ∃ (ox od : Obj) (mA : Str → Option Value), PySem.W.InstAt s.heap a ox C (some od) ∧ (∀ f, RelO (fs.lookup f) (mA f)) ∧ ∀ f, PySem.W.lookIn f od = some (mA f) := by
  obtain ⟨t1, ho⟩ := exo_at I.hok h.ob
  obtain ⟨mA, hns, rel⟩ := exd_at I.hok h.dc
  obtain ⟨od, hod, hl⟩ := lookIn_ns hns
  exact ⟨_, od, mA, ⟨ho, rfl, rfl, hod⟩, rel, hl⟩
end
section
variable {X : Cx}
/-- isinstance(e, c), e an error of the class at C -/
def rIsErr (K : PySem.W.Frag) : List V → Hp → VK → Prop := fun xs H Q => ∃ (a C d : Addr) (fs : List (Str × V)) (c : V) (u : Value) (b : Bool), xs = [.ref a, c] ∧ ClsV c u ∧ ErrC K C ∧ ErrAt H a C d fs ∧ PySem.W.kitOne K (.ref C) u = some b ∧ Q (.bl b) H
theorem call_isErr (U : ClsD X.K) : CallR X (.builtin "isinstance") (rIsErr X.K) := by
  intro pins s σ H xs us Q I r h
  obtain ⟨a, C, d, fs, c, u, b, rfl, hc, T, at_, e, q⟩ := h
  obtain ⟨u1, u2, rfl, r1, r2⟩ := vals2 r
  have e1 : u1 = Value.ref a := r1
  subst e1
  have e2 := hc.eq r2
  subst e2
  obtain ⟨ox, od, mA, J, _, _⟩ := err_inst I at_
  exact PySem.W.kia_one (kit_err T U) I.kIn J e (fun z => nomatch z) fun tk => ⟨.bl b, H, I.kept (t' := tk) fun _ _ z => z, rfl, q⟩
/-- e.n, e an error -/
def tErrF (K : PySem.W.Frag) (n : Str) (te : TE) : TE := fun σ H Q => te σ H fun x H1 => ∃ (a C d : Addr) (fs : List (Str × V)) (v : V), x = .ref a ∧ ErrC K C ∧ PySem.W.findIn K (.ref C) n = some none ∧ ErrAt H1 a C d fs ∧ fs.lookup n = some v ∧ Q v H1
theorem pe_errf {e : Expr} {te : TE} {pos : Pos} {n : Str} (he : PE X e te) (hb : attributeBase e n X.env (eval e X.env) = eval e X.env := by rfl) : PE X (.Attribute e n pos) (tErrF X.K n te) := by
  refine ⟨fun pins s σ H Q I h => attr_of hb (thn (he.run pins s σ H _ I h) ?_)⟩
  rintro u s1 ⟨x, H1, I1, rx, a, C, d, fs, v, rfl, T, no, at_, l, q⟩
  have eu : u = Value.ref a := rx
  subst eu
  obtain ⟨ox, od, mA, J, rel, hl⟩ := err_inst I1 at_
  obtain ⟨u, hu, ru⟩ := RelO.some_of (v := v) (o := mA n) (by rw [← l]; exact rel n)
  exact HandSPX.exc_get I1.kIn J T.xf.ga T.xf.gg T.xf.exC (PySem.W.findObj_own T.xf.hdC no rfl (by rw [hl, hu])) (handed_of ru) ⟨v, H1, I1.tok _, ru, q⟩
/-- C(e, ..) as a value, C an error class whose __init__ keeps sp -/
def tErrV (K : PySem.W.Frag) (C : Addr) (sp : Sp) (ta : TA) : TE := fun σ H Q => ta σ H fun vs H1 => vs.length ≤ 1000 ∧ ∀ a, H1 a = none → sp (.ref a :: vs) (upd H1 a (exo a C none)) (fun v H2 => v = .non ∧ Q (.ref a) H2) E0
theorem pe_errv {x : Str} {C fI : Addr} {k : Nat} {fd : FuncData} {ps : List Str} {sp : Sp} {e : Expr} {es : List Expr} {ta : TA} {p pos : Pos} (T : OexC X.K C) (iC : PySem.W.findIn X.K (.ref C) "__init__" = some (some (.ref fI))) (tI : PySem.W.typeIn X.K (.ref fI) = some (.type "function"))
    (G : FnOk X.prog X.w X.K X.mg X.base CX0 k fI fd ps sp) (hr : Room (k + 1) X.A) (hb : Binds X.K fd ps []) (hg : Gl X x) (hm : X.mg x = some (.ref C)) (ha : PA X (e :: es) ta)
    (hdb : (x == ("__debug__" : Str)) = false := by decide) (he : starEach (e :: es) X.env = (false, eval e X.env) :: starEach es X.env := by rfl) (hpl : (backTo pos (starEach es X.env)).any (·.1) = false := by rfl) :
    PE X (.Call (.Name x p) (e :: es) [] pos) (tErrV X.K C sp ta) := by
  refine ⟨fun pins s σ H Q I h => wpAny_Call_Name_kw (ld_glob I hg hm ?_ hdb)⟩
  obtain ⟨nm, q, N, bs, bm, sn, sub, ab, col, dd, k0, k1, k2, k3, k5, hC, hbm⟩ := T.cls
  refine PySem.W.callWith_K (h₀ := X.base) I.ok.mod.kin T.kC (thn (ha.run pos pins s σ H _ I h) fun us s1 ⟨vs, H1, I1, r1, hz, q1⟩ => ⟨I1.kIn, ?_⟩) he hpl
  show wpAny _ _ (call (.ref C) us) _ _ _
  obtain ⟨hp, g, dr, tk, os⟩ := s1
  have above : hp.objs.size ≤ hp.objs.size + 1 := Nat.le_succ _
  have free : H1 (hp.objs.size + 1) = none := I1.hok.fresh above
  have hq := q1 (hp.objs.size + 1) free
  have keeps : ∀ b o, hp.get? b = some o → ((hp.push (PySem.W.kdv_tup us)).push (PySem.HandSPX.excO C hp.objs.size)).get? b = some o := fun b o e => Heap.get?_push_of_some _ (Heap.get?_push_of_some _ e)
  have there : ((hp.push (PySem.W.kdv_tup us)).push (PySem.HandSPX.excO C hp.objs.size)).get? (hp.objs.size + 1) = some (PySem.HandSPX.excO C hp.objs.size) := by heap_get
  have I2 : Inv X pins σ (upd H1 (hp.objs.size + 1) (exo (hp.objs.size + 1) C none)) ⟨(hp.push (PySem.W.kdv_tup us)).push (PySem.HandSPX.excO C hp.objs.size), g, dr, tk, os⟩ :=
    I1.laid (t' := tk) (a := hp.objs.size + 1) (o := exo (hp.objs.size + 1) C none) keeps above (exo_ok there)
  have r2 : Vals (V.ref (hp.objs.size + 1) :: vs) (Value.ref (hp.objs.size + 1) :: us) := .cons rfl r1
  have hl : ((Value.ref (hp.objs.size + 1) :: us) ++ []).length = ps.length := by
    rw [List.append_nil, ← r2.length]
    exact G.len _ _ _ _ hq
  have fits : us.length ≤ sizeLine := by
    rw [← r1.length, sizeLine_eq]
    omega
  have bd := hb _ (Value.ref (hp.objs.size + 1) :: us) I2.kIn hl
  rw [List.append_nil] at bd
  refine wpAny_call (PySem.HandSPX.call_own F.excBase_ValueError (fun Y => PySem.HandSPX.refsVE_contains Y bm hbm) (I1.kIn _ _ hC) (PySem.W.looks_findIn I1.kIn iC) (fun self => PySem.W.bind_fn I1.kIn self tI) fits
    (codeAny_mono (G.run _ X.stack _ _ ⟨Value.ref (hp.objs.size + 1) :: us, []⟩ (Value.ref (hp.objs.size + 1) :: us) _ _ E0 (hr.make C us []) (I2.env0.make C us []) bd r2 hq) fun r s' hq' => ?_))
  match r, hq' with
  | .error _, hq' => exact hq'.elim
  | .ok .next, hq' => exact hq'.elim
  | .ok .brk, hq' => exact hq'.elim
  | .ok .cont, hq' => exact hq'.elim
  | .ok (.ret u), hq' =>
    obtain ⟨v, H', I3, rv, ev, q3⟩ := I2.after hq'
    subst ev
    exact ⟨rv, ⟨V.ref (hp.objs.size + 1), H', I3, rfl, q3⟩⟩
end
end LG
set_option Elab.async false
set_option linter.all false
set_option maxRecDepth 100000
set_option maxHeartbeats 1000000
/-! The facts of classes of errors, by one look at the written part. -/
namespace LG
open PySem PySem.Spec PyProof.Rows L2
open PySem.HandSPX (veTail refsVE)
/-- the class at C stands there with the bases bm behind it -/
def clsB (K : PySem.W.Frag) (C : Addr) (bm : List Value) : Bool := match K.lookup C with
  | some ⟨.type "type", _, .cls cd, sl⟩ => (match cd.mro, sl.toList with
    | .ref D :: r, [_, _, _, _, some (.builtin n), _] => D == C && (n == "ValueError.__new__" && (!cd.hasDel && (cd.hasDict && decide (r = bm))))
    | _, _ => false)
  | _ => false
theorem clsB_ok {K : PySem.W.Frag} {C : Addr} {bm : List Value} (q : clsB K C bm = true) : ∃ nm qn N bs sn sub ab col dd k0 k1 k2 k3 k5, K.lookup C = some (excClassObj nm qn C N bs bm true sn sub ab col dd k0 k1 k2 k3 k5 "ValueError.__new__") := by
  unfold clsB at q
  split at q
  · rename_i dd cd sl ho
    split at q
    · rename_i D r k0 k1 k2 k3 n k5 hm hs
      simp only [Bool.and_eq_true, beq_iff_eq, Bool.not_eq_true', decide_eq_true_eq] at q
      obtain ⟨rfl, rfl, hdel, hdict, rfl⟩ := q
      obtain ⟨nm, bs, mro, ns, qn, hd, sn, sub, ab, col, del⟩ := cd
      dsimp only at hm hdel hdict
      subst hm hdel hdict
      obtain ⟨l⟩ := sl
      simp only at hs
      subst hs
      exact ⟨nm, qn, ns, bs, sn, sub, ab, col, dd, k0, k1, k2, k3, k5, ho⟩
    · cases q
  · cases q
def errB (K : PySem.W.Frag) (C : Addr) (bm : List Value) : Bool :=
  clsB K C bm && (refsVE bm && (decide (PySem.W.findIn K (.ref C) "__setattr__" = some (some (.builtin "object.__setattr__"))) && (decide (PySem.W.subIn K (.ref C) (.type "BaseException") = some true) &&
  (decide (PySem.W.typeIn K (.ref C) = some (.type "type")) && (PySem.W.keepIn K (.ref C) && (xfB K C && (decide (PySem.W.findIn K (.ref C) "__class__" = some (some (.builtin "object.__class__"))) && decide (PySem.W.mroIn K C (.type "object") = some true))))))))
theorem errB_ok {K : PySem.W.Frag} {C : Addr} {bm : List Value} (q : errB K C bm = true) : ErrC K C := by
  unfold errB at q
  simp only [Bool.and_eq_true, decide_eq_true_eq] at q
  obtain ⟨q1, q2, q3, q4, q5, q6, q7, q8, q9⟩ := q
  obtain ⟨nm, qn, N, bs, sn, sub, ab, col, dd, k0, k1, k2, k3, k5, ho⟩ := clsB_ok q1
  exact ⟨⟨⟨nm, qn, N, bs, bm, sn, sub, ab, col, dd, k0, k1, k2, k3, k5, ho, q2⟩, q3, q4, q5, q6⟩, xfB_ok q7, q8, q9⟩
theorem clsB_in {K : PySem.W.Frag} {C : Addr} {bm : List Value} (q : clsB K C bm = true) : ∃ cd, PySem.W.clsIn K C = some cd ∧ cd.mro = .ref C :: bm := by
  obtain ⟨nm, qn, N, bs, sn, sub, ab, col, dd, k0, k1, k2, k3, k5, ho⟩ := clsB_ok q
  unfold PySem.W.clsIn
  rw [ho]
  exact ⟨_, rfl, rfl⟩
/-- isinstance by the classes' bases -/
theorem kit_refs {K : PySem.W.Frag} {C D : Addr} {bm bmD : List Value} (q : errB K C bm = true) (qD : errB K D bmD = true) : PySem.W.kitOne K (.ref C) (.ref D) = some (decide (C = D) || bm.contains (.ref D)) := by
  have q1 : clsB K C bm = true := by
    unfold errB at q
    exact (Bool.and_eq_true_iff.mp q).1
  have q2 : clsB K D bmD = true := by
    unfold errB at qD
    exact (Bool.and_eq_true_iff.mp qD).1
  obtain ⟨cd, e1, m1⟩ := clsB_in q1
  obtain ⟨dd, e2, m2⟩ := clsB_in q2
  unfold PySem.W.kitOne
  by_cases same : C = D
  · subst same
    simp
  · have ne : ¬ ((Value.ref C == Value.ref D) = true) := by
      intro z
      exact same (Value.ref.inj (beq_iff_eq.mp z))
    rw [if_neg ne]
    have ty : PySem.W.typeIn K (.ref D) = some (.type "type") := (errB_ok qD).ox.tyC
    show (if ((PySem.W.clsIn K D).isSome && PySem.W.typeIn K (.ref D) == some (.type "type")) = true then PySem.W.subIn K (.ref C) (.ref D) else none) = _
    rw [e2, ty, if_pos (by simp)]
    show PySem.W.mroIn K C (.ref D) = _
    unfold PySem.W.mroIn
    rw [e1, Option.bind_some, m1, if_neg (by simp)]
    simp [same, List.contains_cons, Ne.symm same]
theorem kit_type {K : PySem.W.Frag} {C : Addr} {bm : List Value} {T : String} (q : errB K C bm = true) (hT : PySem.W.kitMeta T = true) : PySem.W.kitOne K (.ref C) (.type T) = some (bm.contains (.type T)) := by
  have q1 : clsB K C bm = true := by
    unfold errB at q
    exact (Bool.and_eq_true_iff.mp q).1
  obtain ⟨cd, e1, m1⟩ := clsB_in q1
  unfold PySem.W.kitOne
  rw [if_neg (by simp)]
  show (if PySem.W.kitMeta T = true then PySem.W.subIn K (.ref C) (.type T) else none) = _
  rw [if_pos hT]
  show PySem.W.mroIn K C (.type T) = _
  unfold PySem.W.mroIn
  rw [e1, Option.bind_some, m1, if_neg (by simp)]
  simp [List.contains_cons]
end LG
set_option Elab.async false
set_option linter.all false
set_option maxRecDepth 100000
set_option maxHeartbeats 2000000
/-! try .. except X as n, where the suite may keep the exception. -/
namespace LG
open PySem PySem.Spec PyProof.Rows L2
/-- a caught exception at a of the class cls, its dict d -/
def exq (a : Addr) (cls : Value) (d : Option Addr) : HO := .ext fun h => ∃ (o : Obj) (vs : Array Value), h.get? a = some o ∧ o.cls = cls ∧ o.dict = d ∧ o.data = .fields vs
theorem exq_ok {P : Program} {w : World} {H : Hp} {h : Heap} {a : Addr} {cls : Value} {d : Option Addr} {o : Obj} {vs : Array Value} (e : h.get? a = some o) (hc : o.cls = cls) (hd : o.dict = d) (hv : o.data = .fields vs) : ObjOk P w H h a (exq a cls d) :=
  ⟨⟨o, vs, e, hc, hd, hv⟩, ⟨o, e⟩, fun _ _ ⟨o, vs, q, r⟩ k => ⟨o, vs, k _ q, r⟩⟩
section
variable {X : Cx} {pins pins' : List (Addr × Obj)} {σ : L2.St} {H : Hp} {s s1 : Shared} {a : Addr} {cls : Value} {d : Option Addr}
/-- from the landing of an exception on it is tracked -/
theorem keep_exc {B : Heap} {h4 : Heap} {oe : Obj} {vs : Array Value} (hex : X.ex = []) (J : Inv X pins σ H s) (J4 : Inv X pins σ H { s1 with heap := h4 }) (nb : ∀ b o, s.heap.get? b = some o → b ∉ frs X.stack → B.get? b = some o) (hB : B.get? a = none)
    (nfr : a ∉ frs X.stack) (na : H a = none) (nL : a ≠ X.env.locals) (nF : a ∉ X.fs) (he : h4.get? a = some oe) (hz : Zc cls d oe) (hv : oe.data = .fields vs) :
    Inv (X.suite a (X.pn ++ pins)) [] σ (upd H a (exq a cls d)) { s1 with heap := h4 } := by
  have none_s : s.heap.get? a = none := by
    cases q : s.heap.get? a with
    | none => rfl
    | some o =>
      have := nb a o q nfr
      rw [hB] at this
      cases this
  have none_0 : X.s_0.heap.get? a = none := by
    cases q : X.s_0.heap.get? a with
    | none => rfl
    | some o =>
      obtain ⟨o', q'⟩ := J.base.there a o q (by rw [hex]; simp)
      rw [none_s] at q'
      cases q'
  have ne0 : ∀ {b : Addr} {u : HO}, H b = some u → b ≠ a := fun {b u} q => ne_of_none q na
  refine ⟨J4.ok.suite _ _, J4.os, J4.bare, ⟨J4.base.keep, J4.base.slot, fun b o e n hx => ?_, J4.base.there, fun b xs e => ?_, fun b o u e => ?_, fun b ps e => ?_⟩, J4.loc, J4.cell, ?_, fun y c e => ?_, fun p hp => ?_, fun b u e => ?_, J4.len⟩
  · have : b ≠ a := fun z => by
      rw [z] at e
      have e : X.s_0.heap.get? a = some o := e
      rw [none_0] at e
      cases e
    rw [upd_ne this]
    exact J4.base.free b o e n hx
  · have q := J4.base.tups b xs e
    rw [upd_ne (ne0 q)]
    exact q
  · have q := J4.base.frzs b o u e
    rw [upd_ne (ne0 q)]
    exact q
  · obtain ⟨more, q⟩ := J4.base.tbls b ps e
    exact ⟨more, by rw [upd_ne (ne0 q)]; exact q⟩
  · show upd H a (exq a cls d) X.env.locals = none
    rw [upd_ne (Ne.symm nL)]
    exact J4.free
  · have : c ≠ a := fun z => by
      obtain ⟨v, o, ho, hd⟩ := J4.cell y c e
      rw [z] at ho
      have ho : h4.get? a = some o := ho
      rw [he] at ho
      cases ho
      rw [hv] at hd
      cases hd
    rw [upd_ne this]
    exact J4.freeC y c e
  · have hp' : p ∈ X.pn ++ pins := by
      rw [List.append_nil] at hp
      exact hp
    obtain ⟨q1, q2, q3, q4, q5⟩ := J4.pin p hp'
    have : p.1 ≠ a := fun z => by
      obtain ⟨r1, _⟩ := J.pin p hp'
      rw [z, none_s] at r1
      cases r1
    exact ⟨q1, by rw [upd_ne this]; exact q2, q3, q4, q5⟩
  · by_cases hb : b = a
    · rw [hb, upd_same] at e
      cases e
      rw [hb]
      exact exq_ok he hz.1 hz.2 hv
    · rw [upd_ne hb] at e
      exact (J4.hok b u e).stay (fun c v _ q => q) (fun c q => by rw [upd_ne (ne0 q)]; exact q) fun c xs q => by rw [upd_ne (ne0 q)]; exact q
theorem unkeep {pn' : List (Addr × Obj)} (I : Inv (X.suite a (X.pn ++ pins)) pn' σ H s) (ok : X.Ok) : Inv X pins σ H s :=
  ⟨ok, I.os, I.bare, I.base, I.loc, I.cell, I.free, I.freeC, fun p hp => I.pin p (List.mem_append_left _ hp), I.hok, I.len⟩
end
/-- what the clause wishes of an exception of the body; the suite knows the exception as an object -/
def wKeep (K : PySem.W.Frag) (c : Value) (i : Nat) (ts : TS) (Wout : WX) (D : Ends) : WX := fun cls d σ H =>
  ∃ b, PySem.W.exmOne K cls c = some b ∧ (b = true → ∀ a, H a = none → ts { nx := fun σ' H' => D.nx (σ'.set i none) H', rt := D.rt, bk := fun σ' H' => D.bk (σ'.set i none) H', ct := fun σ' H' => D.ct (σ'.set i none) H' } (σ.set i (some (.ref a))) (upd H a (exq a cls d))) ∧
    (b = false → Wout cls d σ H)
section
variable {X : Cx} {x n : Str} {c : Value} {i : Nat} {body suite : List Stmt} {b₀ : Stmt} {np pos pos' : Pos} {tb : WX → TS} {ts : TS} {Wout : WX}
theorem ps_try_keep (hs : X.stack = X.env :: X.outer) (hf : X.env.frame = some X.env.locals) (hex : X.ex = []) (hN : X.N.Nodup) (hi : X.N[i]? = some n) (hln : X.env.kindOf n = some .local) (hc : L2.Names X x c) (tk : Takes X Wout)
    (hb : ∀ (W : WX) (pn : List (Addr × Obj)) (xe : Value → Shared → Prop), Takes (X.tr pn xe) W → PassesOwn (model X.prog X.w) X.A X.env xe → PSs (X.tr pn xe) body (tb W))
    (hsu : ∀ (a : Addr) (pn : List (Addr × Obj)), PSs (X.suite a pn) (b₀ :: suite) ts) :
    PS X (.Try body [.ExceptHandler (some (.Name x np)) (some n) (b₀ :: suite) pos'] [] [] pos) (fun D σ H => tb (wKeep X.K c i ts Wout D) D σ H) := by
  refine ⟨fun pins s σ H D I h => ?_⟩
  have ok := I.ok
  have hfr : X.A.frames = some (X.env :: X.outer) := by rw [ok.frames, hs]
  have hloc : Loc X.env.scope n := .inl hln
  refine wpAny_Try_except ?_
  refine wpAny_mono ((hb (wKeep X.K c i ts Wout D) (X.pn ++ pins) (fun e z1 => wpAny (model X.prog X.w) X.A (noteFrame e X.env) (fun _ z2 => wpAny (model X.prog X.w) X.A (setFlight e none) (fun _ z3 =>
    wpAny (model X.prog X.w) X.A (handleBy e X.env [.ExceptHandler (some (.Name x np)) (some n) (b₀ :: suite) pos']) (SP X pins D) X.xe z3) X.xe z2) X.xe z1) (fun u s' xx => ?_) PassesOwn.looking).run [] s σ H D (I.toTry _) h) (fun f s1 hsp => ?_) fun _ _ he => he
  · obtain ⟨a, B, sI, pins', σ', H', cls, d, rfl, J', nb, up, sky, na, os, ag, b, hb1, hyes, hno⟩ := xx
    have J : Inv X pins σ' H' sI := J'.ofTry ok
    have sky' : Sky B (X.env :: X.outer) a (Zc cls d) X.env.locals s'.heap := by rw [← hs]; exact sky
    show wpAny (model X.prog X.w) X.A (noteFrame (.ref a) X.env) _ _ _
    refine Sky.land Zc.steady hfr hf sky' fun g3 fl3 up3 => ?_
    have J3 : Inv X pins σ' H' { s' with heap := g3 } := J.landed nb fl3.1 (up.trans up3) os ag
    obtain ⟨oe3, vs3, he3, hz3, hd3⟩ := fl3.there
    have out : ∀ {g : Heap} {o : Obj} {us : Array Value}, g.FunFrames B (X.env :: X.outer) → g.get? a = some o → o.data = .fields us → a ∉ frs (X.env :: X.outer) := by
      intro g o us ff e dd hm
      obtain ⟨_, o', e', hnf⟩ := ff.mem hm
      rw [e] at e'
      cases e'
      exact hnf _ dd
    have nfr := out fl3.2.2.1 he3 hd3
    have nL : a ≠ X.env.locals := fun z => nfr (List.mem_filterMap.mpr ⟨X.env, List.mem_cons_self, by rw [hf, z]⟩)
    have nF : a ∉ X.fs := fun hm => by
      obtain ⟨e, he, q⟩ := List.mem_filterMap.mp hm
      exact nfr (List.mem_filterMap.mpr ⟨e, List.mem_cons_of_mem _ he, q⟩)
    have nfs : a ∉ frs X.stack := by rw [hs]; exact nfr
    have S3 := J3.suite he3 hd3 na nL nF
    refine wpAny_handleBy_cons (codeAny_handlers_test ?_) (by intro q; cases q)
    have LT : PySem.W.Looks (model X.prog X.w) g3 (typeOf (.ref a)) cls := fun A Q E s k q => wpAny_typeOf_ref (k _ _ he3) (by rw [hz3.1]; exact q)
    have LM := PySem.W.exm_one (M := model X.prog X.w) J3.kIn LT hb1
    have test : ∀ {Q : Value → Shared → Prop} {E : Value → Shared → Prop}, Q c { s' with heap := g3 } → wpAny (model X.prog X.w) (X.A.mark (some (.ref a))) (eval (.Name x np) X.env) Q E { s' with heap := g3 } := by
      intro Q E q
      obtain ⟨hg, hdbg, hm | ⟨hm, hv, hnn⟩⟩ := hc
      · exact ld_glob (X := X.suite a ((a, oe3) :: (X.pn ++ pins))) S3 hg hm q hdbg
      · exact ld_blt (X := X.suite a ((a, oe3) :: (X.pn ++ pins))) S3 hg hm hv q hnn hdbg
    refine test (LM.here ?_)
    cases b with
    | true =>
      refine codeAny_handlers_suite_as ?_
      refine HandSPX.lands_againZ fl3 fun g4 fl4 up4 => ?_
      have J4 : Inv X pins σ' H' { s' with heap := g4 } := J.landed nb fl4.1 ((up.trans up3).trans up4) os ag
      obtain ⟨oe4, vs4, he4, hz4, hd4⟩ := fl4.there
      have S4 := keep_exc hex J J4 nb fl4.2.1 nfs na nL nF he4 hz4 hd4
      refine store_ok (X := X.suite a (X.pn ++ pins)) (v := .ref a) S4 hN hi hloc rfl (fun s5 S5 => ?_) (.inr hln)
      refine wpAny_mono ((hsu a (X.pn ++ pins)).run [] s5 _ _ _ S5 (hyes rfl a na)) (fun f s6 hsp => ?_) (fun _ _ z => False.elim z)
      have end_ : ∀ {σ6 : L2.St} {H6 : Hp} {Q : Shared → Prop}, Inv (X.suite a (X.pn ++ pins)) [] σ6 H6 s6 → (∀ s7, Inv X pins (σ6.set i none) H6 s7 → Q s7) →
          wpAny (model X.prog X.w) X.A (do bindName X.env n .none; unbindBehindTheSuite X.env n pos') (fun _ s7 => Q s7) X.xe s6 := fun {σ6 H6 Q} S6 hq => gone_ok (unkeep S6 ok) hN hi hln hq
      match f, hsp with
      | .next, ⟨σ6, H6, S6, q6⟩ => exact end_ S6 fun s7 J7 => ⟨_, _, J7, q6⟩
      | .brk, ⟨σ6, H6, S6, q6⟩ => exact end_ S6 fun s7 J7 => ⟨_, _, J7, q6⟩
      | .cont, ⟨σ6, H6, S6, q6⟩ => exact end_ S6 fun s7 J7 => ⟨_, _, J7, q6⟩
      | .ret u, ⟨v6, σ6, H6, S6, r6, q6⟩ => exact end_ S6 fun s7 J7 => ⟨_, _, _, J7, r6, q6⟩
    | false =>
      show wpAny _ X.A (handleBy (.ref a) X.env []) _ _ _
      refine wpAny_handleBy_nil ?_
      obtain ⟨k1, k2, k3, oe, vs, T, oT, ts', he, hz, hd, h1, hr⟩ := id fl3
      unfold PySem.passOn
      refine wpAny_bind (wpAny_field he hd h1 ?_)
      rw [if_neg (show ¬ ((Value.ref T == Value.none) = true) from by simp)]
      have fin : wpAny (model X.prog X.w) X.A (setFlight (.ref a) X.env.frame) (fun _ s4 => wpAny (model X.prog X.w) X.A (throw (.ref a) : Sem Flow) (SP X pins D) X.xe s4) X.xe { s' with heap := g3 } := by
        rw [hf]
        refine HandSPX.setFlight_upZ fl3 fun g4 hh4 up4 => wpAny_throw (tk _ _ ?_)
        exact ⟨a, B, sI, pins, σ', H', cls, d, rfl, J, nb, (up.trans up3).trans up4, .inr (.inr (by rw [hs]; exact hh4)), na, os, ag, hno rfl⟩
      first
        | exact wpAny_bind (wpAny_pure (wpAny_bind fin))
        | exact wpAny_bind fin
  · match f, hsp with
    | .next, ⟨σ', H', J', q⟩ => exact wpAny_execs_nil ⟨σ', H', J'.ofTry ok, q⟩
    | .brk, ⟨σ', H', J', q⟩ => exact ⟨σ', H', J'.ofTry ok, q⟩
    | .cont, ⟨σ', H', J', q⟩ => exact ⟨σ', H', J'.ofTry ok, q⟩
    | .ret u, ⟨v, σ', H', J', r, q⟩ => exact ⟨v, σ', H', J'.ofTry ok, r, q⟩
end
end LG
set_option Elab.async false
set_option linter.all false
set_option maxRecDepth 100000
set_option maxHeartbeats 1000000
/-! Caught errors: isinstance, fields; anything that is no error. -/
namespace LG
open PySem PySem.Spec PyProof.Rows L2
/-- a caught error at a of the class at C; its own dict holds fs -/
structure ErrQ (H : Hp) (a C d : Addr) (fs : List (Str × V)) : Prop where
  ob : H a = some (exq a (.ref C) (some d))
  dc : H d = some (.xd fs)
theorem ErrQ.same {H H' : Hp} {a C d : Addr} {fs : List (Str × V)} (e : Same H H') (h : ErrQ H a C d fs) : ErrQ H' a C d fs := ⟨e _ _ h.ob, e _ _ h.dc⟩
section
variable {X : Cx} {pins : List (Addr × Obj)} {σ : L2.St} {H : Hp} {s : Shared}
theorem errq_inst {a C d : Addr} {fs : List (Str × V)} (I : Inv X pins σ H s) (h : ErrQ H a C d fs) : ∃ (ox od : Obj) (mA : Str → Option Value), PySem.W.InstAt s.heap a ox C (some od) ∧ (∀ f, RelO (fs.lookup f) (mA f)) ∧ ∀ f, PySem.W.lookIn f od = some (mA f) := by
  have x : ObjOk X.prog X.w H s.heap a (exq a (.ref C) (some d)) := I.hok a _ h.ob
  obtain ⟨⟨o, vs, e, hc, hd, hv⟩, _, _⟩ := x
  have y : ObjOk X.prog X.w H s.heap d (.xd fs) := I.hok d _ h.dc
  obtain ⟨mA, hns, rel⟩ := y
  obtain ⟨od, hod, hl⟩ := lookIn_ns hns
  obtain ⟨c0, d0, v0, sl⟩ := o
  simp only at hc hd hv
  subst hc hd hv
  exact ⟨_, od, mA, ⟨e, rfl, rfl, hod⟩, rel, hl⟩
end
section
variable {X : Cx}
/-- isinstance(e, c), e a caught error -/
def rIsErrQ (K : PySem.W.Frag) : List V → Hp → VK → Prop := fun xs H Q => ∃ (a C d : Addr) (fs : List (Str × V)) (c : V) (u : Value) (b : Bool), xs = [.ref a, c] ∧ ClsV c u ∧ ErrC K C ∧ ErrQ H a C d fs ∧ PySem.W.kitOne K (.ref C) u = some b ∧ Q (.bl b) H
theorem call_isErrQ (U : ClsD X.K) : CallR X (.builtin "isinstance") (rIsErrQ X.K) := by
  intro pins s σ H xs us Q I r h
  obtain ⟨a, C, d, fs, c, u, b, rfl, hc, T, at_, e, q⟩ := h
  obtain ⟨u1, u2, rfl, r1, r2⟩ := vals2 r
  have e1 : u1 = Value.ref a := r1
  subst e1
  have e2 := hc.eq r2
  subst e2
  obtain ⟨ox, od, mA, J, _, _⟩ := errq_inst I at_
  exact PySem.W.kia_one (kit_err T U) I.kIn J e (fun z => nomatch z) fun tk => ⟨.bl b, H, I.kept (t' := tk) fun _ _ z => z, rfl, q⟩
/-- e.n, e a caught error -/
def tErrQ (K : PySem.W.Frag) (n : Str) (te : TE) : TE := fun σ H Q => te σ H fun x H1 => ∃ (a C d : Addr) (fs : List (Str × V)) (v : V), x = .ref a ∧ ErrC K C ∧ PySem.W.findIn K (.ref C) n = some none ∧ ErrQ H1 a C d fs ∧ fs.lookup n = some v ∧ Q v H1
theorem pe_errq {e : Expr} {te : TE} {pos : Pos} {n : Str} (he : PE X e te) (hb : attributeBase e n X.env (eval e X.env) = eval e X.env := by rfl) : PE X (.Attribute e n pos) (tErrQ X.K n te) := by
  refine ⟨fun pins s σ H Q I h => attr_of hb (thn (he.run pins s σ H _ I h) ?_)⟩
  rintro u s1 ⟨x, H1, I1, rx, a, C, d, fs, v, rfl, T, no, at_, l, q⟩
  have eu : u = Value.ref a := rx
  subst eu
  obtain ⟨ox, od, mA, J, rel, hl⟩ := errq_inst I1 at_
  obtain ⟨u, hu, ru⟩ := RelO.some_of (v := v) (o := mA n) (by rw [← l]; exact rel n)
  exact HandSPX.exc_get I1.kIn J T.xf.ga T.xf.gg T.xf.exC (PySem.W.findObj_own T.xf.hdC no rfl (by rw [hl, hu])) (handed_of ru) ⟨v, H1, I1.tok _, ru, q⟩
end
end LG
set_option Elab.async false
set_option linter.all false
set_option maxRecDepth 100000
set_option maxHeartbeats 2000000
/-! enumerate over a tuple. -/
namespace PySem
open AutoSeq1 (wpAny_loadPart')
theorem meets_enumB {v : Value} {o : Obj} {G : Heap → Prop} (B : Begins v o G) :
    Meets (Builtin.«enumerate.__new__» ⟨[.type "enumerate", v], []⟩) (fun _ R s => G s.heap ∧
      R (.ok (.ret (.ref (s.heap.push o).objs.size))) { s with heap := (s.heap.push o).push { cls := .type "enumerate", data := .fields #[.none, .bool false, .ref s.heap.objs.size, rawInt 0, .none, .none] } }) :=
  .of_wp fun prog w A R s h => by
    obtain ⟨hp, g, d, tk, os⟩ := s
    obtain ⟨hG, h⟩ := h
    have hsub := sub_enumerate
    have it : ∀ {A' : Around} {E : Value → Shared → Prop} {Q : Value → Shared → Prop}, Q (.ref hp.objs.size) ⟨hp.push o, g, d, tk, os⟩ → wpAny (model prog w) A' (pyIter v) Q E ⟨hp, g, d, tk, os⟩ :=
      fun q => B.iter prog w _ _ ⟨hp, g, d, tk, os⟩ _ hG q
    wp_walk
    refine wpAny_stack_any fun st => wpAny_pure ?_
    split
    · rename_i c _ _ _ _ _
      cases (c == Value.type "enumerate")
      · wp_walk using it
        exact ⟨_, rfl, h⟩
      · wp_walk using it
        exact ⟨_, rfl, h⟩
    · wp_walk using it
      exact ⟨_, rfl, h⟩
theorem enum_tuple {prog : Program} {w : World} {A : Around} {E : Value → Shared → Prop} {s : Shared} {l : Addr} {items : Array Value} {Q : Value → Shared → Prop} (hL : s.heap.IsTuple l items)
    (h : ∀ h', IsEnum h' (s.heap.objs.size + 1) s.heap.objs.size 0 .none → h'.IsTupleIter s.heap.objs.size l 0 → h'.objs.size = s.heap.objs.size + 2 → (∀ b o, s.heap.get? b = some o → h'.get? b = some o) → Q (.ref (s.heap.objs.size + 1)) { s with heap := h' }) :
    wpAny (model prog w) A (call (.type "enumerate") [.ref l]) Q E s := by
  refine callType_new F.called_enumerate (by decide) (F.typeCall_enumerate_1 _) (F.newCall_enumerate_1 _) (fun obj => F.args_object_init_2 obj _) F.entry_enumerate_new (meets_enumB (begins_tuple l items)) ⟨hL, ?_⟩
  generalize ho : ({ cls := .type "tuple_iterator", data := .fields #[.ref l, .int 0 0] } : Obj) = io
  generalize hn : ({ cls := .type "enumerate", data := .fields #[.none, .bool false, .ref s.heap.objs.size, rawInt 0, .none, .none] } : Obj) = eo
  have z1 : (s.heap.push io).objs.size = s.heap.objs.size + 1 := Heap.size_push ..
  have he : ((s.heap.push io).push eo).get? (s.heap.objs.size + 1) = some eo := by
    rw [← z1]
    exact Heap.get?_push_size _ (by rw [← hn]; rfl)
  have hi : ((s.heap.push io).push eo).get? s.heap.objs.size = some io := Heap.get?_push_of_some _ (Heap.get?_push_size _ (by rw [← ho]; rfl))
  show _ ∧ _
  rw [z1]
  subst ho hn
  exact ⟨⟨_, he, rfl⟩, h _ he ⟨_, hi, rfl, rfl⟩ (by rw [Heap.size_push, z1]) fun b o x => Heap.get?_push_of_some _ (Heap.get?_push_of_some _ x)⟩
theorem enumT_end {prog : Program} {w : World} {A : Around} {E : Value → Shared → Prop} {s : Shared} {e it t : Addr} {i : Nat} {k : Int} {old : Value} {items : Array Value} {Q : Option Value → Shared → Prop} (hh : A.handled = none) (he : IsEnum s.heap e it k old) (hit : s.heap.IsTupleIter it t i) (ht : s.heap.IsTuple t items) (hx : items[i]? = none)
    (hQ : ∀ h', Heap.ExtBut it s.heap h' → Q none { s with heap := h' }) : wpAny (model prog w) A (pyNext (.ref e)) Q E s := by
  have hT : s.TypeIs (.ref e) "enumerate" := ⟨_, he, rfl⟩
  unfold pyNext
  refine wpAny_bind (wpAny_attempt (wpAny_callSpecial?_slot (name := Str.ofString "__next__") hT F.slot_enumerate_next (wpAny_call_entry F.slot_enumerate_next hT F.entry_enumerate_next ?_ (F.args_enumerate_next_1 _))))
  show wpAny _ _ (field (.ref e) 2 >>= _) _ _ _
  refine wpAny_bind (wpAny_field he rfl (x := .ref it) rfl ?_)
  refine wpAny_bind (wpAny_nextOf_tuple_end hh hit ht hx fun h' x he' hx' => ?_)
  obtain ⟨o, ho, hc⟩ := hx'
  exact wpAny_bind (wpAny_isInstance (T := "StopIteration") (b := true) ⟨o, ho, hc⟩ isSubtype_stop (wpAny_pure (hQ _ he')))
end PySem
namespace LG
open PySem PySem.Spec PyProof.Rows L2
/-- the tuple at a, each item in a new pair with its place -/
def Itet (K : PySem.W.Frag) (a : Addr) : It :=
  ⟨fun i H => ∃ (xs : List V) (x : V), SqT K H a xs ∧ xs[i]? = some x, fun i H v H' => ∃ T x, v = .ref T ∧ H T = none ∧ H' = upd H T (.tup [.int (i : Nat), x]) ∧ ∀ xs, SqT K H a xs → xs[i]? = some x, fun i H => ∃ xs : List V, SqT K H a xs ∧ xs.length ≤ i⟩
theorem turn_enumT {P : Program} {w : World} {K : PySem.W.Frag} {elts : List Expr} {kk : Nat} {tpos : Pos} (a e it : Addr) (nai : a ≠ it) (nea : e ≠ a) :
    Turn P w K (.Tuple elts kk tpos) (Itet K a) [e, it] e (fun i h => (∃ old, IsEnum h e it ((i : Nat) : Int) old) ∧ h.IsTupleIter it a i ∧ e ≠ it) where
  mem := by simp
  obj := fun i h st b hb => by
    obtain ⟨⟨old, he⟩, ⟨o, ho, hc, hd⟩, _⟩ := st
    have e' : b = e ∨ b = it := by simpa using hb
    rcases e' with z | z
    · rw [z]
      exact ⟨_, he, fun v q => nomatch q⟩
    · rw [z]
      exact ⟨o, ho, fun v q => by rw [hd] at q; cases q⟩
  keep := fun i h h' st k => by
    obtain ⟨⟨old, he⟩, hi, hne⟩ := st
    exact ⟨⟨old, k e (by simp) _ he⟩, hi.at fun o q => k it (by simp) o q, hne⟩
  item := by
    intro X hP hw hK hc i pins s σ H E I hf st hg
    subst hP hw hK
    obtain ⟨⟨old, he⟩, hit, hne⟩ := st
    obtain ⟨xs, x, hq, hx⟩ := hg
    obtain ⟨its, rv, p, hz⟩ := I.tuple hq
    obtain ⟨u, hu, ru⟩ := rv.get hx
    have hel : e < s.heap.objs.size := Heap.lt_size he
    have hil : it < s.heap.objs.size := by obtain ⟨_, q, _⟩ := hit; exact Heap.lt_size q
    have hlen : i < its.toArray.size := by
      have := (List.getElem?_eq_some_iff.mp hu).1
      simpa using this
    refine wpAny_pyNext_enum_itemD (Draws.tuple (A := X.A.in1) (show X.A.in1.handled = none from I.ok.hd hc) it a nai its.toArray) he ⟨hit, p⟩ hlen hne (by simp [hne, nea]) fun x2 h' tk hx2 ho hst' hT hsz hk => ?_
    have ex : x2 = u := by
      have q : its.toArray[i]? = some u := by simpa using hu
      exact Option.some.inj (hx2.symm.trans q)
    subst ex
    refine ⟨_, rfl, wpAny_letOwnedTupleGo_enum (s := { s with heap := h', toks := tk + 1 }) ho fun h'' he' sb => ?_⟩
    have hT2 : h''.get? s.heap.objs.size = some { cls := .type "tuple", data := .seq #[.int i tk, x2] } := (sb.2 _ (Nat.ne_of_gt hel)).trans hT
    have new : ObjOk X.prog X.w (upd H s.heap.objs.size (.tup [.int (i : Nat), x])) h'' s.heap.objs.size (.tup [.int (i : Nat), x]) :=
      ⟨by show 2 ≤ sizeLine; decide, [.int i tk, x2], .cons ⟨_, rfl⟩ (.cons ru .nil), ⟨_, hT2, rfl, _, rfl⟩⟩
    have I1 : Inv X pins σ (upd H s.heap.objs.size (.tup [.int (i : Nat), x])) { s with heap := h'', toks := tk + 1 } :=
      I.turnedNew (ch := [e, it]) (fun b ob hb q => (sb.2 b (fun z => hb (by simp [z]))).trans (hk b ob (fun z => hb (by simp [z])) (fun z => hb (by simp [z])) q)) hf (Nat.le_refl _) new
    refine ⟨.ref s.heap.objs.size, _, I1, rfl, ⟨_, x, rfl, I.hok.fresh (Nat.le_refl _), rfl, fun ys hy => by rw [I.tuple_inj hy hq]; exact hx⟩, ⟨⟨x2, ?_⟩, hst'.1.at fun o q => (sb.2 it (Ne.symm hne)).trans q, hne⟩, fun b hb => ?_⟩
    · have e1 : ((i + 1 : Nat) : Int) = (i : Int) + 1 := by omega
      rw [e1]
      exact he'
    · have hb' : b < s.heap.objs.size := by
        have e' : b = e ∨ b = it := by simpa using hb
        rcases e' with z | z
        · rw [z]
          exact hel
        · rw [z]
          exact hil
      rw [upd_ne (Nat.ne_of_lt hb')]
      exact (hf b hb).1
  done := by
    intro X hP hw hK hc i pins s σ H E I hf st hg
    subst hP hw hK
    obtain ⟨⟨old, he⟩, hit, hne⟩ := st
    obtain ⟨xs, hq, hx⟩ := hg
    obtain ⟨its, rv, p, hz⟩ := I.tuple hq
    obtain ⟨f0, f1, f2, f3, f4, f5⟩ := hf it (by simp)
    have hl := rv.length
    exact enumT_end (I.ok.hd hc) he hit p (by simp; omega) fun h' eb => ⟨rfl, I.turned (t' := s.toks) (fun b o hb q => eb b o hb q) f0 f1 f3 f4 f5⟩
  self := fun A i s Q E st h => let ⟨⟨_, he⟩, _⟩ := st; wpAny_pyIter_enum he h
def iEnumT (K : PySem.W.Frag) (ta : TA) : TI := fun σ H R => ta σ H fun vs H1 => ∃ a xs, vs = [.ref a] ∧ SqT K H1 a xs ∧ R (Itet K a) H1
theorem pi_enumT {X : Cx} {e : Expr} {ta : TA} {p pos tpos : Pos} {elts : List Expr} {kk : Nat} (hg : Gl X "enumerate") (hm : X.mg "enumerate" = none) (ha : PA X [e] ta) (hs : starEach [e] X.env = [(false, eval e X.env)] := by rfl) :
    PI X (.Tuple elts kk tpos) (.Call (.Name "enumerate" p) [e] [] pos) (iEnumT X.K ta) := by
  refine ⟨fun pins s σ H R I h => ?_⟩
  refine Call_ (ld_blt I hg hm boot_enumerate (PyProof.Rows.callWith_type1 (thn (ha.run pos pins s σ H _ I h) fun us s1 ⟨vs, H1, I1, r1, q1⟩ => ?_) hs rfl))
  obtain ⟨a, xs, rfl, hq, q⟩ := q1
  obtain ⟨u, rfl, ru⟩ := vals1 r1
  have eu : u = Value.ref a := ru
  subst eu
  obtain ⟨its, rv, pt, hz⟩ := I1.tuple hq
  have al : a < s1.heap.objs.size := by
    obtain ⟨o, ho, _⟩ := pt
    exact Heap.lt_size ho
  refine enum_tuple pt fun h' he hit hsz hk => wpAny_pyIter_enum he ?_
  have I2 : Inv X pins σ H1 { s1 with heap := h' } := I1.kept (t' := s1.toks) hk
  refine ⟨s1.heap.objs.size + 1, [s1.heap.objs.size + 1, s1.heap.objs.size], _, _, H1, rfl, I2, turn_enumT a (s1.heap.objs.size + 1) s1.heap.objs.size (Nat.ne_of_lt al) (Nat.ne_of_gt (Nat.lt_succ_of_lt al)), ⟨⟨.none, he⟩, hit, Nat.succ_ne_self _⟩, fun b hb => ?_, q⟩
  have hle : s1.heap.objs.size ≤ b := by
    have e' : b = s1.heap.objs.size + 1 ∨ b = s1.heap.objs.size := by simpa using hb
    rcases e' with z | z
    · rw [z]
      exact Nat.le_succ _
    · rw [z]
      exact Nat.le_refl _
  exact I1.fpOk hle (I1.hok.fresh hle)
end LG
set_option Elab.async false
set_option linter.all false
set_option maxRecDepth 100000
set_option maxHeartbeats 3200000
/-! len(set(xs)), xs a list of texts. -/
namespace LG
open PySem PySem.Spec PyProof.Rows L2
/-- unlike ones, as they are first met -/
def uniq1 (acc : List Str) (x : Str) : List Str := if acc.any (· == x) then acc else acc ++ [x]
def uniq (xs : List Str) : List Str := xs.foldl uniq1 []
theorem uniq_snoc (xs : List Str) (x : Str) : uniq (xs ++ [x]) = uniq1 (uniq xs) x := by
  unfold uniq
  rw [List.foldl_append]
  rfl
theorem uniq1_len (acc : List Str) (x : Str) : (uniq1 acc x).length = if acc.any (· == x) then acc.length else acc.length + 1 := by
  unfold uniq1
  split <;> simp
theorem uniq1_any (acc : List Str) (x k : Str) : (uniq1 acc x).any (· == k) = (acc.any (· == k) || decide (k = x)) := by
  unfold uniq1
  by_cases h : acc.any (· == x) = true
  · rw [if_pos h]
    by_cases e : k = x
    · subst e
      rw [h]
      simp
    · simp [e]
  · rw [if_neg h, List.any_append]
    by_cases e : k = x
    · subst e
      simp
    · have hb : (x == k) = false := by simpa [beq_iff_eq] using (fun q : x = k => e q.symm)
      simp [hb, e]
theorem uniq_take {xs : List Str} {i : Nat} (h : i < xs.length) : uniq (xs.take (i + 1)) = uniq1 (uniq (xs.take i)) (xs.getD i Str.empty) := by
  rw [List.take_add_one, List.getElem?_eq_getElem h, List.getD_eq_getElem?_getD, List.getElem?_eq_getElem h]
  exact uniq_snoc _ _
theorem uniq_le : ∀ (xs : List Str) (i : Nat), i ≤ xs.length → (uniq (xs.take i)).length ≤ i
  | xs, 0, _ => by simp [uniq]
  | xs, i + 1, h => by
    rw [uniq_take h, uniq1_len]
    have := uniq_le xs i (Nat.le_of_lt h)
    split <;> omega
/-- the set that is being filled -/
def Fills (P : Program) (w : World) (h : Heap) (S : Addr) (xs : List Str) (i : Nat) : Prop := h.SetOf (PySem.strKind P w) S (fun k => (uniq (xs.take i)).any (· == k)) (uniq (xs.take i)).length
section
variable {P : Program} {w : World} {A : Around} {R : Result → Shared → Prop} {I : Addr} {fp wr : List Addr} {G : Array GenState → Array GenState → Prop} {n : Nat} {Pv : Nat → Value → Prop} {St : Nat → Shared → Prop}
theorem fill_loop (W : WalksS P w A.in1 I fp wr G n Pv St) (S : Addr) (out : S ∉ fp) (xs : List Str) (len : xs.length = n) (room : n + 1 < scanBound) (val : ∀ i v, Pv i v → ∃ t, v = .str (xs.getD i Str.empty) t) :
    ∀ (k i : Nat) (s : Shared), n - i = k → i ≤ n → St i s → Fills P w s.heap S xs i → (∀ s', Moved (S :: wr) G s s' → Fills P w s'.heap S xs n → R (.ok (.ret .none)) s') →
      codeAny (model P w) A (.builtin "set.update.loop" ⟨[.ref S, .ref I], []⟩) R s := by
  have outW : S ∉ wr := fun h => out (W.sub _ h)
  have up : ∀ b ∈ wr, b ∈ S :: wr := fun b hb => List.mem_cons_of_mem _ hb
  have kept : ∀ {s s' : Shared} {i : Nat}, Moved wr G s s' → Fills P w s.heap S xs i → Fills P w s'.heap S xs i := by
    rintro s s' i m ⟨o, es, ep, t, ho, rest⟩
    exact ⟨o, es, ep, t, m.heap S _ outW ho, rest⟩
  intro k
  induction k with
  | zero =>
    intro i s hk hi hst hS hR
    have e : i = n := by omega
    subst e
    refine codeAny_builtin PyProof.Rows.F.entry_set_update_loop ?_
    rw [Around.under_plainId PyProof.Rows.F.plain_set_update_loop _]
    show wpAny _ A.in1 (pyNext (.ref I) >>= _) _ _ s
    refine wpAny_bind (W.done s _ _ hst fun s' m => ?_)
    show wpAny _ A.in1 (ret Value.none) _ _ s'
    exact wpAny_pure (hR s' (m.mono up) (kept m hS))
  | succ k ih =>
    intro i s hk hi hst hS hR
    have lt : i < n := by omega
    refine codeAny_builtin PyProof.Rows.F.entry_set_update_loop ?_
    rw [Around.under_plainId PyProof.Rows.F.plain_set_update_loop _]
    show wpAny _ A.in1 (pyNext (.ref I) >>= _) _ _ s
    refine wpAny_bind (W.item i s _ _ lt hst fun v s1 pv st1 m => ?_)
    obtain ⟨t, rfl⟩ := val i v pv
    have S1 := kept m hS
    show wpAny _ A.in1 (holding [Value.str (xs.getD i Str.empty) t] (setAdd S (.str (xs.getD i Str.empty) t)) >>= _) _ _ s1
    refine wpAny_bind (wpAny_holding ?_)
    unfold setAdd
    refine wpAny_holding (wpAny_bind ((PySem.strKind P w).pyHash (k := xs.getD i Str.empty) (strKind_is _ _ _ _) ?_))
    have few := uniq_le xs i (by omega)
    refine wpAny_setAddHashed_of (knd := PySem.strKind P w) (s := { s1 with toks := s1.toks + 1 }) (strKind_is _ _ _ _) rfl S1 (by omega) fun h' sb S2 => ?_
    have S3 : Fills P w h' S xs (i + 1) := by
      unfold Fills
      rw [uniq_take (by omega)]
      exact SetOf_congr S2 (fun k' => (uniq1_any _ _ _).symm) (uniq1_len _ _).symm
    refine wpAny_pure ⟨plainId_quiet PyProof.Rows.F.plain_set_update_loop _, ih (i + 1) _ (by omega) lt (W.frame _ s1 _ _ st1 (Nat.le_succ _) fun b hb o e => ?_) S3 fun s2 m2 S4 => ?_⟩
    · rw [sb.2 b (fun q : b = S => out (by rw [← q]; exact hb))]
      exact e
    · refine hR s2 (Moved.trans W.gtrans ((m.mono up).then_heap (Nat.le_succ _) fun b o hb e => ?_) m2) S4
      rw [sb.2 b (fun q : b = S => hb (by rw [q]; exact List.mem_cons_self))]
      exact e
end
/-- a new set -/
abbrev newSet (led : Bool) : Obj := { cls := .type "set", dict := none, data := .set #[] 0 (.fresh 0 0 led) }
section
variable {P : Program} {w : World} {A : Around} {E : Value → Shared → Prop} {s : Shared}
theorem set_of_strs {l : Addr} {items : Array Value} {xs : List Str} {Q : Value → Shared → Prop} (hh : A.handled = none) (hl : s.heap.IsList l items) (hi : StrsAre items.toList xs) (room : xs.length + 1 < scanBound)
    (h : ∀ (h' : Heap) (tk : Nat), Fills P w h' s.heap.objs.size xs xs.length → (∀ b o, b < s.heap.objs.size → s.heap.get? b = some o → h'.get? b = some o) → Q (.ref s.heap.objs.size) { s with heap := h', toks := tk }) :
    wpAny (model P w) A (call (.type "set") [.ref l]) Q E s := by
  obtain ⟨c, tl, hmro⟩ := PySem.F.called_set.mro
  have made := PySem.F.called_set.made
  have sub := PySem.F.called_set.sub
  refine wpAny_call (codeAny_of_tree ?_)
  show wpAny _ _ (callAny (.type "set") _) _ _ _
  refine wpAny_pure ⟨Code.quiet_builtin _ (by decide +kernel), codeAny_builtin PySem.F.entry_type_call ?_⟩
  rw [Around.under_plain (weight_type_call_type "set" [.ref l] []) rfl]
  have f1 := PySem.F.called_set.notType
  have f2 := PySem.F.called_set.canCreate
  have f3 := PySem.F.typeCall_set_1 (.ref l)
  repeat (any_goals (first | assumption | wp_step))
  refine codeAny_mono (code_set_new_1 (.ref l) (E := E) (Q₁ := fun obj z => ∃ led : Bool, obj = .ref s.heap.objs.size ∧ z = { s with heap := s.heap.push (newSet led) }) fun led => ⟨led, rfl, rfl⟩) fun r z hr => ?_
  match r, hr with
  | .error e, hr => exact hr
  | .ok .next, hr => exact hr.elim
  | .ok .brk, hr => exact hr.elim
  | .ok .cont, hr => exact hr.elim
  | .ok (.ret obj), hr =>
    obtain ⟨led, rfl, rfl⟩ := hr
    have new : (s.heap.push (newSet led)).get? s.heap.objs.size = some (newSet led) := Heap.get?_push_size _ rfl
    have hT : Shared.TypeIs { s with heap := s.heap.push (newSet led) } (.ref s.heap.objs.size) "set" := ⟨_, new, rfl⟩
    have g1 := PySem.F.called_set.init.lookup
    have g2 := PySem.F.called_set.init.bind (.ref s.heap.objs.size)
    repeat (any_goals (first | assumption | wp_step))
    refine codeAny_mono (codeAny_call_builtin (R := wants (fun r z => r = .none ∧ ∃ h' tk, z = { s with heap := h', toks := tk } ∧ Fills P w h' s.heap.objs.size xs xs.length ∧ (∀ b o, b < s.heap.objs.size → s.heap.get? b = some o → h'.get? b = some o)) E)
      PySem.F.called_set.init.plain PySem.F.entry_set_init (check_set_init_1 hT ?_)) fun r2 z2 hr2 => ?_
    · obtain ⟨⟨oc, od, dt, sl⟩, ol, cl, nl, dl⟩ := hl
      simp only at cl dl
      subst cl
      subst dl
      have ol1 : (s.heap.push (newSet led)).get? l = some { cls := .type "list", dict := od, data := .seq items nl, slots := sl } := Heap.get?_push_of_some _ ol
      have q1 := PySem.F.sub_list_set
      have q2 := PySem.F.sub_list_frozenset
      have q3 : (Value.type "list" == Value.type "dict") = false := by decide
      have hl1 : (s.heap.push (newSet led)).IsList l items := ⟨_, ol1, rfl, nl, rfl⟩
      unfold Builtin.«set.__init__» noKeywords Builtin.Frozenset.updateFrom
      generalize hPI : pyIter = PI
      wp_walk
      subst hPI
      refine wpAny_pyIter_list hl1 (wpAny_bind (wpAny_runValue ?_))
      have ltS : l < s.heap.objs.size := Heap.lt_size ol
      have zS : (s.heap.push (newSet led)).objs.size = s.heap.objs.size + 1 := Heap.size_push ..
      have h3 : A.in1.in1.in1.handled = none := by simp [hh]
      have n1 : l ≠ (s.heap.push (newSet led)).objs.size := by
        rw [zS]
        exact Nat.ne_of_lt (Nat.lt_succ_of_lt ltS)
      have n2 : s.heap.objs.size ∉ [(s.heap.push (newSet led)).objs.size, l] := by
        rw [zS]
        intro q
        rcases List.mem_cons.mp q with q | q
        · exact Nat.ne_of_lt (Nat.lt_succ_self _) q
        · exact Nat.ne_of_gt ltS (List.mem_singleton.mp q)
      have len : xs.length = items.size := by rw [← StrsAre.len_eq hi, Array.length_toList]
      have val : ∀ (i : Nat) (v : Value), items[i]? = some v → ∃ t, v = .str (xs.getD i Str.empty) t := fun i v hv => SS.strs_at hi i v (by rw [Array.getElem?_toList]; exact hv)
      refine fill_loop ((Walks.list h3 _ l n1 items).toS) s.heap.objs.size n2 xs len (by omega) val (items.size - 0) 0 _ (by omega) (Nat.zero_le _) ⟨⟨_, Heap.get?_push_size _ rfl, rfl, rfl⟩, (hl1.push _)⟩ ?start ?stop
      case start =>
        have at_ : ((s.heap.push (newSet led)).push { cls := .type "list_iterator", data := .fields #[.ref l, .int 0 0] }).get? s.heap.objs.size = some (newSet led) := Heap.get?_push_of_some _ new
        exact SetOf_congr ((PyProof.Rows.setObjOf_fresh (knd := PySem.strKind P w) led).setOf at_ (by unfold scanBound; omega)) (fun _ => rfl) rfl
      case stop =>
        intro s' m S'
        obtain ⟨h', g', d', tk', os'⟩ := s'
        have e1 : g' = s.gens := m.gens
        have e2 : d' = s.drawn := m.drawn
        have e3 : os' = s.os := m.os
        subst e1 e2 e3
        show wpAny _ _ _ _ _ _
        refine wpAny_pure ?_
        show wpAny _ _ (ret Value.none) _ _ _
        rw [← len] at S'
        refine wpAny_pure ⟨rfl, h', tk', rfl, S', fun b o hb e => ?_⟩
        refine m.heap b o (fun q => ?_) (Heap.get?_push_of_some _ (Heap.get?_push_of_some _ e))
        rcases List.mem_cons.mp q with q | q
        · exact Nat.ne_of_lt hb q
        · have := List.mem_singleton.mp q
          rw [this, zS] at hb
          omega
    · match r2, hr2 with
      | .error e, hr2 => exact hr2
      | .ok .next, hr2 => exact hr2.elim
      | .ok .brk, hr2 => exact hr2.elim
      | .ok .cont, hr2 => exact hr2.elim
      | .ok (.ret r), hr2 =>
        obtain ⟨rfl, h', tk, rfl, S', k'⟩ := hr2
        repeat (any_goals (first | assumption | wp_step))
        exact h _ _ S' k'
end
/-- len(set(xs)) -/
def tLenSetS (K : PySem.W.Frag) (ta : TE) : TE := fun σ H Q => ta σ H fun x H1 => ∃ (l : Addr) (xs : List Str), x = .ref l ∧ SqL K H1 l (xs.map V.str) ∧ xs.length ≤ 4000 ∧ Q (.int ((uniq xs).length : Nat)) H1
theorem pe_lenSetS {X : Cx} {a : Expr} {ta : TE} {p p2 q pos : Pos} (hg : Gl X "len") (hm : X.mg "len" = none) (hg2 : Gl X "set") (hm2 : X.mg "set" = none) (ha : PE X a ta) (hc : X.calm = true := by rfl)
    (na : starEach [a] X.env = (false, eval a X.env) :: starEach [] X.env := by rfl) : PE X (.Call (.Name "len" p) [.Call (.Name "set" p2) [a] [] q] [] pos) (tLenSetS X.K ta) := by
  refine ⟨fun pins s σ H Q I h => Call_ (ld_blt I hg hm boot_len (PyProof.Rows.callWith_builtin1 (PyProof.Rows.args_cons ?_ rfl) rfl rfl))⟩
  refine Call_ (ld_blt I hg2 hm2 boot_set (PyProof.Rows.callWith_type1 (PyProof.Rows.args_cons (thn (ha.run pins s σ H _ I h) fun v s1 ⟨x, H1, I1, r1, q1⟩ => PyProof.Rows.args_nil ?_) na) na rfl))
  obtain ⟨l, xs, rfl, hq, hl, q1⟩ := q1
  have ev : v = Value.ref l := r1
  subst ev
  obtain ⟨its, r, pl, hz⟩ := I1.list hq
  have few := uniq_le xs xs.length (Nat.le_refl _)
  have sb : scanBound = 4096 := rfl
  refine set_of_strs (I1.ok.hd hc) pl.isList (by simpa using strsAre_of r) (by omega) fun h' tk S' k' => PyProof.Rows.args_nil ?_
  unfold Fills at S'
  rw [List.take_length] at S' few
  obtain ⟨o, es, ep, t, ho, hex, hd, _, _, _, hf, hn⟩ := S'
  have I2 : Inv X pins σ H1 { s1 with heap := h', toks := tk } := I1.kept fun b o e => k' b o (Heap.lt_size e) e
  exact call_len_set ho hex hd hf (by rw [hn]; omega) ⟨.int ((uniq xs).length : Nat), H1, I2.tok _, ⟨_, by rw [hn]⟩, q1⟩
theorem uniq1_mem {acc : List Str} {x y : Str} : y ∈ uniq1 acc x ↔ y ∈ acc ∨ y = x := by
  have h := uniq1_any acc x y
  constructor
  · intro q
    have e : (uniq1 acc x).any (· == y) = true := List.any_eq_true.mpr ⟨y, q, beq_self_eq_true y⟩
    rw [h, Bool.or_eq_true] at e
    rcases e with e | e
    · obtain ⟨z, hz, ez⟩ := List.any_eq_true.mp e
      rw [beq_iff_eq] at ez
      exact .inl (ez ▸ hz)
    · exact .inr (of_decide_eq_true e)
  · intro q
    have e : (uniq1 acc x).any (· == y) = true := by
      rw [h, Bool.or_eq_true]
      rcases q with q | q
      · exact .inl (List.any_eq_true.mpr ⟨y, q, beq_self_eq_true y⟩)
      · exact .inr (decide_eq_true q)
    obtain ⟨z, hz, ez⟩ := List.any_eq_true.mp e
    rw [beq_iff_eq] at ez
    exact ez ▸ hz
theorem uniq_rev (ys : List Str) : ∀ xs : List Str, ys = xs.reverse → ((∀ y, y ∈ uniq xs ↔ y ∈ xs) ∧ (uniq xs).length ≤ xs.length ∧ ((uniq xs).length = xs.length ↔ xs.Nodup)) := by
  induction ys with
  | nil =>
    intro xs h
    have : xs = [] := by simpa using h.symm
    subst this
    simp [uniq]
  | cons y r ih =>
    intro xs h
    have e : xs = r.reverse ++ [y] := by
      have := congrArg List.reverse h
      simpa using this.symm
    obtain ⟨m, l, n⟩ := ih r.reverse (by simp)
    rw [e, uniq_snoc]
    generalize r.reverse = xs0 at m l n
    refine ⟨fun z => ?_, ?_, ?_⟩
    · rw [uniq1_mem, m z]
      simp
    · rw [uniq1_len, List.length_append, List.length_singleton]
      split <;> omega
    · rw [uniq1_len, List.length_append, List.length_singleton, List.nodup_append]
      by_cases c : (uniq xs0).any (· == y) = true
      · rw [if_pos c]
        obtain ⟨z, hz, ez⟩ := List.any_eq_true.mp c
        rw [beq_iff_eq] at ez
        subst ez
        have hz := (m z).mp hz
        constructor
        · intro q
          omega
        · rintro ⟨_, _, q⟩
          exact absurd rfl (q z hz z (by simp))
      · rw [if_neg c]
        have no : y ∉ xs0 := fun q => c (List.any_eq_true.mpr ⟨y, (m y).mpr q, beq_self_eq_true y⟩)
        constructor
        · intro q
          refine ⟨n.mp (by omega), by simp, fun a ha b hb => ?_⟩
          rw [List.mem_singleton.mp hb]
          exact fun z => no (z ▸ ha)
        · rintro ⟨q, _⟩
          have := n.mpr q
          omega
theorem uniq_len (xs : List Str) : (uniq xs).length ≤ xs.length ∧ ((uniq xs).length = xs.length ↔ xs.Nodup) := (uniq_rev xs.reverse xs (by simp)).2
end LG
set_option Elab.async false
set_option linter.all false
set_option maxRecDepth 100000
set_option maxHeartbeats 2000000
/-! len, in, ==, != by an own class's defs. -/
namespace LG
open PySem PySem.Spec PyProof.Rows L2
section
open PySem.W
variable {prog : Program} {w : World} {A : Around} {E : Value → Shared → Prop} {s : Shared} {K : Frag} {x C f : Addr} {ox : Obj} {od : Option Obj} {b tb : Value}
/-- x != b by the text's own ==, where no class behind says what != is -/
theorem ne_by_eq {Q : Value → Shared → Prop} (room : A.units + 1 < cLine) (X : K.In s.heap) (I : PySem.W.InstAt s.heap x ox C od) (tyb : Looks (model prog w) s.heap (typeOf b) tb) (nf : notFirst K C tb = true)
    (fne : findIn K (.ref C) "__ne__" = some (some (.builtin "object.__ne__"))) (isO : mroIn K C (.type "object") = some true) (feq : findIn K (.ref C) "__eq__" = some (some (.ref f))) (fn : isFn K (.ref f) = true)
    (h : wpAny (model prog w) A.in1 (call (.ref f) [.ref x, b]) (fun v z => ∃ r, v = .bool r ∧ Q (.bool (!r)) z) E s) : wpAny (model prog w) A (richCompare .NotEq (.ref x) b) Q E s := by
  have sub : Looks (model prog w) s.heap (isInstance (.ref x) (.type "object")) true := I.type.andThen (looks_mroIn X isO)
  have S := PySem.F.cmp_object.ne
  have body : ∀ {R : Fin → Shared → Prop}, (∀ r z, Q (.bool (!r)) z → R (.done (.ret (.bool (!r)))) z) → wpAny (model prog w) A.in1 (Builtin.«object.__ne__» ⟨[.ref x, b], []⟩) R E s := by
    intro R k
    unfold Builtin.«object.__ne__»
    have room1 : A.in1.units < cLine := room
    repeat (first
      | with_reducible refine wpAny_cRoomFor room1 ?_
      | (refine wpAny_bind (m := callSpecialIfBound? (.ref x) (Str.ofString "__eq__") [b]) (ifBound_K X I feq fn (wpAny_mono h (fun v z hv => ?_) fun _ _ e => e)))
      | wp_step)
    obtain ⟨r, rfl, q⟩ := hv
    repeat (first | exact k r _ q | exact wpAny_pure (k r _ q) | exact wpAny_truthy_bool (k r _ q) | (refine wpAny_bind (m := truthy (.bool _)) (wpAny_truthy_bool ?_)) | wp_step)
  have one : wpAny (model prog w) A (tryCompare (.ref x) "__ne__" b) (fun r z => ∃ v, r = some v ∧ Q v z) E s := by
    simp only [tryCompare]
    refine wpAny_bind ?_
    simp only [callSpecialIfBound?, bindSpecialIfBound?]
    refine wpAny_holding (wpAny_bind (wpAny_bind (wpAny_bind (I.type.here ((looks_findIn X fne).here ?_)))))
    simp only [S.bind]
    have run : wpAny (model prog w) A (call (.builtin "object.__ne__") ([.ref x] ++ [b]) >>= fun v => pure (some v)) (fun r z => wpAny (model prog w) A (match r with | some .notImplemented | none => pure none | some v => pure (some v)) (fun r z => ∃ v, r = some v ∧ Q v z) E z) E s := by
      refine wpAny_bind (wpAny_call (codeAny_call_builtin S.plain PySem.F.cmpEntry_ne (check_slot PySem.F.cmpKind_ne PySem.F.cmpSplit_ne sub (PySem.F.cmpArgs_ne _ _) (body fun r z q => ?_))))
      exact wpAny_pure (wpAny_pure ⟨_, rfl, q⟩)
    refine wpAny_bind (wpAny_askSetting (wpAny_ite ?_))
    split
    · exact wpAny_bind (wpAny_pure (wpAny_pure run))
    · exact wpAny_tryCatch (wpAny_bind (wpAny_pure (wpAny_pure run)))
  unfold richCompare
  simp only [oneThing_ref]
  refine wpAny_holding (wpAny_bind (wpAny_cRoomFor (Nat.lt_of_succ_lt room) ?_))
  rw [cmpInfo_NotEq]
  dsimp only
  refine wpAny_bind (I.type.here (wpAny_bind (tyb.here ?_)))
  have fin : wpAny (model prog w) A (tryCompare (.ref x) "__ne__" b) (fun r z => ∃ v, r = some v ∧ Q v z) E s := one
  by_cases q : (Value.ref C != tb) = true
  · rw [if_pos q]
    have e : subIn K tb (.ref C) = some false := by
      rcases Bool.or_eq_true_iff.mp nf with e | e
      · rw [beq_iff_eq.mp e] at q
        simp at q
      · exact beq_iff_eq.mp e
    refine wpAny_bind ((looks_subIn X e).here ?_)
    simp only [Bool.false_eq_true, if_false]
    refine wpAny_bind (wpAny_mono fin (fun r z hz => ?_) fun _ _ e => e)
    obtain ⟨v, rfl, hq⟩ := hz
    exact wpAny_pure hq
  · rw [if_neg q]
    refine wpAny_bind (wpAny_pure ?_)
    simp only [Bool.false_eq_true, if_false]
    refine wpAny_bind (wpAny_mono fin (fun r z hz => ?_) fun _ _ e => e)
    obtain ⟨v, rfl, hq⟩ := hz
    exact wpAny_pure hq
end
end LG
set_option Elab.async false
set_option linter.all false
set_option maxRecDepth 100000
set_option maxHeartbeats 2000000
namespace LG
open PySem PySem.Spec PyProof.Rows L2
section
variable {X : Cx} {pins : List (Addr × Obj)} {σ : L2.St} {H : Hp} {s : Shared} {k : Nat} {f C : Addr} {fd : FuncData} {ps : List Str} {sp : Sp}
/-- a def is run somewhere below the running body -/
theorem fn_at {A : Around} {Q : VK} {us : List Value} {vs : List V} (F : FnOk X.prog X.w X.K X.mg X.base CX0 k f fd ps sp) (hr : Room k A) (e0 : Env0 X.prog X.w X.K X.mg X.base A X.stack s H) (hb : Binds X.K fd ps []) (I : Inv X pins σ H s) (r : Vals vs us) (h : sp vs H Q E0) :
    wpAny (model X.prog X.w) A (call (.ref f) us) (EP X pins σ Q) X.xe s := by
  have hl : (us ++ []).length = ps.length := by
    rw [List.append_nil, ← r.length]
    exact F.len _ _ _ _ h
  have hb' := hb s us I.kIn hl
  rw [List.append_nil] at hb'
  refine wpAny_call (codeAny_mono (F.run A X.stack s H ⟨us, []⟩ us vs Q E0 hr e0 hb' r h) fun res z' q => ?_)
  match res, q with
  | .ok (.ret u), q => exact I.after q
  | .ok .next, q => exact q.elim
  | .ok .brk, q => exact q.elim
  | .ok .cont, q => exact q.elim
  | .error _, q => exact q.elim
theorem ins_look {a dx : Addr} {fs : List (Str × V)} (I : Inv X pins σ H s) (h : H a = some (.ins C dx fs)) : ∃ (ox : Obj) (od : Option Obj), PySem.W.InstAt s.heap a ox C od := by
  obtain ⟨mA, J, _⟩ := ins_get I.hok h
  obtain ⟨od, J, _⟩ := J.look
  exact ⟨_, _, J⟩
/-- len(x), x an instance of the class at C -/
def rOwnLen (C : Addr) (sp : Sp) : List V → Hp → VK → Prop := fun xs H Q => ∃ a dx fs, xs = [.ref a] ∧ H a = some (.ins C dx fs) ∧ sp [.ref a] H (fun v H' => ∃ n : Nat, v = .int n ∧ (n : Int) < 2 ^ 63 ∧ Q (.int n) H') E0
theorem call_ownLen (hs : PySem.W.findIn X.K (.ref C) "__len__" = some (some (.ref f))) (hf : PySem.W.isFn X.K (.ref f) = true) (F : FnOk X.prog X.w X.K X.mg X.base CX0 k f fd ps sp) (hb : Binds X.K fd ps []) (hr : Room (k + 1) X.A) : CallR X (.builtin "len") (rOwnLen C sp) := by
  intro pins s σ H xs us Q I r h
  obtain ⟨a, dx, fs, rfl, ha, q⟩ := h
  obtain ⟨u, rfl, ru⟩ := vals1 r
  have eu : u = Value.ref a := ru
  subst eu
  obtain ⟨ox, od, J⟩ := ins_look I ha
  obtain ⟨m, hF⟩ := I.fr
  refine PySem.W.len_K hF I.ok.mod.kin J hs hf (wpAny_mono (fn_at (vs := [.ref a]) F (Room.in1 hr) I.env0.in1 hb I (.cons rfl .nil) q) (fun w z hz => ?_) fun _ _ e => e)
  obtain ⟨v, H', I', rv, n, rfl, hn, q'⟩ := hz
  obtain ⟨t, rfl⟩ := rv
  exact ⟨⟨by omega, hn⟩, .int n, H', I'.tok _, ⟨_, rfl⟩, q'⟩
/-- y in x, x an instance of the class at C -/
def rOwnIn (C : Addr) (sp : Sp) (neg : Bool) : R2 := fun y x H Q => ∃ a dx fs, x = .ref a ∧ H a = some (.ins C dx fs) ∧ sp [.ref a, y] H (fun v H' => ∃ b, v = .bl b ∧ Q (.bl (if neg then !b else b)) H') E0
theorem op_ownIn (hs : PySem.W.findIn X.K (.ref C) "__contains__" = some (some (.ref f))) (hf : PySem.W.isFn X.K (.ref f) = true) (F : FnOk X.prog X.w X.K X.mg X.base CX0 k f fd ps sp) (hb : Binds X.K fd ps []) (hr : Room k X.A) : OpR X (compareOp .In) (rOwnIn C sp false) := by
  intro pins s σ H y x v u Q I ry rx h
  obtain ⟨a, dx, fs, rfl, ha, q⟩ := h
  have eu : u = Value.ref a := rx
  subst eu
  obtain ⟨ox, od, J⟩ := ins_look I ha
  obtain ⟨m, hF⟩ := I.fr
  refine PySem.W.in_K hF I.ok.mod.kin J hs hf (wpAny_mono (fn_at (vs := [.ref a, y]) F hr I.env0 hb I (.cons rfl (.cons ry .nil)) q) (fun w z hz => ?_) fun _ _ e => e)
  obtain ⟨v', H', I', rv, b, rfl, q'⟩ := hz
  have ew : w = Value.bool b := rv
  subst ew
  exact wpAny_truthy_bool ⟨.bl b, H', I', rfl, q'⟩
theorem op_ownNotIn (hs : PySem.W.findIn X.K (.ref C) "__contains__" = some (some (.ref f))) (hf : PySem.W.isFn X.K (.ref f) = true) (F : FnOk X.prog X.w X.K X.mg X.base CX0 k f fd ps sp) (hb : Binds X.K fd ps []) (hr : Room k X.A) : OpR X (compareOp .NotIn) (rOwnIn C sp true) := by
  intro pins s σ H y x v u Q I ry rx h
  obtain ⟨a, dx, fs, rfl, ha, q⟩ := h
  have eu : u = Value.ref a := rx
  subst eu
  obtain ⟨ox, od, J⟩ := ins_look I ha
  obtain ⟨m, hF⟩ := I.fr
  refine PySem.W.notIn_K hF I.ok.mod.kin J hs hf (wpAny_mono (fn_at (vs := [.ref a, y]) F hr I.env0 hb I (.cons rfl (.cons ry .nil)) q) (fun w z hz => ?_) fun _ _ e => e)
  obtain ⟨v', H', I', rv, b, rfl, q'⟩ := hz
  have ew : w = Value.bool b := rv
  subst ew
  exact wpAny_truthy_bool ⟨.bl (!b), H', I', rfl, q'⟩
/-- x == y, x != y, x an instance of the class at C, y of a type that is known -/
def rOwnEq (K : PySem.W.Frag) (C : Addr) (sp : Sp) (neg : Bool) : R2 := fun x y H Q => ∃ a dx fs t, x = .ref a ∧ H a = some (.ins C dx fs) ∧ TyX K H y t ∧ PySem.W.notFirst K C t = true ∧ sp [.ref a, y] H (fun v H' => ∃ b, v = .bl b ∧ Q (.bl (if neg then !b else b)) H') E0
theorem ty_looks {x : V} {u t : Value} (I : Inv X pins σ H s) (rx : RelV x u) (ty : TyX X.K H x t) : PySem.W.Looks (model X.prog X.w) s.heap (typeOf u) t := by
  obtain ⟨P, Z, p, _⟩ := kit_of I rx ty
  exact Z.ty _ _ I.kIn p
theorem op_ownEq (hs : PySem.W.findIn X.K (.ref C) "__eq__" = some (some (.ref f))) (hf : PySem.W.isFn X.K (.ref f) = true) (F : FnOk X.prog X.w X.K X.mg X.base CX0 k f fd ps sp) (hb : Binds X.K fd ps []) (hr : Room k X.A) : OpR X (compareOp .Eq) (rOwnEq X.K C sp false) := by
  intro pins s σ H x y v u Q I rx ry h
  obtain ⟨a, dx, fs, t, rfl, ha, ty, nf, q⟩ := h
  have ev : v = Value.ref a := rx
  subst ev
  obtain ⟨ox, od, J⟩ := ins_look I ha
  obtain ⟨m, hF⟩ := I.fr
  show wpAny _ _ (richCompare .Eq (.ref a) u) _ _ _
  refine PySem.W.cmp_K (op := .Eq) hr.units0 hF I.ok.mod.kin J (ty_looks I ry ty) nf hs hf (wpAny_mono (fn_at (vs := [.ref a, y]) F hr I.env0 hb I (.cons rfl (.cons ry .nil)) q) (fun w z hz => ?_) fun _ _ e => e)
  obtain ⟨v', H', I', rv, b, rfl, q'⟩ := hz
  have ew : w = Value.bool b := rv
  subst ew
  exact ⟨.bl b, H', I', rfl, q'⟩
theorem op_ownNe (hs : PySem.W.findIn X.K (.ref C) "__eq__" = some (some (.ref f))) (hf : PySem.W.isFn X.K (.ref f) = true) (hn : PySem.W.findIn X.K (.ref C) "__ne__" = some (some (.builtin "object.__ne__"))) (ho : PySem.W.mroIn X.K C (.type "object") = some true)
    (F : FnOk X.prog X.w X.K X.mg X.base CX0 k f fd ps sp) (hb : Binds X.K fd ps []) (hr : Room (k + 1) X.A) : OpR X (compareOp .NotEq) (rOwnEq X.K C sp true) := by
  intro pins s σ H x y v u Q I rx ry h
  obtain ⟨a, dx, fs, t, rfl, ha, ty, nf, q⟩ := h
  have ev : v = Value.ref a := rx
  subst ev
  obtain ⟨ox, od, J⟩ := ins_look I ha
  show wpAny _ _ (richCompare .NotEq (.ref a) u) _ _ _
  have r1 : Room k X.A.in1 := Room.in1 hr
  refine ne_by_eq r1.units0 I.kIn J (ty_looks I ry ty) nf hn ho hs hf (wpAny_mono (fn_at (vs := [.ref a, y]) F r1 I.env0.in1 hb I (.cons rfl (.cons ry .nil)) q) (fun w z hz => ?_) fun _ _ e => e)
  obtain ⟨v', H', I', rv, b, rfl, q'⟩ := hz
  have ew : w = Value.bool b := rv
  subst ew
  exact ⟨b, rfl, .bl (!b), H', I', rfl, q'⟩
end
end LG
set_option Elab.async false
set_option linter.all false
set_option maxRecDepth 100000
set_option maxHeartbeats 2000000
namespace LG
open PySem PySem.Spec PyProof.Rows L2
section
variable {X : Cx} {o : Expr} {f : Str} {pos : Pos} {to : TE}
/-- o.f as one of several targets -/
def gFld (K : PySem.W.Frag) (to : TE) (f : Str) : TG := fun v σ H Q => to σ H fun x H2 => ∃ a C dx fs, x = .ref a ∧ H2 a = some (.ins C dx fs) ∧ Cls K C ∧ NoAttr K C f ∧ fs.length < 1000 ∧ Q σ (upd H2 a (.ins C dx (putF f v fs)))
theorem assign_at {M : Model} {A : Around} {E : Value → Shared → Prop} {s : Shared} {env : Env} {u : Value} {Q : Unit → Shared → Prop} (h : wpAny M A (eval o env) (fun ov z => wpAny M A (setAttr ov f u) Q E z) E s) : wpAny M A (assign (.Attribute o f pos) env u) Q E s := fun Γ p hΓ => by
  simp only [PySem.assign_Attribute, Sem.wp_bind', Sem.wp_holding, Sem.wp_cmd_standAt, Sem.wp_release, Sem.wp_pure']
  exact Sem.wp_mono M Γ _ (fun ov _ z hz => hz Γ _ hΓ) (fun _ _ _ e => e) _ _ (h Γ _ hΓ)
theorem pg_fld (ho : PE X o to) : PG X (.Attribute o f pos) (gFld X.K to f) := by
  refine ⟨fun pins s σ H v u Q I r hw => assign_at (thn (ho.run pins s σ H _ I hw) fun ov s1 ⟨x, H2, I2, rx, a, C, dx, fs, ex, ea, c, n, l, q⟩ => ?_)⟩
  subst ex
  have eo : ov = Value.ref a := rx
  subst eo
  exact setattr_ok I2 ea c n l r fun s3 I3 => ⟨σ, _, I3, q⟩
end
theorem for_enumT {K : PySem.W.Frag} {a : Addr} {xs : List V} {g : TG} {tb : TS} {D : Ends} {σ : L2.St} {H : Hp} (Pv : Nat → L2.St → Hp → Prop) (h0 : Pv 0 σ H) (hq : ∀ i σ H, Pv i σ H → SqT K H a xs)
    (hs : ∀ (i : Nat) (x : V) (T : Addr) (σ : L2.St) (H : Hp), xs[i]? = some x → Pv i σ H → H T = none → g (.ref T) σ (upd H T (.tup [.int (i : Nat), x])) fun σ2 H2 => tb { D with nx := Pv (i + 1), ct := Pv (i + 1), bk := D.nx } σ2 H2) (hd : ∀ σ H, Pv xs.length σ H → D.nx σ H) :
    ∃ W : Nat → Nat → L2.St → Hp → Prop, (∃ m, W 0 m σ H) ∧ ∀ i m σ H, W i m σ H →
      ((Itet K a).stop i H ∧ D.nx σ H) ∨ ((Itet K a).go i H ∧ ∃ N : L2.St → Hp → Prop, (∀ σ' H', N σ' H' → ∃ m', m' < m ∧ W (i + 1) m' σ' H') ∧ ∀ v H', (Itet K a).yld i H v H' → g v σ H' fun σ2 H2 => tb { D with nx := N, ct := N, bk := D.nx } σ2 H2) := by
  refine ⟨fun i m σ H => m = xs.length - i ∧ i ≤ xs.length ∧ Pv i σ H, ⟨_, rfl, Nat.zero_le _, h0⟩, ?_⟩
  rintro i m σ H ⟨rfl, hi, pv⟩
  have seq := hq i σ H pv
  by_cases more : i < xs.length
  · have there : xs[i]? = some xs[i] := List.getElem?_eq_getElem more
    refine .inr ⟨⟨xs, _, seq, there⟩, Pv (i + 1), fun σ' H' p' => ⟨xs.length - (i + 1), by omega, rfl, more, p'⟩, fun v H' y => ?_⟩
    obtain ⟨T, x', rfl, free, rfl, same⟩ := y
    have e := same xs seq
    rw [there] at e
    cases e
    exact hs i _ T σ H there pv free
  · have e : i = xs.length := by omega
    subst e
    exact .inl ⟨⟨xs, seq, Nat.le_refl _⟩, hd σ H pv⟩
end LG
set_option Elab.async false
set_option linter.all false
set_option maxRecDepth 100000
set_option maxHeartbeats 2000000
/-! What the laws' own small defs have in common: the pot, drawn values that are data. -/
namespace LG
open PySem L2

/-- the built-in names that the defs use -/
structure Bltn (mg : Str → Option Value) : Prop where
  len : mg "len" = none
  sum : mg "sum" = none
  int : mg "int" = none
  abs : mg "abs" = none
  list : mg "list" = none
  range : mg "range" = none
  max : mg "max" = none
  min : mg "min" = none
  isinstance : mg "isinstance" = none
  tuple : mg "tuple" = none
  bool : mg "bool" = none
  str : mg "str" = none
  enumerate : mg "enumerate" = none
  repr : mg "repr" = none
  all : mg "all" = none
  ve : mg "ValueError" = none
  set : mg "set" = none
/-- a pot: own number, seed, how often it was asked (at most b times) -/
def PotAt (H : Hp) (p : Addr) (b : Nat) : Prop := ∃ own sm n : Int, H p = some (.lst [.int own, .int sm, .int n]) ∧ 0 ≤ own ∧ 0 ≤ sm ∧ sm < 2305843009213693951 ∧ 0 ≤ n ∧ n ≤ b
theorem PotAt.same {H H' : Hp} {p : Addr} {b : Nat} (e : Same H H') (h : PotAt H p b) : PotAt H' p b := by
  obtain ⟨own, sm, n, h1, h2⟩ := h
  exact ⟨own, sm, n, e _ _ h1, h2⟩
theorem PotAt.mono {H : Hp} {p : Addr} {b c : Nat} (h : PotAt H p b) (l : b ≤ c) : PotAt H p c := by
  obtain ⟨own, sm, n, h1, h2, h3, h4, h5, h6⟩ := h
  exact ⟨own, sm, n, h1, h2, h3, h4, h5, by omega⟩
/-- all but what stands at p is as it was -/
def But (p : Addr) (H H' : Hp) : Prop := ∀ c o, H c = some o → c ≠ p → H' c = some o
theorem But.trans {p : Addr} {H H1 H2 : Hp} (a : But p H H1) (b : But p H1 H2) : But p H H2 := fun c o h n => b c o (a c o h n) n
theorem But.of {p : Addr} {H H' : Hp} (a : Same H H') : But p H H' := fun c o h _ => a c o h
theorem same_new {H : Hp} {p : Addr} (h : H p = none) (o : HO) : Same H (upd H p o) := fun b u q => by rw [upd_ne (ne_of_none q h)]; exact q
theorem bits60 : (Builtin.Int.intBits ((10 : Int) ^ (60 : Int).toNat) : Int) * 5 ≤ 2 ^ 27 := by decide +kernel
def spPot (K : PySem.W.Frag) : Sp := fun vs H Q _ => ∃ (a : Addr) (ns : List Int) (j : Int), vs = [.ref a, .int j] ∧ SqL K H a (ns.map V.int) ∧ ns.length ≤ 63 ∧ 0 ≤ j ∧ j ≤ 1000 ∧
  ∀ (p : Addr) (H' : Hp), Same H H' → H p = none → PotAt H' p 0 → Q (.ref p) H'
theorem item_there {ns : List Int} {j : Int} (h0 : 0 ≤ j) (h : j < (ns.length : Int)) : ∃ v : Int, atI (ns.map V.int) j = some (.int v) := by
  have hk : j.toNat < ns.length := by omega
  have q : atI (ns.map V.int) ((j.toNat : Nat) : Int) = some (.int ns[j.toNat]) := atI_nat (by rw [List.getElem?_map, List.getElem?_eq_getElem hk] <;> rfl)
  have e : ((j.toNat : Nat) : Int) = j := by omega
  rw [e] at q
  exact ⟨_, q⟩
theorem cut_ints (ns : List Int) (lo hi : Option Int) : ∃ ms : List Int, cutV (ns.map V.int) lo hi = ms.map V.int := by
  unfold cutV
  rw [← List.map_drop, ← List.map_take]
  exact ⟨_, rfl⟩
abbrev rInt1 : List V → Hp → VK → Prop := fun xs H Q => (∃ i, xs = [.int i] ∧ Q (.int i) H) ∨ ∃ k, xs = [.bl k] ∧ Q (.int (if k then 1 else 0)) H
abbrev rAbs : List V → Hp → VK → Prop := fun xs H Q => ∃ i, xs = [.int i] ∧ Q (.int (if i < 0 then -i else i)) H
theorem prime_at {r : Int} (h0 : 0 ≤ r) (h : r < 5) : ∃ v : Int, atI ([.int 2147483647, .int 2147483629, .int 2147483587, .int 2147483579, .int 2147483563] : List V) r = some (.int v) ∧ 1 ≤ v ∧ v ≤ 2147483647 := by
  have e : r = 0 ∨ r = 1 ∨ r = 2 ∨ r = 3 ∨ r = 4 := by omega
  rcases e with rfl | rfl | rfl | rfl | rfl
  · exact ⟨_, rfl, by decide, by decide⟩
  · exact ⟨_, rfl, by decide, by decide⟩
  · exact ⟨_, rfl, by decide, by decide⟩
  · exact ⟨_, rfl, by decide, by decide⟩
  · exact ⟨_, rfl, by decide, by decide⟩
/-! ### one of a list -/
def spOf (K : PySem.W.Frag) : Sp := fun vs H Q _ => ∃ (p l : Addr) (xs : List V) (b : Nat), vs = [.ref p, .ref l] ∧ PotAt H p b ∧ b ≤ 100000 ∧ SqL K H l xs ∧ 0 < xs.length ∧ xs.length ≤ 1000 ∧ l ≠ p ∧
  ∀ (x : V) (H' : Hp), x ∈ xs → But p H H' → PotAt H' p (b + 1) → Q x H'
theorem But.seq {H H' : Hp} {p a : Addr} {xs : List V} (e : But p H H') (ne : a ≠ p) (h : SqL K H a xs) : SqL K H' a xs := by
  rcases h with (h | ⟨o, h⟩) | h
  · exact .inl (.inl (e _ _ h ne))
  · exact .inl (.inr ⟨o, e _ _ h ne⟩)
  · exact .inr h
/-! ### written values that are small data -/
theorem pe_imp {X : Cx} {e : Expr} {t t' : TE} (h : PE X e t) (w : ∀ σ H Q, t' σ H Q → t σ H Q) : PE X e t' := ⟨fun pins s σ H Q I q => h.run pins s σ H Q I (w σ H Q q)⟩
theorem pa_imp {X : Cx} {es : List Expr} {t t' : TA} (h : PA X es t) (w : ∀ σ H Q, t' σ H Q → t σ H Q) : PA X es t' := ⟨fun pos pins s σ H Q I q => h.run pos pins s σ H Q I (w σ H Q q)⟩
def Gd (K : PySem.W.Frag) (n : Nat) (H : Hp) (x : V) : Prop := ∃ d, Dp K H x d ∧ small n d = true
def Gds (K : PySem.W.Frag) (n : Nat) (H : Hp) (xs : List V) : Prop := ∃ ds, DpAll K H xs ds ∧ smalls n ds = true
def Gx (K : PySem.W.Frag) (n : Nat) (H : Hp) (x : V) : Prop := ∃ d, Dx K H x d ∧ small n d = true
theorem Gd.same {K : PySem.W.Frag} {n : Nat} {H H' : Hp} {x : V} (e : Same H H') (h : Gd K n H x) : Gd K n H' x := by
  obtain ⟨d, h1, h2⟩ := h
  exact ⟨d, Dp_same e _ _ h1, h2⟩
theorem Gds.same {K : PySem.W.Frag} {n : Nat} {H H' : Hp} {xs : List V} (e : Same H H') (h : Gds K n H xs) : Gds K n H' xs := by
  obtain ⟨d, h1, h2⟩ := h
  exact ⟨d, DpAll_same e _ _ h1, h2⟩
theorem Gx.same {K : PySem.W.Frag} {n : Nat} {H H' : Hp} {x : V} (e : Same H H') (h : Gx K n H x) : Gx K n H' x := by
  obtain ⟨d, h1, h2⟩ := h
  exact ⟨d, Dx_same e h1, h2⟩
mutual
theorem small_up : ∀ (n : Nat) (d : PyData), small n d = true → small (n + 1) d = true
  | n, .none, _ => by simp only [small]
  | n, .bool _, _ => by simp only [small]
  | n, .int i, h => by
    simp only [small] at h ⊢
    exact h
  | n, .str x, h => by
    simp only [small] at h ⊢
    exact h
  | 0, .list xs, h => by
    simp only [small] at h
    cases h
  | 0, .tuple xs, h => by
    simp only [small] at h
    cases h
  | n + 1, .list xs, h => by
    simp only [small, Bool.and_eq_true] at h ⊢
    exact ⟨h.1, smalls_up n xs h.2⟩
  | n + 1, .tuple xs, h => by
    simp only [small, Bool.and_eq_true] at h ⊢
    exact ⟨h.1, smalls_up n xs h.2⟩
  | n, .dict kvs, h => by
    have h : smallKv kvs = true ∧ kvs.length ≤ 2 := by
      cases n <;> (simp only [small, Bool.and_eq_true, decide_eq_true_eq] at h; exact h)
    simp only [small, Bool.and_eq_true, decide_eq_true_eq]
    exact h
theorem smalls_up : ∀ (n : Nat) (ds : List PyData), smalls n ds = true → smalls (n + 1) ds = true
  | n, [], _ => by simp only [smalls]
  | n, d :: ds, h => by
    simp only [smalls, Bool.and_eq_true] at h ⊢
    exact ⟨small_up n d h.1, smalls_up n ds h.2⟩
end
theorem small_le {n m : Nat} (h : n ≤ m) {d : PyData} (q : small n d = true) : small m d = true := by
  induction h with
  | refl => exact q
  | step _ ih => exact small_up _ _ ih
theorem smalls_le {n m : Nat} (h : n ≤ m) {d : List PyData} (q : smalls n d = true) : smalls m d = true := by
  induction h with
  | refl => exact q
  | step _ ih => exact smalls_up _ _ ih
theorem Gd.le {K : PySem.W.Frag} {n m : Nat} {H : Hp} {x : V} (l : n ≤ m) (h : Gd K n H x) : Gd K m H x := by
  obtain ⟨d, h1, h2⟩ := h
  exact ⟨d, h1, small_le l h2⟩
theorem Gx.le {K : PySem.W.Frag} {n m : Nat} {H : Hp} {x : V} (l : n ≤ m) (h : Gx K n H x) : Gx K m H x := by
  obtain ⟨d, h1, h2⟩ := h
  exact ⟨d, h1, small_le l h2⟩
theorem Gd.x {K : PySem.W.Frag} {n : Nat} {H : Hp} {x : V} (h : Gd K n H x) : Gx K n H x := by
  obtain ⟨d, h1, h2⟩ := h
  exact ⟨d, .flat h1, h2⟩
theorem DpAll_length {K : PySem.W.Frag} {H : Hp} : ∀ (ds : List PyData) (xs : List V), DpAll K H xs ds → ds.length = xs.length
  | [], _, h => by cases h; rfl
  | d :: ds, _, h => by
    cases h with
    | cons _ h2 => simp only [List.length_cons, DpAll_length ds _ h2]
theorem Gd.tup {K : PySem.W.Frag} {n : Nat} {H : Hp} {a : Addr} {xs : List V} (h : Gds K n H xs) (l : xs.length ≤ 25) (t : SqT K H a xs) : Gd K (n + 1) H (.ref a) := by
  obtain ⟨ds, h1, h2⟩ := h
  refine ⟨.tuple ds, .tup t h1, ?_⟩
  simp only [small, Bool.and_eq_true, decide_eq_true_eq]
  exact ⟨by rw [DpAll_length ds xs h1]; exact l, h2⟩
theorem Gd.lst {K : PySem.W.Frag} {n : Nat} {H : Hp} {a : Addr} {xs : List V} (h : Gds K n H xs) (l : xs.length ≤ 25) (t : SqL K H a xs) : Gd K (n + 1) H (.ref a) := by
  obtain ⟨ds, h1, h2⟩ := h
  refine ⟨.list ds, .lst t h1, ?_⟩
  simp only [small, Bool.and_eq_true, decide_eq_true_eq]
  exact ⟨by rw [DpAll_length ds xs h1]; exact l, h2⟩
theorem Gds.nil {K : PySem.W.Frag} {n : Nat} {H : Hp} : Gds K n H [] := ⟨[], .nil, by simp only [smalls]⟩
theorem Gds.cons {K : PySem.W.Frag} {n : Nat} {H : Hp} {x : V} {xs : List V} (h : Gd K n H x) (r : Gds K n H xs) : Gds K n H (x :: xs) := by
  obtain ⟨d, h1, h2⟩ := h
  obtain ⟨ds, h3, h4⟩ := r
  exact ⟨d :: ds, .cons h1 h3, by simp only [smalls, h2, h4, Bool.and_self]⟩
/-- what was made since H0 -/
def mn (H0 H : Hp) : Hp := fun b => match H0 b with
  | none => H b
  | some _ => none
theorem mn_some {H0 H : Hp} {b : Addr} {o : HO} (h : mn H0 H b = some o) : H0 b = none ∧ H b = some o := by
  unfold mn at h
  cases e : H0 b with
  | none =>
    rw [e] at h
    exact ⟨rfl, h⟩
  | some u =>
    rw [e] at h
    cases h
theorem mn_of {H0 H : Hp} {b : Addr} {o : HO} (h0 : H0 b = none) (h : H b = some o) : mn H0 H b = some o := by
  unfold mn
  rw [h0]
  exact h
theorem mn_up {H H1 H2 : Hp} (s : Same H1 H2) : Same (mn H H1) (mn H H2) := fun b o h => by
  obtain ⟨h0, h1⟩ := mn_some h
  exact mn_of h0 (s _ _ h1)
theorem mn_but {H H1 H2 : Hp} {p : Addr} (s : But p H1 H2) (hp : H p ≠ none) : Same (mn H H1) (mn H H2) := fun b o h => by
  obtain ⟨h0, h1⟩ := mn_some h
  exact mn_of h0 (s _ _ h1 fun z => hp (by rw [← z]; exact h0))
theorem mn_down {H H1 H2 : Hp} (s : Same H H1) : Same (mn H1 H2) (mn H H2) := fun b o h => by
  obtain ⟨h0, h1⟩ := mn_some h
  exact mn_of (s.free h0) h1
theorem mn_self (H0 H : Hp) : Same (mn H0 H) H := fun b o h => (mn_some h).2
def tGd (K : PySem.W.Frag) (n : Nat) : TE := fun _ H Q => ∀ x H', Same H H' → Gd K n (mn H H') x → Q x H'
def tGds (K : PySem.W.Frag) (n m : Nat) : TA := fun _ H Q => ∀ xs H', Same H H' → xs.length = m → Gds K n (mn H H') xs → Q xs H'
def tGx (K : PySem.W.Frag) (n : Nat) : TE := fun _ H Q => ∀ x H', Same H H' → Gx K n (mn H H') x → Q x H'
def tGxs (K : PySem.W.Frag) (n m : Nat) : TA := fun _ H Q => ∀ xs H', Same H H' → xs.length = m → (∀ x ∈ xs, Gx K n (mn H H') x) → Q xs H'
section
variable {X : Cx} {e : Expr} {es : List Expr} {n m : Nat} {pos : Pos}
theorem gd_none {j} : PE X (.Constant .none j pos) (tGd X.K n) := pe_imp pe_non fun _ H Q h => h _ _ (Same.refl H) ⟨.none, .non, by simp only [small]⟩
theorem gd_bool {b j} : PE X (.Constant (.bool b) j pos) (tGd X.K n) := pe_imp pe_bl fun _ H Q h => h _ _ (Same.refl H) ⟨.bool b, .bl b, by simp only [small]⟩
theorem gd_int {i j} (hi : i.natAbs < 10 ^ 12 := by decide) : PE X (.Constant (.int i) j pos) (tGd X.K n) := pe_imp pe_int fun _ H Q h => h _ _ (Same.refl H) ⟨.int i, .int i, by simp only [small, decide_eq_true hi]⟩
theorem gd_neg {i j p2} (hi : (-i).natAbs < 10 ^ 12 := by decide) : PE X (.UnaryOp .USub (.Constant (.int i) j p2) pos) (tGd X.K n) :=
  pe_imp (pe_un un_neg pe_int) fun _ H Q h => ⟨i, rfl, h _ _ (Same.refl H) ⟨.int (-i), .int (-i), by simp only [small, decide_eq_true hi]⟩⟩
theorem gd_str {x j} (hx : (decide (x.length ≤ 40) && x.cps.toList.all fun c => decide (c < 16 ^ 8)) = true := by decide +kernel) : PE X (.Constant (.str x) j pos) (tGd X.K n) :=
  pe_imp pe_str fun _ H Q h => h _ _ (Same.refl H) ⟨.str x, .str x, by simp only [small, hx]⟩
theorem gd_nil : PA X [] (tGds X.K n 0) := pa_imp pa_nil fun _ H Q h => h _ _ (Same.refl H) rfl .nil
theorem gd_cons (h : PE X e (tGd X.K n)) (r : PA X es (tGds X.K n m)) (hs : starEach (e :: es) X.env = (false, eval e X.env) :: starEach es X.env := by rfl) : PA X (e :: es) (tGds X.K n (m + 1)) :=
  pa_imp (pa_cons h r hs) fun _ H Q q x H1 s1 g1 xs H2 s2 l2 g2 => q _ _ (s1.trans s2) (by rw [List.length_cons, l2]) (.cons (g1.same (mn_up s2)) (g2.same (mn_down s1)))
theorem gd_tup {x1} (h : PA X es (tGds X.K n m)) (hm : m ≤ 25 := by decide) : PE X (.Tuple es x1 pos) (tGd X.K (n + 1)) :=
  pe_imp (pe_tup h) fun _ H Q q xs H1 s1 l1 g1 => ⟨Nat.le_trans (by omega : xs.length ≤ 25) (by decide), fun p np =>
    q _ _ (s1.trans (same_new np _)) (.tup (g1.same (mn_up (same_new np _))) (by omega) (.inl (.inl (mn_of (s1.free np) upd_same))))⟩
theorem gd_lst (h : PA X es (tGds X.K n m)) (hm : m ≤ 25 := by decide) : PE X (.List es pos) (tGd X.K (n + 1)) :=
  pe_imp (pe_lst h) fun _ H Q q xs H1 s1 l1 g1 => ⟨Nat.le_trans (by omega : xs.length ≤ 25) (by decide), fun p np =>
    q _ _ (s1.trans (same_new np _)) (.lst (g1.same (mn_up (same_new np _))) (by omega) (SqL.of (mn_of (s1.free np) upd_same)))⟩
theorem gx_of (h : PE X e (tGd X.K n)) : PE X e (tGx X.K n) := pe_imp h fun _ H Q q x H1 s1 g1 => q _ _ s1 g1.x
theorem gx_nil : PA X [] (tGxs X.K n 0) := pa_imp pa_nil fun _ H Q h => h _ _ (Same.refl H) rfl (fun _ m => nomatch m)
theorem gx_cons (h : PE X e (tGx X.K n)) (r : PA X es (tGxs X.K n m)) (hs : starEach (e :: es) X.env = (false, eval e X.env) :: starEach es X.env := by rfl) : PA X (e :: es) (tGxs X.K n (m + 1)) :=
  pa_imp (pa_cons h r hs) fun _ H Q q x H1 s1 g1 xs H2 s2 l2 g2 => q _ _ (s1.trans s2) (by rw [List.length_cons, l2]) fun y hy => by
    rcases List.mem_cons.mp hy with rfl | hy
    · exact g1.same (mn_up s2)
    · exact (g2 y hy).same (mn_down s1)
theorem gx_dict0 : PE X (.Dict [] [] pos) (tGx X.K n) := pe_imp pe_dnewK fun _ H Q q p np => q _ _ (same_new np _) ⟨.dict [], .dct (mn_of np upd_same) .nil, by cases n <;> rfl⟩
/-- {'k': i} -/
theorem gx_dict1 {k i j1 j2 p1 p2} (hk : (decide (k.length ≤ 40) && k.cps.toList.all fun c => decide (c < 16 ^ 8)) = true := by decide +kernel) (hi : i.natAbs < 10 ^ 12 := by decide) :
    PE X (.Dict [some (.Constant (.str k) j1 p1)] [.Constant (.int i) j2 p2] pos) (tGx X.K n) :=
  pe_imp (pe_disp (pps_cons pe_str pe_int pps_nil) (by rfl) (by rfl) (fun z => by cases z) (by show 1 ≤ 15; decide)) fun _ H Q q p np => by
    refine ⟨upd_same, [(.inr k, .int i)], rfl, (by show 1 ≤ 15; decide), ?_⟩
    have e : upd (upd H p (.dK [])) p (.dK (mergeK [] [((.inr k : Key), V.int i)])) = upd H p (.dK [((.inr k : Key), V.int i)]) := upd_upd
    rw [e]
    refine q _ _ (same_new np _) ⟨.dict [(.str k, .int i)], .dct (mn_of np upd_same) (.int .nil), ?_⟩
    have s1 : smallKv [(.str k, .int i)] = true := by
      simp only [smallKv, hk, decide_eq_true hi, Bool.and_self]
    cases n <;> simp only [small, s1, List.length_cons, List.length_nil] <;> rfl
end
/-! ### any odd value -/
def spOdd (K : PySem.W.Frag) : Sp := fun vs H Q _ => ∃ (p : Addr) (b : Nat), vs = [.ref p] ∧ PotAt H p b ∧ b ≤ 100000 ∧ ∀ (x : V) (H' : Hp), But p H H' → PotAt H' p (b + 1) → Gx K 2 (mn H H') x → Q x H'
theorem PotAt.there {H : Hp} {p : Addr} {b : Nat} (h : PotAt H p b) : H p ≠ none := by
  obtain ⟨own, sm, n, h1, _⟩ := h
  rw [h1]
  exact fun z => nomatch z
open PySem L2 LG
/-! ### the heap without the pot -/
def mk (p : Addr) (H : Hp) : Hp := fun b => if b = p then none else H b
theorem mk_some {p b : Addr} {H : Hp} {o : HO} (h : mk p H b = some o) : b ≠ p ∧ H b = some o := by
  unfold mk at h
  by_cases e : b = p
  · rw [if_pos e] at h
    cases h
  · rw [if_neg e] at h
    exact ⟨e, h⟩
theorem mk_of {p b : Addr} {H : Hp} {o : HO} (ne : b ≠ p) (h : H b = some o) : mk p H b = some o := by
  unfold mk
  rw [if_neg ne]
  exact h
theorem mk_self (p : Addr) (H : Hp) : Same (mk p H) H := fun b o h => (mk_some h).2
theorem mk_but {p : Addr} {H H' : Hp} (s : But p H H') : Same (mk p H) (mk p H') := fun b o h => by
  obtain ⟨ne, e⟩ := mk_some h
  exact mk_of ne (s _ _ e ne)
theorem mk_up {p : Addr} {H H' : Hp} (s : Same H H') : Same (mk p H) (mk p H') := mk_but (But.of s)
theorem mn_mk {p : Addr} {H H' : Hp} (hp : H p ≠ none) : Same (mn H H') (mk p H') := fun b o h => by
  obtain ⟨h0, h1⟩ := mn_some h
  exact mk_of (fun z => hp (by rw [← z]; exact h0)) h1
theorem new_ne {p q : Addr} {H : Hp} (hp : H p ≠ none) (nq : H q = none) : q ≠ p := fun z => hp (by rw [← z]; exact nq)
theorem mk_new {p q : Addr} {H : Hp} {o : HO} (hp : H p ≠ none) (nq : H q = none) : mk p (upd H q o) q = some o := mk_of (new_ne hp nq) upd_same
theorem Same.there {H H' : Hp} {p : Addr} (s : Same H H') (hp : H p ≠ none) : H' p ≠ none := by
  cases e : H p with
  | none => exact absurd e hp
  | some o =>
    rw [s _ _ e]
    exact fun z => nomatch z
theorem But.same {p : Addr} {H H' : Hp} (s : Same H H') : But p H H' := But.of s
theorem cut_whole {xs : List V} {lo hi : Option Int} (h : HT.sIx xs.length 0 lo = 0 ∧ HT.sIx xs.length xs.length hi = xs.length) : cutV xs lo hi = xs := by
  unfold cutV
  rw [h.1, h.2, List.drop_zero, Nat.sub_zero, List.take_length]
/-- the tuple of xs, out of the pot's reach -/
def TupM (K : PySem.W.Frag) (p : Addr) (H : Hp) (x : V) (xs : List V) : Prop := ∃ a, x = .ref a ∧ SqT K (mk p H) a xs
theorem TupM.same {K : PySem.W.Frag} {p : Addr} {H H' : Hp} {x : V} {xs : List V} (s : But p H H') (h : TupM K p H x xs) : TupM K p H' x xs := by
  obtain ⟨a, e, q⟩ := h
  exact ⟨a, e, same_tup (mk_but s) q⟩
section
variable {X : Cx}
def rCatM (K : PySem.W.Frag) : R2 := fun x y H Q => ∃ p xs ys, H p ≠ none ∧ TupM K p H x xs ∧ TupM K p H y ys ∧ xs.length + ys.length ≤ 1000 ∧ ∀ z H', Same H H' → TupM K p H' z (xs ++ ys) → Q z H'
theorem op_catM : OpR X (binaryOp .Add) (rCatM X.K) := by
  intro pins s σ H x y v u Q I rx ry h
  obtain ⟨p, xs, ys, hp, ⟨a, rfl, ha⟩, ⟨b, rfl, hb⟩, hl, q⟩ := h
  refine op_catA pins s σ H _ _ v u Q I rx ry ⟨a, b, xs, ys, rfl, rfl, same_tup (mk_self p H) ha, same_tup (mk_self p H) hb, Nat.le_trans hl (by decide), fun e => ?_, fun _ e => ?_, fun _ _ r nr => ?_⟩
  · subst e
    exact q _ _ (Same.refl H) ⟨b, rfl, hb⟩
  · subst e
    rw [List.append_nil] at q
    exact q _ _ (Same.refl H) ⟨a, rfl, ha⟩
  · exact q _ _ (same_new nr _) ⟨r, rfl, .inl (.inl (mk_new hp nr))⟩
def rSlM (K : PySem.W.Frag) : V → Option Int → Option Int → Hp → VK → Prop := fun x lo hi H Q => ∃ p xs, H p ≠ none ∧ TupM K p H x xs ∧ ∀ z H', Same H H' → TupM K p H' z (cutV xs lo hi) → Q z H'
theorem sl_tupM : SlR X (rSlM X.K) := by
  intro pins s σ H x v vl vu lo hi sl Q I rx hs pl pu h
  obtain ⟨p, xs, hp, ⟨a, rfl, ha⟩, q⟩ := h
  refine sl_tupA pins s σ H _ v vl vu lo hi sl Q I rx hs pl pu ⟨a, xs, rfl, same_tup (mk_self p H) ha, fun e => ?_, fun _ r nr => ?_⟩
  · rw [cut_whole e] at q
    exact q _ _ (Same.refl H) ⟨a, rfl, ha⟩
  · exact q _ _ (same_new nr _) ⟨r, rfl, .inl (.inl (mk_new hp nr))⟩
end
theorem ty_of {K : PySem.W.Frag} {H : Hp} {d : PyData} {v : V} (h : Dp K H v d) : ∃ T, TyX K H v (.type T) ∧ T = (match d with | .none => "NoneType" | .bool _ => "bool" | .int _ => "int" | .str _ => "str" | .list _ => "list" | .tuple _ => "tuple" | .dict _ => "dict") := by
  cases h with
  | non => exact ⟨_, .base .non, rfl⟩
  | bl b => exact ⟨_, .base (.bl b), rfl⟩
  | int i => exact ⟨_, .base (.int i), rfl⟩
  | str x => exact ⟨_, .base (.str x), rfl⟩
  | lst hs _ =>
    rcases hs with (h | ⟨o, h⟩) | ⟨o, its, n, h, c, _⟩
    · exact ⟨_, .base (.lst h), rfl⟩
    · exact ⟨_, .base (.frz h), rfl⟩
    · exact ⟨_, .kList h c, rfl⟩
  | tup hs _ =>
    rcases hs with (h | ⟨o, h⟩) | ⟨o, its, n, h, c, _⟩
    · exact ⟨_, .base (.tup h), rfl⟩
    · exact ⟨_, .fTuple h, rfl⟩
    · exact ⟨_, .kTuple h c, rfl⟩
theorem Gds.app {K : PySem.W.Frag} {n : Nat} {H : Hp} {xs ys : List V} (h : Gds K n H xs) (r : Gds K n H ys) : Gds K n H (xs ++ ys) := by
  induction xs with
  | nil => exact r
  | cons x xs ih =>
    obtain ⟨ds, h1, h2⟩ := h
    cases h1 with
    | cons a b =>
      simp only [smalls, Bool.and_eq_true] at h2
      exact .cons ⟨_, a, h2.1⟩ (ih ⟨_, b, h2.2⟩)
theorem Gds.of_mem {K : PySem.W.Frag} {n : Nat} {H : Hp} : ∀ {xs : List V}, (∀ x ∈ xs, Gd K n H x) → Gds K n H xs
  | [], _ => .nil
  | x :: xs, h => .cons (h x List.mem_cons_self) (Gds.of_mem fun y hy => h y (List.mem_cons_of_mem _ hy))
theorem Gds.mem {K : PySem.W.Frag} {n : Nat} {H : Hp} {xs : List V} (h : Gds K n H xs) : ∀ x ∈ xs, Gd K n H x := by
  induction xs with
  | nil => exact fun x hx => nomatch hx
  | cons y ys ih =>
    obtain ⟨ds, h1, h2⟩ := h
    cases h1 with
    | cons a b =>
      simp only [smalls, Bool.and_eq_true] at h2
      intro x hx
      rcases List.mem_cons.mp hx with rfl | hx
      · exact ⟨_, a, h2.1⟩
      · exact ih ⟨_, b, h2.2⟩ x hx
theorem Gds.cut {K : PySem.W.Frag} {n : Nat} {H : Hp} {xs : List V} (h : Gds K n H xs) (lo hi : Option Int) : Gds K n H (cutV xs lo hi) :=
  .of_mem fun x hx => h.mem x (by
    unfold cutV at hx
    exact List.mem_of_mem_drop (List.mem_of_mem_take hx))
theorem Gds.back {K : PySem.W.Frag} {n : Nat} {H : Hp} {xs : List V} (h : Gds K n H xs) : Gds K n H xs.reverse := .of_mem fun x hx => h.mem x (List.mem_reverse.mp hx)
theorem Gds.le {K : PySem.W.Frag} {n m : Nat} {H : Hp} {xs : List V} (l : n ≤ m) (h : Gds K n H xs) : Gds K m H xs := .of_mem fun x hx => (h.mem x hx).le l
theorem no_true (n : Nat) : inV (.bl true) ((List.range n).map fun _ => V.bl false) = false := by
  unfold inV
  rw [List.any_eq_false]
  intro y hy
  obtain ⟨_, _, rfl⟩ := List.mem_map.mp hy
  decide
theorem signs3 : signs 3 ≤ sizeLine := by decide +kernel
end LG
set_option Elab.async false
set_option linter.all false
set_option maxRecDepth 100000
set_option maxHeartbeats 2000000
namespace LG
open PySem L2
/-! ### comprehensions that only make objects -/
theorem lc_all {J : It} {n : Nat} {G : Hp → Prop} {Y : Nat → Hp → V → Hp → Prop} (w : Walk J n G Y) {g : TG} {te : TE} {vs : List Nat} {σ : L2.St} {H1 : Hp} {D : Addr} {Qd : Hp → Prop} (nD : H1 D = none) (fv : Nat → V) (hn : n ≤ sizeLine) (hG : ∀ H, Same H1 H → G H)
    (hs : ∀ (i : Nat) (x : V) (H H' : Hp) (Kt : VK), i < n → Same H1 H → Y i H x H' → (∀ H4, Same H H4 → Kt (fv i) H4) → g x (wipe σ vs) H' fun σ2 H2 => wipe σ2 vs = wipe σ vs ∧ te σ2 H2 Kt)
    (hd : ∀ H, Same H1 H → H D = some (.lst ((List.range n).map fv)) → Qd H) :
    ∃ W : Nat → Nat → Hp → Prop, (∃ m, W 0 m (upd H1 D (.lst []))) ∧ ∀ i m H, W i m H →
      (J.stop i H ∧ Qd H) ∨ (J.go i H ∧ ∃ Nx : Hp → Prop, (∀ H', Nx H' → ∃ m', m' < m ∧ W (i + 1) m' H') ∧ ∀ x H', J.yld i H x H' → g x (wipe σ vs) H' fun σ2 H2 => wipe σ2 vs = wipe σ vs ∧ tYes σ2 H2 fun b H3 =>
        if b = true then te σ2 H3 fun y H4 => ∃ acc, H4 D = some (.lst acc) ∧ acc.length < sizeLine ∧ Nx (upd H4 D (.lst (acc ++ [y]))) else Nx H3) := by
  refine lc_it w (fun i H => Same H1 H ∧ H D = some (.lst ((List.range i).map fv))) ⟨same_new nD _, upd_same⟩ (fun i H _ h => hG H h.1) ?_ (fun H h => hd H h.1 h.2)
  rintro i x H H' hi ⟨s, hD⟩ y
  refine hs i x H H' _ hi s y fun H4 s4 => ⟨_, s4 _ _ hD, by simp; omega, fun b o h => ?_, ?_⟩
  · rw [upd_ne (ne_of_none h nD)]
    exact s4 _ _ (s _ _ h)
  · rw [upd_same, List.range_succ, List.map_append]
    rfl
/-! ### names -/
def LET : Str := "abcdefghijklmnopqrstuvwxyz"
def FIG : Str := "0123456789"
def inL (c : Nat) : Bool := decide (c ∈ LET.cps.toList)
def inF (c : Nat) : Bool := decide (c ∈ FIG.cps.toList)
def isNameB (w : Str) : Bool := (decide (1 ≤ w.length) && decide (w.length ≤ 8) && inL (w.cps.toList.headD 0)) && w.cps.toList.all fun c => inL c || inF c
def sp1 : Str := " "
def nl1 : Str := "\n"
/-- the names behind the word head; none of them: [] -/
def namesIn (line head : Str) (few most : Int) : List Str :=
  let ws := Txt.split line sp1
  let ns := ws.tail
  if ws.headD Str.empty ≠ head ∨ ¬ (few ≤ (ns.length : Int) ∧ (ns.length : Int) ≤ most) then []
  else if (uniq ns).length < ns.length ∨ ¬ (ns.all isNameB = true) then [] else ns
structure Dev where
  calls : List Str
  answers : List Str
  states : List Str
  goals : List ((Str × Str) × (Str × Str))
def headsL : List (Str × Int × Int) := [("calls", 1, 3), ("answers", 2, 3), ("states", 1, 4)]
def headAt (lines : List Str) (i : Nat) : List Str := match headsL[i]?, lines[i]? with
  | some (h, f, m), some l => namesIn l h f m
  | _, _ => []
/-- the names of the first lines, and the number of the bad one or 0 -/
def readHeads (lines : List Str) : List (List Str) × Nat :=
  if headAt lines 0 = [] then ([], 1)
  else if headAt lines 1 = [] then ([headAt lines 0], 2)
  else if headAt lines 2 = [] then ([headAt lines 0, headAt lines 1], 3)
  else ([headAt lines 0, headAt lines 1, headAt lines 2], 0)
def isLine (ws : List Str) (C A S : List Str) : Bool :=
  match ws with
  | [r, s, c, a, g] => decide (r = "row") && (S.contains s && (C.contains c && (A.contains a && S.contains g)))
  | _ => false
def goalStep (C A S : List Str) (g : List ((Str × Str) × (Str × Str))) (line : Str) : Option (List ((Str × Str) × (Str × Str))) :=
  match Txt.split line sp1 with
  | [r, s, c, a, t] => if isLine [r, s, c, a, t] C A S = true ∧ (g.lookup (s, c)).isNone = true then some (g ++ [((s, c), (a, t))]) else none
  | _ => none
def goalsFrom (C A S : List Str) : List Str → Nat → List ((Str × Str) × (Str × Str)) → Sum Nat (List ((Str × Str) × (Str × Str)))
  | [], _, g => .inr g
  | l :: r, at_, g => match goalStep C A S g l with
    | none => .inl (at_ + 1)
    | some g' => goalsFrom C A S r (at_ + 1) g'
def readGoals (lines : List Str) (C A S : List Str) : Sum Nat (List ((Str × Str) × (Str × Str))) :=
  match goalsFrom C A S (lines.drop 3) 3 [] with
  | .inl n => .inl n
  | .inr g => if g.length < S.length * C.length then .inl (lines.length + 1) else .inr g
def parse (text : Str) : Sum Nat Dev :=
  let lines := Txt.split text nl1
  match readHeads lines with
  | ([c, a, s], 0) => (match readGoals lines c a s with
    | .inl n => .inl n
    | .inr g => .inr ⟨c, a, s, g⟩)
  | (_, n) => .inl n
end LG
set_option Elab.async false
set_option linter.all false
set_option maxRecDepth 100000
set_option maxHeartbeats 2000000
namespace LG
open PySem L2 TL
theorem spl_some (S : List Nat) : ∀ (l : List Nat) (k : Nat) (acc : List Nat), spl S k acc l ≠ []
  | [], k, acc => by
    rw [spl_nil]
    simp
  | c :: r, 0, acc => by
    cases h : pre S (c :: r) with
    | true =>
      rw [spl_hit h]
      simp
    | false =>
      rw [spl_miss h]
      exact spl_some S r 0 _
  | c :: r, k + 1, acc => by
    show spl S k acc r ≠ []
    exact spl_some S r k acc
theorem split_some (x : Str) {y : Str} (hy : tl y ≠ []) (hk : y.cps.all (· < 256) = true) : Txt.split x y ≠ [] := by
  intro z
  have h := split_spl x y hy (kind_ok hk)
  rw [z] at h
  exact spl_some _ _ _ _ h.symm
theorem join_size (y : Str) : ∀ {ts : List Str}, ts ≠ [] → (Str.join y ts).length + y.length = (ts.map fun t => t.length + y.length).sum
  | [], h => absurd rfl h
  | [x], _ => by
    show x.length + y.length = _
    simp
  | x :: z :: r, _ => by
    have ih := join_size y (ts := z :: r) (by simp)
    have e : Str.join y (x :: z :: r) = x ++ y ++ Str.join y (z :: r) := rfl
    rw [e, strLen_append, strLen_append, List.map_cons, List.sum_cons]
    omega
theorem sum_bounds {ts : List Str} {k : Nat} : (∀ t ∈ ts, t.length + k ≤ (ts.map fun t => t.length + k).sum) ∧ ts.length * k ≤ (ts.map fun t => t.length + k).sum := by
  induction ts with
  | nil => simp
  | cons x r ih =>
    obtain ⟨h1, h2⟩ := ih
    refine ⟨fun t ht => ?_, ?_⟩
    · rw [List.map_cons, List.sum_cons]
      rcases List.mem_cons.mp ht with rfl | ht
      · omega
      · have := h1 t ht
        omega
    · rw [List.map_cons, List.sum_cons, List.length_cons, Nat.succ_mul]
      omega
theorem split_bounds (x : Str) {y : Str} (hy : tl y ≠ []) (hk : y.cps.all (· < 256) = true) (h1 : y.length = 1) : (∀ t ∈ Txt.split x y, t.length ≤ x.length) ∧ (Txt.split x y).length ≤ x.length + 1 := by
  have e := join_size y (split_some x hy hk)
  rw [PySem.StrLaws.join_split, h1] at e
  obtain ⟨b1, b2⟩ := sum_bounds (ts := Txt.split x y) (k := 1)
  refine ⟨fun t ht => ?_, ?_⟩
  · have := b1 t ht
    omega
  · omega
theorem sp1_ne : tl sp1 ≠ [] := by decide +kernel
theorem sp1_k : sp1.cps.all (· < 256) = true := by decide +kernel
theorem sp1_1 : sp1.length = 1 := by decide +kernel
theorem nl1_ne : tl nl1 ≠ [] := by decide +kernel
theorem nl1_k : nl1.cps.all (· < 256) = true := by decide +kernel
theorem nl1_1 : nl1.length = 1 := by decide +kernel
theorem words_some (x : Str) : Txt.split x sp1 ≠ [] := split_some x sp1_ne sp1_k
theorem words_bounds (x : Str) : (∀ t ∈ Txt.split x sp1, t.length ≤ x.length) ∧ (Txt.split x sp1).length ≤ x.length + 1 := split_bounds x sp1_ne sp1_k sp1_1
theorem lines_bounds (x : Str) : (∀ t ∈ Txt.split x nl1, t.length ≤ x.length) ∧ (Txt.split x nl1).length ≤ x.length + 1 := split_bounds x nl1_ne nl1_k nl1_1
theorem cut_from (xs : List V) (k : Nat) : cutV xs (some (k : Int)) none = xs.drop k := by
  unfold cutV
  rw [HT.sIx_nat, HT.sIx_none]
  by_cases h : k ≤ xs.length
  · rw [Nat.min_eq_left h]
    exact List.take_of_length_le (by rw [List.length_drop]; exact Nat.le_refl _)
  · rw [Nat.min_eq_right (by omega), List.drop_of_length_le (Nat.le_refl _), List.drop_of_length_le (by omega)]
    simp
theorem cut_upto (xs : List V) (k : Nat) : cutV xs none (some (k : Int)) = xs.take k := by
  unfold cutV
  rw [HT.sIx_nat, HT.sIx_none, List.drop_zero, Nat.sub_zero]
  by_cases h : k ≤ xs.length
  · rw [Nat.min_eq_left h]
  · rw [Nat.min_eq_right (by omega), List.take_of_length_le (Nat.le_refl _), List.take_of_length_le (by omega)]
end LG
set_option Elab.async false
set_option linter.all false
set_option maxRecDepth 100000
set_option maxHeartbeats 2000000
namespace K51
open PySem L2 LG
def top (i : Nat) : Stmt := PySem.Challenge.pw_toldboxes_k51_whole_which_versions_are_l.main.body.getD i (.Pass ⟨0, 0, 0, 0⟩)
abbrev sInit : Stmt := inClass (top 2) 0
abbrev sIsName : Stmt := top 12
abbrev sNamesIn : Stmt := top 13
abbrev sReadHeads : Stmt := top 14
abbrev sIsAmong : Stmt := top 15
abbrev sDInit : Stmt := inClass (top 22) 0
abbrev sDRow : Stmt := inClass (top 22) 1
abbrev sDLen : Stmt := inClass (top 22) 6
abbrev sDContains : Stmt := inClass (top 22) 7
abbrev sDEq : Stmt := inClass (top 22) 8
abbrev sDAsk : Stmt := inClass (top 22) 9
abbrev sReadGoals : Stmt := top 23
abbrev sIsLine : Stmt := top 24
abbrev sIsPair : Stmt := top 17
abbrev sIsRow : Stmt := top 18
abbrev sSameWords : Stmt := top 26
abbrev sRefDev : Stmt := top 29
abbrev sFirst : Stmt := top 31
abbrev sLeft : Stmt := top 32
abbrev sRefLog : Stmt := top 33
abbrev sSteps : Stmt := top 34
abbrev sPot : Stmt := top 36
abbrev sTake : Stmt := top 37
abbrev sOf : Stmt := top 38
abbrev sSome : Stmt := top 39
abbrev sCells : Stmt := top 40
abbrev sTold : Stmt := top 41
abbrev sOdd : Stmt := top 42
abbrev sBent : Stmt := top 43
abbrev sAny : Stmt := top 44
abbrev sWays : Stmt := top 45
abbrev sLParting : Stmt := top 46
abbrev sIsLeast : Stmt := top 47
abbrev sDevice : Stmt := top 48
abbrev sText : Stmt := top 49
abbrev sSizes : Stmt := top 50
abbrev sAWalk : Stmt := top 51
abbrev sRun : Stmt := top 52
abbrev sMade : Stmt := top 53
abbrev sLog : Stmt := top 54
abbrev sAlong : Stmt := top 55
abbrev sIsLog : Stmt := top 56
abbrev sLogs : Stmt := top 57
abbrev sLike : Stmt := top 58
abbrev sBadMany : Stmt := top 59
abbrev sOther : Stmt := top 60
abbrev sIsRef : Stmt := top 61
abbrev sRight : Stmt := top 62
abbrev sLaw : Stmt := top 63
section
variable {P : Program} {w : World} {K : PySem.W.Frag} {mg : Str → Option Value} {base : Heap}
theorem scPot : FnScope ["_law_script", "_law_place", "_law_cell", "_law_own", "_law_small"] ["_law_script", "_law_place"] (defScope sPot) := ⟨rfl, rfl, rfl, by decide +kernel, rfl, by decide +kernel, by decide +kernel⟩
def tPotRest : TS :=
  tSeq (tAsg (tOp (rI CMul fun i j => .int (i * j)) (tOp (rI (fun _ j => 0 < j) fun i j => .int (i % j)) (tCB rInt1 (tCons (tCB rAbs (tCons (tVar 2) tNil)) tNil))
      (tOp (rI (fun i j => 0 ≤ j ∧ (Builtin.Int.intBits i : Int) * j ≤ 2 ^ 27) fun i j => .int (i ^ j.toNat)) (tOp (rI CPow fun i j => .int (i ^ j.toNat)) (tC (.int 10)) (tC (.int 60))) (tC (.int 5))))
      (tCB rInt1 (tCons (tOp (rI0 fun i j => .bl (decide (i ≥ j))) (tCB rAbs (tCons (tVar 2) tNil)) (tOp (rI CPow fun i j => .int (i ^ j.toNat)) (tC (.int 10)) (tC (.int 18)))) tNil))) (gName 3))
  (tSeq (tAsg (tOp (rI (fun _ j => 0 < j) fun i j => .int (i % j)) (tCB rInt1 (tCons (tVar 2) tNil)) (tC (.int 2305843009213693951))) (gName 4))
  (tRet (tLst (tCons (tVar 3) (tCons (tOp (rI (fun _ j => 0 < j) fun i j => .int (i % j)) (tCB rInt1 (tCons (tOp (rI0 fun i j => .int (i + j)) (tOp (rI0 fun i j => .int (i + j)) (tOp (rI CMul fun i j => .int (i * j)) (tVar 4) (tC (.int 77021)))
      (tOp (rI CMul fun i j => .int (i * j)) (tOp (rI CMul fun i j => .int (i * j)) (tC (.int 7592)) (tVar 1)) (tVar 1))) (tC (.int 313))) tNil)) (tC (.int 2305843009213693921))) (tCons (tC (.int 0)) tNil))))))
theorem pot_rest {a : Addr} {j : Int} {H : Hp} {Q : VK} (z : Int) (H1 : Hp) (s1 : Same H H1) (f1 : ∀ p, H1 p = none → H p = none) (h0 : 0 ≤ j) (h1 : j ≤ 1000)
    (q : ∀ (p : Addr) (H' : Hp), Same H H' → H p = none → PotAt H' p 0 → Q (.ref p) H') : tPotRest { nx := fun _ H' => Q .non H', rt := Q } [some (.ref a), some (.int j), some (.int z), none, none] H1 := by
  have dec0 : (0 : Int) < (10 ^ (60 : Int).toNat) ^ (5 : Int).toNat := by decide +kernel
  refine ⟨_, rfl, _, rfl, .inl ⟨_, rfl, _, _, rfl, rfl, ⟨by decide, by decide, by decide⟩, _, _, rfl, rfl, ⟨by decide, bits60⟩, _, _, rfl, rfl, dec0, _, rfl, _, rfl, _, _, rfl, rfl, ⟨by decide, by decide, by decide⟩, _, _, rfl, rfl, .inr ⟨_, rfl, ?_⟩⟩⟩
  generalize hv : (if z < 0 then -z else z) % (10 ^ (60 : Int).toNat) ^ (5 : Int).toNat = own
  have own0 : 0 ≤ own := by rw [← hv]; exact Int.emod_nonneg _ (by omega)
  generalize hk : decide ((if z < 0 then -z else z) ≥ 10 ^ (18 : Int).toNat) = k
  clear hk
  have k01 : (if k = true then (1 : Int) else 0) = 0 ∨ (if k = true then (1 : Int) else 0) = 1 := by cases k <;> simp
  generalize (if k = true then (1 : Int) else 0) = kk at k01 ⊢
  have own1 : 0 ≤ own * kk := by
    rcases k01 with e | e
    · rw [e]; omega
    · rw [e]; omega
  refine ⟨_, _, rfl, rfl, .inr ⟨by omega, by omega⟩, ?_⟩
  refine ⟨_, rfl, .inl ⟨_, rfl, _, _, rfl, rfl, (by show (0 : Int) < 2305843009213693951; decide), ?_⟩⟩
  refine ⟨_, rfl, _, rfl, _, _, rfl, rfl, .inr ⟨by decide, by decide⟩, _, rfl, _, _, rfl, rfl, .inl ⟨by decide, by decide⟩, _, rfl, _, _, rfl, rfl, .inr ⟨by omega, by omega⟩, _, _, rfl, rfl, _, _, rfl, rfl, .inl ⟨_, rfl, _, _, rfl, rfl, (by show (0 : Int) < 2305843009213693921; decide), (by show 3 ≤ sizeLine; decide), fun p np => ?_⟩⟩
  refine q p _ (s1.trans (same_new np _)) (f1 p np) ⟨_, _, _, upd_same, (by rw [hv]; exact own1), ?_, ?_, by decide, by decide⟩
  · exact Int.emod_nonneg _ (by decide)
  · exact Int.lt_trans (Int.emod_lt_of_pos _ (by decide)) (by decide)
theorem ok_pot {f : Addr} {fd : FuncData} (F : Fun K "_law_pot" "_law_pot" sPot f fd) (T : Bltn mg) : FnOk P w K mg base CX0 1 f fd ["_law_script", "_law_place"] (spPot K) := by
  refine F.ok scPot (fun vs H Q E h => ?_) (fun cdv A outer s H vs Q E hr h => ?_)
  · obtain ⟨a, ns, j, rfl, _⟩ := h
    rfl
  obtain ⟨a, ns, j, rfl, hS, h63, h0, h1, q⟩ := h
  refine ⟨_, pss_cons (ps_set (i := 2) scPot.nd rfl (Or.inl rfl) (pe_ifExp (pt_cmpR op_lt (pv 1) (pe_callB call_len_seq rfl T.len PySem.boot_len (pa_cons (pv 0) pa_nil)) (nomark _)) (pe_ix ix_list (pv 0) (pv 1) (fun _ _ => rfl))
      (pe_op op_add (pe_op op_add (pe_op op_mod (pe_callB (cr_sum rfl) rfl T.sum (by decide +kernel) (pa_cons (pe_slice sl_list (pv 0) po_none (po_some pe_int)) pa_nil)) pe_int) (pe_op op_mul pe_int (pv 1))) pe_int)))
    (pss_cons (ps_set (i := 3) scPot.nd rfl (Or.inl rfl) (pe_op op_mul (pe_op op_mod (pe_callTy call_int1 rfl T.int (by decide +kernel) (pa_cons (pe_callB call_abs rfl T.abs (by decide +kernel) (pa_cons (pv 2) pa_nil)) pa_nil)) (pe_op op_powB (pe_op op_pow pe_int pe_int) pe_int))
      (pe_callTy call_int1 rfl T.int (by decide +kernel) (pa_cons (pe_cmpR op_ge (pe_callB call_abs rfl T.abs (by decide +kernel) (pa_cons (pv 2) pa_nil)) (pe_op op_pow pe_int pe_int) (nomark _)) pa_nil))))
    (pss_cons (ps_set (i := 4) scPot.nd rfl (Or.inl rfl) (pe_op op_mod (pe_callTy call_int1 rfl T.int (by decide +kernel) (pa_cons (pv 2) pa_nil)) pe_int))
    (pss_one (ps_ret (pe_lst (pa_cons (pv 3) (pa_cons (pe_op op_mod (pe_callTy call_int1 rfl T.int (by decide +kernel) (pa_cons (pe_op op_add (pe_op op_add (pe_op op_mul (pv 4) pe_int) (pe_op op_mul (pe_op op_mul pe_int (pv 1)) (pv 1))) pe_int) pa_nil)) pe_int) (pa_cons pe_int pa_nil)))))))), ?_⟩
  refine ⟨_, rfl, _, rfl, a, _, rfl, .inl hS, _, _, rfl, rfl, _, rfl, ?_⟩
  have dec0 : (0 : Int) < (10 ^ (60 : Int).toNat) ^ (5 : Int).toNat := by decide +kernel
  refine ite2 (fun c => ?_) (fun c => ?_)
  · have c' : j < (((ns.map V.int).length : Nat) : Int) := of_decide_eq_true c
    rw [List.length_map] at c'
    obtain ⟨z, hz⟩ := item_there h0 c'
    have H0 : Same H H := Same.refl H
    have free : ∀ p, H p = none → H p = none := fun _ e => e
    refine ⟨_, rfl, _, rfl, a, _, _, _, rfl, rfl, hS, hz, ?_⟩
    exact pot_rest z H H0 free h0 h1 q
  · obtain ⟨ms, em⟩ := cut_ints ns none (some 1)
    refine ⟨_, rfl, 1, rfl, a, _, rfl, hS, fun t nt => ?_⟩
    refine ⟨t, ms, rfl, SqL.of (by rw [upd_same, em]), _, _, rfl, rfl, (by show (0 : Int) < 1000003; decide), _, rfl, _, _, rfl, rfl, .inl ⟨by decide, by decide⟩, _, _, rfl, rfl, _, _, rfl, rfl, ?_⟩
    exact pot_rest _ _ (same_new nt _) (fun p e => (same_new nt _).free e) h0 h1 q
/-! ### one digit out of the pot -/
def spTake : Sp := fun vs H Q _ => ∃ (p : Addr) (u : Int) (b : Nat), vs = [.ref p, .int u] ∧ PotAt H p b ∧ b ≤ 100000 ∧ 1 ≤ u ∧ u < 1073741824 ∧
  ∀ (k : Int) (H' : Hp), 0 ≤ k → k < u → But p H H' → PotAt H' p (b + 1) → Q (.int k) H'
theorem scTake : FnScope ["_law_pot_here", "_law_upto", "_law_digit", "_law_prime", "_law_blend"] ["_law_pot_here", "_law_upto"] (defScope sTake) := ⟨rfl, rfl, rfl, by decide +kernel, rfl, by decide +kernel, by decide +kernel⟩
theorem sq_bound {n : Int} (h0 : 0 ≤ n) (h : n ≤ 200000) : 0 ≤ 98305 * n * n ∧ 98305 * n * n ≤ 3932200000000000 := by
  have h1 : 0 ≤ 98305 * n := by omega
  have h2 : 98305 * n ≤ 19661000000 := by omega
  have h3 := Int.mul_le_mul h2 h h0 (by decide)
  exact ⟨Int.mul_nonneg h1 h0, h3⟩
theorem ok_take {f : Addr} {fd : FuncData} (F : Fun K "_law_take" "_law_take" sTake f fd) (T : Bltn mg) : FnOk P w K mg base CX0 1 f fd ["_law_pot_here", "_law_upto"] spTake := by
  refine F.ok scTake (fun vs H Q E h => ?_) (fun cdv A outer s H vs Q E hr h => ?_)
  · obtain ⟨p, u, b, rfl, _⟩ := h
    rfl
  obtain ⟨p, u, b, rfl, ⟨own, sm, n, hp, hown, hs0, hs1, hn0, hn1⟩, hb, hu1, hu2, q⟩ := h
  refine ⟨_, pss_cons (ps_if (pt_cmpR op_gt (pe_ix ix_list (pv 0) pe_int (fun _ _ => rfl)) pe_int (nomark _))
      (pss_cons (ps_set (i := 2) scTake.nd rfl (Or.inl rfl) (pe_op op_mod (pe_callTy call_int1 rfl T.int (by decide +kernel) (pa_cons (pe_ix ix_list (pv 0) pe_int (fun _ _ => rfl)) pa_nil)) (pv 1)))
      (pss_cons (ps_asg (pe_op op_fdiv (pe_ix ix_list (pv 0) pe_int (fun _ _ => rfl)) (pv 1)) (pg_sub (pv 0) pe_int set_list))
      (pss_one (ps_ret (pv 2))))) pss_nil)
    (pss_cons (ps_asg (pe_op op_add (pe_ix ix_list (pv 0) pe_int (fun _ _ => rfl)) pe_int) (pg_sub (pv 0) pe_int set_list))
    (pss_cons (ps_set (i := 3) scTake.nd rfl (Or.inl rfl) (pe_ix ix_list (pe_lst (pa_cons pe_int (pa_cons pe_int (pa_cons pe_int (pa_cons pe_int (pa_cons pe_int pa_nil)))))) (pe_op op_mod (pe_callTy call_int1 rfl T.int (by decide +kernel) (pa_cons (pe_ix ix_list (pv 0) pe_int (fun _ _ => rfl)) pa_nil)) pe_int) (fun _ _ => rfl)))
    (pss_cons (ps_set (i := 4) scTake.nd rfl (Or.inl rfl) (pe_op op_mod (pe_callTy call_int1 rfl T.int (by decide +kernel) (pa_cons (pe_op op_pow (pe_callTy call_int1 rfl T.int (by decide +kernel) (pa_cons (pe_op op_add (pe_op op_add (pe_ix ix_list (pv 0) pe_int (fun _ _ => rfl)) (pe_op op_mul (pe_op op_mul pe_int (pe_ix ix_list (pv 0) pe_int (fun _ _ => rfl))) (pe_ix ix_list (pv 0) pe_int (fun _ _ => rfl)))) pe_int) pa_nil)) pe_int) pa_nil)) (pv 3)))
    (pss_one (ps_ret (pe_op op_mod (pe_callTy call_int1 rfl T.int (by decide +kernel) (pa_cons (pe_op op_fdiv (pe_op op_mul (pv 4) (pe_op op_add (pe_op op_mod (pe_callTy call_int1 rfl T.int (by decide +kernel) (pa_cons (pv 4) pa_nil)) pe_int) (pe_op op_mul pe_int (pe_ix ix_list (pv 0) pe_int (fun _ _ => rfl))))) pe_int) pa_nil)) (pv 1))))))), ?_⟩
  refine ⟨_, rfl, p, _, _, _, rfl, rfl, SqL.of hp, rfl, _, _, rfl, rfl, _, rfl, ?_⟩
  refine ite2 (fun c => ?_) (fun c => ?_)
  · refine ⟨_, rfl, p, _, _, _, rfl, rfl, SqL.of hp, rfl, .inl ⟨_, rfl, _, rfl, _, _, rfl, rfl, (by show 0 < u; omega), ?_⟩⟩
    refine ⟨_, rfl, p, _, _, _, rfl, rfl, SqL.of hp, rfl, _, rfl, _, _, rfl, rfl, ⟨by omega, by omega⟩, _, rfl, p, _, _, 0, rfl, rfl, hp, rfl, _, rfl, ?_⟩
    refine q _ _ (Int.emod_nonneg _ (by omega)) (Int.emod_lt_of_pos _ (by omega)) (fun c o e ne => by rw [upd_ne ne]; exact e) ⟨_, _, _, upd_same, ?_, hs0, hs1, hn0, by omega⟩
    exact Int.ediv_nonneg hown (by omega)
  · refine ⟨_, rfl, p, _, _, _, rfl, rfl, SqL.of hp, rfl, _, _, rfl, rfl, _, rfl, p, _, _, 2, rfl, rfl, hp, rfl, ?_⟩
    have hp1 : (upd H p (.lst [.int own, .int sm, .int (n + 1)])) p = some (.lst [.int own, .int sm, .int (n + 1)]) := upd_same
    have but1 : But p H (upd H p (.lst [.int own, .int sm, .int (n + 1)])) := fun c o e ne => by rw [upd_ne ne]; exact e
    show tSeq _ _ _ _ (upd H p (.lst [.int own, .int sm, .int (n + 1)]))
    generalize upd H p (.lst [.int own, .int sm, .int (n + 1)]) = H1 at hp1 but1 ⊢
    refine ⟨(by show 5 ≤ sizeLine; decide), fun t nt => ?_⟩
    have s2 : Same H1 (upd H1 t (.lst [.int 2147483647, .int 2147483629, .int 2147483587, .int 2147483579, .int 2147483563])) := same_new nt _
    have ht : (upd H1 t (.lst [.int 2147483647, .int 2147483629, .int 2147483587, .int 2147483579, .int 2147483563])) t = some (.lst [.int 2147483647, .int 2147483629, .int 2147483587, .int 2147483579, .int 2147483563]) := upd_same
    generalize upd H1 t (.lst [.int 2147483647, .int 2147483629, .int 2147483587, .int 2147483579, .int 2147483563]) = H2 at s2 ht ⊢
    have hp2 := s2 _ _ hp1
    obtain ⟨pr, hpr, pr1, pr2⟩ := prime_at (r := (n + 1) % 5) (Int.emod_nonneg _ (by decide)) (Int.emod_lt_of_pos _ (by decide))
    refine ⟨_, rfl, p, _, _, _, rfl, rfl, SqL.of hp2, rfl, .inl ⟨_, rfl, _, _, rfl, rfl, (by show (0 : Int) < 5; decide), t, _, _, _, rfl, rfl, SqL.of ht, hpr, ?_⟩⟩
    have sq := sq_bound (n := n + 1) (by omega) (by omega)
    refine ⟨_, rfl, p, _, _, _, rfl, rfl, SqL.of hp2, rfl, _, rfl, p, _, _, _, rfl, rfl, SqL.of hp2, rfl, _, _, rfl, rfl, .inl ⟨by decide, by decide⟩, _, rfl, p, _, _, _, rfl, rfl, SqL.of hp2, rfl, _, _, rfl, rfl, .inr ⟨by omega, by omega⟩,
      _, _, rfl, rfl, _, _, rfl, rfl, .inl ⟨_, rfl, _, _, rfl, rfl, ⟨by decide, by decide, ?_⟩, .inl ⟨_, rfl, _, rfl, _, _, rfl, rfl, (by show 0 < pr; omega), ?_⟩⟩⟩
    · show (sm + 98305 * (n + 1) * (n + 1) + 194).natAbs < 2 ^ 64
      omega
    · generalize hb2 : (sm + 98305 * (n + 1) * (n + 1) + 194) ^ (3 : Int).toNat % pr = bl
      have b0 : 0 ≤ bl := by rw [← hb2]; exact Int.emod_nonneg _ (by omega)
      have b1 : bl < pr := by rw [← hb2]; exact Int.emod_lt_of_pos _ (by omega)
      refine ⟨_, rfl, _, rfl, .inl ⟨_, rfl, _, _, rfl, rfl, (by show (0 : Int) < 10110; decide), _, rfl, p, _, _, _, rfl, rfl, SqL.of hp2, rfl, _, _, rfl, rfl, .inl ⟨by decide, by decide⟩, _, _, rfl, rfl, _, _, rfl, rfl, .inl ⟨by rw [hb2]; omega, by rw [hb2]; omega⟩,
        _, _, rfl, rfl, ⟨by decide, by decide⟩, .inl ⟨_, rfl, _, rfl, _, _, rfl, rfl, (by show 0 < u; omega), ?_⟩⟩⟩
      refine q _ _ (Int.emod_nonneg _ (by omega)) (Int.emod_lt_of_pos _ (by omega)) (but1.trans (But.of s2)) ⟨_, _, _, hp2, hown, hs0, hs1, by omega, by omega⟩
theorem scOf : FnScope ["_law_pot_here", "_law_some_here"] ["_law_pot_here", "_law_some_here"] (defScope sOf) := ⟨rfl, rfl, rfl, by decide +kernel, rfl, by decide +kernel, by decide +kernel⟩
theorem ok_of {f g : Addr} {fd gd : FuncData} (F : Fun K "_law_of" "_law_of" sOf f fd) (T : Bltn mg) (G : FnOk P w K mg base CX0 1 g gd ["_law_pot_here", "_law_upto"] spTake) (mG : mg "_law_take" = some (.ref g)) (kG : PySem.W.keepIn K (.ref g) = true) (bG : Binds K gd ["_law_pot_here", "_law_upto"] []) :
    FnOk P w K mg base CX0 2 f fd ["_law_pot_here", "_law_some_here"] (spOf K) := by
  refine F.ok scOf (fun vs H Q E h => ?_) (fun cdv A outer s H vs Q E hr h => ?_)
  · obtain ⟨p, l, xs, b, rfl, _⟩ := h
    rfl
  obtain ⟨p, l, xs, b, rfl, hp, hb, hl, x0, x1, ne, q⟩ := h
  refine ⟨_, pss_one (ps_ret (pe_ix ix_list (pv 1) (pe_call G hr rfl mG kG bG .nil pass0 (pa_cons (pv 0) (pa_cons (pe_callB call_len_seq rfl T.len PySem.boot_len (pa_cons (pv 1) pa_nil)) pa_nil))) (fun _ _ => rfl))), ?_⟩
  refine ⟨_, rfl, _, rfl, _, rfl, l, _, rfl, .inl hl, p, _, b, rfl, hp, hb, by omega, by omega, fun k H' k0 k1 but pot => ?_⟩
  have hk : k.toNat < xs.length := by omega
  have at_ : atI xs k = some xs[k.toNat] := at_of (j := k.toNat) (by omega) (List.getElem?_eq_getElem hk)
  exact ⟨l, xs, k, _, rfl, rfl, But.seq but ne hl, at_, q _ _ (List.getElem_mem hk) but pot⟩
/-! ### the cells -/
def spCells (K : PySem.W.Frag) : Sp := fun vs H Q _ => ∃ (a : Addr) (ns : List Int) (m : Int), vs = [.ref a, .int m] ∧ SqL K H a (ns.map V.int) ∧ ns.length ≤ 63 ∧ 1 ≤ m ∧ m ≤ 63 ∧
  ∀ (p : Addr) (n : Nat) (H' : Hp), Same H H' → H p = none → 1 ≤ n → n ≤ 63 → H' p = some (.lst ((List.range n).map fun i => V.int (i : Nat))) → Q (.ref p) H'
theorem scCells : FnScope ["_law_script", "_law_most"] ["_law_script", "_law_most"] (defScope sCells) := ⟨rfl, rfl, rfl, by decide +kernel, rfl, by decide +kernel, by decide +kernel⟩
theorem ok_cells {f : Addr} {fd : FuncData} (F : Fun K "_law_cells" "_law_cells" sCells f fd) (T : Bltn mg) : FnOk P w K mg base CX0 1 f fd ["_law_script", "_law_most"] (spCells K) := by
  refine F.ok scCells (fun vs H Q E h => ?_) (fun cdv A outer s H vs Q E hr h => ?_)
  · obtain ⟨a, ns, m, rfl, _⟩ := h
    rfl
  obtain ⟨a, ns, m, rfl, hS, h63, m0, m1, q⟩ := h
  refine ⟨_, pss_one (ps_ret (pe_listRg rfl rfl T.list (prg_1 rfl T.range (pe_callB (call_max2 rfl) rfl T.max (by decide +kernel) (pa_cons pe_int (pa_cons (pe_callB (call_min2 rfl) rfl T.min (by decide +kernel)
    (pa_cons (pv 1) (pa_cons (pe_callB call_len_seq rfl T.len PySem.boot_len (pa_cons (pv 0) pa_nil)) pa_nil))) pa_nil)))))), ?_⟩
  refine ⟨_, rfl, _, rfl, a, _, rfl, .inl hS, _, _, rfl, _, _, rfl, _, rfl, ?_⟩
  have hl : (ns.map V.int).length = ns.length := List.length_map _
  rw [hl]
  generalize hz : (if (if (ns.length : Int) < m then (ns.length : Int) else m) > 1 then (if (ns.length : Int) < m then (ns.length : Int) else m) else 1) = z
  have z0 : 1 ≤ z ∧ z ≤ 63 := by
    rw [← hz]
    split <;> split <;> omega
  refine ⟨RgOk.of_le (by decide) (by omega) (by decide) (by omega), fun p np => ?_⟩
  refine q p z.toNat _ (same_new np _) np (by omega) (by omega) ?_
  rw [upd_same]
  have e : rgV 0 z = (List.range z.toNat).map fun i => V.int (i : Nat) := by
    unfold rgV
    have e1 : (z - 0).toNat = z.toNat := by omega
    rw [e1]
    refine List.map_congr_left fun i _ => ?_
    rw [Int.zero_add]
  rw [e]
end
end K51
set_option Elab.async false
set_option linter.all false
set_option maxRecDepth 100000
set_option maxHeartbeats 4000000
namespace K51
open PySem L2 LG
section
variable {P : Program} {w : World} {K : PySem.W.Frag} {mg : Str → Option Value} {base : Heap}
/-- the module's own constants -/
structure Consts (K : PySem.W.Frag) (mg : Str → Option Value) : Prop where
  let_ : ∃ t, mg "LETTERS" = some (.str LET t)
  fig : ∃ t, mg "FIGURES" = some (.str FIG t)
def spName : Sp := fun vs H Q _ => ∃ (x : Str), vs = [.str x] ∧ x.length ≤ 100000 ∧ ∀ H', Same H H' → Q (.bl (isNameB x)) H'
theorem scName : FnScope ["word", "sign"] ["word"] (defScope sIsName) := ⟨rfl, rfl, rfl, by decide +kernel, rfl, by decide +kernel, by decide +kernel⟩
theorem name_bits (x : Str) : (List.range x.cps.size).map (fun i => V.bl (inL (x.cps.getD i 0) || inF (x.cps.getD i 0))) = (x.cps.toList.map fun c => inL c || inF c).map V.bl := by
  apply List.ext_getElem
  · simp
  · intro k h1 h2
    have hk : k < x.cps.size := by simpa using h1
    simp [Array.getD, hk]
theorem ok_name {f : Addr} {fd : FuncData} (F : Fun K "is_name" "is_name" sIsName f fd) (T : Bltn mg) (C : Consts K mg) : FnOk P w K mg base CX0 1 f fd ["word"] spName := by
  obtain ⟨tL, mL⟩ := C.let_
  obtain ⟨tF, mF⟩ := C.fig
  refine F.ok scName (fun vs H Q E h => ?_) (fun cdv A outer s H vs Q E hr h => ?_)
  · obtain ⟨x, rfl, _⟩ := h
    rfl
  obtain ⟨x, rfl, hx, q⟩ := h
  refine ⟨_, pss_cons (ps_if (PW.pt (pw_or (pt_not (pt_chain op_le op_le pe_int (pe_callB call_len_str rfl T.len PySem.boot_len (pa_cons (pv 0) pa_nil)) pe_int)) (pw_or1 (pt_cmpR op_notIn_sign (pe_ix ix_str (pv 0) pe_int (fun _ _ => rfl)) (pe_glob (v := .str LET) rfl mL ⟨_, rfl⟩) (by rfl)))))
      (pss_one (ps_ret pe_bl)) pss_nil)
    (pss_one (ps_ret (pe_callB (cr_all rfl) rfl T.all (by decide +kernel) (pa_cons (pe_lc (own := [("sign", 1)]) (g := gName 1) (tt := tYes) rfl scName.nd (pi_str (pv 0)) (blkOk_by (own := [("sign", 1)]) (N := ["word", "sign"]) (sc := defScope sIsName) (by decide +kernel))
      (fun _ _ _ _ _ => pg_name (i := 1) scName.nd rfl (Or.inl rfl)) (fun _ _ _ _ _ => pts_nil)
      (fun _ _ _ _ _ => pe_or (pe_cmpR op_in_sign (pv 1) (pe_glob (v := .str LET) rfl mL ⟨_, rfl⟩) (by rfl)) (pe_one (pe_cmpR op_in_sign (pv 1) (pe_glob (v := .str FIG) rfl mF ⟨_, rfl⟩) (by rfl))))) pa_nil)))), ?_⟩
  have len0 : x.length ≤ sizeLine := Nat.le_trans hx (by rw [sizeLine_eq]; decide)
  have no : isNameB x = false → Q (.bl false) H := fun e => by
    have := q H (Same.refl H)
    rw [e] at this
    exact this
  refine ⟨_, rfl, _, rfl, len0, _, _, rfl, rfl, _, rfl, ?_⟩
  refine ite2 (fun c1 => ?_) (fun c1 => ?_)
  · refine ⟨_, _, rfl, rfl, _, rfl, ?_⟩
    have l1 : 1 ≤ x.length := by
      have := of_decide_eq_true c1
      omega
    show (if (!decide ((x.length : Int) ≤ 8)) = true then _ else _)
    by_cases c2 : (x.length : Int) ≤ 8
    · rw [if_neg (by simp [c2])]
      have hc : x.cps[0]? = some (x.cps.getD 0 0) := by
        have : 0 < x.cps.size := l1
        simp [Array.getD, this]
      have hd0 : x.cps.toList.headD 0 = x.cps.getD 0 0 := by
        have : 0 < x.cps.size := l1
        rw [List.headD_eq_head?_getD, List.head?_eq_getElem?, Array.getElem?_toList, hc]
        rfl
      refine ⟨_, rfl, x, 0, x.cps.getD 0 0, rfl, rfl, len0, ?_, _, _, rfl, rfl, _, rfl, ?_⟩
      · have z : atI x.cps.toList ((0 : Nat) : Int) = some (x.cps.getD 0 0) := atI_nat (by rw [Array.getElem?_toList]; exact hc)
        exact z
      refine ite2 (fun c3 => ?_) (fun c3 => ?_)
      · refine no ?_
        have c3' : inL (x.cps.getD 0 0) = false := by
          unfold inL
          simpa using c3
        rw [show isNameB x = ((decide (1 ≤ x.length) && decide (x.length ≤ 8) && inL (x.cps.toList.headD 0)) && x.cps.toList.all fun c => inL c || inF c) from rfl, hd0, c3']
        simp
      · refine ⟨_, rfl, x, rfl, fun D nD => ?_⟩
        refine lc_all walk_str nD (fun i => V.bl (inL (x.cps.getD i 0) || inF (x.cps.getD i 0))) (Nat.le_trans (show x.cps.size ≤ _ from len0) (Nat.le_refl _)) (fun _ _ => trivial) ?_ ?_
        · rintro i y H0 H' Kt hi s0 ⟨rfl, c, hc, rfl⟩ hK
          have ec : x.cps.getD i 0 = c := by
            rw [Array.getD_eq_getD_getElem?, hc]
            rfl
          refine ⟨rfl, _, rfl, _, _, rfl, rfl, _, rfl, ?_⟩
          have hK := hK H' (Same.refl _)
          rw [ec] at hK
          unfold inL inF at hK
          by_cases m : c ∈ LET.cps.toList
          · simp only [m, decide_true, Bool.true_or, if_true] at hK ⊢
            exact hK
          · simp only [m, decide_false, Bool.false_or, if_neg, Bool.false_eq_true, if_false] at hK ⊢
            exact ⟨_, rfl, _, _, rfl, rfl, hK⟩
        · intro H2 s2 hD
          rw [name_bits] at hD
          refine ⟨D, _, rfl, SqL.of hD, ?_⟩
          have c3' : inL (x.cps.getD 0 0) = true := by
            unfold inL
            simpa using c3
          have e : isNameB x = (x.cps.toList.map fun c => inL c || inF c).all id := by
            rw [show isNameB x = ((decide (1 ≤ x.length) && decide (x.length ≤ 8) && inL (x.cps.toList.headD 0)) && x.cps.toList.all fun c => inL c || inF c) from rfl, hd0, c3', decide_eq_true l1, decide_eq_true (by omega : x.length ≤ 8), List.all_map]
            rfl
          rw [← e]
          exact q H2 s2
    · rw [if_pos (by simp [c2])]
      refine no ?_
      have : ¬ x.length ≤ 8 := by omega
      simp [isNameB, this]
  · refine ⟨_, rfl, iteT (iteT (no ?_))⟩
    have : ¬ 1 ≤ x.length := fun h => c1 (decide_eq_true (by omega))
    simp [isNameB, this]
end
end K51
set_option Elab.async false
set_option linter.all false
set_option maxRecDepth 100000
set_option maxHeartbeats 4000000
namespace K51
open PySem L2 LG
section
variable {P : Program} {w : World} {K : PySem.W.Frag} {mg : Str → Option Value} {base : Heap}
def spNames (K : PySem.W.Frag) : Sp := fun vs H Q _ => ∃ (l h : Str) (a b : Int), vs = [.str l, .str h, .int a, .int b] ∧ l.length ≤ 3000 ∧ ∀ (p : Addr) (H' : Hp), Same H H' → SqT K H' p ((namesIn l h a b).map V.str) → Q (.ref p) H'
abbrev nN : List Str := ["line", "head", "fewest", "most", "words", "names", "name"]
theorem scNames : FnScope nN ["line", "head", "fewest", "most"] (defScope sNamesIn) := ⟨rfl, rfl, rfl, by decide +kernel, rfl, by decide +kernel, by decide +kernel⟩
theorem cut_tail (ws : List Str) : cutV (ws.map V.str) (some 1) none = ws.tail.map V.str := by
  rw [show (1 : Int) = ((1 : Nat) : Int) from rfl, cut_from, List.drop_one, List.map_tail]
theorem names_bits (ns : List Str) : (List.range ns.length).map (fun i => V.bl (isNameB (ns.getD i Str.empty))) = (ns.map isNameB).map V.bl := by
  apply List.ext_getElem
  · simp
  · intro k h1 h2
    have hk : k < ns.length := by simpa using h1
    simp [List.getD, hk]
theorem ok_names {f g : Addr} {fd gd : FuncData} (F : Fun K "names_in" "names_in" sNamesIn f fd) (T : Bltn mg) (G : FnOk P w K mg base CX0 1 g gd ["word"] spName) (mG : mg "is_name" = some (.ref g)) (kG : PySem.W.keepIn K (.ref g) = true) (bG : Binds K gd ["word"] []) :
    FnOk P w K mg base CX0 2 f fd ["line", "head", "fewest", "most"] (spNames K) := by
  refine F.ok scNames (fun vs H Q E h => ?_) (fun cdv A outer s H vs Q E hr h => ?_)
  · obtain ⟨l, h, a, b, rfl, _⟩ := h
    rfl
  obtain ⟨l, h, a, b, rfl, hl, q⟩ := h
  refine ⟨_, pss_cons (ps_set (i := 4) scNames.nd rfl (Or.inl rfl) (pe_split (pv 0) pe_str))
    (pss_cons (ps_set (i := 5) scNames.nd rfl (Or.inl rfl) (pe_slice sl_list (pv 4) (po_some pe_int) po_none))
    (pss_cons (ps_if (PW.pt (pw_or (pt_cmpR op_ne (pe_ix ix_list (pv 4) pe_int (fun _ _ => rfl)) (pv 1) (nomark _)) (pw_or1 (pt_not (pt_chain op_le op_le (pv 2) (pe_callB call_len_seq rfl T.len PySem.boot_len (pa_cons (pv 5) pa_nil)) (pv 3))))))
      (pss_one (ps_ret (pe_tup pa_nil))) pss_nil)
    (pss_cons (ps_if (PW.pt (pw_or (pt_cmpR op_lt (pe_lenSetS rfl T.len rfl T.set (pv 5)) (pe_callB call_len_seq rfl T.len PySem.boot_len (pa_cons (pv 5) pa_nil)) (nomark _))
        (pw_or1 (pt_not (pt_val (pe_callB (cr_all rfl) rfl T.all (by decide +kernel) (pa_cons (pe_lc (own := [("name", 6)]) (g := gName 6) (tt := tYes) rfl scNames.nd (pi_list (pv 5)) (blkOk_by (own := [("name", 6)]) (N := nN) (sc := defScope sNamesIn) (by decide +kernel))
          (fun _ _ _ _ _ => pg_name (i := 6) scNames.nd rfl (Or.inl rfl)) (fun _ _ _ _ _ => pts_nil)
          (fun _ _ _ _ _ => pe_call G hr rfl mG kG bG .nil pass0 (pa_cons (pv 6) pa_nil))) pa_nil)))))))
      (pss_one (ps_ret (pe_tup pa_nil))) pss_nil)
    (pss_one (ps_ret (pe_callTy call_tuple_of rfl T.tuple (by decide +kernel) (pa_cons (pv 5) pa_nil))))))), ?_⟩
  refine ⟨_, rfl, ⟨_, rfl⟩, l, sp1, rfl, rfl, rfl, ?_, fun p np => ?_⟩
  · rw [sizeLine_eq]
    omega
  obtain ⟨wb1, wb2⟩ := words_bounds l
  have wne := words_some l
  generalize hws : Txt.split l sp1 = ws at wb1 wb2 wne
  have hp : (upd H p (.lst (ws.map V.str))) p = some (.lst (ws.map V.str)) := upd_same
  have s1 := same_new np (.lst (ws.map V.str))
  generalize upd H p (.lst (ws.map V.str)) = H1 at hp s1 ⊢
  refine ⟨_, rfl, 1, rfl, p, _, rfl, SqL.of hp, fun p2 np2 => ?_⟩
  rw [cut_tail]
  have hp2 : (upd H1 p2 (.lst (ws.tail.map V.str))) p2 = some (.lst (ws.tail.map V.str)) := upd_same
  have s2 := s1.trans (same_new np2 (.lst (ws.tail.map V.str)))
  have hp' := same_new np2 (.lst (ws.tail.map V.str)) _ _ hp
  generalize upd H1 p2 (.lst (ws.tail.map V.str)) = H2 at hp2 s2 hp' ⊢
  have hlen : (ws.tail.map V.str).length = ws.tail.length := List.length_map _
  have tl3 : ws.tail.length ≤ 3001 := by
    rw [List.length_tail]
    omega
  have h0 : atI (ws.map V.str) ((0 : Nat) : Int) = some (.str (ws.headD Str.empty)) := by
    cases ws with
    | nil => exact absurd rfl wne
    | cons x r => exact atI_nat (by simp)
  have bad : LG.namesIn l h a b = [] → ∀ G, Same H2 G → ∀ t, G t = none → Q (.ref t) (upd G t (.tup [])) := by
    intro e G sG t nt
    refine q t _ ((s2.trans sG).trans (same_new nt _)) ?_
    rw [e]
    exact .inl (.inl upd_same)
  have hN : LG.namesIn l h a b = if ws.headD Str.empty ≠ h ∨ ¬ (a ≤ (ws.tail.length : Int) ∧ (ws.tail.length : Int) ≤ b) then [] else if (uniq ws.tail).length < ws.tail.length ∨ ¬ (ws.tail.all isNameB = true) then [] else ws.tail := by
    unfold LG.namesIn
    rw [hws]
  generalize ws.headD Str.empty = hd at h0 hN
  refine ⟨_, rfl, p, _, _, _, rfl, rfl, SqL.of hp', h0, _, rfl, rfl, _, rfl, ?_⟩
  refine ite2 (fun c1 => ?_) (fun c1 => ?_)
  · refine ⟨(by show 0 ≤ sizeLine; decide), fun t nt => bad ?_ _ (Same.refl _) t nt⟩
    rw [hN, if_pos]
    left
    intro e
    rw [e] at c1
    simp at c1
  have hh : hd = h := Classical.byContradiction fun ne => c1 (by simp [ne])
  refine ⟨_, rfl, _, rfl, p2, _, rfl, .inl (SqL.of hp2), _, _, rfl, rfl, _, rfl, ?_⟩
  rw [hlen]
  have good : (a ≤ (ws.tail.length : Int) ∧ (ws.tail.length : Int) ≤ b) → LG.namesIn l h a b = if (uniq ws.tail).length < ws.tail.length ∨ ¬ (ws.tail.all isNameB = true) then [] else ws.tail := fun c => by
    rw [hN, if_neg]
    rintro (e | e)
    · exact e hh
    · exact e c
  have worse : ¬ (a ≤ (ws.tail.length : Int) ∧ (ws.tail.length : Int) ≤ b) → LG.namesIn l h a b = [] := fun c => by
    rw [hN, if_pos (.inr c)]
  refine ite2 (fun c2 => ?_) (fun c2 => ?_)
  · refine ⟨_, rfl, _, _, rfl, rfl, _, rfl, ?_⟩
    by_cases c3 : (ws.tail.length : Int) ≤ b
    · rw [decide_eq_true c3]
      refine iteF ?_
      have gd2 := good ⟨of_decide_eq_true c2, c3⟩
      clear good worse
      refine ⟨_, rfl, p2, ws.tail, rfl, SqL.of hp2, by omega, _, rfl, p2, _, rfl, .inl (SqL.of hp2), _, _, rfl, rfl, _, rfl, ?_⟩
      rw [hlen]
      refine ite2 (fun c4 => ?_) (fun c4 => ?_)
      · refine ⟨(by show 0 ≤ sizeLine; decide), fun t nt => bad ?_ _ (Same.refl _) t nt⟩
        rw [gd2, if_pos]
        left
        have := of_decide_eq_true c4
        omega
      have c4' : ¬ (uniq ws.tail).length < ws.tail.length := fun z => c4 (decide_eq_true (by omega))
      refine ⟨_, rfl, p2, rfl, ⟨_, SqL.of hp2⟩, fun D nD => ?_⟩
      refine lc_all walk_list nD (fun i => V.bl (isNameB (ws.tail.getD i Str.empty))) ?_ (fun G sG => SqL.of (sG _ _ hp2)) ?_ ?_
      · rw [hlen, sizeLine_eq]
        omega
      · rintro i x G G' Kt hi sG ⟨rfl, hx⟩ hK
        rw [hlen] at hi
        rw [List.getElem?_map, List.getElem?_eq_getElem hi] at hx
        have ex : x = .str ws.tail[i] := (Option.some.inj hx).symm
        subst ex
        refine ⟨rfl, _, rfl, _, rfl, ?_, fun G4 s4 => ?_⟩
        · have := wb1 _ (List.mem_of_mem_tail (List.getElem_mem hi))
          omega
        · have := hK G4 s4
          rw [List.getD_eq_getElem?_getD, List.getElem?_eq_getElem hi] at this
          exact this
      · intro G sG hD
        rw [hlen, names_bits] at hD
        refine ⟨D, _, rfl, SqL.of hD, _, rfl, ?_⟩
        have ea : (ws.tail.map isNameB).all id = ws.tail.all isNameB := by
          rw [List.all_map]
          rfl
        rw [ea]
        by_cases c5 : ws.tail.all isNameB = true
        · rw [c5]
          refine iteF ⟨_, rfl, p2, _, rfl, .inl ⟨SqL.of (sG _ _ hp2), fun t nt => q t _ ((s2.trans sG).trans (same_new nt _)) ?_⟩⟩
          rw [gd2, if_neg (by rintro (z | z); exact c4' z; exact z c5)]
          exact .inl (.inl upd_same)
        · have c5' : ws.tail.all isNameB = false := by simpa using c5
          rw [c5']
          refine iteT ⟨(by show 0 ≤ sizeLine; decide), fun t nt => bad ?_ _ sG t nt⟩
          rw [gd2, if_pos (.inr c5)]
    · rw [decide_eq_false c3]
      refine iteT ⟨(by show 0 ≤ sizeLine; decide), fun t nt => bad (worse fun z => c3 z.2) _ (Same.refl _) t nt⟩
  · refine ⟨_, rfl, iteT ⟨(by show 0 ≤ sizeLine; decide), fun t nt => bad (worse fun z => c2 (decide_eq_true z.1)) _ (Same.refl _) t nt⟩⟩
end
end K51
set_option Elab.async false
set_option linter.all false
set_option maxRecDepth 100000
set_option maxHeartbeats 4000000
namespace LG
open PySem L2
/-- texts' tuples -/
def TxtT (K : PySem.W.Frag) (H : Hp) (v : V) (ns : List Str) : Prop := ∃ t, v = .ref t ∧ SqT K H t (ns.map V.str)
theorem TxtT.same {K : PySem.W.Frag} {H H' : Hp} {v : V} {ns : List Str} (e : Same H H') (h : TxtT K H v ns) : TxtT K H' v ns := by
  obtain ⟨t, h1, h2⟩ := h
  exact ⟨t, h1, same_tup e h2⟩
theorem tup_lst {K : PySem.W.Frag} {H : Hp} {p t : Addr} {xs ys zs : List V} (h : H p = some (.lst xs)) (q : SqT K H t zs) : SqT K (upd H p (.lst ys)) t zs := by
  rcases q with (q | ⟨o, q⟩) | q
  · exact .inl (.inl (by rw [upd_ne (fun z => by rw [z, h] at q; cases q)]; exact q))
  · exact .inl (.inr ⟨o, by rw [upd_ne (fun z => by rw [z, h] at q; cases q)]; exact q⟩)
  · exact .inr q
theorem TxtT.lst {K : PySem.W.Frag} {H : Hp} {p : Addr} {xs ys : List V} {v : V} {ns : List Str} (hp : H p = some (.lst xs)) (h : TxtT K H v ns) : TxtT K (upd H p (.lst ys)) v ns := by
  obtain ⟨t, h1, h2⟩ := h
  exact ⟨t, h1, tup_lst hp h2⟩
inductive TxtTs (K : PySem.W.Frag) (H : Hp) : List V → List (List Str) → Prop
  | nil : TxtTs K H [] []
  | cons {v : V} {ns : List Str} {vs : List V} {nss : List (List Str)} : TxtT K H v ns → TxtTs K H vs nss → TxtTs K H (v :: vs) (ns :: nss)
theorem TxtTs.same {K : PySem.W.Frag} {H H' : Hp} {vs : List V} {nss : List (List Str)} (e : Same H H') (h : TxtTs K H vs nss) : TxtTs K H' vs nss := by
  induction h with
  | nil => exact .nil
  | cons a _ ih => exact .cons (a.same e) ih
theorem TxtTs.snoc {K : PySem.W.Frag} {H : Hp} {vs : List V} {nss : List (List Str)} {v : V} {ns : List Str} (h : TxtTs K H vs nss) (a : TxtT K H v ns) : TxtTs K H (vs ++ [v]) (nss ++ [ns]) := by
  induction h with
  | nil => exact .cons a .nil
  | cons b _ ih => exact .cons b ih
theorem TxtTs.lst {K : PySem.W.Frag} {H : Hp} {p : Addr} {xs ys : List V} {vs : List V} {nss : List (List Str)} (h : TxtTs K H vs nss) (hp : H p = some (.lst xs)) : TxtTs K (upd H p (.lst ys)) vs nss := by
  induction h with
  | nil => exact .nil
  | cons a _ ih => exact .cons (a.lst hp) ih
theorem TxtTs.len {K : PySem.W.Frag} {H : Hp} {vs : List V} {nss : List (List Str)} (h : TxtTs K H vs nss) : vs.length = nss.length := by
  induction h with
  | nil => rfl
  | cons _ _ ih => rw [List.length_cons, List.length_cons, ih]
/-- the written table of the first lines -/
structure HeadsAt (K : PySem.W.Frag) (a : Addr) : Prop where
  ex : ∃ a0 a1 a2 : Addr, (∀ H, SqT K H a [.ref a0, .ref a1, .ref a2]) ∧ (∀ H, SqT K H a0 [.str "calls", .int 1, .int 3]) ∧ (∀ H, SqT K H a1 [.str "answers", .int 2, .int 3]) ∧ (∀ H, SqT K H a2 [.str "states", .int 1, .int 4])
theorem HeadsAt.at {K : PySem.W.Frag} {a : Addr} (h : HeadsAt K a) : ∃ hs : List Addr, hs.length = 3 ∧ (∀ H, SqT K H a (hs.map V.ref)) ∧ ∀ (i : Nat) (b : Addr), hs[i]? = some b → ∃ t, headsL[i]? = some t ∧ ∀ H, SqT K H b [.str t.1, .int t.2.1, .int t.2.2] := by
  obtain ⟨a0, a1, a2, h1, h2, h3, h4⟩ := h.ex
  refine ⟨[a0, a1, a2], rfl, h1, fun i b e => ?_⟩
  match i, e with
  | 0, e => cases e; exact ⟨_, rfl, h2⟩
  | 1, e => cases e; exact ⟨_, rfl, h3⟩
  | 2, e => cases e; exact ⟨_, rfl, h4⟩
  | n + 3, e => simp at e
theorem readHeads_bad {lines : List Str} {i : Nat} (hi : i < 3) (ok : ∀ j, j < i → headAt lines j ≠ []) (bad : headAt lines i = []) : readHeads lines = ((List.range i).map (headAt lines), i + 1) := by
  unfold readHeads
  match i, hi with
  | 0, _ => rw [if_pos bad]; rfl
  | 1, _ => rw [if_neg (ok 0 (by omega)), if_pos bad]; rfl
  | 2, _ => rw [if_neg (ok 0 (by omega)), if_neg (ok 1 (by omega)), if_pos bad]; rfl
theorem readHeads_ok {lines : List Str} (ok : ∀ j, j < 3 → headAt lines j ≠ []) : readHeads lines = ((List.range 3).map (headAt lines), 0) := by
  unfold readHeads
  rw [if_neg (ok 0 (by omega)), if_neg (ok 1 (by omega)), if_neg (ok 2 (by omega))]
  rfl
end LG
namespace K51
open PySem L2 LG
section
variable {P : Program} {w : World} {K : PySem.W.Frag} {mg : Str → Option Value} {base : Heap}
def spHeads (K : PySem.W.Frag) : Sp := fun vs H Q _ => ∃ (l hA : Addr) (lines : List Str), vs = [.ref l, .ref hA] ∧ HeadsAt K hA ∧ SqL K H l (lines.map V.str) ∧ (∀ t ∈ lines, t.length ≤ 3000) ∧ lines.length ≤ 4000 ∧
  ∀ (p q : Addr) (xs : List V) (H' : Hp), Same H H' → H q = none → SqT K H' p [.ref q, .int ((readHeads lines).2 : Nat)] → H' q = some (.lst xs) → TxtTs K H' xs (readHeads lines).1 → Q (.ref p) H'
abbrev nH : List Str := ["lines", "heads", "read", "at", "head", "fewest", "most", "names"]
theorem scHeads : FnScope nH ["lines", "heads"] (defScope sReadHeads) := ⟨rfl, rfl, rfl, by decide +kernel, rfl, by decide +kernel, by decide +kernel⟩
theorem ok_heads {f g : Addr} {fd gd : FuncData} (F : Fun K "read_heads" "read_heads" sReadHeads f fd) (T : Bltn mg) (G : FnOk P w K mg base CX0 2 g gd ["line", "head", "fewest", "most"] (spNames K)) (mG : mg "names_in" = some (.ref g)) (kG : PySem.W.keepIn K (.ref g) = true) (bG : Binds K gd ["line", "head", "fewest", "most"] []) :
    FnOk P w K mg base CX0 3 f fd ["lines", "heads"] (spHeads K) := by
  refine F.ok scHeads (fun vs H Q E h => ?_) (fun cdv A outer s H vs Q E hr h => ?_)
  · obtain ⟨l, hA, lines, rfl, _⟩ := h
    rfl
  obtain ⟨l, hA, lines, rfl, hA3, hl, hb, hn, q⟩ := h
  refine ⟨_, pss_cons (ps_set (i := 2) scHeads.nd rfl (Or.inl rfl) (pe_lst pa_nil))
    (pss_cons (ps_for PassesOwn.never rfl (pi_enumT rfl T.enumerate (pa_cons (pv 1) pa_nil))
        (pg_tup rfl (pgs_cons (pg_name (i := 3) scHeads.nd rfl (Or.inl rfl)) (pgs_cons (pg_tup rfl (pgs_cons (pg_name (i := 4) scHeads.nd rfl (Or.inl rfl)) (pgs_cons (pg_name (i := 5) scHeads.nd rfl (Or.inl rfl)) (pgs_cons (pg_name (i := 6) scHeads.nd rfl (Or.inl rfl)) pgs_nil)))) pgs_nil)))
      (pss_cons (ps_set (i := 7) scHeads.nd rfl (Or.inl rfl) (pe_ifExp (pt_cmpR op_lt (pv 3) (pe_callB call_len_seq rfl T.len PySem.boot_len (pa_cons (pv 0) pa_nil)) (nomark _))
          (pe_call G hr rfl mG kG bG .nil pass0 (pa_cons (pe_ix ix_list (pv 0) (pv 3) (fun _ _ => rfl)) (pa_cons (pv 4) (pa_cons (pv 5) (pa_cons (pv 6) pa_nil))))) (pe_tup pa_nil)))
      (pss_cons (ps_if (pt_not (pt_truth (pv 7) (by intro _; rfl))) (pss_one (ps_ret (pe_tup (pa_cons (pv 2) (pa_cons (pe_op op_add (pv 3) pe_int) pa_nil))))) pss_nil)
      (pss_one (ps_expr (pe_bm PySem.F.plainAttrs_list PySem.F.slot_list_append PySem.F.type_list_append mt_append (pv 2) (pa_cons (pv 7) pa_nil)))))))
    (pss_one (ps_ret (pe_tup (pa_cons (pv 2) (pa_cons pe_int pa_nil)))))), ?_⟩
  obtain ⟨hs, hs3, hsT, hsI⟩ := hA3.at
  refine ⟨(by show 0 ≤ sizeLine; decide), fun p np => ?_⟩
  have hp : (upd H p (.lst [])) p = some (.lst []) := upd_same
  have s1 := same_new np (.lst [])
  show _
  generalize upd H p (.lst []) = H1 at hp s1 ⊢
  refine ⟨_, rfl, hA, _, rfl, hsT H1, ?_⟩
  refine for_enumT (xs := hs.map V.ref) (fun i σ G => ∃ x3 x4 x5 x6 x7 xs, σ = [some (.ref l), some (.ref hA), some (.ref p), x3, x4, x5, x6, x7] ∧ Same H G ∧ G p = some (.lst xs) ∧ TxtTs K G xs ((List.range i).map (headAt lines)) ∧ ∀ j, j < i → headAt lines j ≠ [])
    ⟨_, _, _, _, _, [], rfl, s1, hp, .nil, fun j hj => absurd hj (by omega)⟩ (fun i σ G _ => hsT G) ?_ ?_
  · rintro i x T1 σ G hx ⟨x3, x4, x5, x6, x7, xs, rfl, sG, hG, tG, okG⟩ nT
    have hi : i < hs.length := by
      have := (List.getElem?_eq_some_iff.mp hx).1
      simpa using this
    rw [List.getElem?_map, List.getElem?_eq_getElem hi] at hx
    have ex : x = .ref hs[i] := (Option.some.inj hx).symm
    subst ex
    obtain ⟨⟨hd, fw, ms⟩, et, hb3⟩ := hsI i hs[i] (List.getElem?_eq_getElem hi)
    have sT := same_new nT (.tup [.int (i : Nat), .ref hs[i]])
    have hT : (upd G T1 (.tup [.int (i : Nat), .ref hs[i]])) T1 = some (.tup [.int (i : Nat), .ref hs[i]]) := upd_same
    show _
    generalize upd G T1 (.tup [.int (i : Nat), .ref hs[i]]) = G1 at sT hT ⊢
    refine ⟨T1, _, rfl, .inl (.inl hT), rfl, _, _, rfl, _, _, rfl, ⟨hs[i], _, rfl, hb3 G1, rfl, _, _, rfl, _, _, rfl, _, _, rfl, rfl, ?_⟩⟩
    have sG1 := sG.trans sT
    have lG1 : SqL K G1 l (lines.map V.str) := sG1.seq hl
    have hG1 := sT _ _ hG
    have tG1 := tG.same sT
    have i3 : i < 3 := by omega
    refine ⟨rfl, _, rfl, _, rfl, l, _, rfl, .inl lG1, _, _, rfl, rfl, _, rfl, ?_⟩
    rw [List.length_map]
    refine ite2 (fun c1 => ?_) (fun c1 => ?_)
    · have c1' : i < lines.length := by
        have := of_decide_eq_true c1
        omega
      refine ⟨_, rfl, _, rfl, l, _, _, _, rfl, rfl, lG1, atI_nat (by rw [List.getElem?_map, List.getElem?_eq_getElem c1']; rfl), _, rfl, _, rfl, _, rfl, lines[i], hd, fw, ms, rfl, hb _ (List.getElem_mem c1'), fun t G2 s2 ht => ?_⟩
      have eh : headAt lines i = LG.namesIn lines[i] hd fw ms := by
        unfold headAt
        rw [et, List.getElem?_eq_getElem c1']
      rw [← eh] at ht
      have hG2 := s2 _ _ hG1
      have tG2 := tG1.same s2
      have sG2 := sG1.trans s2
      by_cases e0 : headAt lines i = []
      · rw [e0] at ht
        refine ⟨_, rfl, false, .inr (.inl ⟨[], ht, rfl⟩), iteT ⟨_, rfl, _, rfl, _, _, rfl, rfl, (by show 2 ≤ sizeLine; decide), fun t2 n2 => ?_⟩⟩
        have s3 := same_new n2 (.tup [.ref p, .int ((i : Nat) + 1 : Int)])
        refine q t2 p xs _ (sG2.trans s3) np ?_ (s3 _ _ hG2) ?_
        · rw [readHeads_bad i3 okG e0]
          exact .inl (.inl upd_same)
        · rw [readHeads_bad i3 okG e0]
          exact tG2.same s3
      · obtain ⟨n0, nr, en⟩ : ∃ n0 nr, headAt lines i = n0 :: nr := by
          cases hh : headAt lines i with
          | nil => exact absurd hh e0
          | cons a b => exact ⟨a, b, rfl⟩
        have lx := tG2.len
        rw [List.length_map, List.length_range] at lx
        refine ⟨_, rfl, true, .inr (.inl ⟨_, ht, ?_⟩), iteF ⟨_, rfl, .inl ⟨rfl, _, SqL.of hG2⟩, _, rfl, p, _, _, rfl, rfl, hG2, ?_, ?_⟩⟩
        · rw [en]
          rfl
        · rw [lx, sizeLine_eq]
          omega
        · refine ⟨_, _, _, _, _, xs ++ [.ref t], rfl, fun b o e => ?_, upd_same, ?_, fun j hj => ?_⟩
          · rw [upd_ne (ne_of_none e np)]
            exact sG2 _ _ e
          · rw [List.range_succ, List.map_append]
            exact (tG2.lst hG2).snoc ⟨t, rfl, tup_lst hG2 ht⟩
          · by_cases ej : j = i
            · rw [ej]
              exact e0
            · exact okG j (by omega)
    · have e0 : headAt lines i = [] := by
        have : lines[i]? = none := by
          rw [List.getElem?_eq_none_iff]
          have : ¬ ((i : Int) < (lines.length : Int)) := fun z => c1 (decide_eq_true z)
          omega
        unfold headAt
        rw [this]
        cases headsL[i]? <;> rfl
      refine ⟨(by show 0 ≤ sizeLine; decide), fun t nt => ?_⟩
      have s2 := same_new nt (.tup [])
      have ht : (upd G1 t (.tup [])) t = some (.tup []) := upd_same
      show _
      generalize upd G1 t (.tup []) = G2 at s2 ht ⊢
      refine ⟨_, rfl, false, .inr (.inl ⟨[], .inl (.inl ht), rfl⟩), iteT ⟨_, rfl, _, rfl, _, _, rfl, rfl, (by show 2 ≤ sizeLine; decide), fun t2 n2 => ?_⟩⟩
      have s3 := same_new n2 (.tup [.ref p, .int ((i : Nat) + 1 : Int)])
      refine q t2 p xs _ ((sG1.trans s2).trans s3) np ?_ (s3 _ _ (s2 _ _ hG1)) ?_
      · rw [readHeads_bad i3 okG e0]
        exact .inl (.inl upd_same)
      · rw [readHeads_bad i3 okG e0]
        exact (tG1.same s2).same s3
  · rintro σ G ⟨x3, x4, x5, x6, x7, xs, rfl, sG, hG, tG, okG⟩
    rw [List.length_map, hs3] at tG okG
    refine ⟨_, rfl, (by show 2 ≤ sizeLine; decide), fun t2 n2 => ?_⟩
    have s3 := same_new n2 (.tup [.ref p, .int 0])
    refine q t2 p xs _ (sG.trans s3) np ?_ (s3 _ _ hG) ?_
    · rw [readHeads_ok okG]
      exact .inl (.inl upd_same)
    · rw [readHeads_ok okG]
      exact tG.same s3
end
end K51
set_option Elab.async false
set_option linter.all false
set_option maxRecDepth 100000
set_option maxHeartbeats 4000000
namespace LG
open PySem L2
theorem inV_str (x : Str) (ns : List Str) : inV (.str x) (ns.map V.str) = ns.contains x := by
  unfold inV
  rw [List.any_map, List.contains_eq_any_beq]
  congr 1
  funext y
  show (y == x) = (x == y)
  by_cases h : y = x
  · rw [h]
  · have h1 : (y == x) = false := by simpa using h
    have h2 : (x == y) = false := by simpa using fun z : x = y => h z.symm
    rw [h1, h2]
theorem iteC {c : Bool} {A B : Prop} (hc : c = true) (h : A) : if c = true then A else B := by
  rw [if_pos hc]
  exact h
theorem iteN {c : Bool} {A B : Prop} (hc : c = false) (h : B) : if c = true then A else B := by
  rw [hc]
  exact iteF h
theorem flat_txt (ns : List Str) : (ns.map V.str).all flatV = true := by
  rw [List.all_eq_true]
  intro y hy
  obtain ⟨_, _, rfl⟩ := List.mem_map.mp hy
  rfl
/-- x in texts, x a text -/
def rInTxt (K : PySem.W.Frag) : R2 := fun x y H Q => ∃ (z : Str) (p : Addr) (ns : List Str), x = .str z ∧ y = .ref p ∧ (SqL K H p (ns.map V.str) ∨ SqT K H p (ns.map V.str)) ∧ Q (.bl (ns.contains z)) H
theorem op_in_txt {X : Cx} : OpR X (compareOp .In) (rInTxt X.K) := by
  intro pins s σ H x y v u Q I rx ry h
  obtain ⟨z, p, ns, rfl, rfl, hq, q⟩ := h
  refine op_in_seq pins s σ H _ _ v u Q I rx ry ⟨p, _, rfl, hq, rfl, flat_txt ns, ?_⟩
  rw [inV_str]
  exact q
/-- a text, or of a type that is no text's -/
def StrOr (K : PySem.W.Frag) (H : Hp) (v : V) : Prop := (∃ x, v = .str x) ∨ ∃ t, TyX K H v t ∧ PySem.W.kitOne K t (.type "str") = some false ∧ ∀ x, v ≠ .str x
def amongB (v : V) (ns : List Str) : Bool := match v with
  | .str x => ns.contains x
  | _ => false
theorem among_not {v : V} {ns : List Str} (h : ∀ x, v ≠ .str x) : amongB v ns = false := by
  cases v with
  | str x => exact absurd rfl (h x)
  | _ => rfl
end LG
namespace K51
open PySem L2 LG
section
variable {P : Program} {w : World} {K : PySem.W.Frag} {mg : Str → Option Value} {base : Heap}
def spAmong (K : PySem.W.Frag) : Sp := fun vs H Q _ => ∃ (v : V) (t : Addr) (ns : List Str), vs = [v, .ref t] ∧ StrOr K H v ∧ (SqL K H t (ns.map V.str) ∨ SqT K H t (ns.map V.str)) ∧ Q (.bl (amongB v ns)) H
theorem scAmong : FnScope ["value", "names"] ["value", "names"] (defScope sIsAmong) := ⟨rfl, rfl, rfl, by decide +kernel, rfl, by decide +kernel, by decide +kernel⟩
theorem ok_among {f : Addr} {fd : FuncData} (F : Fun K "is_among" "is_among" sIsAmong f fd) (T : Bltn mg) : FnOk P w K mg base CX0 1 f fd ["value", "names"] (spAmong K) := by
  refine F.ok scAmong (fun vs H Q E h => ?_) (fun cdv A outer s H vs Q E hr h => ?_)
  · obtain ⟨v, t, ns, rfl, _⟩ := h
    rfl
  obtain ⟨v, t, ns, rfl, ty, hq, q⟩ := h
  refine ⟨_, pss_one (ps_ret (pe_and (pe_callB call_isi rfl T.isinstance (by decide +kernel) (pa_cons (pv 0) (pa_cons (pe_bltn (v := .ty "str") (u := .type "str") rfl T.str (by decide +kernel) rfl) pa_nil))) (pe_one (pe_cmpR op_in_txt (pv 0) (pv 1) (by rfl))))), ?_⟩
  rcases ty with ⟨x, rfl⟩ | ⟨tv, ty, k, no⟩
  · refine ⟨_, rfl, .str x, .ty "str", .type "str", .type "str", true, rfl, .ty _, .base (.str x), if_pos (beq_self_eq_true _), _, rfl, iteT ⟨_, rfl, _, rfl, x, t, ns, rfl, rfl, hq, q⟩⟩
  · refine ⟨_, rfl, v, .ty "str", tv, .type "str", false, rfl, .ty _, ty, k, _, rfl, iteF ?_⟩
    rw [among_not no] at q
    exact q
def spLine (K : PySem.W.Frag) : Sp := fun vs H Q _ => ∃ (l c a s : Addr) (ws C A S : List Str), vs = [.ref l, .ref c, .ref a, .ref s] ∧ SqL K H l (ws.map V.str) ∧ SqT K H c (C.map V.str) ∧ SqT K H a (A.map V.str) ∧ SqT K H s (S.map V.str) ∧ Q (.bl (isLine ws C A S)) H
theorem scLine : FnScope ["words", "calls", "answers", "states"] ["words", "calls", "answers", "states"] (defScope sIsLine) := ⟨rfl, rfl, rfl, by decide +kernel, rfl, by decide +kernel, by decide +kernel⟩
theorem ok_line {f : Addr} {fd : FuncData} (F : Fun K "is_line_of_row" "is_line_of_row" sIsLine f fd) (T : Bltn mg) : FnOk P w K mg base CX0 1 f fd ["words", "calls", "answers", "states"] (spLine K) := by
  refine F.ok scLine (fun vs H Q E h => ?_) (fun cdv A0 outer st H vs Q E hr h => ?_)
  · obtain ⟨l, c, a, s, ws, C, A, S, rfl, _⟩ := h
    rfl
  obtain ⟨l, c, a, s, ws, C, A, S, rfl, hl, hc, ha, hs, q⟩ := h
  refine ⟨_, pss_cons (ps_if (PW.pt (pw_or (pt_cmpR op_ne (pe_callB call_len_seq rfl T.len PySem.boot_len (pa_cons (pv 0) pa_nil)) pe_int (nomark _)) (pw_or1 (pt_cmpR op_ne (pe_ix ix_list (pv 0) pe_int (fun _ _ => rfl)) pe_str (nomark _)))))
      (pss_one (ps_ret pe_bl)) pss_nil)
    (pss_one (ps_ret (pe_and (pe_cmpR op_in_txt (pe_ix ix_list (pv 0) pe_int (fun _ _ => rfl)) (pv 3) (by rfl)) (pe_and (pe_cmpR op_in_txt (pe_ix ix_list (pv 0) pe_int (fun _ _ => rfl)) (pv 1) (by rfl))
      (pe_and (pe_cmpR op_in_txt (pe_ix ix_list (pv 0) pe_int (fun _ _ => rfl)) (pv 2) (by rfl)) (pe_one (pe_cmpR op_in_txt (pe_ix ix_list (pv 0) pe_int (fun _ _ => rfl)) (pv 3) (by rfl)))))))), ?_⟩
  refine ⟨_, rfl, l, _, rfl, .inl hl, rfl, _, rfl, ?_⟩
  rw [List.length_map]
  by_cases h5 : ws.length = 5
  · obtain ⟨x0, x1, x2, x3, x4, rfl⟩ : ∃ x0 x1 x2 x3 x4, ws = [x0, x1, x2, x3, x4] := by
      match ws, h5 with
      | [x0, x1, x2, x3, x4], _ => exact ⟨_, _, _, _, _, rfl⟩
    refine iteF ⟨_, rfl, l, _, _, _, rfl, rfl, hl, atI_nat (j := 0) rfl, rfl, _, rfl, ?_⟩
    have e : isLine [x0, x1, x2, x3, x4] C A S = (decide (x0 = "row") && (S.contains x1 && (C.contains x2 && (A.contains x3 && S.contains x4)))) := rfl
    rw [e] at q
    have i1 : atI ([x0, x1, x2, x3, x4].map V.str) 1 = some (.str x1) := rfl
    have i2 : atI ([x0, x1, x2, x3, x4].map V.str) 2 = some (.str x2) := rfl
    have i3 : atI ([x0, x1, x2, x3, x4].map V.str) 3 = some (.str x3) := rfl
    have i4 : atI ([x0, x1, x2, x3, x4].map V.str) 4 = some (.str x4) := rfl
    by_cases h0 : x0 = "row"
    · rw [decide_eq_true h0, Bool.true_and] at q
      subst h0
      refine iteF ⟨_, rfl, l, _, _, _, rfl, rfl, hl, i1, _, rfl, _, s, S, rfl, rfl, .inr hs, _, rfl, ?_⟩
      cases e1 : S.contains x1 with
      | false =>
        rw [e1] at q
        exact iteF q
      | true =>
        rw [e1, Bool.true_and] at q
        refine iteT ⟨_, rfl, l, _, _, _, rfl, rfl, hl, i2, _, rfl, _, c, C, rfl, rfl, .inr hc, _, rfl, ?_⟩
        cases e2 : C.contains x2 with
        | false =>
          rw [e2] at q
          exact iteF q
        | true =>
          rw [e2, Bool.true_and] at q
          refine iteT ⟨_, rfl, l, _, _, _, rfl, rfl, hl, i3, _, rfl, _, a, A, rfl, rfl, .inr ha, _, rfl, ?_⟩
          cases e3 : A.contains x3 with
          | false =>
            rw [e3] at q
            exact iteF q
          | true =>
            rw [e3, Bool.true_and] at q
            exact iteT ⟨_, rfl, l, _, _, _, rfl, rfl, hl, i4, _, rfl, _, s, S, rfl, rfl, .inr hs, q⟩
    · rw [decide_eq_false h0, Bool.false_and] at q
      have ne : (!decide ((V.str x0) = V.str "row")) = true := by simp [h0]
      exact iteC ne q
  · have e : isLine ws C A S = false := by
      unfold isLine
      split
      · rename_i r s c a g
        exact absurd rfl h5
      · rfl
    rw [e] at q
    have ne : (!decide (V.int (ws.length : Nat) = V.int 5)) = true := by
      have : ¬ ((ws.length : Int) = 5) := by omega
      simp [this]
    exact iteC ne (iteT q)
end
end K51
set_option Elab.async false
set_option linter.all false
set_option maxRecDepth 100000
set_option maxHeartbeats 4000000
namespace LG
open PySem L2
/-! ### errors that keep one value, raised -/
def vf (v : V) : List (Str × V) := [(("value" : Str), v)]
theorem vf_get (v : V) : (vf v).lookup ("value" : Str) = some v := by
  unfold vf
  simp [List.lookup]
def spInit (K : PySem.W.Frag) : Sp := fun vs H Q _ => ∃ (a C : Addr) (v : V), vs = [.ref a, v] ∧ OexC K C ∧ PySem.W.findIn K (.ref C) "value" = some none ∧ H a = some (exo a C none) ∧
  ∀ d, H d = none → d ≠ a → Q .non (upd (upd H d (exd d (vf v))) a (exo a C (some d)))
/-- a class of errors by its name -/
structure ECl (K : PySem.W.Frag) (mg : Str → Option Value) (fI : Addr) (x : Str) (C : Addr) : Prop where
  mg : mg x = some (.ref C)
  er : ErrC K C
  ini : PySem.W.findIn K (.ref C) "__init__" = some (some (.ref fI))
  no : PySem.W.findIn K (.ref C) "value" = some none
/-- the init as a callee -/
structure Ini (P : Program) (w : World) (K : PySem.W.Frag) (mg : Str → Option Value) (base : Heap) (fI : Addr) : Prop where
  ex : ∃ fd, FnOk P w K mg base CX0 1 fI fd ["self", "value"] (spInit K) ∧ Binds K fd ["self", "value"] []
  ty : PySem.W.typeIn K (.ref fI) = some (.type "function")
/-- any reading is as good as one from which it follows -/
theorem pe_mono {X : Cx} {e : Expr} {te : TE} (h : PE X e te) : PE X e (fun σ H Q => ∃ R : VK, te σ H R ∧ ∀ v H1, R v H1 → Q v H1) :=
  ⟨fun pins s σ H Q I ⟨R, q, k⟩ => thn (h.run pins s σ H R I q) fun u s1 ⟨v, H1, I1, r, q1⟩ => ⟨v, H1, I1, r, k v H1 q1⟩⟩
/-- raise X(e): the error's own dict at a new d -/
def tErrR (C : Addr) (W : WX) (te : TE) : TS := fun _ σ H => te σ H fun v H1 => ∀ d, H1 d = none → W (.ref C) (some d) σ (upd H1 d (.xd (vf v)))
theorem ps_err {X : Cx} {C fI : Addr} {x : Str} {e : Expr} {te : TE} {W : WX} {p1 pos pos2 : Pos} (hc : X.calm = true) (I : Ini X.prog X.w X.K X.mg X.base fI) (c : ECl X.K X.mg fI x C) (hr : Room 2 X.A) (tk : Takes X W) (he : PE X e te) (hg : Gl X x) (hdb : (x == ("__debug__" : Str)) = false := by decide)
    (hs : starEach [e] X.env = (false, eval e X.env) :: starEach [] X.env := by rfl) (hpl : (backTo pos (starEach [] X.env)).any (·.1) = false := by rfl) :
    PS X (.Raise (some (.Call (.Name x p1) [e] [] pos)) none pos2) (tErrR C W te) := by
  obtain ⟨fd, G, bG⟩ := I.ex
  have h := ps_raise (pos := pos2) hc tk (pmk_oex (p := p1) (dvs := []) (pos := pos) c.er.ox c.ini I.ty G hr bG .nil pass0 hg c.mg (pa_cons (pe_mono he) pa_nil hs) hdb hs hpl)
  refine ⟨fun pins s σ H D J q => h.run pins s σ H D J ⟨_, q, ?_⟩⟩
  intro v H1 k
  refine ⟨(by show 1 ≤ 1000; decide), fun a na => ⟨a, C, v, rfl, c.er.ox, c.no, upd_same, fun d nd ne => ⟨rfl, d, vf v, upd_same, ?_, ?_, ?_⟩⟩⟩
  · rw [upd_ne ne, upd_same]
  · rw [upd_ne ne] at nd
    exact nd
  · rw [upd_ne ne] at nd
    have e : upd (del (upd (upd (upd H1 a (exo a C none)) d (exd d (vf v))) a (exo a C (some d))) a) d (.xd (vf v)) = upd H1 d (.xd (vf v)) := by
      funext b
      by_cases hb : b = d
      · rw [hb, upd_same, upd_same]
      · rw [upd_ne hb, upd_ne hb]
        by_cases ha : b = a
        · rw [ha, del_same, na]
        · rw [del_ne ha, upd_ne ha, upd_ne hb, upd_ne ha]
    rw [e]
    exact k d nd
end LG
set_option Elab.async false
set_option linter.all false
set_option maxRecDepth 100000
set_option maxHeartbeats 8000000
namespace LG
open PySem L2
/-! ### rows by (state, call) -/
abbrev Goals := List ((Str × Str) × (Str × Str))
def kT (k : Str × Str) : List Key := [.inr k.1, .inr k.2]
inductive GR (K : PySem.W.Frag) (H : Hp) : List (List Key × V) → Goals → Prop
  | nil : GR K H [] []
  | cons {k x : Str × Str} {t : Addr} {kvs : List (List Key × V)} {g : Goals} : SqT K H t [.str x.1, .str x.2] → GR K H kvs g → GR K H ((kT k, .ref t) :: kvs) ((k, x) :: g)
theorem GR.same {K : PySem.W.Frag} {H H' : Hp} {kvs : List (List Key × V)} {g : Goals} (e : Same H H') (h : GR K H kvs g) : GR K H' kvs g := by
  induction h with
  | nil => exact .nil
  | cons a _ ih => exact .cons (same_tup e a) ih
theorem GR.len {K : PySem.W.Frag} {H : Hp} {kvs : List (List Key × V)} {g : Goals} (h : GR K H kvs g) : kvs.length = g.length := by
  induction h with
  | nil => rfl
  | cons _ _ ih => rw [List.length_cons, List.length_cons, ih]
theorem kT_inj {a b : Str × Str} : kT a = kT b ↔ a = b := by
  constructor
  · intro h
    simp [kT] at h
    exact Prod.ext h.1 h.2
  · rintro rfl
    rfl
theorem GR.snoc {K : PySem.W.Frag} {H : Hp} {kvs : List (List Key × V)} {g : Goals} {k x : Str × Str} {t : Addr} (h : GR K H kvs g) (a : SqT K H t [.str x.1, .str x.2]) : GR K H (kvs ++ [(kT k, .ref t)]) (g ++ [(k, x)]) := by
  induction h with
  | nil => exact .cons a .nil
  | cons b _ ih => exact .cons b ih
theorem GR.val {K : PySem.W.Frag} {H : Hp} {kvs : List (List Key × V)} {g : Goals} (h : GR K H kvs g) (k : Str × Str) :
    (g.lookup k = none ∧ valV kvs (kT k) = none) ∨ ∃ x t, g.lookup k = some x ∧ valV kvs (kT k) = some (.ref t) ∧ SqT K H t [.str x.1, .str x.2] := by
  induction h with
  | nil => exact .inl ⟨rfl, rfl⟩
  | @cons j x t kvs g a _ ih =>
    by_cases e : j = k
    · subst e
      exact .inr ⟨x, t, by simp [List.lookup], valV_pos rfl, a⟩
    · have ne : (k == j) = false := by simpa using fun z : k = j => e z.symm
      have l : List.lookup k ((j, x) :: g) = List.lookup k g := by simp [List.lookup, ne]
      rw [l, valV_neg (fun z => e (kT_inj.mp z))]
      exact ih
theorem GR.upd {K : PySem.W.Frag} {H : Hp} {kvs : List (List Key × V)} {g : Goals} {p : Addr} {o : HO} {zs : List (List Key × V)} (hp : H p = some (.dT zs)) (h : GR K H kvs g) : GR K (upd H p o) kvs g := by
  induction h with
  | nil => exact .nil
  | cons a _ ih =>
    refine .cons ?_ ih
    rcases a with (q | ⟨ob, q⟩) | q
    · exact .inl (.inl (by rw [upd_ne (fun z => by rw [z, hp] at q; cases q)]; exact q))
    · exact .inl (.inr ⟨ob, by rw [upd_ne (fun z => by rw [z, hp] at q; cases q)]; exact q⟩)
    · exact .inr q
theorem step_bad {C A S : List Str} {g : Goals} {line : Str} (h : isLine (Txt.split line sp1) C A S = false) : goalStep C A S g line = none := by
  unfold goalStep
  split
  · rename_i e
    rw [e] at h
    rw [if_neg (by rw [h]; simp)]
  · rfl
theorem step_two {C A S : List Str} {g : Goals} {line r s c a t : Str} {x : Str × Str} (e : Txt.split line sp1 = [r, s, c, a, t]) (h : g.lookup (s, c) = some x) : goalStep C A S g line = none := by
  unfold goalStep
  rw [e]
  show (if _ then _ else _) = _
  rw [if_neg (by rw [h]; simp)]
theorem step_ok {C A S : List Str} {g : Goals} {line r s c a t : Str} (e : Txt.split line sp1 = [r, s, c, a, t]) (hl : isLine [r, s, c, a, t] C A S = true) (h : g.lookup (s, c) = none) : goalStep C A S g line = some (g ++ [((s, c), (a, t))]) := by
  unfold goalStep
  rw [e]
  show (if _ then _ else _) = _
  rw [if_pos ⟨hl, by rw [h]; rfl⟩]
theorem line_form {ws C A S : List Str} (h : isLine ws C A S = true) : ∃ r s c a t, ws = [r, s, c, a, t] := by
  unfold isLine at h
  split at h
  · exact ⟨_, _, _, _, _, rfl⟩
  · cases h
theorem read_bad {lines C A S : List Str} {n : Nat} (h : goalsFrom C A S (lines.drop 3) 3 [] = .inl n) : readGoals lines C A S = .inl n := by
  unfold readGoals
  rw [h]
def GoalsW (K : PySem.W.Frag) (H : Hp) (a : Addr) (g : Goals) : Prop := ∃ kvs, H a = some (.dT kvs) ∧ GR K H kvs g
/-- to be read -/
def GoalsAt (K : PySem.W.Frag) (H : Hp) (a : Addr) (g : Goals) : Prop := ∃ kvs, Rd H a (.dT kvs) ∧ GR K H kvs g
theorem rd_same {H H' : Hp} {a : Addr} {u : HO} (e : Same H H') (h : Rd H a u) : Rd H' a u := h.elim (fun q => .inl (e _ _ q)) fun ⟨o, q⟩ => .inr ⟨o, e _ _ q⟩
theorem GoalsAt.same {K : PySem.W.Frag} {H H' : Hp} {a : Addr} {g : Goals} (e : Same H H') (h : GoalsAt K H a g) : GoalsAt K H' a g := by
  obtain ⟨kvs, h1, h2⟩ := h
  exact ⟨kvs, rd_same e h1, h2.same e⟩
end LG
namespace K51
open PySem L2 LG
section
variable {P : Program} {w : World} {K : PySem.W.Frag} {mg : Str → Option Value} {base : Heap} {fI : Addr}
def spGoals (K : PySem.W.Frag) (CB : Addr) : Sp := fun vs H Q E => ∃ (l c a s : Addr) (lines C A S : List Str), vs = [.ref l, .ref c, .ref a, .ref s] ∧ SqL K H l (lines.map V.str) ∧ (∀ t ∈ lines, t.length ≤ 3000) ∧ lines.length ≤ 4000 ∧
  SqT K H c (C.map V.str) ∧ SqT K H a (A.map V.str) ∧ SqT K H s (S.map V.str) ∧ C.length ≤ 1000 ∧ S.length ≤ 1000 ∧
  (∀ g, readGoals lines C A S = .inr g → ∀ p H', Same H H' → H p = none → GoalsAt K H' p g → Q (.ref p) H') ∧
  (∀ n : Nat, readGoals lines C A S = .inl n → ∀ d H', Same H H' → H d = none → H' d = some (.xd (vf (.int n))) → E (.ref CB) (some d) H')
abbrev nG : List Str := ["lines", "calls", "answers", "states", "goals", "at", "words"]
theorem scGoals : FnScope nG ["lines", "calls", "answers", "states"] (defScope sReadGoals) := ⟨rfl, rfl, rfl, by decide +kernel, rfl, by decide +kernel, by decide +kernel⟩
theorem ok_goals {f g hA CB : Addr} {fd gd : FuncData} (F : Fun K "read_goals" "read_goals" sReadGoals f fd) (T : Bltn mg) (hH : mg "HEADS" = some (.ref hA)) (HA : HeadsAt K hA) (I : Ini P w K mg base fI) (cB : ECl K mg fI "BadDevice" CB)
    (G : FnOk P w K mg base CX0 1 g gd ["words", "calls", "answers", "states"] (spLine K)) (mG : mg "is_line_of_row" = some (.ref g)) (kG : PySem.W.keepIn K (.ref g) = true) (bG : Binds K gd ["words", "calls", "answers", "states"] []) :
    FnOk P w K mg base (L2.CX P w) 3 f fd ["lines", "calls", "answers", "states"] (spGoals K CB) := by
  refine F.okX scGoals (fun vs H Q E h => ?_) (fun cdv A0 outer st H vs Q E hr h => ?_)
  · obtain ⟨l, c, a, s, lines, C, A, S, rfl, _⟩ := h
    rfl
  obtain ⟨l, c, a, s, lines, C, A, S, rfl, hl, hb, hn, hc, ha, hs, lC, lS, qok, qbad⟩ := h
  have hu := hu_of hr
  have r1 : Room 1 _ := hr.mono (by decide)
  have tk := takes_of (X := cxOf (L2.CX P w) P w K mg base nG "read_goals" (defScope sReadGoals) f cdv A0 outer st H E) rfl rfl rfl rfl
  refine ⟨_, pss_cons (ps_set (i := 4) scGoals.nd rfl (Or.inl rfl) pe_dnewT)
    (pss_cons (ps_for (passes_of rfl) rfl (pi_range2 rfl T.range (pa_cons (pe_callB call_len_seq rfl T.len PySem.boot_len (pa_cons (pe_glob (v := .ref hA) rfl hH rfl) pa_nil)) (pa_cons (pe_callB call_len_seq rfl T.len PySem.boot_len (pa_cons (pv 0) pa_nil)) pa_nil))) (pg_name (i := 5) scGoals.nd rfl (Or.inl rfl))
      (pss_cons (ps_set (i := 6) scGoals.nd rfl (Or.inl rfl) (pe_split (pe_ix ix_list (pv 0) (pv 5) (fun _ _ => rfl)) pe_str))
      (pss_cons (ps_if (PW.pt (pw_or (pt_not (pt_val (pe_call G r1 rfl mG kG bG .nil pass0 (pa_cons (pv 6) (pa_cons (pv 1) (pa_cons (pv 2) (pa_cons (pv 3) pa_nil))))))) (pw_or1 (pt_cmp (pc_din hu (pe_tup (pa_cons (pe_ix ix_list (pv 6) pe_int (fun _ _ => rfl)) (pa_cons (pe_ix ix_list (pv 6) pe_int (fun _ _ => rfl)) pa_nil))) (pv 4))))))
        (pss_one (ps_err rfl I cB hr tk (pe_op op_add (pv 5) pe_int) rfl)) pss_nil)
      (pss_one (ps_dput hu (pv 4) (pe_tup (pa_cons (pe_ix ix_list (pv 6) pe_int (fun _ _ => rfl)) (pa_cons (pe_ix ix_list (pv 6) pe_int (fun _ _ => rfl)) pa_nil))) (pe_tup (pa_cons (pe_ix ix_list (pv 6) pe_int (fun _ _ => rfl)) (pa_cons (pe_ix ix_list (pv 6) pe_int (fun _ _ => rfl)) pa_nil))) rfl)))))
    (pss_cons (ps_if (pt_cmpR op_lt (pe_callB call_len_dT rfl T.len PySem.boot_len (pa_cons (pv 4) pa_nil)) (pe_op op_mul (pe_callB call_len_seq rfl T.len PySem.boot_len (pa_cons (pv 3) pa_nil)) (pe_callB call_len_seq rfl T.len PySem.boot_len (pa_cons (pv 1) pa_nil))) (nomark _))
        (pss_one (ps_err rfl I cB hr tk (pe_op op_add (pe_callB call_len_seq rfl T.len PySem.boot_len (pa_cons (pv 0) pa_nil)) pe_int) rfl)) pss_nil)
    (pss_one (ps_ret (pv 4))))), ?_⟩
  intro p np
  have hp : (upd H p (.dT [])) p = some (.dT []) := upd_same
  have s1 := same_new np (.dT [])
  show _
  generalize upd H p (.dT []) = H1 at hp s1 ⊢
  obtain ⟨hs0, hs3, hsT, _⟩ := HA.at
  refine ⟨hA, _, rfl, .inr (hsT H1), _, rfl, l, _, rfl, .inl (s1.seq hl), _, _, rfl, ?_⟩
  have e3 : ((hs0.map V.ref).length : Int) = 3 := by
    rw [List.length_map, hs3]
    rfl
  have en : ((lines.map V.str).length : Int) = (lines.length : Int) := by rw [List.length_map]
  rw [e3, en]
  refine ⟨⟨by decide, by decide, by omega, by omega⟩, ?_⟩
  have start : goalsFrom C A S (lines.drop 3) 3 [] = goalsFrom C A S (lines.drop (3 + 0)) (3 + 0) [] := rfl
  refine for_range (lo := 3) (n := ((lines.length : Int) - 3).toNat) (fun i σ G => ∃ x5 x6 g, σ = [some (.ref l), some (.ref c), some (.ref a), some (.ref s), some (.ref p), x5, x6] ∧ Same H G ∧ GoalsW K G p g ∧ g.length ≤ i ∧ goalsFrom C A S (lines.drop 3) 3 [] = goalsFrom C A S (lines.drop (3 + i)) (3 + i) g)
    ⟨_, _, [], rfl, s1, ⟨[], hp, .nil⟩, by simp, rfl⟩ ?_ ?_
  · rintro i σ G hi ⟨x5, x6, g, rfl, sG, ⟨kvs, hG, rG⟩, hgi, eG⟩
    have lt : 3 + i < lines.length := by omega
    have lG := sG.seq hl
    rw [List.drop_eq_getElem_cons lt] at eG
    have i3 : ((3 : Int) + (i : Int)) = ((3 + i : Nat) : Int) := by omega
    refine ⟨_, rfl, _, rfl, l, _, _, _, rfl, rfl, lG, ?_, ⟨_, rfl⟩, lines[3 + i], sp1, rfl, rfl, rfl, ?_, fun q nq => ?_⟩
    · rw [i3]
      exact atI_nat (by rw [List.getElem?_map, List.getElem?_eq_getElem lt]; rfl)
    · have := hb _ (List.getElem_mem lt)
      rw [sizeLine_eq]
      omega
    have hws : isLine (Txt.split lines[3 + i] sp1) C A S = isLine (Txt.split lines[3 + i] sp1) C A S := rfl
    generalize hw : Txt.split lines[3 + i] sp1 = ws at hws
    have hq : (upd G q (.lst (ws.map V.str))) q = some (.lst (ws.map V.str)) := upd_same
    have s2 := same_new nq (.lst (ws.map V.str))
    show _
    generalize upd G q (.lst (ws.map V.str)) = G1 at hq s2 ⊢
    have sG1 := sG.trans s2
    have hq' : SqL K G1 q (ws.map V.str) := SqL.of hq
    refine ⟨_, rfl, _, rfl, _, rfl, _, rfl, q, c, a, s, ws, C, A, S, rfl, hq', same_tup sG1 hc, same_tup sG1 ha, same_tup sG1 hs, _, rfl, ?_⟩
    cases hline : isLine ws C A S with
    | false =>
      refine iteT (iteT ⟨_, rfl, _, _, rfl, rfl, fun d nd => ?_⟩)
      have s3 := same_new nd (.xd (vf (.int (3 + (i : Int) + 1))))
      have eb : readGoals lines C A S = .inl (3 + i + 1) := read_bad (by
        rw [eG]
        show (match goalStep C A S g lines[3 + i] with | none => _ | some g' => _) = _
        rw [step_bad (by rw [hw]; exact hline)])
      refine qbad _ eb d _ (sG1.trans s3) (sG1.free nd) ?_
      rw [upd_same]
      have e4 : (((3 + i + 1 : Nat) : Nat) : Int) = 3 + (i : Int) + 1 := by omega
      rw [e4]
    | true =>
      obtain ⟨x0, x1, x2, x3, x4, rfl⟩ := line_form hline
      have i1 : atI ([x0, x1, x2, x3, x4].map V.str) 1 = some (.str x1) := rfl
      have i2 : atI ([x0, x1, x2, x3, x4].map V.str) 2 = some (.str x2) := rfl
      have i3' : atI ([x0, x1, x2, x3, x4].map V.str) 3 = some (.str x3) := rfl
      have i4 : atI ([x0, x1, x2, x3, x4].map V.str) 4 = some (.str x4) := rfl
      refine iteF ⟨_, rfl, q, _, _, _, rfl, rfl, hq', i1, _, rfl, q, _, _, _, rfl, rfl, hq', i2, (by show 2 ≤ sizeLine; decide), fun t nt => ?_⟩
      have s3 := same_new nt (.tup [.str x1, .str x2])
      have ht : (upd G1 t (.tup [.str x1, .str x2])) t = some (.tup ((kT (x1, x2)).map kV)) := upd_same
      show _
      generalize upd G1 t (.tup [.str x1, .str x2]) = G2 at s3 ht ⊢
      have hG2 := s3 _ _ (s2 _ _ hG)
      have sG2 := sG1.trans s3
      refine ⟨_, rfl, p, _, rfl, DGet.t hG2 ht, _, rfl, ?_⟩
      rcases rG.val (x1, x2) with ⟨l1, l2⟩ | ⟨x, tx, l1, l2, _⟩
      · rw [l2]
        refine iteF ?_
        have hq2 := s3.seq hq'
        refine ⟨_, rfl, q, _, _, _, rfl, rfl, hq2, i3', _, rfl, q, _, _, _, rfl, rfl, hq2, i4, (by show 2 ≤ sizeLine; decide), fun tv ntv => ?_⟩
        have s4 := same_new ntv (.tup [.str x3, .str x4])
        have htv : (upd G2 tv (.tup [.str x3, .str x4])) tv = some (.tup [.str x3, .str x4]) := upd_same
        show _
        generalize upd G2 tv (.tup [.str x3, .str x4]) = G3 at s4 htv ⊢
        have hq3 := s4.seq hq2
        have hG3 := s4 _ _ hG2
        refine ⟨_, rfl, _, rfl, q, _, _, _, rfl, rfl, hq3, i1, _, rfl, q, _, _, _, rfl, rfl, hq3, i2, (by show 2 ≤ sizeLine; decide), fun tk ntk => ?_⟩
        have s5 := same_new ntk (.tup [.str x1, .str x2])
        have htk : (upd G3 tk (.tup [.str x1, .str x2])) tk = some (.tup ((kT (x1, x2)).map kV)) := upd_same
        show _
        generalize upd G3 tk (.tup [.str x1, .str x2]) = G4 at s5 htk ⊢
        have hG4 := s5 _ _ hG3
        have sG4 := (sG2.trans s4).trans s5
        have hlen := rG.len
        refine ⟨p, _, rfl, DPut.t hG4 htk (by rw [hlen, sizeLine_eq]; omega), ?_⟩
        rw [putK_new _ l2]
        refine ⟨_, _, g ++ [((x1, x2), (x3, x4))], rfl, fun b o e => ?_, ⟨_, upd_same, ?_⟩, ?_, ?_⟩
        · rw [upd_ne (ne_of_none e np)]
          exact sG4 _ _ e
        · refine GR.upd hG4 (.snoc (rG.same (((s2.trans s3).trans s4).trans s5)) ?_)
          exact .inl (.inl (s5 _ _ htv))
        · rw [List.length_append, List.length_singleton]
          omega
        · rw [eG]
          show (match goalStep C A S g lines[3 + i] with | none => _ | some g' => _) = _
          rw [step_ok hw hline l1]
          rfl
      · rw [l2]
        refine iteT ⟨_, rfl, _, _, rfl, rfl, fun d nd => ?_⟩
        have s4 := same_new nd (.xd (vf (.int (3 + (i : Int) + 1))))
        have eb : readGoals lines C A S = .inl (3 + i + 1) := read_bad (by
          rw [eG]
          show (match goalStep C A S g lines[3 + i] with | none => _ | some g' => _) = _
          rw [step_two hw l1])
        refine qbad _ eb d _ (sG2.trans s4) (sG2.free nd) ?_
        rw [upd_same]
        have e4 : (((3 + i + 1 : Nat) : Nat) : Int) = 3 + (i : Int) + 1 := by omega
        rw [e4]
  · rintro σ G ⟨x5, x6, g, rfl, sG, ⟨kvs, hG, rG⟩, hgi, eG⟩
    have ed : lines.drop (3 + ((lines.length : Int) - 3).toNat) = [] := List.drop_of_length_le (by omega)
    rw [ed] at eG
    have eR : readGoals lines C A S = if g.length < S.length * C.length then .inl (lines.length + 1) else .inr g := by
      unfold readGoals
      rw [eG]
      rfl
    refine ⟨_, rfl, p, kvs, rfl, hG, _, rfl, s, _, rfl, .inr (same_tup sG hs), _, rfl, c, _, rfl, .inr (same_tup sG hc), _, _, rfl, rfl, .inl ⟨?_, ?_⟩, _, _, rfl, rfl, _, rfl, ?_⟩
    · omega
    · rw [List.length_map]
      omega
    rw [List.length_map, List.length_map, rG.len]
    have em : ((S.length : Int) * (C.length : Int)) = ((S.length * C.length : Nat) : Int) := by
      rw [Int.natCast_mul]
    rw [em]
    refine ite2 (fun k => ?_) (fun k => ?_)
    · refine ⟨_, rfl, l, _, rfl, .inl (sG.seq hl), _, _, rfl, rfl, fun d nd => ?_⟩
      rw [List.length_map]
      have s4 := same_new nd (.xd (vf (.int ((lines.length : Int) + 1))))
      refine qbad (lines.length + 1) ?_ d _ (sG.trans s4) (sG.free nd) ?_
      · rw [eR, if_pos]
        have := of_decide_eq_true k
        omega
      · rw [upd_same]
        rfl
    · refine ⟨_, rfl, qok g ?_ p G sG np ⟨kvs, .inl hG, rG⟩⟩
      rw [eR, if_neg]
      intro z
      exact k (decide_eq_true (by omega))
end
end K51
set_option Elab.async false
set_option linter.all false
set_option maxRecDepth 100000
set_option maxHeartbeats 8000000
namespace LG
open PySem L2
/-- what the written part says of the class of devices -/
structure DevCl (K : PySem.W.Frag) (mg : Str → Option Value) (C : Addr) : Prop where
  mg : mg "Device" = some (.ref C)
  cl : Cls K C
  nt : NoAttr K C "text"
  nc : NoAttr K C "calls"
  na : NoAttr K C "answers"
  ns : NoAttr K C "states"
  ng : NoAttr K C "_goals"
def devF (T : Str) (c a s g : Addr) : List (Str × V) := [("text", .str T), ("calls", .ref c), ("answers", .ref a), ("states", .ref s), ("_goals", .ref g)]
theorem put_new {f : Str} {v : V} : ∀ {fs : List (Str × V)}, (∀ p ∈ fs, p.1 ≠ f) → putF f v fs = fs ++ [(f, v)]
  | [], _ => rfl
  | (g, x) :: r, h => by
    show (if g = f then _ else _) = _
    rw [if_neg (h _ List.mem_cons_self), put_new fun p hp => h p (List.mem_cons_of_mem _ hp)]
    rfl
/-- a device of the text T, read as D -/
def DevAt (K : PySem.W.Frag) (H : Hp) (x C : Addr) (T : Str) (D : Dev) : Prop := ∃ dx c a s g, H x = some (.ins C dx (devF T c a s g)) ∧ SqT K H c (D.calls.map V.str) ∧ SqT K H a (D.answers.map V.str) ∧ SqT K H s (D.states.map V.str) ∧ GoalsAt K H g D.goals
theorem DevAt.same {K : PySem.W.Frag} {H H' : Hp} {x C : Addr} {T : Str} {D : Dev} (e : Same H H') (h : DevAt K H x C T D) : DevAt K H' x C T D := by
  obtain ⟨dx, c, a, s, g, h1, h2, h3, h4, h5⟩ := h
  exact ⟨dx, c, a, s, g, e _ _ h1, same_tup e h2, same_tup e h3, same_tup e h4, h5.same e⟩
def parseV (v : V) : Sum Nat Dev := match v with
  | .str T => parse T
  | _ => .inl 0
theorem parse_heads {T : Str} {c a s : List Str} {g : Goals} (h : readHeads (Txt.split T nl1) = ([c, a, s], 0)) : parse T = match readGoals (Txt.split T nl1) c a s with | .inl n => .inl n | .inr g => .inr ⟨c, a, s, g⟩ := by
  unfold parse
  show (match readHeads (Txt.split T nl1) with | ([c, a, s], 0) => _ | (_, n) => _) = _
  rw [h]
  rfl
theorem namesIn_len (l h : Str) (a b : Int) (hb : 0 ≤ b) : ((LG.namesIn l h a b).length : Int) ≤ b := by
  unfold LG.namesIn
  show (((if _ then _ else _ : List Str).length : Nat) : Int) ≤ b
  split
  · simpa using hb
  · rename_i c
    split
    · simpa using hb
    · exact Classical.byContradiction fun z => c (.inr fun y => z y.2)
theorem headAt_len (lines : List Str) (i : Nat) : (headAt lines i).length ≤ 4 := by
  unfold headAt
  match i with
  | 0 => cases h : lines[0]? with
    | none => simp
    | some l =>
      have := namesIn_len l "calls" 1 3 (by decide)
      show (LG.namesIn l "calls" 1 3).length ≤ 4
      omega
  | 1 => cases h : lines[1]? with
    | none => simp
    | some l =>
      have := namesIn_len l "answers" 2 3 (by decide)
      show (LG.namesIn l "answers" 2 3).length ≤ 4
      omega
  | 2 => cases h : lines[2]? with
    | none => simp
    | some l =>
      have := namesIn_len l "states" 1 4 (by decide)
      show (LG.namesIn l "states" 1 4).length ≤ 4
      omega
  | n + 3 => simp [headsL]
theorem heads_cases (lines : List Str) : (∃ c a s, readHeads lines = ([c, a, s], 0) ∧ c.length ≤ 4 ∧ s.length ≤ 4) ∨ ∃ r n, readHeads lines = (r, n + 1) := by
  unfold readHeads
  by_cases h0 : headAt lines 0 = []
  · rw [if_pos h0]
    exact .inr ⟨_, _, rfl⟩
  · rw [if_neg h0]
    by_cases h1 : headAt lines 1 = []
    · rw [if_pos h1]
      exact .inr ⟨_, _, rfl⟩
    · rw [if_neg h1]
      by_cases h2 : headAt lines 2 = []
      · rw [if_pos h2]
        exact .inr ⟨_, _, rfl⟩
      · rw [if_neg h2]
        exact .inl ⟨_, _, _, rfl, headAt_len _ _, headAt_len _ _⟩
theorem ft1 : ("text" : Str) ≠ "calls" := by decide
theorem ft2 : ("text" : Str) ≠ "answers" := by decide
theorem ft3 : ("calls" : Str) ≠ "answers" := by decide
theorem ft4 : ("text" : Str) ≠ "states" := by decide
theorem ft5 : ("calls" : Str) ≠ "states" := by decide
theorem ft6 : ("answers" : Str) ≠ "states" := by decide
theorem ft7 : ("text" : Str) ≠ "_goals" := by decide
theorem ft8 : ("calls" : Str) ≠ "_goals" := by decide
theorem ft9 : ("answers" : Str) ≠ "_goals" := by decide
theorem ft0 : ("states" : Str) ≠ "_goals" := by decide
theorem devF_text {T : Str} {c a s g : Addr} : (devF T c a s g).lookup ("text" : Str) = some (.str T) := rfl
theorem parse_bad {T : Str} {r : List (List Str)} {n : Nat} (h : readHeads (Txt.split T nl1) = (r, n + 1)) : parse T = .inl (n + 1) := by
  unfold parse
  show (match readHeads (Txt.split T nl1) with | ([c, a, s], 0) => _ | (_, n) => _) = _
  rw [h]
  split
  · rename_i e
    cases e
  · rename_i e
    cases e
    rfl
theorem tup_but {K : PySem.W.Frag} {H H' : Hp} {x t C dx : Addr} {fs : List (Str × V)} {zs : List V} (e : But x H H') (hx : H x = some (.ins C dx fs)) (h : SqT K H t zs) : SqT K H' t zs := by
  rcases h with (q | ⟨o, q⟩) | q
  · exact .inl (.inl (e _ _ q (fun z => by rw [z, hx] at q; cases q)))
  · exact .inl (.inr ⟨o, e _ _ q (fun z => by rw [z, hx] at q; cases q)⟩)
  · exact .inr q
theorem lst_but {K : PySem.W.Frag} {H H' : Hp} {x t C dx : Addr} {fs : List (Str × V)} {zs : List V} (e : But x H H') (hx : H x = some (.ins C dx fs)) (h : SqL K H t zs) : SqL K H' t zs := by
  rcases h with (q | ⟨o, q⟩) | q
  · exact .inl (.inl (e _ _ q (fun z => by rw [z, hx] at q; cases q)))
  · exact .inl (.inr ⟨o, e _ _ q (fun z => by rw [z, hx] at q; cases q)⟩)
  · exact .inr q
theorem gr_but {K : PySem.W.Frag} {H H' : Hp} {x C dx : Addr} {fs : List (Str × V)} {kvs : List (List Key × V)} {g : Goals} (e : But x H H') (hx : H x = some (.ins C dx fs)) (h : GR K H kvs g) : GR K H' kvs g := by
  induction h with
  | nil => exact .nil
  | cons a _ ih => exact .cons (tup_but e hx a) ih
theorem goals_but {K : PySem.W.Frag} {H H' : Hp} {x p C dx : Addr} {fs : List (Str × V)} {g : Goals} (e : But x H H') (hx : H x = some (.ins C dx fs)) (h : GoalsAt K H p g) : GoalsAt K H' p g := by
  obtain ⟨kvs, h1, h2⟩ := h
  refine ⟨kvs, ?_, gr_but e hx h2⟩
  rcases h1 with q | ⟨o, q⟩
  · exact .inl (e _ _ q (fun z => by rw [z, hx] at q; cases q))
  · exact .inr ⟨o, e _ _ q (fun z => by rw [z, hx] at q; cases q)⟩
theorem but_upd (x : Addr) (H : Hp) (o : HO) : But x H (upd H x o) := fun b u e ne => by
  rw [upd_ne ne]
  exact e
end LG
namespace K51
open PySem L2 LG
section
variable {P : Program} {w : World} {K : PySem.W.Frag} {mg : Str → Option Value} {base : Heap} {fI : Addr}
def spDInit (K : PySem.W.Frag) (C CB : Addr) : Sp := fun vs H Q E => ∃ (x dx : Addr) (v : V), vs = [.ref x, v] ∧ H x = some (.ins C dx []) ∧ StrOr K H v ∧ (∀ T, v = .str T → T.length ≤ 3000) ∧
  (∀ T D, v = .str T → parse T = .inr D → ∀ H', But x H H' → DevAt K H' x C T D → Q .non H') ∧
  (∀ n : Nat, parseV v = .inl n → ∀ d H', But x H H' → H d = none → H' d = some (.xd (vf (.int n))) → E (.ref CB) (some d) H')
abbrev nD : List Str := ["self", "text", "lines", "heads", "bad"]
theorem scDInit : FnScope nD ["self", "text"] (defScope sDInit) := ⟨rfl, rfl, rfl, by decide +kernel, rfl, by decide +kernel, by decide +kernel⟩
theorem ok_dinit {f g1 g2 hA C CB : Addr} {fd gd1 gd2 : FuncData} (F : Fun K "__init__" "Device.__init__" sDInit f fd) (T : Bltn mg) (hH : mg "HEADS" = some (.ref hA)) (HA : HeadsAt K hA) (I : Ini P w K mg base fI) (cB : ECl K mg fI "BadDevice" CB) (DC : DevCl K mg C)
    (G1 : FnOk P w K mg base CX0 3 g1 gd1 ["lines", "heads"] (spHeads K)) (m1 : mg "read_heads" = some (.ref g1)) (k1 : PySem.W.keepIn K (.ref g1) = true) (b1 : Binds K gd1 ["lines", "heads"] [])
    (G2 : FnOk P w K mg base (L2.CX P w) 3 g2 gd2 ["lines", "calls", "answers", "states"] (spGoals K CB)) (m2 : mg "read_goals" = some (.ref g2)) (k2 : PySem.W.keepIn K (.ref g2) = true) (b2 : Binds K gd2 ["lines", "calls", "answers", "states"] []) :
    FnOk P w K mg base (L2.CX P w) 4 f fd ["self", "text"] (spDInit K C CB) := by
  refine F.okX scDInit (fun vs H Q E h => ?_) (fun cdv A0 outer st H vs Q E hr h => ?_)
  · obtain ⟨x, dx, v, rfl, _⟩ := h
    rfl
  obtain ⟨x, dx, v, rfl, hx, ty, hz, qok, qbad⟩ := h
  have r2 : Room 2 _ := hr.mono (by decide)
  have tk := takes_of (X := cxOf (L2.CX P w) P w K mg base nD "Device.__init__" (defScope sDInit) f cdv A0 outer st H E) rfl rfl rfl rfl
  refine ⟨_, pss_cons (ps_if (pt_not (pt_val (pe_callB call_isi rfl T.isinstance (by decide +kernel) (pa_cons (pv 1) (pa_cons (pe_bltn (v := .ty "str") (u := .type "str") rfl T.str (by decide +kernel) rfl) pa_nil)))))
      (pss_one (ps_err rfl I cB r2 tk pe_int rfl)) pss_nil)
    (pss_cons (ps_set (i := 2) scDInit.nd rfl (Or.inl rfl) (pe_split (pv 1) pe_str))
    (pss_cons (ps_asg (pe_call G1 hr rfl m1 k1 b1 .nil pass0 (pa_cons (pv 2) (pa_cons (pe_glob (v := .ref hA) rfl hH rfl) pa_nil))) (pg_tup rfl (pgs_cons (pg_name (i := 3) scDInit.nd rfl (Or.inl rfl)) (pgs_cons (pg_name (i := 4) scDInit.nd rfl (Or.inl rfl)) pgs_nil))))
    (pss_cons (ps_if (pt_cmpR op_gt (pv 4) pe_int (nomark _)) (pss_one (ps_err rfl I cB r2 tk (pv 4) rfl)) pss_nil)
    (pss_cons (ps_fld (pv 0) (pv 1) rfl)
    (pss_cons (ps_asg (pv 3) (pg_unl rfl (pgs_cons (pg_fld (pv 0)) (pgs_cons (pg_fld (pv 0)) (pgs_cons (pg_fld (pv 0)) pgs_nil)))))
    (pss_one (ps_fld (pv 0) (pe_call G2 hr rfl m2 k2 b2 .nil (passes_call tk (fun _ _ _ _ h => h)) (pa_cons (pv 2) (pa_cons (pe_fld (pv 0) rfl) (pa_cons (pe_fld (pv 0) rfl) (pa_cons (pe_fld (pv 0) rfl) pa_nil))))) rfl))))))), ?_⟩
  have bx : ∀ {H' : Hp}, Same H H' → But x H H' := fun e => But.of e
  rcases ty with ⟨X, rfl⟩ | ⟨tv, ty, k, no⟩
  · refine ⟨_, rfl, .str X, .ty "str", .type "str", .type "str", true, rfl, .ty _, .base (.str X), if_pos (beq_self_eq_true _), _, rfl, iteF ?_⟩
    have hX := hz X rfl
    obtain ⟨lb1, lb2⟩ := lines_bounds X
    refine ⟨_, rfl, ⟨_, rfl⟩, X, nl1, rfl, rfl, rfl, (by rw [sizeLine_eq]; omega), fun l nl => ?_⟩
    have hl : (upd H l (.lst ((Txt.split X nl1).map V.str))) l = some (.lst ((Txt.split X nl1).map V.str)) := upd_same
    have s1 := same_new nl (.lst ((Txt.split X nl1).map V.str))
    show _
    generalize upd H l (.lst ((Txt.split X nl1).map V.str)) = H1 at hl s1 ⊢
    have hp : parseV (.str X) = parse X := rfl
    have hd := heads_cases (Txt.split X nl1)
    have pb := @parse_bad X
    have ph := @parse_heads X
    generalize Txt.split X nl1 = lines at hl lb1 lb2 hd pb ph ⊢
    refine ⟨_, rfl, l, hA, lines, rfl, HA, SqL.of hl, fun t ht => Nat.le_trans (lb1 t ht) hX, by omega, fun p q xs H2 s2 nq hp2 hq hxs => ?_⟩
    have s12 := s1.trans s2
    refine ⟨p, _, rfl, hp2, rfl, _, _, rfl, _, _, rfl, rfl, ?_⟩
    rcases hd with ⟨c, a, s, e, lc, ls⟩ | ⟨r, n, e⟩
    · rw [e] at hxs
      refine ⟨_, rfl, _, _, rfl, rfl, _, rfl, ?_⟩
      rw [e]
      refine iteF ?_
      cases hxs with
      | cons h1 r1 => cases r1 with
        | cons h2 r2 => cases r2 with
          | cons h3 r3 =>
            cases r3
            obtain ⟨tc, rfl, h1⟩ := h1
            obtain ⟨ta, rfl, h2⟩ := h2
            obtain ⟨ts, rfl, h3⟩ := h3
            have hx2 := s12 _ _ hx
            have b2 : But x H H2 := bx s12
            have hl2 : SqL K H2 l (lines.map V.str) := s2.seq (SqL.of hl)
            have hq2 : SqL K H2 q [.ref tc, .ref ta, .ref ts] := SqL.of hq
            refine ⟨_, rfl, _, rfl, x, C, dx, _, rfl, hx2, DC.cl, DC.nt, by show 0 < 1000; decide, ?_⟩
            have hx3 : (upd H2 x (.ins C dx (putF "text" (.str X) []))) x = some (.ins C dx [("text", .str X)]) := upd_same
            have e3 := but_upd x H2 (.ins C dx (putF "text" (.str X) []))
            generalize upd H2 x (.ins C dx (putF "text" (.str X) [])) = H3 at hx3 e3 ⊢
            have h1 := tup_but e3 hx2 h1
            have h2 := tup_but e3 hx2 h2
            have h3 := tup_but e3 hx2 h3
            have hl3 := lst_but e3 hx2 hl2
            have hq3 := lst_but e3 hx2 hq2
            have b3 := b2.trans e3
            refine ⟨_, rfl, q, _, rfl, hq3, rfl, _, _, rfl, _, rfl, x, C, dx, _, rfl, hx3, DC.cl, DC.nc, by show 1 < 1000; decide, ?_⟩
            have hx4 : (upd H3 x (.ins C dx (putF "calls" (.ref tc) [("text", .str X)]))) x = some (.ins C dx [("text", .str X), ("calls", .ref tc)]) := by
              rw [upd_same, put_new (by intro p hp; simp at hp; rw [hp]; exact ft1)]
              rfl
            have e4 := but_upd x H3 (.ins C dx (putF "calls" (.ref tc) [("text", .str X)]))
            generalize upd H3 x (.ins C dx (putF "calls" (.ref tc) [("text", .str X)])) = H4 at hx4 e4 ⊢
            refine ⟨_, _, rfl, _, rfl, x, C, dx, _, rfl, hx4, DC.cl, DC.na, by show 2 < 1000; decide, ?_⟩
            have hx5 : (upd H4 x (.ins C dx (putF "answers" (.ref ta) [("text", .str X), ("calls", .ref tc)]))) x = some (.ins C dx [("text", .str X), ("calls", .ref tc), ("answers", .ref ta)]) := by
              rw [upd_same, put_new (by intro p hp; simp at hp; rcases hp with rfl | rfl; exact ft2; exact ft3)]
              rfl
            have e5 := but_upd x H4 (.ins C dx (putF "answers" (.ref ta) [("text", .str X), ("calls", .ref tc)]))
            generalize upd H4 x (.ins C dx (putF "answers" (.ref ta) [("text", .str X), ("calls", .ref tc)])) = H5 at hx5 e5 ⊢
            refine ⟨_, _, rfl, _, rfl, x, C, dx, _, rfl, hx5, DC.cl, DC.ns, by show 3 < 1000; decide, ?_⟩
            have hx6 : (upd H5 x (.ins C dx (putF "states" (.ref ts) [("text", .str X), ("calls", .ref tc), ("answers", .ref ta)]))) x = some (.ins C dx [("text", .str X), ("calls", .ref tc), ("answers", .ref ta), ("states", .ref ts)]) := by
              rw [upd_same, put_new (by intro p hp; simp at hp; rcases hp with rfl | rfl | rfl; exact ft4; exact ft5; exact ft6)]
              rfl
            have e6 := but_upd x H5 (.ins C dx (putF "states" (.ref ts) [("text", .str X), ("calls", .ref tc), ("answers", .ref ta)]))
            generalize upd H5 x (.ins C dx (putF "states" (.ref ts) [("text", .str X), ("calls", .ref tc), ("answers", .ref ta)])) = H6 at hx6 e6 ⊢
            have e36 : But x H3 H6 := (e4.trans e5).trans e6
            have h1 := tup_but e36 hx3 h1
            have h2 := tup_but e36 hx3 h2
            have h3 := tup_but e36 hx3 h3
            have hl6 := lst_but e36 hx3 hl3
            have b6 := b3.trans e36
            refine ⟨rfl, _, rfl, _, rfl, x, C, dx, _, _, rfl, hx6, DC.cl, DC.nc, rfl, _, rfl, x, C, dx, _, _, rfl, hx6, DC.cl, DC.na, rfl, _, rfl, x, C, dx, _, _, rfl, hx6, DC.cl, DC.ns, rfl, ?_⟩
            have ph := ph (c := c) (a := a) (s := s) (g := []) e
            refine ⟨l, tc, ta, ts, lines, c, a, s, rfl, hl6, fun t ht => Nat.le_trans (lb1 t ht) hX, by omega, h1, h2, h3, by omega, by omega, fun g eg p7 H7 s7 np7 hg7 => ?_, fun n en d H7 s7 nd7 hd7 => ?_⟩
            · have hx7 := s7 _ _ hx6
              refine ⟨_, rfl, x, C, dx, _, rfl, hx7, DC.cl, DC.ng, by show 4 < 1000; decide, ?_⟩
              have e8 := but_upd x H7 (.ins C dx (putF "_goals" (.ref p7) [("text", .str X), ("calls", .ref tc), ("answers", .ref ta), ("states", .ref ts)]))
              refine qok X ⟨c, a, s, g⟩ rfl (by rw [ph, eg]) _ ((b6.trans (But.of s7)).trans e8) ⟨dx, tc, ta, ts, p7, ?_, tup_but e8 hx7 (same_tup s7 h1), tup_but e8 hx7 (same_tup s7 h2), tup_but e8 hx7 (same_tup s7 h3), ?_⟩
              · rw [upd_same, put_new (by intro p hp; simp at hp; rcases hp with rfl | rfl | rfl | rfl; exact ft7; exact ft8; exact ft9; exact ft0)]
                rfl
              · exact goals_but e8 hx7 hg7
            · refine qbad n ?_ d H7 (b6.trans (But.of s7)) ?_ hd7
              · show parse X = _
                rw [ph, en]
              · have n6 := nd7
                cases q : H d with
                | none => rfl
                | some o =>
                  by_cases hb : d = x
                  · rw [hb, hx6] at n6
                    cases n6
                  · rw [b6 d o q hb] at n6
                    cases n6
    · refine ⟨_, rfl, _, _, rfl, rfl, _, rfl, ?_⟩
      rw [e]
      have gt : decide ((((r, n + 1) : List (List Str) × Nat).2 : Int) > 0) = true := decide_eq_true (by show ((n + 1 : Nat) : Int) > 0; omega)
      refine iteC gt ⟨_, rfl, fun d nd => ?_⟩
      have s3 := same_new nd (.xd (vf (.int ((n + 1 : Nat) : Int))))
      refine qbad (n + 1) (pb e) d _ (bx (s12.trans s3)) (s12.free nd) ?_
      exact upd_same
  · refine ⟨_, rfl, v, .ty "str", tv, .type "str", false, rfl, .ty _, ty, k, _, rfl, iteT (fun d nd => ?_)⟩
    have s3 := same_new nd (.xd (vf (.int 0)))
    refine qbad 0 ?_ d _ (bx s3) nd upd_same
    cases v with
    | str X => exact absurd rfl (no X)
    | _ => rfl
end
end K51
set_option Elab.async false
set_option linter.all false
set_option maxRecDepth 100000
set_option maxHeartbeats 8000000
namespace LG
open PySem L2
/-- what is due where (state, call) is no row -/
def NoRow (CS CC : Addr) (D : Dev) (s c : V) (H : Hp) (E : XK) : Prop :=
  (amongB s D.states = false → ∀ d, H d = none → E (.ref CS) (some d) (upd H d (.xd (vf s)))) ∧ (amongB s D.states = true → amongB c D.calls = false → ∀ d, H d = none → E (.ref CC) (some d) (upd H d (.xd (vf c))))
end LG
namespace K51
open PySem L2 LG
section
variable {P : Program} {w : World} {K : PySem.W.Frag} {mg : Str → Option Value} {base : Heap} {fI C : Addr}
def spHas (K : PySem.W.Frag) (C : Addr) : Sp := fun vs H Q _ => ∃ (x : Addr) (v : V) (T : Str) (D : Dev), vs = [.ref x, v] ∧ DevAt K H x C T D ∧ StrOr K H v ∧ Q (.bl (amongB v D.states)) H
theorem scHas : FnScope ["self", "value"] ["self", "value"] (defScope sDContains) := ⟨rfl, rfl, rfl, by decide +kernel, rfl, by decide +kernel, by decide +kernel⟩
theorem ok_has {f g : Addr} {fd gd : FuncData} (F : Fun K "__contains__" "Device.__contains__" sDContains f fd) (DC : DevCl K mg C) (G : FnOk P w K mg base CX0 1 g gd ["value", "names"] (spAmong K)) (mG : mg "is_among" = some (.ref g)) (kG : PySem.W.keepIn K (.ref g) = true) (bG : Binds K gd ["value", "names"] []) :
    FnOk P w K mg base CX0 2 f fd ["self", "value"] (spHas K C) := by
  refine F.ok scHas (fun vs H Q E h => ?_) (fun cdv A outer s H vs Q E hr h => ?_)
  · obtain ⟨x, v, T, D, rfl, _⟩ := h
    rfl
  obtain ⟨x, v, T, D, rfl, ⟨dx, c, a, st, g0, hx, hc, ha, hs, hg⟩, ty, q⟩ := h
  refine ⟨_, pss_one (ps_ret (pe_call G hr rfl mG kG bG .nil pass0 (pa_cons (pv 1) (pa_cons (pe_fld (pv 0) rfl) pa_nil)))), ?_⟩
  exact ⟨_, rfl, _, rfl, x, C, dx, _, _, rfl, hx, DC.cl, DC.ns, rfl, v, st, _, rfl, ty, .inr hs, q⟩
def spLen (K : PySem.W.Frag) (C : Addr) : Sp := fun vs H Q _ => ∃ (x : Addr) (T : Str) (D : Dev), vs = [.ref x] ∧ DevAt K H x C T D ∧ Q (.int D.states.length) H
theorem scLen : FnScope ["self"] ["self"] (defScope sDLen) := ⟨rfl, rfl, rfl, by decide +kernel, rfl, by decide +kernel, by decide +kernel⟩
theorem ok_len {f : Addr} {fd : FuncData} (F : Fun K "__len__" "Device.__len__" sDLen f fd) (T : Bltn mg) (DC : DevCl K mg C) : FnOk P w K mg base CX0 1 f fd ["self"] (spLen K C) := by
  refine F.ok scLen (fun vs H Q E h => ?_) (fun cdv A outer s H vs Q E hr h => ?_)
  · obtain ⟨x, T, D, rfl, _⟩ := h
    rfl
  obtain ⟨x, T', D, rfl, ⟨dx, c, a, st, g0, hx, hc, ha, hs, hg⟩, q⟩ := h
  refine ⟨_, pss_one (ps_ret (pe_callB call_len_seq rfl T.len PySem.boot_len (pa_cons (pe_fld (pv 0) rfl) pa_nil))), ?_⟩
  refine ⟨_, rfl, x, C, dx, _, _, rfl, hx, DC.cl, DC.ns, rfl, st, _, rfl, .inr hs, ?_⟩
  rw [List.length_map]
  exact q
/-- what isinstance asks of the class -/
structure DevIs (K : PySem.W.Frag) (C : Addr) : Prop where
  ca : PySem.W.findIn K (.ref C) "__class__" = some (some (.builtin "object.__class__"))
  cn : PySem.W.specialIn K (.builtin "object.__class__") "__get__" = some (some (.builtin "getset_descriptor.__get__"))
  ct : PySem.W.takesIn K (.builtin "object.__class__") = some true
  cm : PySem.W.mroIn K C (.type "object") = some true
theorem dev_ty {H : Hp} {x : Addr} {T : Str} {D : Dev} (DC : DevCl K mg C) (S : DevIs K C) (h : DevAt K H x C T D) : TyX K H (.ref x) (.ref C) := by
  obtain ⟨dx, c, a, st, g0, hx, _⟩ := h
  exact .base (.ins hx DC.cl S.ca S.cn S.ct S.cm)
def spDEq (K : PySem.W.Frag) (C : Addr) : Sp := fun vs H Q _ => ∃ (x : Addr) (y : V) (T : Str) (D : Dev), vs = [.ref x, y] ∧ DevAt K H x C T D ∧
  ((∃ (x2 : Addr) (T2 : Str) (D2 : Dev), y = .ref x2 ∧ DevAt K H x2 C T2 D2 ∧ Q (.bl (decide (T = T2))) H) ∨ ∃ t, TyX K H y t ∧ PySem.W.kitOne K t (.ref C) = some false ∧ Q (.bl false) H)
theorem scDEq : FnScope ["self", "other"] ["self", "other"] (defScope sDEq) := ⟨rfl, rfl, rfl, by decide +kernel, rfl, by decide +kernel, by decide +kernel⟩
theorem ok_eq {f : Addr} {fd : FuncData} (F : Fun K "__eq__" "Device.__eq__" sDEq f fd) (T : Bltn mg) (DC : DevCl K mg C) (S : DevIs K C) : FnOk P w K mg base CX0 1 f fd ["self", "other"] (spDEq K C) := by
  refine F.ok scDEq (fun vs H Q E h => ?_) (fun cdv A outer s H vs Q E hr h => ?_)
  · obtain ⟨x, y, T, D, rfl, _⟩ := h
    rfl
  obtain ⟨x, y, T', D, rfl, hD, q⟩ := h
  refine ⟨_, pss_one (ps_ret (pe_and (pe_callB call_isi rfl T.isinstance (by decide +kernel) (pa_cons (pv 1) (pa_cons (pe_glob (v := .ref C) rfl DC.mg rfl) pa_nil))) (pe_one (pe_cmpR op_eq (pe_fld (pv 0) rfl) (pe_fld (pv 1) rfl) (nomark _))))), ?_⟩
  rcases q with ⟨x2, T2, D2, rfl, hD2, q⟩ | ⟨t, ty, k, q⟩
  · have ty2 := dev_ty DC S hD2
    obtain ⟨dx, c, a, st, g0, hx, _⟩ := hD
    obtain ⟨dx2, c2, a2, st2, g2, hx2, _⟩ := hD2
    refine ⟨_, rfl, .ref x2, .ref C, .ref C, .ref C, true, rfl, .own C, ty2, if_pos (beq_self_eq_true _), _, rfl, iteT ⟨_, rfl, x, C, dx, _, _, rfl, hx, DC.cl, DC.nt, rfl, _, rfl, x2, C, dx2, _, _, rfl, hx2, DC.cl, DC.nt, rfl, rfl, ?_⟩⟩
    have e : decide (V.str T' = V.str T2) = decide (T' = T2) := by
      by_cases h : T' = T2
      · simp [h]
      · simp [h]
    rw [e]
    exact q
  · exact ⟨_, rfl, y, .ref C, t, .ref C, false, rfl, .own C, ty, k, _, rfl, iteF q⟩
def spAsk (K : PySem.W.Frag) (C CS CC : Addr) : Sp := fun vs H Q E => ∃ (x : Addr) (s c : V) (T : Str) (D : Dev), vs = [.ref x, s, c] ∧ DevAt K H x C T D ∧ StrOr K H s ∧ StrOr K H c ∧ (amongB s D.states = true → amongB c D.calls = true → Q .non H) ∧ NoRow CS CC D s c H E
theorem scAsk : FnScope ["self", "state", "call"] ["self", "state", "call"] (defScope sDAsk) := ⟨rfl, rfl, rfl, by decide +kernel, rfl, by decide +kernel, by decide +kernel⟩
theorem ok_ask {f g h2 CS CC : Addr} {fd gd hd : FuncData} (F : Fun K "_ask_for_row" "Device._ask_for_row" sDAsk f fd) (DC : DevCl K mg C) (I : Ini P w K mg base fI) (cS : ECl K mg fI "NoState" CS) (cC : ECl K mg fI "NoCall" CC)
    (G : FnOk P w K mg base CX0 1 g gd ["value", "names"] (spAmong K)) (mG : mg "is_among" = some (.ref g)) (kG : PySem.W.keepIn K (.ref g) = true) (bG : Binds K gd ["value", "names"] [])
    (Hs : FnOk P w K mg base CX0 2 h2 hd ["self", "value"] (spHas K C)) (fH : PySem.W.findIn K (.ref C) "__contains__" = some (some (.ref h2))) (nH : PySem.W.isFn K (.ref h2) = true) (bH : Binds K hd ["self", "value"] []) :
    FnOk P w K mg base (L2.CX P w) 3 f fd ["self", "state", "call"] (spAsk K C CS CC) := by
  refine F.okX scAsk (fun vs H Q E h => ?_) (fun cdv A0 outer st H vs Q E hr h => ?_)
  · obtain ⟨x, s, c, T, D, rfl, _⟩ := h
    rfl
  obtain ⟨x, s, c, T, D, rfl, hD, ts, tc, qok, qs, qc⟩ := h
  have r1 : Room 1 _ := hr.mono (by decide)
  have tk := takes_of (X := cxOf (L2.CX P w) P w K mg base ["self", "state", "call"] "Device._ask_for_row" (defScope sDAsk) f cdv A0 outer st H E) rfl rfl rfl rfl
  refine ⟨_, pss_cons (ps_if (pt_cmpR (op_ownNotIn fH nH Hs bH hr) (pv 1) (pv 0) (by rfl)) (pss_one (ps_err rfl I cS hr tk (pv 1) rfl)) pss_nil)
    (pss_one (ps_if (pt_not (pt_val (pe_call G r1 rfl mG kG bG .nil pass0 (pa_cons (pv 2) (pa_cons (pe_fld (pv 0) rfl) pa_nil))))) (pss_one (ps_err rfl I cC hr tk (pv 2) rfl)) pss_nil)), ?_⟩
  obtain ⟨dx, c0, a0, s0, g0, hx, hc, ha, hs, hg⟩ := id hD
  refine ⟨_, rfl, _, rfl, x, dx, _, rfl, hx, x, s, T, D, rfl, hD, ts, _, rfl, _, rfl, ?_⟩
  cases e1 : amongB s D.states with
  | false => exact iteT ⟨_, rfl, fun d nd => qs e1 d nd⟩
  | true =>
    refine iteF ⟨_, rfl, _, rfl, x, C, dx, _, _, rfl, hx, DC.cl, DC.nc, rfl, c, c0, _, rfl, tc, .inr hc, _, rfl, ?_⟩
    cases e2 : amongB c D.calls with
    | false => exact iteT ⟨_, rfl, fun d nd => qc e1 e2 d nd⟩
    | true => exact iteF (qok e1 e2)
def spRow (K : PySem.W.Frag) (C CS CC : Addr) : Sp := fun vs H Q E => ∃ (x : Addr) (s c : V) (T : Str) (D : Dev), vs = [.ref x, s, c] ∧ DevAt K H x C T D ∧ StrOr K H s ∧ StrOr K H c ∧
  (amongB s D.states = true → amongB c D.calls = true → ∃ S Cn r, s = .str S ∧ c = .str Cn ∧ D.goals.lookup (S, Cn) = some r ∧ ∀ t H', Same H H' → SqT K H' t [.str r.1, .str r.2] → Q (.ref t) H') ∧ NoRow CS CC D s c H E
theorem scRow : FnScope ["self", "state", "call"] ["self", "state", "call"] (defScope sDRow) := ⟨rfl, rfl, rfl, by decide +kernel, rfl, by decide +kernel, by decide +kernel⟩
theorem ok_row {f g CS CC : Addr} {fd gd : FuncData} (F : Fun K "row" "Device.row" sDRow f fd) (DC : DevCl K mg C) (G : FnOk P w K mg base (L2.CX P w) 3 g gd ["self", "state", "call"] (spAsk K C CS CC)) (mG : Meth K C "_ask_for_row" g) (bG : Binds K gd ["self", "state", "call"] []) :
    FnOk P w K mg base (L2.CX P w) 4 f fd ["self", "state", "call"] (spRow K C CS CC) := by
  refine F.okX scRow (fun vs H Q E h => ?_) (fun cdv A0 outer st H vs Q E hr h => ?_)
  · obtain ⟨x, s, c, T, D, rfl, _⟩ := h
    rfl
  obtain ⟨x, s, c, T, D, rfl, hD, ts, tc, qok, qn⟩ := h
  have hu := hu_of hr
  have tk := takes_of (X := cxOf (L2.CX P w) P w K mg base ["self", "state", "call"] "Device.row" (defScope sDRow) f cdv A0 outer st H E) rfl rfl rfl rfl
  refine ⟨_, pss_cons (ps_expr (pe_meth (pv 0) DC.cl mG G hr bG .nil (passes_call tk (fun _ _ _ _ h => h)) (pa_cons (pv 1) (pa_cons (pv 2) pa_nil))))
    (pss_one (ps_ret (pe_dget hu (pe_fld (pv 0) rfl) (pe_tup (pa_cons (pv 1) (pa_cons (pv 2) pa_nil))) (fun _ _ => rfl)))), ?_⟩
  obtain ⟨dx, c0, a0, s0, g0, hx, hc, ha, hs, kvs, hg, gr⟩ := id hD
  refine ⟨_, rfl, x, dx, _, rfl, hx, rfl, _, rfl, _, rfl, x, s, c, T, D, rfl, hD, ts, tc, fun e1 e2 => ?_, qn⟩
  obtain ⟨S, Cn, r, rfl, rfl, hl, q⟩ := qok e1 e2
  refine ⟨_, rfl, x, C, dx, _, _, rfl, hx, DC.cl, DC.ng, rfl, _, rfl, _, rfl, (by show 2 ≤ sizeLine; decide), fun t nt => ?_⟩
  have ht : (upd H t (.tup [.str S, .str Cn])) t = some (.tup ((kT (S, Cn)).map kV)) := upd_same
  have s1 := same_new nt (.tup [.str S, .str Cn])
  rcases gr.val (S, Cn) with ⟨l1, _⟩ | ⟨r2, t2, l1, l2, l3⟩
  · rw [l1] at hl
    cases hl
  · rw [l1] at hl
    cases hl
    have g1 : DGet _ g0 (.ref t) (valV kvs (kT (S, Cn))) := .inr ⟨kvs, kT (S, Cn), t, rd_same s1 hg, rfl, ht, rfl⟩
    rw [l2] at g1
    exact ⟨g0, _, rfl, g1, q t2 _ s1 (same_tup s1 l3)⟩
end
end K51
set_option Elab.async false
set_option linter.all false
set_option maxRecDepth 100000
set_option maxHeartbeats 2000000
/-! A lambda handed to a def that catches, what is raised wished for at the slots of that def. -/
namespace LG
open PySem PySem.Spec PyProof.Rows L2 LamX
section
variable {X : Cx} {pins : List (Addr × Obj)} {σ : L2.St} {H HZ : Hp} {s s1 : Shared}
theorem pe_act2 {Eg : XK} {Ng : List Str} {qg : Str} {sg : Scope} {g f c' : Addr} {cdg pm ctv : Value} {params : Arguments} {body : Expr} {scope : Scope} {k i : Nat} {a : Str} {pn : List (Addr × Obj)} {xe : Value → Shared → Prop} {W : WX} {tb : XK → TE} {p1 p2 : Pos}
    (I : Inv X pins σ H s) (L : LamS X.env.scope scope) (hf : s.heap.get? f = some (PySem.W.kla_obj "<lambda>" (X.env.qual ++ "<lambda>") params body scope (cloFrom X.env.cells scope.names []) pm c' ctv)) (hfn : H f = none) (hfr : f ∉ frs X.stack)
    (hbind : bindArgs (PySem.W.kla_fn "<lambda>" (X.env.qual ++ "<lambda>") params body scope (cloFrom X.env.cells scope.names []) pm (.ref c') ctv) ⟨[], []⟩ = pure [])
    (tk : Takes ((cxOf CX0 X.prog X.w X.K X.mg X.base Ng qg sg g cdg X.A X.stack s H Eg).tr pn xe) W) (hr : Room (k + 1) (X.A.deeper (envOfC qg sg s.heap.objs.size g cdg)))
    (hbody : ∀ (A : Around) (outer : List Env) (s : Shared) (H : Hp) (E : XK), Room k (A.deeper (lamEnv X scope s.heap.objs.size f c')) → PE (lamCx X A outer s H E scope f c') body (tb E))
    (hN : Ng[i]? = some a) (hv : Vis sg a) (hd : (a == ("__debug__" : Str)) = false := by decide) (hcd : (a == ("__classdict__" : Str)) = false := by decide) :
    PE ((cxOf CX0 X.prog X.w X.K X.mg X.base Ng qg sg g cdg X.A X.stack s H Eg).tr pn xe) (.Call (.Name a p1) [] [] p2)
      (fun σZ HZ Q => σZ[i]? = some (some (.ref f)) ∧ HZ c' = some (CodeO c' (X.env.qual ++ "<lambda>")) ∧ ∃ E : XK, (∀ cls d H', E cls d H' → W cls d σZ H') ∧ tb E σ HZ Q) := by
  refine ⟨fun pinsZ sZ σZ HZ Q IZ h => ?_⟩
  obtain ⟨slot, code, E, hW, ht⟩ := h
  refine wpAny_Call_Name_kw (thn ((pe_var (pos := p1) (i := i) hN hv hd hcd).run pinsZ sZ σZ HZ (fun v G => v = .ref f ∧ G = HZ) IZ ⟨.ref f, slot, rfl, rfl⟩) fun u z1 ⟨v, G, I1, r1, q1⟩ => ?_)
  obtain ⟨ev, eH⟩ := q1
  subst ev
  rw [eH] at I1
  have eu : u = Value.ref f := r1
  subst eu
  have fn1 : z1.heap.get? f = some (PySem.W.kla_obj "<lambda>" (X.env.qual ++ "<lambda>") params body scope (cloFrom X.env.cells scope.names []) pm c' ctv) := I1.base.keep f _ hf hfn hfr (fun z => nomatch (show f ∈ ([] : List Addr) from z))
  refine PySem.W.callWith_F0 ⟨_, _, _, _, fn1⟩ ?_
  have un : Un (frs X.stack) [] H HZ s.heap z1.heap := I1.base
  obtain ⟨⟨oc, vs, t, hoc, hdc, hvc⟩, _, _⟩ := I1.hok c' _ code
  have rc : codeAny (model X.prog X.w) (X.A.deeper (envOfC qg sg s.heap.objs.size g cdg)) (.call (.ref f) ⟨[], []⟩) (CR (L2.CX X.prog X.w) (envOfC qg sg s.heap.objs.size g cdg :: X.stack) X.prog X.w HZ z1 Q E) z1 := by
    refine PySem.W.kla_callFunE hr.depth fn1 rfl L.co L.gen rfl ⟨c', oc, vs, t, rfl, hoc, hdc, hvc⟩ ?_
    rw [hbind]
    refine wpAny_pure (wpAny_newFunctionEnv (fun y hy => (L.own y hy).2) (fun y hy => absurd hy (by simp)) (fun g1 hns hsb => ⟨I1.nolimit.fresh _ hsb, ?_⟩) L.kind)
    show codeAny _ _ (.expr body (lamEnv X scope z1.heap.objs.size f c')) _ _
    have kp : ∀ b o, z1.heap.get? b = some o → g1.get? b = some o := fun b o e => hsb.extBut b o (Nat.ne_of_lt (Heap.lt_size e)) (Heap.get?_push_of_some _ e)
    have J : Inv (lamCx X (X.A.deeper (envOfC qg sg s.heap.objs.size g cdg)) (envOfC qg sg s.heap.objs.size g cdg :: X.stack) z1 HZ E scope f c') [] σ HZ { z1 with heap := g1, toks := z1.toks + ([] : List (Str × Value)).length } :=
      lam_start2 I L I1.env0 hr.hd un hns kp
    refine PySem.W.kla_codeExpr (wpAny_mono ((hbody _ _ z1 HZ E (hr.deeper _)).run [] _ _ HZ Q J ht) (fun v z' hq => ?_) fun _ _ hq => hq)
    obtain ⟨w', H', J', rv, q⟩ := hq
    exact ⟨w', H', J'.os, J'.bare, J'.base, J'.hok, rv, q⟩
  refine wpAny_call (codeAny_mono rc fun r z' hq => ?_)
  match r, hq with
  | .error e, hq => exact tk e z' (XE.of_call I1 (fun cls d H' q => hW cls d H' q) hq)
  | .ok (.ret u), hq => exact I1.after hq
  | .ok .next, hq => exact hq.elim
  | .ok .brk, hq => exact hq.elim
  | .ok .cont, hq => exact hq.elim
/-- the def that calls what it got -/
def Gives2 (X : Cx) (Ng : List Str) (x : Str) (sg : Scope) (g : Addr) (cdg : Value) (bg : List Stmt) (a : Str) (q : Str) (TT : (XK → Hp → VK → Prop) → Hp → VK → Prop) : Prop :=
  ∀ (f c' : Addr) (s : Shared) (H : Hp) (Q : VK) (tl : XK → Hp → VK → Prop),
    (∀ (W : WX) (pn : List (Addr × Obj)) (xe : Value → Shared → Prop) (p1 p2 : Pos), Takes ((cxOf CX0 X.prog X.w X.K X.mg X.base Ng x sg g cdg X.A X.stack s H E0).tr pn xe) W →
      PE ((cxOf CX0 X.prog X.w X.K X.mg X.base Ng x sg g cdg X.A X.stack s H E0).tr pn xe) (.Call (.Name a p1) [] [] p2) (fun σZ HZ Q => σZ[0]? = some (some (.ref f)) ∧ HZ c' = some (CodeO c' q) ∧ ∃ E : XK, (∀ cls d H', E cls d H' → W cls d σZ H') ∧ tl E HZ Q)) →
    H c' = some (CodeO c' q) → TT tl H Q →
    ∃ t, PSs (cxOf CX0 X.prog X.w X.K X.mg X.base Ng x sg g cdg X.A X.stack s H E0).nox bg t ∧ t { nx := fun _ H' => Q .non H', rt := Q } (L2.start Ng [.ref f]) H
theorem pe_lam2 {T : List (Addr × Str)} {TT : (XK → Hp → VK → Prop) → Hp → VK → Prop} {x a : Str} {g c P : Addr} {k : Nat} {pg : Arguments} {bg : List Stmt} {sg : Scope} {dV kV doc pm cdv ct oc : Value} {an od : Option Addr} {osl : Array (Option Value)} {Ng : List Str}
    {params : Arguments} {body : Expr} {scope : Scope} {t : XK → TE} {p lpos pos : Pos} (hg : Gl X x) (hm : X.mg x = some (.ref g)) (hk : PySem.W.keepIn X.K (.ref g) = true)
    (lk : X.K.lookup g = some ⟨oc, od, .func (PySem.W.fnOf x x pg bg sg dV kV doc pm an cdv ct), osl⟩) (hcg : PySem.W.codeIn X.K cdv x = true) (hb : L2.Binds X.K (PySem.W.fnOf x x pg bg sg dV kV doc pm an cdv ct) [a] []) (Sg : FnScope Ng [a] sg) (hNg : Ng[0]? = some a) (hva : Vis sg a)
    (hG : Gives2 X Ng x sg g cdv bg a (X.env.qual ++ "<lambda>") TT)
    (TB : TabB X.base X.mg c P) (hcode : X.env.code = .ref c) (hmT : (P, X.env.qual ++ "<lambda>") ∈ T) (hu : ∀ p ∈ T, p.1 = P → p.2 = X.env.qual ++ "<lambda>") (hr : Room (k + 2) X.A) (L : LamS X.env.scope scope) (hdef : defaultsOf params X.env = ([], []))
    (hbind : ∀ (q : Str) (cl : List (Str × Addr)) (pm cv ctv : Value), bindArgs (PySem.W.kla_fn "<lambda>" q params body scope cl pm cv ctv) ⟨[], []⟩ = pure [])
    (hbody : ∀ (A : Around) (outer : List Env) (s : Shared) (H : Hp) (E : XK) (f c' : Addr), Room k (A.deeper (lamEnv X scope s.heap.objs.size f c')) → PE (lamCx X A outer s H E scope f c') body (t E))
    (hdb : (x == ("__debug__" : Str)) = false := by decide) (hd : (a == ("__debug__" : Str)) = false := by decide) (hcd : (a == ("__classdict__" : Str)) = false := by decide) :
    PE X (.Call (.Name x p) [.Lambda params body scope lpos] [] pos) (tLam T TT t) := by
  refine ⟨fun pins s σ H Q I h => ?_⟩
  obtain ⟨hT, h⟩ := h
  refine wpAny_Call_Name_kw (ld_glob I hg hm ?_ hdb)
  refine PySem.W.callWith_K (h₀ := X.base) I.ok.mod.kin hk ?_ (by rfl) (by rfl)
  show wpAny _ _ (spliced ((false, eval (.Lambda params body scope lpos) X.env) :: backTo pos (starEach [] X.env))) _ _ s
  refine Calls.spliced_cons (lam_make2 I TB hcode hmT hu hT hdef (L.has I.ok) fun f c' pm' ctv G z I1 eN T1 hf hfn hfr hco => Calls.spliced_nil ⟨I1.kIn, ?_⟩)
  have rc : codeAny (model X.prog X.w) X.A (.call (.ref g) ⟨[.ref f], []⟩) (CR CX0 X.stack X.prog X.w G z Q E0) z := by
    refine run_ofS (N := Ng) (ps := [a]) (us := [.ref f]) (vs := [.ref f]) lk hcg Sg hr I1.env0 (hb z [.ref f] I1.kIn rfl) (.cons rfl .nil) rfl fun hr' => ?_
    obtain ⟨t', ht', hq'⟩ := hG f c' z G Q (fun E H' Q' => t E σ H' Q') (fun W pn xe p1 p2 tk => pe_act2 (i := 0) I1 L hf hfn hfr (hbind _ _ _ _ _) tk hr' (fun A outer s H E hr2 => hbody A outer s H E f c' hr2) hNg hva hd hcd) hco (h G eN T1)
    exact ⟨t', ht'.nox, hq'⟩
  refine wpAny_call (codeAny_mono rc fun r z2 hq => ?_)
  match r, hq with
  | .error e, hq => exact (show False from hq).elim
  | .ok (.ret u), hq => exact I1.after hq
  | .ok .next, hq => exact hq.elim
  | .ok .brk, hq => exact hq.elim
  | .ok .cont, hq => exact hq.elim
end
end LG
set_option Elab.async false
set_option linter.all false
set_option maxRecDepth 100000
set_option maxHeartbeats 4000000
namespace LG
open PySem L2 LamX
/-- told: (the caught error, None) or (None, what came back) -/
def TTk (K : PySem.W.Frag) (B : Addr) : (XK → Hp → VK → Prop) → Hp → VK → Prop := fun tl H Q => ∀ (H1 : Hp) (E : XK) (R : VK), Same H H1 →
  (∀ cls d H', PySem.W.exmOne K cls (.ref B) = some true → (∀ a, H' a = none → ∀ p, upd H' a (exq a cls d) p = none → Q (.ref p) (upd (upd H' a (exq a cls d)) p (.tup [.ref a, .non]))) → E cls d H') →
  (∀ v H', (∀ p, H' p = none → Q (.ref p) (upd H' p (.tup [.non, v]))) → R v H') → tl E H1 R
end LG
namespace K51
open PySem L2 LG LamX
section
abbrev nT : List Str := ["_law_look", "_law_caught", "_law_back", "_law_error"]
theorem scTold : FnScope nT ["_law_look"] (defScope sTold) := ⟨rfl, rfl, rfl, by decide +kernel, rfl, by decide +kernel, by decide +kernel⟩
theorem told_gives {X : Cx} {g B : Addr} {cdg : Value} {q : Str} (mB : X.mg "BoxError" = some (.ref B)) : Gives2 X nT "_law_told" (defScope sTold) g cdg (defBody sTold) "_law_look" q (TTk X.K B) := by
  intro f c' s H Q tl act hc h
  refine ⟨_, pss_cons (ps_asg (pe_tup (pa_cons pe_non (pa_cons pe_non pa_nil))) (pg_tup rfl (pgs_cons (pg_name (i := 1) scTold.nd rfl (Or.inl rfl)) (pgs_cons (pg_name (i := 2) scTold.nd rfl (Or.inl rfl)) pgs_nil))))
    (pss_cons (ps_try_keep (i := 3) (X := (cxOf CX0 X.prog X.w X.K X.mg X.base nT "_law_told" (defScope sTold) g cdg X.A X.stack s H E0).nox) (c := .ref B)
      (tb := fun W D σ G => ∃ Ech : XK, (∀ cls d H', Ech cls d H' → W cls d σ H') ∧ σ[0]? = some (some (.ref f)) ∧ G c' = some (CodeO c' q) ∧ tl Ech G (fun v H' => D.nx (σ.set 2 (some v)) H'))
      rfl rfl rfl scTold.nd rfl rfl ⟨rfl, by decide, .inl mB⟩ L2.takes0 (fun W pn xe tk _ => ?_) (fun a pn => pss_one (ps_set (i := 1) scTold.nd rfl (Or.inl rfl) (pv 3))))
    (pss_one (ps_ret (pe_tup (pa_cons (pv 1) (pa_cons (pv 2) pa_nil)))))), ?_⟩
  · refine ⟨fun pins s' σ G D I h' => ?_⟩
    obtain ⟨Ech, hW, h1, h2, h3⟩ := h'
    refine (pss_one (ps_set (i := 2) scTold.nd rfl (Or.inl rfl) (act W pn xe _ _ tk))).run pins s' σ G D I ?_
    exact ⟨h1, h2, Ech, hW, h3⟩
  · refine ⟨(by show 2 ≤ sizeLine; decide), fun t nt => ⟨t, _, rfl, .inl (.inl upd_same), rfl, _, _, rfl, _, _, rfl, rfl, ?_⟩⟩
    have s1 := same_new nt (.tup [V.non, V.non])
    refine ⟨fun cls d H' => PySem.W.exmOne X.K cls (.ref B) = some true ∧ ∀ a, H' a = none → ∀ p, upd H' a (exq a cls d) p = none → Q (.ref p) (upd (upd H' a (exq a cls d)) p (.tup [.ref a, .non])), ?_, rfl, s1 _ _ hc, h _ _ _ s1 (fun cls d H' e q => ⟨e, q⟩) fun v H' q => ?_⟩
    · rintro cls d H' ⟨e, q⟩
      exact ⟨true, e, fun _ a na => ⟨_, rfl, _, rfl, _, rfl, (by show 2 ≤ sizeLine; decide), fun p np => q a na p np⟩, fun z => nomatch z⟩
    · exact ⟨_, rfl, _, rfl, (by show 2 ≤ sizeLine; decide), fun p np => q p np⟩
end
end K51
set_option Elab.async false
set_option linter.all false
set_option maxRecDepth 100000
set_option maxHeartbeats 4000000
namespace LG
open PySem L2
theorem But.tup {K : PySem.W.Frag} {H H' : Hp} {p t b : _} {zs : List V} (e : But p H H') (hp : PotAt H p b) (h : SqT K H t zs) : SqT K H' t zs := by
  obtain ⟨own, sm, n, h1, _⟩ := hp
  rcases h with (q | ⟨o, q⟩) | q
  · exact .inl (.inl (e _ _ q (fun z => by rw [z, h1] at q; cases q)))
  · exact .inl (.inr ⟨o, e _ _ q (fun z => by rw [z, h1] at q; cases q)⟩)
  · exact .inr q
theorem But.put {p r : Addr} {H G : Hp} {o : HO} (e : But p H G) (nr : H r = none) : But p H (upd G r o) := fun c u h ne => by
  rw [upd_ne (ne_of_none h nr)]
  exact e c u h ne
theorem erase_perm : ∀ {zs : List V} {k : Nat} {y : V}, zs[k]? = some y → (y :: zs.eraseIdx k).Perm zs
  | [], k, y, h => by simp at h
  | z :: r, 0, y, h => by
    simp at h
    subst h
    exact List.Perm.refl _
  | z :: r, k + 1, y, h => by
    have ih := erase_perm (zs := r) (k := k) (y := y) (by simpa using h)
    exact (List.Perm.swap z y (r.eraseIdx k)).trans (ih.cons z)
theorem pick_perm {zs ys xs : List V} {k : Nat} {y : V} (h : (zs ++ ys).Perm xs) (hy : zs[k]? = some y) : (zs.eraseIdx k ++ (ys ++ [y])).Perm xs := by
  have h1 := erase_perm hy
  refine List.Perm.trans ?_ h
  have h2 : (zs.eraseIdx k ++ (ys ++ [y])).Perm ((y :: zs.eraseIdx k) ++ ys) := by
    rw [← List.append_assoc]
    refine (List.perm_append_singleton y (zs.eraseIdx k ++ ys)).trans ?_
    exact List.Perm.refl _
  exact h2.trans (h1.append_right ys)
/-- so many unlike places of a list -/
def spSome (K : PySem.W.Frag) : Sp := fun vs H Q _ => ∃ (p l : Addr) (m b : Nat) (xs : List V), vs = [.ref p, .ref l, .int m] ∧ PotAt H p b ∧ b + m ≤ 100000 ∧ SqL K H l xs ∧ l ≠ p ∧ m ≤ xs.length ∧ xs.length ≤ 1000 ∧
  ∀ (f : Addr) (ys : List V) (H' : Hp), But p H H' → PotAt H' p (b + m) → H f = none → f ≠ p → H' f = some (.lst ys) → ys.length = m → (∃ zs, (zs ++ ys).Perm xs) → Q (.ref f) H'
end LG
namespace K51
open PySem L2 LG
section
variable {P : Program} {w : World} {K : PySem.W.Frag} {mg : Str → Option Value} {base : Heap}
abbrev nS : List Str := ["_law_pot_here", "_law_pool", "_law_many", "_law_rest", "_law_found", "_law_lap"]
theorem scSome : FnScope nS ["_law_pot_here", "_law_pool", "_law_many"] (defScope sSome) := ⟨rfl, rfl, rfl, by decide +kernel, rfl, by decide +kernel, by decide +kernel⟩
theorem ok_some {f g : Addr} {fd gd : FuncData} (F : Fun K "_law_some" "_law_some" sSome f fd) (T : Bltn mg) (G : FnOk P w K mg base CX0 1 g gd ["_law_pot_here", "_law_upto"] spTake) (mG : mg "_law_take" = some (.ref g)) (kG : PySem.W.keepIn K (.ref g) = true) (bG : Binds K gd ["_law_pot_here", "_law_upto"] []) :
    FnOk P w K mg base CX0 2 f fd ["_law_pot_here", "_law_pool", "_law_many"] (spSome K) := by
  refine F.ok scSome (fun vs H Q E h => ?_) (fun cdv A outer s H vs Q E hr h => ?_)
  · obtain ⟨p, l, m, b, xs, rfl, _⟩ := h
    rfl
  obtain ⟨p, l, m, b, xs, rfl, hp, hb, hl, ne, hm, hx, q⟩ := h
  refine ⟨_, pss_cons (ps_par (i := 3) (j := 4) rfl scSome.nd rfl rfl (by decide) rfl rfl (pa_cons (pe_callTy call_list_of rfl T.list (by decide +kernel) (pa_cons (pv 1) pa_nil)) (pa_cons (pe_lst pa_nil) pa_nil)) (by rfl))
    (pss_cons (ps_for PassesOwn.never rfl (pi_range1 rfl T.range (pa_cons (pv 2) pa_nil)) (pg_name (i := 5) scSome.nd rfl (Or.inl rfl))
      (pss_one (ps_expr (pe_bm PySem.F.plainAttrs_list PySem.F.slot_list_append PySem.F.type_list_append mt_append (pv 4) (pa_cons
        (pe_bm PySem.F.plainAttrs_list PySem.F.slot_list_pop PySem.F.type_list_pop mt_popAt (pv 3) (pa_cons (pe_call G hr rfl mG kG bG .nil pass0 (pa_cons (pv 0) (pa_cons (pe_callB call_len_seq rfl T.len PySem.boot_len (pa_cons (pv 3) pa_nil)) pa_nil))) pa_nil)) pa_nil)))))
    (pss_one (ps_ret (pv 4)))), ?_⟩
  refine ⟨_, rfl, l, xs, rfl, .inl hl, fun r nr => ?_⟩
  have s1 := same_new nr (.lst xs)
  have hr1 : (upd H r (.lst xs)) r = some (.lst xs) := upd_same
  show _
  generalize upd H r (.lst xs) = H1 at s1 hr1 ⊢
  refine ⟨(by show 0 ≤ sizeLine; decide), fun fo nf => ?_⟩
  have s2 := same_new nf (.lst [])
  have hf2 : (upd H1 fo (.lst [])) fo = some (.lst []) := upd_same
  have hr2 := s2 _ _ hr1
  show _
  generalize upd H1 fo (.lst []) = H2 at s2 hf2 hr2 ⊢
  have nf0 : H fo = none := s1.free nf
  have nrf : r ≠ fo := ne_of_none hr1 nf
  have npr : r ≠ p := fun z => hp.there (by rw [← z]; exact nr)
  have npf : fo ≠ p := fun z => hp.there (by rw [← z]; exact nf0)
  refine ⟨_, _, rfl, _, rfl, _, rfl, (by omega), (by omega), ?_⟩
  refine for_range (lo := 0) (n := ((m : Int)).toNat) (fun i σ Gi => ∃ x5 zs ys, σ = [some (.ref p), some (.ref l), some (.int m), some (.ref r), some (.ref fo), x5] ∧ But p H Gi ∧ PotAt Gi p (b + i) ∧ Gi r = some (.lst zs) ∧ Gi fo = some (.lst ys) ∧ (zs ++ ys).Perm xs ∧ ys.length = i)
    ⟨_, xs, [], rfl, But.of (s1.trans s2), hp.same (s1.trans s2), hr2, hf2, by rw [List.append_nil], rfl⟩ ?_ ?_
  · rintro i σ Gi hi ⟨x5, zs, ys, rfl, bG, pG, hrG, hfG, perm, ly⟩
    have hlen := perm.length_eq
    rw [List.length_append] at hlen
    have z0 : 0 < zs.length := by omega
    refine ⟨_, rfl, .inl ⟨rfl, _, SqL.of hfG⟩, _, rfl, .inl ⟨rfl, _, SqL.of hrG⟩, _, rfl, _, rfl, r, _, rfl, .inl (SqL.of hrG), p, _, b + i, rfl, pG, by omega, by omega, by omega, fun k G2 k0 k1 but2 pot2 => ?_⟩
    have hr3 := but2 _ _ hrG npr
    have hf3 := but2 _ _ hfG npf
    have kz : k.toNat < zs.length := by omega
    have bG2 := bG.trans but2
    refine ⟨r, zs, k, k.toNat, zs[k.toNat], rfl, rfl, hr3, by omega, by omega, ?_, List.getElem?_eq_getElem kz, ?_⟩
    · unfold seqIndex?
      show (if (0 ≤ (if k < 0 then k + (zs.length : Int) else k) && (if k < 0 then k + (zs.length : Int) else k) < (zs.length : Int)) = true then _ else _) = _
      rw [if_neg (by omega : ¬ k < 0), if_pos (by simp; omega)]
    · have hf4 : (upd G2 r (.lst (zs.eraseIdx k.toNat))) fo = some (.lst ys) := by
        rw [upd_ne (Ne.symm nrf)]
        exact hf3
      refine ⟨fo, ys, _, rfl, rfl, hf4, by rw [sizeLine_eq]; omega, _, zs.eraseIdx k.toNat, ys ++ [zs[k.toNat]], rfl, (bG2.put nr).put nf0, ?_, ?_, upd_same, pick_perm perm (List.getElem?_eq_getElem kz), by rw [List.length_append, ly]; rfl⟩
      · obtain ⟨own, sm, n, h1, h2⟩ := pot2
        exact ⟨own, sm, n, by rw [upd_ne (Ne.symm npf), upd_ne (Ne.symm npr)]; exact h1, h2⟩
      · rw [upd_ne nrf, upd_same]
  · rintro σ Gi ⟨x5, zs, ys, rfl, bG, pG, hrG, hfG, perm, ly⟩
    have em : ((m : Int)).toNat = m := Int.toNat_natCast m
    rw [em] at ly pG
    exact ⟨_, rfl, q fo ys Gi bG pG nf0 npf hfG ly ⟨zs, perm⟩⟩
end
end K51
set_option Elab.async false
set_option linter.all false
set_option maxRecDepth 100000
set_option maxHeartbeats 4000000
namespace LG
open PySem L2
/-! ### drawn devices -/
def prodK (S C : List Str) : List (Str × Str) := S.flatMap fun s => C.map fun c => (s, c)
structure Drawn (D : Dev) : Prop where
  cn : D.calls.Nodup
  an : D.answers.Nodup
  sn : D.states.Nodup
  c1 : 1 ≤ D.calls.length ∧ D.calls.length ≤ 3
  a1 : 2 ≤ D.answers.length ∧ D.answers.length ≤ 3
  s1 : 1 ≤ D.states.length ∧ D.states.length ≤ 4
  cw : ∀ x ∈ D.calls, isNameB x = true
  aw : ∀ x ∈ D.answers, isNameB x = true
  sw : ∀ x ∈ D.states, isNameB x = true
  keys : D.goals.map (·.1) = prodK D.states D.calls
  vals : ∀ e ∈ D.goals, e.2.1 ∈ D.answers ∧ e.2.2 ∈ D.states
structure OwnAt (K : PySem.W.Frag) (H : Hp) (o : Addr) (D : Dev) : Prop where
  ex : ∃ c a s r kvs, H o = some (.dK [(.inr ("calls" : Str), .ref c), (.inr ("answers" : Str), .ref a), (.inr ("states" : Str), .ref s), (.inr ("rows" : Str), .ref r)]) ∧ H c = some (.lst (D.calls.map V.str)) ∧ H a = some (.lst (D.answers.map V.str)) ∧ H s = some (.lst (D.states.map V.str)) ∧
    H r = some (.dT kvs) ∧ GR K H kvs D.goals
theorem OwnAt.same {K : PySem.W.Frag} {H H' : Hp} {o : Addr} {D : Dev} (e : Same H H') (h : OwnAt K H o D) : OwnAt K H' o D := by
  obtain ⟨c, a, s, r, kvs, h1, h2, h3, h4, h5, h6⟩ := h.ex
  exact ⟨c, a, s, r, kvs, e _ _ h1, e _ _ h2, e _ _ h3, e _ _ h4, e _ _ h5, h6.same e⟩
theorem str_inj : Function.Injective V.str := fun _ _ h => V.str.inj h
theorem nodup_map_str {ns : List Str} (h : ns.Nodup) : (ns.map V.str).Nodup := by
  unfold List.Nodup at h ⊢
  rw [List.pairwise_map]
  exact h.imp fun ne e => ne (V.str.inj e)
theorem nodup_of_map_str {ns : List Str} (h : (ns.map V.str).Nodup) : ns.Nodup := by
  unfold List.Nodup at h ⊢
  rw [List.pairwise_map] at h
  exact h.imp fun ne e => ne (by rw [e])
theorem some_txt {zs ys : List V} {pool : List Str} (h : (zs ++ ys).Perm (pool.map V.str)) (nd : pool.Nodup) : ∃ ns : List Str, ys = ns.map V.str ∧ ns.Nodup ∧ ∀ n ∈ ns, n ∈ pool := by
  have mem : ∀ y ∈ ys, ∃ n ∈ pool, y = V.str n := fun y hy => by
    have := h.mem_iff.mp (List.mem_append_right zs hy)
    obtain ⟨n, hn, e⟩ := List.mem_map.mp this
    exact ⟨n, hn, e.symm⟩
  have nds : (zs ++ ys).Nodup := (h.nodup_iff).mpr (nodup_map_str nd)
  have ndy : ys.Nodup := (List.nodup_append.mp nds).2.1
  have ex : ∀ (l : List V), (∀ y ∈ l, ∃ n ∈ pool, y = V.str n) → ∃ ns : List Str, l = ns.map V.str ∧ ∀ n ∈ ns, n ∈ pool := by
    intro l
    induction l with
    | nil => exact fun _ => ⟨[], rfl, fun _ h => nomatch h⟩
    | cons y r ih =>
      intro hm
      obtain ⟨n, hn, rfl⟩ := hm y List.mem_cons_self
      obtain ⟨ns, rfl, hns⟩ := ih fun z hz => hm z (List.mem_cons_of_mem _ hz)
      refine ⟨n :: ns, rfl, fun z hz => ?_⟩
      rcases List.mem_cons.mp hz with rfl | hz
      · exact hn
      · exact hns z hz
  obtain ⟨ns, rfl, hns⟩ := ex ys mem
  exact ⟨ns, rfl, nodup_of_map_str ndy, hns⟩
theorem lookup_none_of {g : Goals} {k : Str × Str} (h : k ∉ g.map (·.1)) : g.lookup k = none := by
  induction g with
  | nil => rfl
  | cons e r ih =>
    obtain ⟨k', x⟩ := e
    have ne : ¬ k = k' := fun z => h (by simp [z])
    have nb : (k == k') = false := by simpa using ne
    have l : List.lookup k ((k', x) :: r) = List.lookup k r := by simp [List.lookup, nb]
    rw [l]
    exact ih fun z => h (by simp at z ⊢; exact .inr z)
theorem prod_take {S C : List Str} {i : Nat} (h : i < S.length) : prodK (S.take (i + 1)) C = prodK (S.take i) C ++ C.map fun c => (S[i], c) := by
  unfold prodK
  rw [List.take_add_one, List.getElem?_eq_getElem h, List.flatMap_append]
  simp
theorem prod_mem {S C : List Str} {k : Str × Str} : k ∈ prodK S C ↔ k.1 ∈ S ∧ k.2 ∈ C := by
  unfold prodK
  rw [List.mem_flatMap]
  constructor
  · rintro ⟨s, hs, h⟩
    obtain ⟨c, hc, rfl⟩ := List.mem_map.mp h
    exact ⟨hs, hc⟩
  · rintro ⟨h1, h2⟩
    exact ⟨k.1, h1, List.mem_map.mpr ⟨k.2, h2, rfl⟩⟩
theorem prod_len {S C : List Str} : (prodK S C).length = S.length * C.length := by
  induction S with
  | nil => simp [prodK]
  | cons s r ih =>
    have e : prodK (s :: r) C = (C.map fun c => (s, c)) ++ prodK r C := rfl
    rw [e, List.length_append, List.length_map, ih, List.length_cons, Nat.succ_mul]
    omega
theorem prod_nodup {S C : List Str} (hS : S.Nodup) (hC : C.Nodup) : (prodK S C).Nodup := by
  induction S with
  | nil => simp [prodK]
  | cons s r ih =>
    have e : prodK (s :: r) C = (C.map fun c => (s, c)) ++ prodK r C := rfl
    rw [e, List.nodup_append]
    obtain ⟨h1, h2⟩ := List.nodup_cons.mp hS
    refine ⟨?_, ih h2, ?_⟩
    · unfold List.Nodup at hC ⊢
      rw [List.pairwise_map]
      exact hC.imp fun ne z => ne (Prod.mk.inj z).2
    · intro a ha b hb z
      obtain ⟨c, _, rfl⟩ := List.mem_map.mp ha
      rw [← z] at hb
      exact h1 (prod_mem.mp hb).1
/-- references to the tuples of keys -/
inductive KeyRefs (H : Hp) : List V → List (Str × Str) → Prop
  | nil : KeyRefs H [] []
  | cons {t : Addr} {k : Str × Str} {vs : List V} {ks : List (Str × Str)} : H t = some (.tup ((kT k).map kV)) → KeyRefs H vs ks → KeyRefs H (.ref t :: vs) (k :: ks)
theorem KeyRefs.same {H H' : Hp} {vs : List V} {ks : List (Str × Str)} (e : Same H H') (h : KeyRefs H vs ks) : KeyRefs H' vs ks := by
  induction h with
  | nil => exact .nil
  | cons a _ ih => exact .cons (e _ _ a) ih
theorem KeyRefs.len {H : Hp} {vs : List V} {ks : List (Str × Str)} (h : KeyRefs H vs ks) : vs.length = ks.length := by
  induction h with
  | nil => rfl
  | cons _ _ ih => rw [List.length_cons, List.length_cons, ih]
theorem KeyRefs.perm {H : Hp} {vs vs' : List V} (e : vs'.Perm vs) : ∀ {ks : List (Str × Str)}, KeyRefs H vs ks → ∃ ks' : List (Str × Str), ks'.Perm ks ∧ KeyRefs H vs' ks' := by
  induction e with
  | nil => exact fun h => ⟨_, List.Perm.refl _, h⟩
  | cons x _ ih =>
    intro ks h
    cases h with
    | cons a r =>
      obtain ⟨ks', p, q⟩ := ih r
      exact ⟨_, p.cons _, .cons a q⟩
  | swap x y l =>
    intro ks h
    cases h with
    | cons a r => cases r with
      | cons b r => exact ⟨_, List.Perm.swap _ _ _, .cons b (.cons a r)⟩
  | trans _ _ ih1 ih2 =>
    intro ks h
    obtain ⟨ks1, p1, q1⟩ := ih2 h
    obtain ⟨ks2, p2, q2⟩ := ih1 q1
    exact ⟨ks2, p2.trans p1, q2⟩
theorem KeyRefs.get {H : Hp} {vs : List V} {ks : List (Str × Str)} (h : KeyRefs H vs ks) : ∀ {i : Nat} {v : V}, vs[i]? = some v → ∃ t k, v = .ref t ∧ ks[i]? = some k ∧ H t = some (.tup ((kT k).map kV)) := by
  induction h with
  | nil => intro i v e; simp at e
  | cons a _ ih =>
    intro i v e
    cases i with
    | zero =>
      simp at e
      subst e
      exact ⟨_, _, rfl, rfl, a⟩
    | succ i =>
      obtain ⟨t, k, h1, h2, h3⟩ := ih (i := i) (v := v) (by simpa using e)
      exact ⟨t, k, h1, by simpa using h2, h3⟩
theorem KeyRefs.cut {H : Hp} {vs : List V} {ks : List (Str × Str)} (h : KeyRefs H vs ks) : ∀ k : Nat, KeyRefs H (vs.drop k) (ks.drop k) ∧ KeyRefs H (vs.take k) (ks.take k) := by
  induction h with
  | nil => intro k; simp; exact .nil
  | cons a r ih =>
    intro k
    cases k with
    | zero => exact ⟨.cons a r, .nil⟩
    | succ k => exact ⟨(ih k).1, .cons a (ih k).2⟩
theorem KeyRefs.app {H : Hp} {vs ws : List V} {ks ls : List (Str × Str)} (h : KeyRefs H vs ks) (r : KeyRefs H ws ls) : KeyRefs H (vs ++ ws) (ks ++ ls) := by
  induction h with
  | nil => exact r
  | cons a _ ih => exact .cons a ih
end LG
set_option Elab.async false
set_option linter.all false
set_option maxRecDepth 100000
set_option maxHeartbeats 8000000
namespace LG
open PySem L2
def IsSz (H : Hp) (v : V) : Prop := ∃ (t : Addr) (n1 n2 : Nat), v = .ref t ∧ H t = some (.tup [.int n1, .int n2]) ∧ 1 ≤ n1 ∧ n1 ≤ 3 ∧ 2 ≤ n2 ∧ n2 ≤ 3
theorem IsSz.same {H H' : Hp} {v : V} (e : Same H H') (h : IsSz H v) : IsSz H' v := by
  obtain ⟨t, n1, n2, h1, h2, h3⟩ := h
  exact ⟨t, n1, n2, h1, e _ _ h2, h3⟩
def tSz : TE := fun _ H Q => ∀ v H', Same H H' → IsSz H' v → Q v H'
def tSzs (m : Nat) : TA := fun _ H Q => ∀ vs H', Same H H' → vs.length = m → (∀ v ∈ vs, IsSz H' v) → Q vs H'
section
variable {X : Cx} {e : Expr} {es : List Expr} {m : Nat} {pos : Pos}
theorem sz_item {i j : Nat} {c1 c2 p1 p2 x1} (h : 1 ≤ i ∧ i ≤ 3 ∧ 2 ≤ j ∧ j ≤ 3 := by decide) : PE X (.Tuple [.Constant (.int (i : Int)) c1 p1, .Constant (.int (j : Int)) c2 p2] x1 pos) tSz :=
  pe_imp (pe_tup (pa_cons pe_int (pa_cons pe_int pa_nil (by rfl)) (by rfl))) fun _ H Q q => ⟨(by show 2 ≤ sizeLine; decide), fun t nt => q _ _ (same_new nt _) ⟨t, i, j, rfl, upd_same, h⟩⟩
theorem sz_nil : PA X [] (tSzs 0) := pa_imp pa_nil fun _ H Q q => q _ _ (Same.refl H) rfl (fun _ m => nomatch m)
theorem sz_cons (h : PE X e tSz) (r : PA X es (tSzs m)) (hs : starEach (e :: es) X.env = (false, eval e X.env) :: starEach es X.env := by rfl) : PA X (e :: es) (tSzs (m + 1)) :=
  pa_imp (pa_cons h r hs) fun _ H Q q x H1 s1 g1 xs H2 s2 l2 g2 => q _ _ (s1.trans s2) (by rw [List.length_cons, l2]) fun y hy => by
    rcases List.mem_cons.mp hy with rfl | hy
    · exact g1.same s2
    · exact g2 y hy
end
end LG
namespace K51
open PySem L2 LG
section
variable {P : Program} {w : World} {K : PySem.W.Frag} {mg : Str → Option Value} {base : Heap}
def spSizes (K : PySem.W.Frag) : Sp := fun vs H Q _ => ∃ (p : Addr) (b : Nat), vs = [.ref p] ∧ PotAt H p b ∧ b ≤ 50000 ∧ ∀ (z : Addr) (n1 n2 : Nat) (H' : Hp), But p H H' → PotAt H' p (b + 1) → mk p H' z = some (.tup [.int n1, .int n2]) → 1 ≤ n1 → n1 ≤ 3 → 2 ≤ n2 → n2 ≤ 3 → Q (.ref z) H'
theorem scSizes : FnScope ["_law_pot_here"] ["_law_pot_here"] (defScope sSizes) := ⟨rfl, rfl, rfl, by decide +kernel, rfl, by decide +kernel, by decide +kernel⟩
theorem ok_sizes {f g : Addr} {fd gd : FuncData} (F : Fun K "_law_sizes" "_law_sizes" sSizes f fd) (G : FnOk P w K mg base CX0 2 g gd ["_law_pot_here", "_law_some_here"] (spOf K)) (mG : mg "_law_of" = some (.ref g)) (kG : PySem.W.keepIn K (.ref g) = true) (bG : Binds K gd ["_law_pot_here", "_law_some_here"] []) :
    FnOk P w K mg base CX0 3 f fd ["_law_pot_here"] (spSizes K) := by
  refine F.ok scSizes (fun vs H Q E h => ?_) (fun cdv A outer s H vs Q E hr h => ?_)
  · obtain ⟨p, b, rfl, _⟩ := h
    rfl
  obtain ⟨p, b, rfl, hp, hb, q⟩ := h
  refine ⟨_, pss_one (ps_ret (pe_call G hr rfl mG kG bG .nil pass0 (pa_cons (pv 0) (pa_cons (pe_lst (sz_cons (sz_item (i := 2) (j := 2)) (sz_cons (sz_item (i := 2) (j := 2)) (sz_cons (sz_item (i := 2) (j := 3)) (sz_cons (sz_item (i := 1) (j := 2)) (sz_cons (sz_item (i := 3) (j := 2)) (sz_cons (sz_item (i := 3) (j := 3)) sz_nil))))))) pa_nil)))), ?_⟩
  refine ⟨_, rfl, fun xs H1 s1 l1 g1 => ⟨by rw [l1]; decide, fun l nl => ?_⟩⟩
  have s2 := same_new nl (.lst xs)
  have hp1 := hp.same s1
  refine ⟨p, l, xs, b, rfl, hp1.same s2, by omega, SqL.of upd_same, by omega, by omega, fun z => hp1.there (by rw [← z]; exact nl), fun x H' hx but pot => ?_⟩
  obtain ⟨t, n1, n2, rfl, ht, b1, b2, b3, b4⟩ := (g1 x hx).same s2
  have np : t ≠ p := fun z => by
    obtain ⟨own, sm, n, e, _⟩ := hp1.same s2
    rw [z, e] at ht
    cases ht
  exact q t n1 n2 H' ((But.of (s1.trans s2)).trans but) pot (mk_of np (but _ _ ht np)) b1 b2 b3 b4
end
end K51
set_option Elab.async false
set_option linter.all false
set_option maxRecDepth 100000
set_option maxHeartbeats 8000000
namespace LG
open PySem L2
theorem GR.butp {K : PySem.W.Frag} {H H' : Hp} {p b : _} {kvs : List (List Key × V)} {g : Goals} (e : But p H H') (hp : PotAt H p b) (h : GR K H kvs g) : GR K H' kvs g := by
  induction h with
  | nil => exact .nil
  | cons a _ ih => exact .cons (e.tup hp a) ih
theorem tup_mk {K : PySem.W.Frag} {H : Hp} {p b t : _} {zs : List V} (hp : PotAt H p b) (h : SqT K H t zs) : SqT K (mk p H) t zs := by
  obtain ⟨own, sm, n, e1, _⟩ := hp
  rcases h with (q | ⟨ob, q⟩) | q
  · exact .inl (.inl (mk_of (fun z => by rw [z, e1] at q; cases q) q))
  · exact .inl (.inr ⟨ob, mk_of (fun z => by rw [z, e1] at q; cases q) q⟩)
  · exact .inr q
theorem GR.mk {K : PySem.W.Frag} {H : Hp} {p b : _} {kvs : List (List Key × V)} {g : Goals} (hp : PotAt H p b) (h : GR K H kvs g) : GR K (mk p H) kvs g := by
  induction h with
  | nil => exact .nil
  | cons a _ ih => exact .cons (tup_mk hp a) ih
def poolC : List Str := ["a", "b", "c", "pay", "test", "row", "calls", "x9", "zzzzzzzz", "p"]
def poolA : List Str := ["x", "y", "ok", "no", "a", "answers", "z0", "row"]
def poolS : List Str := ["p", "q", "s0", "s1", "s2", "states", "a", "zz"]
theorem poolC_nd : poolC.Nodup := by decide +kernel
theorem poolA_nd : poolA.Nodup := by decide +kernel
theorem poolS_nd : poolS.Nodup := by decide +kernel
theorem poolC_w : ∀ x ∈ poolC, isNameB x = true := by
  have h : poolC.all isNameB = true := by decide +kernel
  exact List.all_eq_true.mp h
theorem poolA_w : ∀ x ∈ poolA, isNameB x = true := by
  have h : poolA.all isNameB = true := by decide +kernel
  exact List.all_eq_true.mp h
theorem poolS_w : ∀ x ∈ poolS, isNameB x = true := by
  have h : poolS.all isNameB = true := by decide +kernel
  exact List.all_eq_true.mp h
end LG
namespace K51
open PySem L2 LG
section
variable {P : Program} {w : World} {K : PySem.W.Frag} {mg : Str → Option Value} {base : Heap}
def spAny (K : PySem.W.Frag) : Sp := fun vs H Q _ => ∃ (p z : Addr) (m n1 n2 b : Nat), vs = [.ref p, .int m, .ref z] ∧ PotAt H p b ∧ b ≤ 50000 ∧ 1 ≤ m ∧ m ≤ 4 ∧ mk p H z = some (.tup [.int n1, .int n2]) ∧ 1 ≤ n1 ∧ n1 ≤ 3 ∧ 2 ≤ n2 ∧ n2 ≤ 3 ∧
  ∀ (o : Addr) (D : Dev) (H' : Hp), But p H H' → PotAt H' p (b + 50) → Drawn D → D.states.length = m → OwnAt K (mk p H') o D → Q (.ref o) H'
abbrev nA : List Str := ["_law_pot_here", "_law_many", "_law_sizes_here", "_law_calls", "_law_answers", "_law_states", "_law_rows", "_law_state", "_law_call"]
theorem scAny : FnScope nA ["_law_pot_here", "_law_many", "_law_sizes_here"] (defScope sAny) := ⟨rfl, rfl, rfl, by decide +kernel, rfl, by decide +kernel, by decide +kernel⟩
theorem ok_any {f g1 g2 : Addr} {fd gd1 gd2 : FuncData} (F : Fun K "_law_any_device" "_law_any_device" sAny f fd)
    (GS : FnOk P w K mg base CX0 2 g1 gd1 ["_law_pot_here", "_law_pool", "_law_many"] (spSome K)) (mS : mg "_law_some" = some (.ref g1)) (kS : PySem.W.keepIn K (.ref g1) = true) (bS : Binds K gd1 ["_law_pot_here", "_law_pool", "_law_many"] [])
    (GO : FnOk P w K mg base CX0 2 g2 gd2 ["_law_pot_here", "_law_some_here"] (spOf K)) (mO : mg "_law_of" = some (.ref g2)) (kO : PySem.W.keepIn K (.ref g2) = true) (bO : Binds K gd2 ["_law_pot_here", "_law_some_here"] []) :
    FnOk P w K mg base CX0 3 f fd ["_law_pot_here", "_law_many", "_law_sizes_here"] (spAny K) := by
  refine F.ok scAny (fun vs H Q E h => ?_) (fun cdv A0 outer st H vs Q E hr h => ?_)
  · obtain ⟨p, z, m, n1, n2, b, rfl, _⟩ := h
    rfl
  obtain ⟨p, z, m, n1, n2, b, rfl, hp, hb, m1, m4, hz, a1, a3, c2, c3, q⟩ := h
  have hu := hu_of hr
  refine ⟨_, pss_cons (ps_set (i := 3) scAny.nd rfl (Or.inl rfl) (pe_call GS hr rfl mS kS bS .nil pass0 (pa_cons (pv 0) (pa_cons (pe_lst (pa_cons pe_str (pa_cons pe_str (pa_cons pe_str (pa_cons pe_str (pa_cons pe_str (pa_cons pe_str (pa_cons pe_str (pa_cons pe_str (pa_cons pe_str (pa_cons pe_str pa_nil))))))))))) (pa_cons (pe_ix ix_tup (pv 2) pe_int (fun _ _ => rfl)) pa_nil)))))
    (pss_cons (ps_set (i := 4) scAny.nd rfl (Or.inl rfl) (pe_call GS hr rfl mS kS bS .nil pass0 (pa_cons (pv 0) (pa_cons (pe_lst (pa_cons pe_str (pa_cons pe_str (pa_cons pe_str (pa_cons pe_str (pa_cons pe_str (pa_cons pe_str (pa_cons pe_str (pa_cons pe_str pa_nil))))))))) (pa_cons (pe_ix ix_tup (pv 2) pe_int (fun _ _ => rfl)) pa_nil)))))
    (pss_cons (ps_set (i := 5) scAny.nd rfl (Or.inl rfl) (pe_call GS hr rfl mS kS bS .nil pass0 (pa_cons (pv 0) (pa_cons (pe_lst (pa_cons pe_str (pa_cons pe_str (pa_cons pe_str (pa_cons pe_str (pa_cons pe_str (pa_cons pe_str (pa_cons pe_str (pa_cons pe_str pa_nil))))))))) (pa_cons (pv 1) pa_nil)))))
    (pss_cons (ps_set (i := 6) scAny.nd rfl (Or.inl rfl) pe_dnewT)
    (pss_cons (ps_for PassesOwn.never rfl (pi_list (pv 5)) (pg_name (i := 7) scAny.nd rfl (Or.inl rfl))
      (pss_one (ps_for PassesOwn.never rfl (pi_list (pv 3)) (pg_name (i := 8) scAny.nd rfl (Or.inl rfl))
        (pss_one (ps_dput hu (pv 6) (pe_tup (pa_cons (pv 7) (pa_cons (pv 8) pa_nil))) (pe_tup (pa_cons (pe_call GO hr rfl mO kO bO .nil pass0 (pa_cons (pv 0) (pa_cons (pv 4) pa_nil))) (pa_cons (pe_call GO hr rfl mO kO bO .nil pass0 (pa_cons (pv 0) (pa_cons (pv 5) pa_nil))) pa_nil))) rfl)))))
    (pss_one (ps_ret (pe_disp (pps_cons pe_str (pv 3) (pps_cons pe_str (pv 4) (pps_cons pe_str (pv 5) (pps_cons pe_str (pv 6) pps_nil)))) (by rfl) (by rfl) (fun z => by cases z) (by show 4 ≤ 15; decide)))))))), ?_⟩
  have lne : ∀ {G : Hp} {l : Addr} {b : Nat}, PotAt G p b → G l = none → l ≠ p := fun hp' nl z => hp'.there (by rw [← z]; exact nl)
  -- the calls
  refine ⟨_, rfl, (by show 10 ≤ sizeLine; decide), fun l1 nl1 => ?_⟩
  have s1 := same_new nl1 (.lst (poolC.map V.str))
  have hz0 : H z = some (.tup [.int n1, .int n2]) := (mk_some hz).2
  have hzp : z ≠ p := (mk_some hz).1
  refine ⟨_, rfl, z, _, 0, _, rfl, rfl, .inl (.inl (s1 _ _ hz0)), rfl, p, l1, n1, b, poolC.map V.str, rfl, hp.same s1, by omega, SqL.of upd_same, lne hp nl1, by show n1 ≤ 10; omega, by show 10 ≤ 1000; decide, fun f1 ys1 H1 but1 pot1 nf1 np1 hf1 ly1 pm1 => ?_⟩
  obtain ⟨zs1, pm1⟩ := pm1
  obtain ⟨C, rfl, ndC, memC⟩ := some_txt pm1 poolC_nd
  rw [List.length_map] at ly1
  have b1 : But p H H1 := (But.of s1).trans but1
  have hz1 := b1 _ _ hz0 hzp
  have nf1 : H f1 = none := s1.free nf1
  -- the answers
  refine ⟨_, rfl, (by show 8 ≤ sizeLine; decide), fun l2 nl2 => ?_⟩
  have s2 := same_new nl2 (.lst (poolA.map V.str))
  refine ⟨_, rfl, z, _, 1, _, rfl, rfl, .inl (.inl (s2 _ _ hz1)), rfl, p, l2, n2, _, poolA.map V.str, rfl, pot1.same s2, by omega, SqL.of upd_same, lne pot1 nl2, by show n2 ≤ 8; omega, by show 8 ≤ 1000; decide, fun f2 ys2 H2 but2 pot2 nf2 np2 hf2 ly2 pm2 => ?_⟩
  obtain ⟨zs2, pm2⟩ := pm2
  obtain ⟨A, rfl, ndA, memA⟩ := some_txt pm2 poolA_nd
  rw [List.length_map] at ly2
  have b12 : But p H1 H2 := (But.of s2).trans but2
  have b2 : But p H H2 := b1.trans b12
  have hf1 := b12 _ _ hf1 np1
  have nf2 : H1 f2 = none := s2.free nf2
  -- the states
  refine ⟨_, rfl, (by show 8 ≤ sizeLine; decide), fun l3 nl3 => ?_⟩
  have s3 := same_new nl3 (.lst (poolS.map V.str))
  refine ⟨_, rfl, p, l3, m, _, poolS.map V.str, rfl, pot2.same s3, by omega, SqL.of upd_same, lne pot2 nl3, by show m ≤ 8; omega, by show 8 ≤ 1000; decide, fun f3 ys3 H3 but3 pot3 nf3 np3 hf3 ly3 pm3 => ?_⟩
  obtain ⟨zs3, pm3⟩ := pm3
  obtain ⟨S, rfl, ndS, memS⟩ := some_txt pm3 poolS_nd
  rw [List.length_map] at ly3
  have b23 : But p H2 H3 := (But.of s3).trans but3
  have b3 : But p H H3 := b2.trans b23
  have hf1 := b23 _ _ hf1 np1
  have hf2 := b23 _ _ hf2 np2
  -- the rows
  intro r nr
  have s4 := same_new nr (.dT [])
  have hr4 : (upd H3 r (.dT [])) r = some (.dT []) := upd_same
  have npr := lne pot3 nr
  have nr0 : ∀ {c o}, H c = some o → c ≠ p → c ≠ r := fun e ne z => by
    have := b3 _ _ e ne
    rw [z, nr] at this
    cases this
  show _
  generalize upd H3 r (.dT []) = H4 at s4 hr4 ⊢
  have b4 : But p H H4 := b3.trans (But.of s4)
  have hf1 := s4 _ _ hf1
  have hf2 := s4 _ _ hf2
  have hf3 := s4 _ _ hf3
  have pot4 := pot3.same s4
  have nr1 : r ≠ f1 := ne_of hr4 hf1 (by intro z; cases z)
  have nr2 : r ≠ f2 := ne_of hr4 hf2 (by intro z; cases z)
  have nr3 : r ≠ f3 := ne_of hr4 hf3 (by intro z; cases z)
  generalize hB : b + n1 + n2 + m = B at pot4
  have hB2 : B ≤ b + 10 := by omega
  let J : Hp → Goals → Prop := fun G g => But p H G ∧ PotAt G p (B + 2 * g.length) ∧ G f1 = some (.lst (C.map V.str)) ∧ G f2 = some (.lst (A.map V.str)) ∧ G f3 = some (.lst (S.map V.str)) ∧ (∃ kvs, G r = some (.dT kvs) ∧ GR K G kvs g) ∧ ∀ e ∈ g, e.2.1 ∈ A ∧ e.2.2 ∈ S
  refine ⟨_, rfl, f3, rfl, ⟨_, SqL.of hf3⟩, ?_⟩
  refine for_list (xs := S.map V.str) (fun i σ G => ∃ x7 x8 g, σ = [some (.ref p), some (.int m), some (.ref z), some (.ref f1), some (.ref f2), some (.ref f3), some (.ref r), x7, x8] ∧ J G g ∧ g.map (·.1) = prodK (S.take i) C)
    ⟨_, _, [], rfl, ⟨b4, pot4, hf1, hf2, hf3, ⟨[], hr4, .nil⟩, fun _ h => nomatch h⟩, rfl⟩ ?_ ?_ ?_
  · rintro i σ G _ ⟨_, _, g, rfl, ⟨_, _, _, _, h, _⟩, _⟩
    exact SqL.of h
  · rintro i x σ G hx ⟨x7, x8, g, rfl, jG, kG⟩
    have hi : i < S.length := by
      have := (List.getElem?_eq_some_iff.mp hx).1
      simpa using this
    rw [List.getElem?_map, List.getElem?_eq_getElem hi] at hx
    have ex : x = .str S[i] := (Option.some.inj hx).symm
    subst ex
    obtain ⟨bG, pG, h1, h2, h3, hr5, vals⟩ := jG
    refine ⟨_, rfl, f1, rfl, ⟨_, SqL.of h1⟩, ?_⟩
    refine for_list (xs := C.map V.str) (fun j σ G => ∃ x8 g, σ = [some (.ref p), some (.int m), some (.ref z), some (.ref f1), some (.ref f2), some (.ref f3), some (.ref r), some (.str S[i]), x8] ∧ J G g ∧ g.map (·.1) = prodK (S.take i) C ++ (C.take j).map fun c => (S[i], c))
      ⟨_, g, rfl, ⟨bG, pG, h1, h2, h3, hr5, vals⟩, by simpa using kG⟩ ?_ ?_ ?_
    · rintro j σ G _ ⟨_, g, rfl, ⟨_, _, h, _, _, _⟩, _⟩
      exact SqL.of h
    · rintro j y σ G hy ⟨x8, g, rfl, ⟨bG, pG, h1, h2, h3, ⟨kvs, hrG, gr⟩, vals⟩, kG⟩
      have hj : j < C.length := by
        have := (List.getElem?_eq_some_iff.mp hy).1
        simpa using this
      rw [List.getElem?_map, List.getElem?_eq_getElem hj] at hy
      have ey : y = .str C[j] := (Option.some.inj hy).symm
      subst ey
      have glen : g.length ≤ 12 := by
        have e := congrArg List.length kG
        rw [List.length_map, List.length_append, prod_len, List.length_map, List.length_take, List.length_take] at e
        have i4 : min i S.length ≤ 3 := by omega
        have c4 : C.length ≤ 3 := by omega
        have := Nat.mul_le_mul i4 c4
        omega
      have fresh : g.lookup (S[i], C[j]) = none := by
        refine lookup_none_of ?_
        rw [kG, List.mem_append]
        rintro (h | h)
        · have := (prod_mem.mp h).1
          obtain ⟨k, hk, e⟩ := List.mem_take_iff_getElem.mp this
          have := (List.getElem_inj (List.nodup_iff_pairwise_ne.mp ndS |> fun _ => ndS)).mp e
          omega
        · obtain ⟨c, hc, e⟩ := List.mem_map.mp h
          have e2 := (Prod.mk.inj e).2
          rw [e2] at hc
          obtain ⟨k, hk, e3⟩ := List.mem_take_iff_getElem.mp hc
          have := (List.getElem_inj ndC).mp e3
          omega
      refine ⟨_, rfl, _, rfl, p, f2, A.map V.str, _, rfl, pG, by omega, SqL.of h2, by rw [List.length_map]; omega, by rw [List.length_map]; omega, np2, fun va G1 hva butA potA => ?_⟩
      obtain ⟨av, hav, rfl⟩ := List.mem_map.mp hva
      refine ⟨_, rfl, _, rfl, p, f3, S.map V.str, _, rfl, potA, by omega, SqL.of (butA _ _ h3 np3), by rw [List.length_map]; omega, by rw [List.length_map]; omega, np3, fun vb G2 hvb butB potB => ?_⟩
      obtain ⟨sv, hsv, rfl⟩ := List.mem_map.mp hvb
      have b02 := butA.trans butB
      refine ⟨(by show 2 ≤ sizeLine; decide), fun tv ntv => ?_⟩
      have s5 := same_new ntv (.tup [.str av, .str sv])
      have htv : (upd G2 tv (.tup [.str av, .str sv])) tv = some (.tup [.str av, .str sv]) := upd_same
      show _
      generalize upd G2 tv (.tup [.str av, .str sv]) = G3 at s5 htv ⊢
      refine ⟨_, rfl, _, rfl, _, rfl, (by show 2 ≤ sizeLine; decide), fun tk ntk => ?_⟩
      have s6 := same_new ntk (.tup [.str S[i], .str C[j]])
      have htk : (upd G3 tk (.tup [.str S[i], .str C[j]])) tk = some (.tup ((kT (S[i], C[j])).map kV)) := upd_same
      show _
      generalize upd G3 tk (.tup [.str S[i], .str C[j]]) = G4 at s6 htk ⊢
      have s56 := s5.trans s6
      have b04 : But p G G4 := b02.trans (But.of s56)
      have hr7 := b04 _ _ hrG npr
      have lk : valV kvs (kT (S[i], C[j])) = none := by
        rcases gr.val (S[i], C[j]) with ⟨_, l2⟩ | ⟨x, t, l1, _⟩
        · exact l2
        · rw [fresh] at l1
          cases l1
      have hlen := gr.len
      refine ⟨r, _, rfl, DPut.t hr7 htk (by rw [hlen, sizeLine_eq]; omega), ?_⟩
      rw [putK_new _ lk]
      have keep : ∀ {c o}, G4 c = some o → c ≠ r → (upd G4 r (.dT (kvs ++ [(kT (S[i], C[j]), V.ref tv)]))) c = some o := fun e ne => by rw [upd_ne ne]; exact e
      refine ⟨_, g ++ [((S[i], C[j]), (av, sv))], rfl, ⟨?_, ?_, keep (b04 _ _ h1 np1) (Ne.symm nr1), keep (b04 _ _ h2 np2) (Ne.symm nr2), keep (b04 _ _ h3 np3) (Ne.symm nr3), ⟨_, upd_same, ?_⟩, ?_⟩, ?_⟩
      · intro c o e ne
        exact keep ((bG.trans b04) c o e ne) (nr0 e ne)
      · obtain ⟨own, sm, n, e1, e2, e3, e4, e5, e6⟩ := potB.same s56
        exact ⟨own, sm, n, keep e1 (Ne.symm npr), e2, e3, e4, e5, by rw [List.length_append, List.length_singleton]; omega⟩
      · refine GR.upd hr7 (.snoc (GR.butp b04 pG gr) ?_)
        exact .inl (.inl (s6 _ _ htv))
      · intro e he
        rcases List.mem_append.mp he with he | he
        · exact vals e he
        · rw [List.mem_singleton.mp he]
          exact ⟨hav, hsv⟩
      · rw [List.map_append, kG, List.take_add_one, List.getElem?_eq_getElem hj, List.map_append, List.append_assoc]
        rfl
    · rintro σ G ⟨x8, g, rfl, jG, kG⟩
      refine ⟨_, _, g, rfl, jG, ?_⟩
      rw [kG, prod_take hi, List.length_map, List.take_length]
  · rintro σ G ⟨x7, x8, g, rfl, ⟨bG, pG, h1, h2, h3, ⟨kvs, hr5, gr⟩, vals⟩, kG⟩
    have em : mergeK [] [((.inr ("calls" : Str) : Key), V.ref f1), (.inr ("answers" : Str), .ref f2), (.inr ("states" : Str), .ref f3), (.inr ("rows" : Str), .ref r)] = [((.inr ("calls" : Str) : Key), V.ref f1), (.inr ("answers" : Str), .ref f2), (.inr ("states" : Str), .ref f3), (.inr ("rows" : Str), .ref r)] := by rfl
    intro o no
    refine ⟨_, rfl, _, rfl, _, rfl, _, rfl, upd_same, [((.inr ("calls" : Str) : Key), V.ref f1), (.inr ("answers" : Str), .ref f2), (.inr ("states" : Str), .ref f3), (.inr ("rows" : Str), .ref r)], rfl, (by show 4 ≤ 15; decide), ?_⟩
    rw [em, upd_upd]
    have s7 := same_new no (.dK [((.inr ("calls" : Str) : Key), V.ref f1), (.inr ("answers" : Str), .ref f2), (.inr ("states" : Str), .ref f3), (.inr ("rows" : Str), .ref r)])
    have ho : (upd G o (.dK [((.inr ("calls" : Str) : Key), V.ref f1), (.inr ("answers" : Str), .ref f2), (.inr ("states" : Str), .ref f3), (.inr ("rows" : Str), .ref r)])) o = some (.dK [((.inr ("calls" : Str) : Key), V.ref f1), (.inr ("answers" : Str), .ref f2), (.inr ("states" : Str), .ref f3), (.inr ("rows" : Str), .ref r)]) := upd_same
    generalize upd G o (.dK [((.inr ("calls" : Str) : Key), V.ref f1), (.inr ("answers" : Str), .ref f2), (.inr ("states" : Str), .ref f3), (.inr ("rows" : Str), .ref r)]) = G9 at s7 ho ⊢
    have npo := lne pG no
    rw [List.length_map, List.take_length] at kG
    have glen : g.length ≤ 12 := by
      have e := congrArg List.length kG
      rw [List.length_map, prod_len] at e
      have := Nat.mul_le_mul (by omega : S.length ≤ 4) (by omega : C.length ≤ 3)
      omega
    refine q o ⟨C, A, S, g⟩ G9 (bG.trans (But.of s7)) ((pG.same s7).mono (by omega)) ⟨ndC, ndA, ndS, ⟨by show 1 ≤ C.length; omega, by show C.length ≤ 3; omega⟩, ⟨by show 2 ≤ A.length; omega, by show A.length ≤ 3; omega⟩, ⟨by show 1 ≤ S.length; omega, by show S.length ≤ 4; omega⟩,
      fun x hx => poolC_w x (memC x hx), fun x hx => poolA_w x (memA x hx), fun x hx => poolS_w x (memS x hx), kG, vals⟩ (by show S.length = m; omega) ⟨⟨f1, f2, f3, r, kvs, mk_of npo ho, mk_of np1 (s7 _ _ h1), mk_of np2 (s7 _ _ h2), mk_of np3 (s7 _ _ h3), mk_of npr (s7 _ _ hr5), ?_⟩⟩
    exact (gr.same s7).mk (pG.same s7)
end
end K51
set_option Elab.async false
set_option linter.all false
set_option maxRecDepth 100000
set_option maxHeartbeats 8000000
namespace LG
open PySem L2
def rowX (D : Dev) (k : Str × Str) : Str × Str := (D.goals.lookup k).getD (Str.empty, Str.empty)
def rowOf (D : Dev) (k : Str × Str) : Str := Txt.join sp1 ["row", k.1, k.2, (rowX D k).1, (rowX D k).2]
def headsOf (D : Dev) : List Str := [("calls " : Str) ++ Txt.join sp1 D.calls, ("answers " : Str) ++ Txt.join sp1 D.answers, ("states " : Str) ++ Txt.join sp1 D.states]
def linesOf (D : Dev) (ks : List (Str × Str)) : List Str := headsOf D ++ ks.map (rowOf D)
def textOf (D : Dev) (ks : List (Str × Str)) : Str := Txt.join nl1 (linesOf D ks)
theorem name_len {x : Str} (h : isNameB x = true) : x.length ≤ 8 := by
  unfold isNameB at h
  simp only [Bool.and_eq_true, decide_eq_true_eq] at h
  exact h.1.1.2
theorem sum_le {ts : List Str} {k : Nat} (h : ∀ t ∈ ts, t.length ≤ k) : (ts.map (·.length)).sum ≤ ts.length * k := by
  induction ts with
  | nil => simp
  | cons x r ih =>
    have h1 := h x List.mem_cons_self
    have h2 := ih fun t ht => h t (List.mem_cons_of_mem _ ht)
    rw [List.map_cons, List.sum_cons, List.length_cons, Nat.succ_mul]
    omega
theorem join_le1 {y : Str} {ts : List Str} {k : Nat} (h1 : y.length = 1) (h : ∀ t ∈ ts, t.length ≤ k) : (Txt.join y ts).length ≤ ts.length * (k + 1) := by
  rw [TL.join_eq]
  cases ts with
  | nil => exact Nat.zero_le _
  | cons x r =>
    have e := join_size y (ts := x :: r) (by simp)
    rw [h1] at e
    have h2 : ((x :: r).map fun t => t.length + 1).sum ≤ (x :: r).length * (k + 1) := by
      clear e
      generalize x :: r = ts at h
      induction ts with
      | nil => simp
      | cons z q ih =>
        have b1 := h z List.mem_cons_self
        have b2 := ih fun t ht => h t (List.mem_cons_of_mem _ ht)
        rw [List.map_cons, List.sum_cons, List.length_cons, Nat.succ_mul]
        omega
    omega
theorem lookup_mem {g : Goals} {k x : Str × Str} (h : g.lookup k = some x) : (k, x) ∈ g := by
  induction g with
  | nil => cases h
  | cons e r ih =>
    obtain ⟨k', x'⟩ := e
    by_cases he : k = k'
    · subst he
      have : List.lookup k ((k, x') :: r) = some x' := by simp [List.lookup]
      rw [this] at h
      cases h
      exact List.mem_cons_self
    · have nb : (k == k') = false := by simpa using he
      have : List.lookup k ((k', x') :: r) = List.lookup k r := by simp [List.lookup, nb]
      rw [this] at h
      exact List.mem_cons_of_mem _ (ih h)
theorem lookup_some {g : Goals} {k : Str × Str} (h : k ∈ g.map (·.1)) : ∃ x, g.lookup k = some x := by
  cases e : g.lookup k with
  | some x => exact ⟨x, rfl⟩
  | none =>
    exfalso
    induction g with
    | nil => simp at h
    | cons p r ih =>
      obtain ⟨k', x'⟩ := p
      by_cases he : k = k'
      · subst he
        simp [List.lookup] at e
      · have nb : (k == k') = false := by simpa using he
        have l : List.lookup k ((k', x') :: r) = List.lookup k r := by simp [List.lookup, nb]
        rw [l] at e
        refine ih ?_ e
        simp at h
        rcases h with h | h
        · exact absurd h he
        · simpa using h
theorem Drawn.row {D : Dev} (d : Drawn D) {k : Str × Str} (h : k ∈ D.goals.map (·.1)) : D.goals.lookup k = some (rowX D k) ∧ k.1 ∈ D.states ∧ k.2 ∈ D.calls ∧ (rowX D k).1 ∈ D.answers ∧ (rowX D k).2 ∈ D.states := by
  obtain ⟨x, e⟩ := lookup_some h
  have ex : rowX D k = x := by
    unfold rowX
    rw [e]
    rfl
  have m := lookup_mem e
  rw [d.keys] at h
  have pm := prod_mem.mp h
  have v := d.vals _ m
  rw [ex]
  exact ⟨e, pm.1, pm.2, v.1, v.2⟩
theorem Drawn.row_len {D : Dev} (d : Drawn D) {k : Str × Str} (h : k ∈ D.goals.map (·.1)) : (rowOf D k).length ≤ 45 ∧ ∀ t ∈ (["row", k.1, k.2, (rowX D k).1, (rowX D k).2] : List Str), t.length ≤ 8 := by
  obtain ⟨_, h1, h2, h3, h4⟩ := d.row h
  have l : ∀ t ∈ (["row", k.1, k.2, (rowX D k).1, (rowX D k).2] : List Str), t.length ≤ 8 := by
    intro t ht
    simp only [List.mem_cons, List.not_mem_nil, or_false] at ht
    rcases ht with rfl | rfl | rfl | rfl | rfl
    · decide +kernel
    · exact name_len (d.sw _ h1)
    · exact name_len (d.cw _ h2)
    · exact name_len (d.aw _ h3)
    · exact name_len (d.sw _ h4)
  exact ⟨join_le1 sp1_1 l, l⟩
theorem Drawn.lens {D : Dev} (d : Drawn D) : (∀ t ∈ D.calls, t.length ≤ 8) ∧ (∀ t ∈ D.answers, t.length ≤ 8) ∧ (∀ t ∈ D.states, t.length ≤ 8) := ⟨fun t h => name_len (d.cw t h), fun t h => name_len (d.aw t h), fun t h => name_len (d.sw t h)⟩
theorem Drawn.heads_len {D : Dev} (d : Drawn D) : ∀ t ∈ headsOf D, t.length ≤ 45 := by
  obtain ⟨h1, h2, h3⟩ := d.lens
  have j1 := join_le1 sp1_1 h1
  have j2 := join_le1 sp1_1 h2
  have j3 := join_le1 sp1_1 h3
  have e1 : ("calls " : Str).length = 6 := by decide +kernel
  have e2 : ("answers " : Str).length = 8 := by decide +kernel
  have e3 : ("states " : Str).length = 7 := by decide +kernel
  have := d.c1
  have := d.a1
  have := d.s1
  intro t ht
  unfold headsOf at ht
  simp only [List.mem_cons, List.not_mem_nil, or_false] at ht
  rcases ht with rfl | rfl | rfl
  · rw [strLen_append]
    omega
  · rw [strLen_append]
    omega
  · rw [strLen_append]
    omega
theorem Drawn.lines_len {D : Dev} (d : Drawn D) {ks : List (Str × Str)} (h : ∀ k ∈ ks, k ∈ D.goals.map (·.1)) : ∀ t ∈ linesOf D ks, t.length ≤ 45 := by
  intro t ht
  rcases List.mem_append.mp ht with ht | ht
  · exact d.heads_len t ht
  · obtain ⟨k, hk, rfl⟩ := List.mem_map.mp ht
    exact (d.row_len (h k hk)).1
end LG
set_option Elab.async false
set_option linter.all false
set_option maxRecDepth 100000
set_option maxHeartbeats 8000000
namespace LG
open PySem L2
def rJoinK (K : PySem.W.Frag) : V → List V → Hp → VK → Prop := fun x xs H Q => ∃ (a : Str) (p : Addr) (ys : List Str), x = .str a ∧ xs = [.ref p] ∧ (SqL K H p (ys.map V.str) ∨ SqT K H p (ys.map V.str)) ∧ (ys.map (·.length)).sum + ys.length * a.length ≤ 16777216 ∧ Q (.str (Txt.join a ys)) H
theorem str_bits (ks : List (Str × Str)) (f : Str × Str → Str) : (List.range ks.length).map (fun i => V.str (f (ks.getD i (Str.empty, Str.empty)))) = (ks.map f).map V.str := by
  apply List.ext_getElem
  · simp
  · intro k h1 h2
    have hk : k < ks.length := by simpa using h1
    simp [List.getD, hk]
end LG
set_option Elab.async false
set_option linter.all false
set_option maxRecDepth 100000
set_option maxHeartbeats 8000000
namespace LG
open PySem L2
theorem refs_of {K : PySem.W.Frag} {H : Hp} : ∀ {kvs : List (List Key × V)} {g : Goals} {bs : List Addr}, GR K H kvs g → IsKeys H kvs bs → KeyRefs H (bs.map V.ref) (g.map (·.1))
  | _, _, _, .nil, .nil => .nil
  | _, _, _, .cons _ r, .cons h t => .cons h (refs_of r t)
theorem KeyRefs.butp {H H' : Hp} {p b : _} {vs : List V} {ks : List (Str × Str)} (e : But p H H') (hp : PotAt H p b) (h : KeyRefs H vs ks) : KeyRefs H' vs ks := by
  obtain ⟨own, sm, n, h1, _⟩ := hp
  induction h with
  | nil => exact .nil
  | cons a _ ih => exact .cons (e _ _ a (fun z => by rw [z, h1] at a; cases a)) ih
theorem KeyRefs.mk {H : Hp} {p b : _} {vs : List V} {ks : List (Str × Str)} (hp : PotAt H p b) (h : KeyRefs H vs ks) : KeyRefs (mk p H) vs ks := by
  obtain ⟨own, sm, n, h1, _⟩ := hp
  induction h with
  | nil => exact .nil
  | cons a _ ih => exact .cons (mk_of (fun z => by rw [z, h1] at a; cases a) a) ih
end LG
set_option Elab.async false
set_option linter.all false
set_option maxRecDepth 100000
set_option maxHeartbeats 4000000
namespace LG
open PySem L2
/-! ### the text of a drawn device is read as it was written -/
theorem name_signs {x : Str} (h : isNameB x = true) : ∀ c ∈ TL.tl x, (inL c || inF c) = true := by
  unfold isNameB at h
  rw [Bool.and_eq_true] at h
  exact List.all_eq_true.mp h.2
theorem sign32 : (inL 32 || inF 32) = false := by decide +kernel
theorem sign10 : (inL 10 || inF 10) = false := by decide +kernel
theorem no_sign {x : Str} (h : isNameB x = true) {c : Nat} (hc : (inL c || inF c) = false) : c ∉ TL.tl x := fun m => by
  rw [name_signs h c m] at hc
  cases hc
theorem join_mem {y : Str} : ∀ {ts : List Str} {c : Nat}, c ∈ TL.tl (Str.join y ts) → c ∈ TL.tl y ∨ ∃ t ∈ ts, c ∈ TL.tl t
  | [], c, h => by
    have : c ∈ TL.tl Str.empty := h
    simp [TL.tl, Str.empty] at this
  | [x], c, h => .inr ⟨x, List.mem_singleton.mpr rfl, h⟩
  | x :: z :: r, c, h => by
    have e : Str.join y (x :: z :: r) = x ++ y ++ Str.join y (z :: r) := rfl
    rw [e, TL.tl_append, TL.tl_append] at h
    rcases List.mem_append.mp h with h | h
    · rcases List.mem_append.mp h with h | h
      · exact .inr ⟨x, List.mem_cons_self, h⟩
      · exact .inl h
    · rcases join_mem h with h | ⟨t, ht, h⟩
      · exact .inl h
      · exact .inr ⟨t, List.mem_cons_of_mem _ ht, h⟩
theorem words_join {ts : List Str} (hne : ts ≠ []) (h : ∀ t ∈ ts, 32 ∉ TL.tl t) : Txt.split (Txt.join sp1 ts) sp1 = ts := TL.split_join (s := 32) (S := []) (by decide +kernel) sp1_k hne h
theorem lines_join {ts : List Str} (hne : ts ≠ []) (h : ∀ t ∈ ts, 10 ∉ TL.tl t) : Txt.split (Txt.join nl1 ts) nl1 = ts := TL.split_join (s := 10) (S := []) (by decide +kernel) nl1_k hne h
theorem no10_join {ts : List Str} (h : ∀ t ∈ ts, 10 ∉ TL.tl t) : 10 ∉ TL.tl (Txt.join sp1 ts) := fun m => by
  rw [TL.join_eq] at m
  rcases join_mem m with m | ⟨t, ht, m⟩
  · have : (10 : Nat) ∉ TL.tl sp1 := by decide +kernel
    exact this m
  · exact h t ht m
theorem head_line {w : Str} {ns : List Str} (hn : ns ≠ []) : (w ++ sp1) ++ Txt.join sp1 ns = Txt.join sp1 (w :: ns) := by
  rw [TL.join_eq, TL.join_eq]
  cases ns with
  | nil => exact absurd rfl hn
  | cons x r => rfl
theorem headsOf_eq {D : Dev} (d : Drawn D) : headsOf D = [Txt.join sp1 ("calls" :: D.calls), Txt.join sp1 ("answers" :: D.answers), Txt.join sp1 ("states" :: D.states)] := by
  have ne : ∀ {l : List Str} {n : Nat}, 1 ≤ n → n ≤ l.length → l ≠ [] := by
    intro l n h1 h2 e
    rw [e] at h2
    simp at h2
    omega
  have e1 : ("calls " : Str) = ("calls" : Str) ++ sp1 := by decide +kernel
  have e2 : ("answers " : Str) = ("answers" : Str) ++ sp1 := by decide +kernel
  have e3 : ("states " : Str) = ("states" : Str) ++ sp1 := by decide +kernel
  unfold headsOf
  rw [e1, e2, e3, head_line (ne (Nat.le_refl 1) d.c1.1), head_line (ne (by decide) d.a1.1), head_line (ne (Nat.le_refl 1) d.s1.1)]
theorem w10 : (10 : Nat) ∉ TL.tl ("calls" : Str) ∧ (10 : Nat) ∉ TL.tl ("answers" : Str) ∧ (10 : Nat) ∉ TL.tl ("states" : Str) ∧ (10 : Nat) ∉ TL.tl ("row" : Str) := by decide +kernel
theorem w32 : (32 : Nat) ∉ TL.tl ("calls" : Str) ∧ (32 : Nat) ∉ TL.tl ("answers" : Str) ∧ (32 : Nat) ∉ TL.tl ("states" : Str) ∧ (32 : Nat) ∉ TL.tl ("row" : Str) := by decide +kernel
theorem Drawn.row_names {D : Dev} (d : Drawn D) {k : Str × Str} (h : k ∈ D.goals.map (·.1)) : ∀ t ∈ ([k.1, k.2, (rowX D k).1, (rowX D k).2] : List Str), isNameB t = true := by
  obtain ⟨_, h1, h2, h3, h4⟩ := d.row h
  intro t ht
  simp only [List.mem_cons, List.not_mem_nil, or_false] at ht
  rcases ht with rfl | rfl | rfl | rfl
  · exact d.sw _ h1
  · exact d.cw _ h2
  · exact d.aw _ h3
  · exact d.sw _ h4
theorem Drawn.no10 {D : Dev} (d : Drawn D) {ks : List (Str × Str)} (h : ∀ k ∈ ks, k ∈ D.goals.map (·.1)) : ∀ t ∈ linesOf D ks, 10 ∉ TL.tl t := by
  have cons : ∀ {w : Str} {ns : List Str}, (10 : Nat) ∉ TL.tl w → (∀ x ∈ ns, isNameB x = true) → 10 ∉ TL.tl (Txt.join sp1 (w :: ns)) := by
    intro w ns hw hn
    refine no10_join fun t ht => ?_
    rcases List.mem_cons.mp ht with rfl | ht
    · exact hw
    · exact no_sign (hn t ht) sign10
  intro t ht
  unfold linesOf at ht
  rw [headsOf_eq d] at ht
  rcases List.mem_append.mp ht with ht | ht
  · simp only [List.mem_cons, List.not_mem_nil, or_false] at ht
    rcases ht with rfl | rfl | rfl
    · exact cons w10.1 d.cw
    · exact cons w10.2.1 d.aw
    · exact cons w10.2.2.1 d.sw
  · obtain ⟨k, hk, rfl⟩ := List.mem_map.mp ht
    exact cons w10.2.2.2 (d.row_names (h k hk))
theorem namesIn_of {w : Str} {ns : List Str} {a b : Int} (hw : (32 : Nat) ∉ TL.tl w) (hn : ∀ x ∈ ns, isNameB x = true) (nd : ns.Nodup) (ha : a ≤ (ns.length : Int)) (hb : (ns.length : Int) ≤ b) : LG.namesIn (Txt.join sp1 (w :: ns)) w a b = ns := by
  have e : Txt.split (Txt.join sp1 (w :: ns)) sp1 = w :: ns := words_join (by simp) fun t ht => by
    rcases List.mem_cons.mp ht with rfl | ht
    · exact hw
    · exact no_sign (hn t ht) sign32
  unfold LG.namesIn
  rw [e]
  show (if w ≠ w ∨ ¬ (a ≤ (ns.length : Int) ∧ (ns.length : Int) ≤ b) then _ else if (uniq ns).length < ns.length ∨ ¬ (ns.all isNameB = true) then _ else ns) = ns
  rw [if_neg, if_neg]
  · rintro (h | h)
    · have := (uniq_len ns).2.mpr nd
      omega
    · exact h (List.all_eq_true.mpr hn)
  · rintro (h | h)
    · exact h rfl
    · exact h ⟨ha, hb⟩
theorem Drawn.step {D : Dev} (d : Drawn D) {k : Str × Str} (h : k ∈ D.goals.map (·.1)) {g : Goals} (hg : g.lookup k = none) : goalStep D.calls D.answers D.states g (rowOf D k) = some (g ++ [(k, rowX D k)]) := by
  obtain ⟨_, h1, h2, h3, h4⟩ := d.row h
  have e : Txt.split (rowOf D k) sp1 = [("row" : Str), k.1, k.2, (rowX D k).1, (rowX D k).2] := words_join (by simp) fun t ht => by
    rcases List.mem_cons.mp ht with rfl | ht
    · exact w32.2.2.2
    · exact no_sign (d.row_names h t ht) sign32
  have hl : isLine ["row", k.1, k.2, (rowX D k).1, (rowX D k).2] D.calls D.answers D.states = true := by
    unfold isLine
    simp [h1, h2, h3, h4]
  have := step_ok (g := g) (s := k.1) (c := k.2) e hl hg
  exact this
theorem Drawn.goals_from {D : Dev} (d : Drawn D) : ∀ {ks : List (Str × Str)} {n : Nat} {g : Goals}, (∀ k ∈ ks, k ∈ D.goals.map (·.1)) → ks.Nodup → (∀ k ∈ ks, k ∉ g.map (·.1)) →
    goalsFrom D.calls D.answers D.states (ks.map (rowOf D)) n g = .inr (g ++ ks.map fun k => (k, rowX D k))
  | [], n, g, _, _, _ => by simp [goalsFrom]
  | k :: r, n, g, h, nd, out => by
    obtain ⟨n1, n2⟩ := List.nodup_cons.mp nd
    have st := d.step (h k List.mem_cons_self) (g := g) (lookup_none_of (out k List.mem_cons_self))
    show (match goalStep D.calls D.answers D.states g (rowOf D k) with | none => _ | some g' => _) = _
    rw [st]
    have ih := goals_from d (ks := r) (n := n + 1) (g := g ++ [(k, rowX D k)]) (fun x hx => h x (List.mem_cons_of_mem _ hx)) n2 (fun x hx => by
      rw [List.map_append, List.mem_append]
      rintro (m | m)
      · exact out x (List.mem_cons_of_mem _ hx) m
      · have e : x = k := by simpa using m
        exact n1 (e ▸ hx))
    show goalsFrom D.calls D.answers D.states (r.map (rowOf D)) (n + 1) (g ++ [(k, rowX D k)]) = _
    rw [ih, List.map_cons, List.append_assoc]
    rfl
/-- what a device of such a text is -/
def readOf (D : Dev) (ks : List (Str × Str)) : Dev := ⟨D.calls, D.answers, D.states, ks.map fun k => (k, rowX D k)⟩
theorem Drawn.read {D : Dev} (d : Drawn D) {ks : List (Str × Str)} (pm : ks.Perm (D.goals.map (·.1))) : parse (textOf D ks) = .inr (readOf D ks) := by
  have h : ∀ k ∈ ks, k ∈ D.goals.map (·.1) := fun k hk => pm.mem_iff.mp hk
  have nd : ks.Nodup := pm.nodup_iff.mpr (by rw [d.keys]; exact prod_nodup d.sn d.cn)
  have es : Txt.split (textOf D ks) nl1 = linesOf D ks := lines_join (by unfold linesOf headsOf; simp) (d.no10 h)
  have eL : linesOf D ks = Txt.join sp1 ("calls" :: D.calls) :: Txt.join sp1 ("answers" :: D.answers) :: Txt.join sp1 ("states" :: D.states) :: ks.map (rowOf D) := by
    unfold linesOf
    rw [headsOf_eq d]
    rfl
  have c1 := d.c1
  have a1 := d.a1
  have s1 := d.s1
  have i0 : headAt (linesOf D ks) 0 = D.calls := by
    rw [eL]
    exact namesIn_of w32.1 d.cw d.cn (by omega) (by omega)
  have i1 : headAt (linesOf D ks) 1 = D.answers := by
    rw [eL]
    exact namesIn_of w32.2.1 d.aw d.an (by omega) (by omega)
  have i2 : headAt (linesOf D ks) 2 = D.states := by
    rw [eL]
    exact namesIn_of w32.2.2.1 d.sw d.sn (by omega) (by omega)
  have ne : ∀ {l : List Str}, 1 ≤ l.length → l ≠ [] := by
    intro l h1 e
    rw [e] at h1
    simp at h1
  have eh : readHeads (linesOf D ks) = ([D.calls, D.answers, D.states], 0) := by
    unfold readHeads
    rw [i0, i1, i2, if_neg (ne c1.1), if_neg (ne (by omega)), if_neg (ne s1.1)]
  have eg : readGoals (linesOf D ks) D.calls D.answers D.states = .inr (ks.map fun k => (k, rowX D k)) := by
    unfold readGoals
    have ed : (linesOf D ks).drop 3 = ks.map (rowOf D) := by
      rw [eL]
      rfl
    rw [ed, d.goals_from h nd (fun k _ => by simp)]
    show (if _ then _ else _) = _
    rw [if_neg, List.nil_append]
    rw [List.nil_append, List.length_map, pm.length_eq, d.keys, prod_len]
    exact Nat.lt_irrefl _
  rw [parse_heads (by rw [es]; exact eh) (g := []), es, eg]
  rfl
theorem readOf_look {D : Dev} (d : Drawn D) {ks : List (Str × Str)} (pm : ks.Perm (D.goals.map (·.1))) {k : Str × Str} (h : k ∈ D.goals.map (·.1)) : (readOf D ks).goals.lookup k = some (rowX D k) := by
  have hk : k ∈ ks := pm.mem_iff.mpr h
  show (ks.map fun k => (k, rowX D k)).lookup k = _
  clear pm h
  induction ks with
  | nil => cases hk
  | cons x r ih =>
    by_cases e : k = x
    · subst e
      simp [List.lookup]
    · have nb : (k == x) = false := by simpa using e
      rw [List.map_cons]
      have l : List.lookup k ((x, rowX D x) :: r.map fun k => (k, rowX D k)) = List.lookup k (r.map fun k => (k, rowX D k)) := by simp [List.lookup, nb]
      rw [l]
      rcases List.mem_cons.mp hk with z | z
      · exact absurd z e
      · exact ih z
end LG
set_option Elab.async false
set_option linter.all false
set_option maxRecDepth 100000
set_option maxHeartbeats 2000000
/-! for k, v in d.items(), d a locked dict with tuple keys. -/
namespace LG
open PySem PySem.Spec PyProof.Rows L2
/-- the pairs of the locked dict at d -/
def Itit (d : Addr) (o : Obj) (kvs : List (List Key × V)) : It :=
  ⟨fun i H => H d = some (.frz o (.dT kvs)) ∧ i < kvs.length, fun i H x H' => ∃ (T q : Addr) (k : List Key) (v : V), kvs[i]? = some (k, v) ∧ H q = some (.tup (k.map kV)) ∧ x = .ref T ∧ H T = none ∧ H' = upd H T (.tup [.ref q, v]), fun i H => H d = some (.frz o (.dT kvs)) ∧ kvs.length ≤ i⟩
section
variable {X : Cx} {pins : List (Addr × Obj)} {σ : L2.St} {H : Hp} {s : Shared} {d : Addr} {o : Obj}
theorem frz_both {kvs : List (List Key × V)} (I : Inv X pins σ H s) (h : H d = some (.frz o (.dT kvs))) : (d == sysModules) = false ∧ ∃ (es : Array DictEntry) (ep : Nat), o.data = .dict es ep ∧ s.heap.DictRaw d es ep ∧ es.size = kvs.length ∧
    ∀ (i : Nat) (k : List Key) (v : V), kvs[i]? = some (k, v) → ∃ (en : DictEntry) (q : Addr), es[i]? = some en ∧ en.key = .ref q ∧ H q = some (.tup (k.map kV)) ∧ RelV v en.val := by
  obtain ⟨hd, z, hs, xs, pr, o', es, ep, ho, hx, hdt, he, _⟩ := I.hok d _ h
  rw [hd] at ho
  cases ho
  refine ⟨hs, es, ep, hdt, ⟨o, hd, hx, hdt⟩, ?_, fun i k v e => ?_⟩
  · have l1 : es.size = xs.length := size_of_entries he
    have l2 : kvs.length = xs.length := Paired.length pr
    omega
  · obtain ⟨b, hb, e1, e2, e3⟩ := paired_get pr e
    have q := entry_at he i
    rw [hb] at q
    exact ⟨_, b.2.1, q, rfl, e2, e3⟩
end
theorem turn_itemsT {P : Program} {w : World} {K : PySem.W.Frag} {d : Addr} {o : Obj} {es : Array DictEntry} {ep : Nat} {kvs : List (List Key × V)} {elts : List Expr} {kk : Nat} {tpos : Pos} (it : Addr) (hod : o.data = .dict es ep) :
    Turn P w K (.Tuple elts kk tpos) (Itit d o kvs) [it] it (fun i h => ∃ ok ov, IsItemIter h it d i es.size ep ok ov) where
  mem := by simp
  obj := fun i h st b hb => by
    have e : b = it := by simpa using hb
    subst e
    obtain ⟨ok, ov, e⟩ := st
    exact ⟨_, e, fun v z => nomatch z⟩
  keep := fun i h h' st k => by
    obtain ⟨ok, ov, e⟩ := st
    exact ⟨ok, ov, k it (by simp) _ e⟩
  item := by
    intro X hP hw hK hc i pins s σ H E I hf st hg
    subst hP hw hK
    obtain ⟨hd, hi⟩ := hg
    obtain ⟨hs, es', ep', hdt, raw, hsz, ent⟩ := frz_both I hd
    obtain ⟨rfl, rfl⟩ := dict_ep hod hdt
    obtain ⟨⟨k, v⟩, hkv⟩ : ∃ p, kvs[i]? = some p := ⟨kvs[i], List.getElem?_eq_getElem hi⟩
    obtain ⟨en, q, hen, hkey, hq, hv⟩ := ent i k v hkv
    have hlt' : i < es'.size := by omega
    have een : es'[i] = en := by
      rw [Array.getElem?_eq_getElem hlt'] at hen
      exact Option.some.inj hen
    obtain ⟨ok, ov, he⟩ := st
    have hlt : it < s.heap.objs.size := Heap.lt_size he
    refine wpAny_pyNext_items_item_raw he raw hlt' fun h' ho hT hz hk => ?_
    rw [een, hkey] at ho hT
    refine ⟨_, rfl, wpAny_letOwnedTupleGo_items (s := { s with heap := h' }) ho fun h'' he' sb => ?_⟩
    have hT2 : h''.get? s.heap.objs.size = some { cls := .type "tuple", data := .seq #[.ref q, en.val] } := (sb.2 _ (Nat.ne_of_gt hlt)).trans hT
    have new : ObjOk X.prog X.w (upd H s.heap.objs.size (.tup [.ref q, v])) h'' s.heap.objs.size (.tup [.ref q, v]) :=
      ⟨by show 2 ≤ sizeLine; decide, [.ref q, en.val], .cons rfl (.cons hv .nil), ⟨_, hT2, rfl, _, rfl⟩⟩
    have I1 : Inv X pins σ (upd H s.heap.objs.size (.tup [.ref q, v])) { s with heap := h'' } :=
      I.turnedNew (t' := s.toks) (ch := [it]) (fun b ob hb e => (sb.2 b (by simpa using hb)).trans (hk b ob (by simpa using hb) e)) hf (Nat.le_refl _) new
    refine ⟨.ref s.heap.objs.size, _, I1, rfl, ⟨_, q, k, v, hkv, hq, rfl, I.hok.fresh (Nat.le_refl _), rfl⟩, ⟨_, _, he'⟩, fun b hb => ?_⟩
    have e : b = it := by simpa using hb
    rw [e, upd_ne (Nat.ne_of_lt hlt)]
    exact (hf it (by simp)).1
  done := by
    intro X hP hw hK hc i pins s σ H E I hf st hg
    subst hP hw hK
    obtain ⟨hd, hi⟩ := hg
    obtain ⟨f0, f1, f2, f3, f4, f5⟩ := hf it (by simp)
    obtain ⟨hs, es', ep', hdt, raw, hsz, ent⟩ := frz_both I hd
    obtain ⟨rfl, rfl⟩ := dict_ep hod hdt
    obtain ⟨ok, ov, he⟩ := st
    exact wpAny_pyNext_items_end_raw (I.ok.hd hc) he raw (by omega) fun h' eb => ⟨rfl, I.turned (t' := s.toks) (fun b ob hb e => eb b ob hb e) f0 f1 f3 f4 f5⟩
  self := fun A i s Q E st h => by
    obtain ⟨_, _, e⟩ := st
    exact PySem.W.kcp_self e h
def iItemsT (td : TE) : TI := fun σ H R => td σ H fun x H1 => ∃ (d : Addr) (o : Obj) (kvs : List (List Key × V)), x = .ref d ∧ H1 d = some (.frz o (.dT kvs)) ∧ R (Itit d o kvs) H1
theorem pi_itemsT {X : Cx} {e : Expr} {td : TE} {elts : List Expr} {kk : Nat} {tpos apos cpos : Pos} (he : PE X e td) (hbase : attributeBase e "items" X.env (eval e X.env) = eval e X.env := by rfl) (hline : (apos.endLine == cpos.line) = true := by rfl) :
    PI X (.Tuple elts kk tpos) (.Call (.Attribute e "items" apos) [] [] cpos) (iItemsT td) := by
  refine ⟨fun pins s σ H R I h => ?_⟩
  refine wpAny_Call_method (T := "dict") (id := "dict.items") hbase rfl hline F.plainAttrs_dict F.slot_dict_items F.type_dict_items (thn (he.run pins s σ H _ I h) fun u s1 ⟨x, H1, I1, rx, d, o, kvs, ex, hd, q⟩ => ?_)
  subst ex
  have eu : u = Value.ref d := rx
  subst eu
  obtain ⟨hs, es, ep, hdt, raw, hsz, ent⟩ := frz_both I1 hd
  have noD : ∃ ob, s1.heap.get? d = some ob ∧ ob.ExactDict := by
    obtain ⟨ob, h1, h2, _⟩ := raw
    exact ⟨ob, h1, h2⟩
  obtain ⟨ob, hob, hex⟩ := noD
  refine ⟨⟨ob, hob, hex.1⟩, fun a ea => ⟨ob, by cases ea; exact hob, hex.2.1⟩, ?_⟩
  have I2 : Inv X pins σ H1 { s1 with heap := s1.heap.push { cls := .type "dict_items", data := .fields #[.ref d] } } := I1.kept (t' := s1.toks) fun b ob q => Heap.get?_push_of_some _ q
  have raw2 : (s1.heap.push { cls := .type "dict_items", data := .fields #[.ref d] }).DictRaw d es ep := by
    obtain ⟨ob, h1, h2⟩ := raw
    exact ⟨ob, Heap.get?_push_of_some _ h1, h2⟩
  have fin : wpAny (model X.prog X.w) X.A (pyIter (.ref s1.heap.objs.size)) (PIE X pins σ (.Tuple elts kk tpos) R) X.xe { s1 with heap := s1.heap.push { cls := .type "dict_items", data := .fields #[.ref d] } } :=
    wpAny_pyIter_items_raw (d := d) ⟨_, Heap.get?_push_size _ rfl, rfl, rfl⟩ raw2 (pi_one (tk := s1.toks) I2 _ (turn_itemsT _ hdt) ⟨.none, .none, Heap.get?_push_size _ rfl⟩ q)
  show wpAny _ _ (callWith cpos (.builtin "dict.items") [.ref d] [] []) _ X.xe s1
  exact method_meetsIn F.slot_dict_items F.entry_dict_items rfl (PySem.evalArgs_none ⟨rfl, ⟨ob, hob, hex.1⟩, F.args_dict_items_1 _, _, meets_dict_items_raw d hs, ⟨es, ep, raw⟩, fin⟩)
theorem walk_itemsT {d : Addr} {o : Obj} {kvs : List (List Key × V)} : Walk (Itit d o kvs) kvs.length (fun H => H d = some (.frz o (.dT kvs))) (fun i H x H' => ∃ (T q : Addr) (k : List Key) (v : V), kvs[i]? = some (k, v) ∧ H q = some (.tup (k.map kV)) ∧ x = .ref T ∧ H T = none ∧ H' = upd H T (.tup [.ref q, v])) :=
  ⟨fun _ _ hi q => ⟨q, hi⟩, fun _ q => ⟨q, Nat.le_refl _⟩, fun _ _ _ _ _ _ y => y⟩
end LG
set_option Elab.async false
set_option linter.all false
set_option maxRecDepth 100000
set_option maxHeartbeats 2000000
namespace LG
open PySem PySem.Spec PyProof.Rows L2 LamX
section
variable {P : Program} {w : World} {K : PySem.W.Frag} {mg : Str → Option Value} {base : Heap}
/-- a def's promise by its body, its code object known -/
theorem gn_ofL {x qual : Str} {st : Stmt} {f : Addr} {oc : Value} {od : Option Addr} {kV doc pm cv ct : Value} {an : Option Addr} {osl : Array (Option Value)} {N ps : List Str} {k : Nat} {sp : Sp}
    (lk : K.lookup f = some ⟨oc, od, .func (PySem.W.fnOf x qual (defArgs st) (defBody st) (defScope st) .none kV doc pm an cv ct), osl⟩) (hcd : PySem.W.codeIn K cv qual = true) (S : FnScope N ps (defScope st))
    (len : ∀ vs H Q E, sp vs H Q E → vs.length = ps.length)
    (body : ∀ (B : Around) (callers : List Env) (z : Shared) (H : Hp) (vs : List V) (Q : VK), B.guards = some [] → Room k (B.deeper (envOfC qual (defScope st) z.heap.objs.size f cv)) → sp vs H Q E0 →
      ∃ t, PSs (cxOf CX0 P w K mg base N qual (defScope st) f cv B callers z H E0).nox (defBody st) t ∧ t { nx := fun _ H' => Q .non H', rt := Q } (start N vs) H) :
    GnOk P w K mg base (k + 1) f (PySem.W.fnOf x qual (defArgs st) (defBody st) (defScope st) .none kV doc pm an cv ct) ps sp := by
  refine ⟨len, fun B callers z H args us vs Q hg hr e0 hb r hsp => ?_⟩
  have many := len _ _ _ _ hsp
  have inK : K.In z.heap := e0.mod.kin.keeps fun b o e => (e0.bs b o e).1
  have nolim : z.heap.NoLimit := e0.mod.nolimit.keeps fun b o e => (e0.bs b o e).1
  have kinds : ∀ y ∈ ps.zip us, (defScope st).names.lookup y.1 = some .local ∨ ((defScope st).names.lookup y.1 = some .cell ∧ ((cellsFrom (z.heap.objs.size + 1) (defScope st).names []).lookup y.1).isSome = true) := by
    rintro ⟨n, v⟩ hy
    cases S.par n (List.of_mem_zip hy).1 with
    | inl q => exact .inl q
    | inr q => exact .inr ⟨q, PySem.W.cellsFrom_some _ _ _ (.inl q)⟩
  refine codeAny_call_function hr.depth (inK _ _ lk) rfl S.co S.gen rfl (PySem.W.codeRec_of inK hcd) (hb _ _ _ _ ?_)
  refine wpAny_newFunctionEnv_cells S.kind kinds fun env he z1 entered => ?_
  subst he
  refine ⟨nolim.keeps entered.toInCall.keep, codeAny_func ?_⟩
  obtain ⟨t, ht, q0⟩ := body B callers z H vs Q hg (hr.deeper _) hsp
  have J := inv_start (CX := CX0) (E := E0) S hr.hd e0 many r entered
  refine wpAny_mono (ht.nox.run [] z1 (start N vs) H _ J q0) (fun fl z' ends => ?_) fun _ _ e => e
  cases fl with
  | ret u =>
    obtain ⟨v, σ', H', J', rv, q⟩ := ends
    exact ⟨v, H', J'.os, J'.bare, J'.base, J'.hok, rv, q⟩
  | next =>
    obtain ⟨σ', H', J', q⟩ := ends
    exact ⟨V.non, H', J'.os, J'.bare, J'.base, J'.hok, rfl, q⟩
  | brk =>
    obtain ⟨_, _, _, q⟩ := ends
    exact q.elim
  | cont =>
    obtain ⟨_, _, _, q⟩ := ends
    exact q.elim
/-- nothing is raised -/
theorem passF {X : Cx} : Passes (L2.CX X.prog X.w) X (fun _ _ _ => False) := fun _ _ _ _ _ _ _ c => by
  obtain ⟨_, _, _, _, _, _, _, _, _, _, _, _, z⟩ := c
  exact z.elim
/-- the tables are masked -/
def mt (H : Hp) : Hp := fun b => match H b with
  | some (.tbl _) => none
  | o => o
theorem mt_some {H : Hp} {b : Addr} {o : HO} (h : mt H b = some o) : H b = some o ∧ ∀ ps, o ≠ .tbl ps := by
  unfold mt at h
  cases e : H b with
  | none =>
    rw [e] at h
    cases h
  | some u =>
    rw [e] at h
    cases u with
    | tbl ps => cases h
    | _ => cases h; exact ⟨rfl, fun ps z => by cases z⟩
theorem mt_of {H : Hp} {b : Addr} {o : HO} (h : H b = some o) (n : ∀ ps, o ≠ .tbl ps) : mt H b = some o := by
  unfold mt
  rw [h]
  cases o with
  | tbl ps => exact absurd rfl (n ps)
  | _ => rfl
theorem mt_ext {H H' : Hp} (e : ExtN H H') : Same (mt H) (mt H') := fun b o h => by
  obtain ⟨h1, h2⟩ := mt_some h
  exact mt_of (e b o h1 h2) h2
theorem mt_up {H H' : Hp} (e : Same H H') : Same (mt H) (mt H') := mt_ext (ExtN.of e)
theorem mt_self (H : Hp) : Same (mt H) H := fun b o h => (mt_some h).1
theorem ext_of_mt {H H' : Hp} (e : Same (mt H) (mt H')) : ExtN H H' := fun b o h n => (mt_some (e b o (mt_of h n))).1
end
end LG
set_option Elab.async false
set_option linter.all false
set_option maxRecDepth 100000
set_option maxHeartbeats 4000000
namespace LG
open PySem L2
def tyNames : List String := ["NoneType", "bool", "int", "str", "list", "tuple", "dict"]
theorem Gx.ty {K : PySem.W.Frag} {n : Nat} {H : Hp} {v : V} (h : Gx K n H v) : (∃ x, v = .str x ∧ TyX K H v (.type "str")) ∨ ∃ T ∈ tyNames, T ≠ "str" ∧ TyX K H v (.type T) ∧ ∀ x, v ≠ .str x := by
  obtain ⟨d, h, _⟩ := h
  cases h with
  | flat h =>
    obtain ⟨T, ty, e⟩ := ty_of h
    cases h with
    | str x => exact .inl ⟨x, rfl, by subst e; exact ty⟩
    | non => exact .inr ⟨T, by subst e; simp [tyNames], by subst e; simp, ty, fun x z => nomatch z⟩
    | bl b => exact .inr ⟨T, by subst e; simp [tyNames], by subst e; simp, ty, fun x z => nomatch z⟩
    | int i => exact .inr ⟨T, by subst e; simp [tyNames], by subst e; simp, ty, fun x z => nomatch z⟩
    | lst _ _ => exact .inr ⟨T, by subst e; simp [tyNames], by subst e; simp, ty, fun x z => nomatch z⟩
    | tup _ _ => exact .inr ⟨T, by subst e; simp [tyNames], by subst e; simp, ty, fun x z => nomatch z⟩
  | dct h p => exact .inr ⟨"dict", by simp [tyNames], by simp, .base (.dK h), fun x z => nomatch z⟩
theorem kit_nostr {K : PySem.W.Frag} : ∀ T ∈ tyNames, T ≠ "str" → PySem.W.kitOne K (.type T) (.type "str") = some false := by
  intro T hT ne
  simp only [tyNames, List.mem_cons, List.not_mem_nil, or_false] at hT
  rcases hT with rfl | rfl | rfl | rfl | rfl | rfl | rfl
  · exact kit_ty (by decide +kernel)
  · exact kit_ty (by decide +kernel)
  · exact kit_ty (by decide +kernel)
  · exact absurd rfl ne
  · exact kit_ty (by decide +kernel)
  · exact kit_ty (by decide +kernel)
  · exact kit_ty (by decide +kernel)
theorem Gx.strOr {K : PySem.W.Frag} {n : Nat} {H : Hp} {v : V} (h : Gx K n H v) : StrOr K H v := by
  rcases h.ty with ⟨x, e, _⟩ | ⟨T, hT, ne, ty, no⟩
  · exact .inl ⟨x, e⟩
  · exact .inr ⟨_, ty, kit_nostr T hT ne, no⟩
end LG
namespace K51
open PySem L2 LG
section
variable {P : Program} {w : World} {K : PySem.W.Frag} {mg : Str → Option Value} {base : Heap}
theorem scOdd : FnScope ["_law_pot_here", "_law_some_here"] ["_law_pot_here"] (defScope sOdd) := ⟨rfl, rfl, rfl, by decide +kernel, rfl, by decide +kernel, by decide +kernel⟩
theorem ok_odd {f g : Addr} {fd gd : FuncData} (F : Fun K "_law_odd" "_law_odd" sOdd f fd) (G : FnOk P w K mg base CX0 2 g gd ["_law_pot_here", "_law_some_here"] (spOf K)) (mG : mg "_law_of" = some (.ref g)) (kG : PySem.W.keepIn K (.ref g) = true) (bG : Binds K gd ["_law_pot_here", "_law_some_here"] []) :
    FnOk P w K mg base CX0 3 f fd ["_law_pot_here"] (spOdd K) := by
  refine F.ok scOdd (fun vs H Q E h => ?_) (fun cdv A outer s H vs Q E hr h => ?_)
  · obtain ⟨p, b, rfl, _⟩ := h
    rfl
  obtain ⟨p, b, rfl, hp, hb, q⟩ := h
  refine ⟨_, pss_cons (ps_set (i := 1) scOdd.nd rfl (Or.inl rfl) (pe_lst (gx_cons (n := 2) (gx_of gd_none) (gx_cons (gx_of gd_bool) (gx_cons (gx_of gd_bool) (gx_cons (gx_of gd_int) (gx_cons (gx_of gd_int) (gx_cons (gx_of gd_neg) (gx_cons (gx_of gd_int)
      (gx_cons (pe_imp (t' := tGx K 2) (pe_op op_pow pe_int pe_int) fun _ H Q h => ⟨_, _, rfl, rfl, ⟨by decide, by decide, by decide⟩, h _ _ (Same.refl H) ⟨.int _, .flat (.int _), by decide +kernel⟩⟩)
      (gx_cons (gx_of gd_str) (gx_cons (gx_of gd_str) (gx_cons (gx_of gd_str) (gx_cons (gx_of gd_str) (gx_cons (gx_of gd_str) (gx_cons (gx_of gd_str)
      (gx_cons (gx_of (gd_tup gd_nil)) (gx_cons (gx_of (gd_lst gd_nil)) (gx_cons gx_dict0 (gx_cons (gx_of (gd_tup (gd_cons gd_int gd_nil))) (gx_cons (gx_of (gd_tup (gd_cons (gd_tup gd_nil) gd_nil))) (gx_cons (gx_of (gd_lst (gd_cons gd_int gd_nil))) gx_nil))))))))))))))))))))))
    (pss_one (ps_ret (pe_call G hr rfl mG kG bG .nil pass0 (pa_cons (pv 0) (pa_cons (pe_op op_cat (pv 1) (pe_lst
      (gx_cons (n := 2) (gx_of (gd_tup (gd_cons gd_str gd_nil))) (gx_cons (gx_of (gd_tup (gd_cons gd_str (gd_cons gd_str gd_nil)))) (gx_cons (gx_of (gd_tup (gd_cons (gd_tup (gd_cons gd_str (gd_cons gd_str gd_nil))) gd_nil))) (gx_cons (gx_of (gd_tup (gd_cons (gd_tup (gd_cons gd_str gd_nil)) gd_nil)))
      (gx_cons (gx_of (gd_tup (gd_cons gd_none gd_nil))) (gx_cons gx_dict1 (gx_cons (gx_of (gd_tup (gd_cons gd_str (gd_cons gd_int gd_nil)))) (gx_cons (gx_of (gd_tup (gd_cons gd_bool gd_nil))) gx_nil)))))))))) pa_nil))))), ?_⟩
  intro xs H1 s1 l1 g1
  refine ⟨by rw [l1]; decide, fun l nl => ?_⟩
  have sl := same_new nl (.lst xs)
  have hl : (upd H1 l (.lst xs)) l = some (.lst xs) := upd_same
  show _
  generalize hH2 : upd H1 l (.lst xs) = H2 at sl hl
  refine ⟨_, rfl, _, rfl, ?_⟩
  intro ys H3 s3 l3 g3
  refine ⟨by rw [l3]; decide, fun l2 nl2 => ?_⟩
  have s4 := same_new nl2 (.lst ys)
  refine ⟨l, l2, _, _, rfl, rfl, s4 _ _ (s3 _ _ hl), upd_same, by rw [l1, l3]; decide, fun l5 nl5 => ?_⟩
  have s5 := same_new nl5 (.lst (xs ++ ys))
  have sAll : Same H (upd (upd H3 l2 (.lst ys)) l5 (.lst (xs ++ ys))) := (((s1.trans sl).trans s3).trans s4).trans s5
  refine ⟨p, l5, xs ++ ys, b, rfl, hp.same sAll, hb, SqL.of upd_same, by rw [List.length_append, l1, l3]; decide, by rw [List.length_append, l1, l3]; decide, ?_, fun x H' hx but pot => ?_⟩
  · intro z
    have := ((s1.trans sl).trans s3).trans s4
    have hpp := hp.same this
    exact hpp.there (by rw [← z]; exact nl5)
  · refine q x H' ((But.of sAll).trans but) pot ?_
    have up : Same (mn H (upd (upd H3 l2 (.lst ys)) l5 (.lst (xs ++ ys)))) (mn H H') := mn_but but hp.there
    rcases List.mem_append.mp hx with hx | hx
    · exact (g1 x hx).same ((mn_up (((sl.trans s3).trans s4).trans s5)).trans up)
    · exact (g3 x hx).same (((mn_down (s1.trans sl)).trans (mn_up (s4.trans s5))).trans up)
end
end K51
set_option Elab.async false
set_option linter.all false
set_option maxRecDepth 100000
set_option maxHeartbeats 8000000
namespace LG
open PySem L2 LamX
/-! ### what stands where only tables change -/
theorem SqT.mt {K : PySem.W.Frag} {H : Hp} {t : Addr} {zs : List V} (h : SqT K H t zs) : SqT K (mt H) t zs := by
  rcases h with (q | ⟨o, q⟩) | q
  · exact .inl (.inl (mt_of q fun ps z => by cases z))
  · exact .inl (.inr ⟨o, mt_of q fun ps z => by cases z⟩)
  · exact .inr q
theorem SqL.mt {K : PySem.W.Frag} {H : Hp} {t : Addr} {zs : List V} (h : SqL K H t zs) : SqL K (mt H) t zs := by
  rcases h with (q | ⟨o, q⟩) | q
  · exact .inl (.inl (mt_of q fun ps z => by cases z))
  · exact .inl (.inr ⟨o, mt_of q fun ps z => by cases z⟩)
  · exact .inr q
mutual
theorem Dp_mt {K : PySem.W.Frag} {H : Hp} : ∀ (d : PyData) (v : V), Dp K H v d → Dp K (mt H) v d
  | .none, _, h => by cases h; exact .non
  | .bool b, _, h => by cases h; exact .bl b
  | .int i, _, h => by cases h; exact .int i
  | .str x, _, h => by cases h; exact .str x
  | .list ds, _, h => by
    cases h with
    | lst hs ha => exact .lst (SqL.mt hs) (DpAll_mt ds _ ha)
  | .tuple ds, _, h => by
    cases h with
    | tup hs ha => exact .tup (SqT.mt hs) (DpAll_mt ds _ ha)
  | .dict _, _, h => by cases h
theorem DpAll_mt {K : PySem.W.Frag} {H : Hp} : ∀ (ds : List PyData) (vs : List V), DpAll K H vs ds → DpAll K (mt H) vs ds
  | [], _, h => by cases h; exact .nil
  | d :: ds, _, h => by
    cases h with
    | cons h1 h2 => exact .cons (Dp_mt d _ h1) (DpAll_mt ds _ h2)
end
theorem Gx.mt {K : PySem.W.Frag} {n : Nat} {H : Hp} {v : V} (h : Gx K n H v) : Gx K n (mt H) v := by
  obtain ⟨d, h, hs⟩ := h
  refine ⟨d, ?_, hs⟩
  cases h with
  | flat h => exact .flat (Dp_mt _ _ h)
  | dct h p => exact .dct (mt_of h fun ps z => by cases z) p
theorem GR.mt {K : PySem.W.Frag} {H : Hp} {kvs : List (List Key × V)} {g : Goals} (h : GR K H kvs g) : GR K (mt H) kvs g := by
  induction h with
  | nil => exact .nil
  | cons a _ ih => exact .cons (SqT.mt a) ih
theorem DevAt.mt {K : PySem.W.Frag} {H : Hp} {x C : Addr} {T : Str} {D : Dev} (h : DevAt K H x C T D) : DevAt K (mt H) x C T D := by
  obtain ⟨dx, c, a, s, g, h1, h2, h3, h4, kvs, h5, h6⟩ := h
  exact ⟨dx, c, a, s, g, mt_of h1 (fun ps z => by cases z), SqT.mt h2, SqT.mt h3, SqT.mt h4, kvs, h5.elim (fun q => .inl (mt_of q fun ps z => by cases z)) (fun ⟨o, q⟩ => .inr ⟨o, mt_of q fun ps z => by cases z⟩), h6.mt⟩
theorem OwnAt.mt {K : PySem.W.Frag} {H : Hp} {o : Addr} {D : Dev} (h : OwnAt K H o D) : OwnAt K (mt H) o D := by
  obtain ⟨c, a, s, r, kvs, h1, h2, h3, h4, h5, h6⟩ := h.ex
  exact ⟨⟨c, a, s, r, kvs, mt_of h1 (fun ps z => by cases z), mt_of h2 (fun ps z => by cases z), mt_of h3 (fun ps z => by cases z), mt_of h4 (fun ps z => by cases z), mt_of h5 (fun ps z => by cases z), h6.mt⟩⟩
theorem DevAt.ext {K : PySem.W.Frag} {H H' : Hp} {x C : Addr} {T : Str} {D : Dev} (e : ExtN H H') (h : DevAt K H x C T D) : DevAt K H' x C T D := (h.mt.same (mt_ext e)).same (mt_self H')
theorem OwnAt.ext {K : PySem.W.Frag} {H H' : Hp} {o : Addr} {D : Dev} (e : ExtN H H') (h : OwnAt K H o D) : OwnAt K H' o D := (h.mt.same (mt_ext e)).same (mt_self H')
theorem Gx.ext {K : PySem.W.Frag} {n : Nat} {H H' : Hp} {v : V} (e : ExtN H H') (h : Gx K n H v) : Gx K n H' v := (h.mt.same (mt_ext e)).same (mt_self H')
theorem SqLext {K : PySem.W.Frag} {H H' : Hp} {t : Addr} {zs : List V} (e : ExtN H H') (h : SqL K H t zs) : SqL K H' t zs := (mt_self H').seq ((mt_ext e).seq (SqL.mt h))
theorem exq_tbl {a : Addr} {c : Value} {d : Option Addr} : ∀ ps, exq a c d ≠ .tbl ps := fun ps z => by
  have z' : HO.ext _ = HO.tbl ps := z
  cases z'
theorem ErrQ.ext {H H' : Hp} {a C d : Addr} {fs : List (Str × V)} (e : ExtN H H') (h : ErrQ H a C d fs) : ErrQ H' a C d fs := ⟨e _ _ h.ob exq_tbl, e _ _ h.dc fun ps z => by cases z⟩
/-- while a dict with tuple keys is locked -/
theorem tup_lock {K : PySem.W.Frag} {H G : Hp} {r t : Addr} {kvs : List (List Key × V)} {zs : List V} (hr : H r = some (.dT kvs)) (e : But r H G) (h : SqT K H t zs) : SqT K G t zs := by
  rcases h with (q | ⟨o, q⟩) | q
  · exact .inl (.inl (e _ _ q (fun z => by rw [z, hr] at q; cases q)))
  · exact .inl (.inr ⟨o, e _ _ q (fun z => by rw [z, hr] at q; cases q)⟩)
  · exact .inr q
theorem gr_lock {K : PySem.W.Frag} {H G : Hp} {r : Addr} {kvs kvs' : List (List Key × V)} {g : Goals} (hr : H r = some (.dT kvs)) (e : But r H G) (h : GR K H kvs' g) : GR K G kvs' g := by
  induction h with
  | nil => exact .nil
  | cons a _ ih => exact .cons (tup_lock hr e a) ih
theorem DevAt.lock {K : PySem.W.Frag} {H G : Hp} {r x C : Addr} {kvs : List (List Key × V)} {od : Obj} {T : Str} {D : Dev} (hr : H r = some (.dT kvs)) (e : But r H G) (hg : G r = some (.frz od (.dT kvs))) (h : DevAt K H x C T D) : DevAt K G x C T D := by
  obtain ⟨dx, c, a, s, g, h1, h2, h3, h4, kvs', h5, h6⟩ := h
  refine ⟨dx, c, a, s, g, e _ _ h1 (fun z => by rw [z, hr] at h1; cases h1), tup_lock hr e h2, tup_lock hr e h3, tup_lock hr e h4, kvs', ?_, gr_lock hr e h6⟩
  by_cases hb : g = r
  · rcases h5 with q | ⟨o, q⟩
    · rw [hb, hr] at q
      cases q
      rw [hb]
      exact .inr ⟨od, hg⟩
    · rw [hb, hr] at q
      cases q
  · exact h5.elim (fun q => .inl (e _ _ q hb)) fun ⟨o, q⟩ => .inr ⟨o, e _ _ q hb⟩
/-- what the written part says of a class of errors that are caught -/
structure EQl (K : PySem.W.Frag) (mg : Str → Option Value) (fI B : Addr) (x : Str) (C : Addr) : Prop where
  ec : ECl K mg fI x C
  box : PySem.W.exmOne K (.ref C) (.ref B) = some true
/-- a caught error at v of the class at C that keeps y -/
def Caught (H : Hp) (C : Addr) (v y : V) : Prop := ∃ a d, v = .ref a ∧ ErrQ H a C d (vf y)
theorem Caught.ext {H H' : Hp} {C : Addr} {v y : V} (e : ExtN H H') (h : Caught H C v y) : Caught H' C v y := by
  obtain ⟨a, d, h1, h2⟩ := h
  exact ⟨a, d, h1, h2.ext e⟩
/-- one look by told: what is raised is caught, with its value -/
theorem told_row {K : PySem.W.Frag} {mg : Str → Option Value} {fI B C CS CC : Addr} {T : List (Addr × Str)} {H : Hp} {x : Addr} {s c : V} {txt : Str} {D : Dev} {Q : VK} {tl : XK → Hp → VK → Prop} (eS : EQl K mg fI B "NoState" CS) (eC : EQl K mg fI B "NoCall" CC)
    (hT : Tabs T H)
    (run : ∀ (G : Hp) (E : XK) (R : VK), ExtN H G → NoRow CS CC D s c G E → (amongB s D.states = true → amongB c D.calls = true → ∀ t G', Same G G' → R (.ref t) G') → tl E G R)
    (qs : ∀ (v : V) (p : Addr) (G : Hp), amongB s D.states = false → ExtN H G → Tabs T G → Caught G CS v s → G p = some (.tup [v, .non]) → Q (.ref p) G)
    (qc : ∀ (v : V) (p : Addr) (G : Hp), amongB s D.states = true → amongB c D.calls = false → ExtN H G → Tabs T G → Caught G CC v c → G p = some (.tup [v, .non]) → Q (.ref p) G)
    (qn : ∀ (v : V) (p : Addr) (G : Hp), amongB s D.states = true → amongB c D.calls = true → ExtN H G → Tabs T G → G p = some (.tup [.non, v]) → Q (.ref p) G) :
    Tabs T H ∧ ∀ H1, ExtN H H1 → Tabs T H1 → TTk K B tl H1 Q := by
  refine ⟨hT, fun H1 e1 T1 H2 E R s2 he hr => ?_⟩
  have e2 : ExtN H H2 := e1.trans (ExtN.of s2)
  have T2 : Tabs T H2 := T1.ext s2
  have fin : ∀ {Cx : Addr} {y : V} (d : Addr), H2 d = none → PySem.W.exmOne K (.ref Cx) (.ref B) = some true → (∀ (v : V) (p : Addr) (G : Hp), ExtN H G → Tabs T G → Caught G Cx v y → G p = some (.tup [v, .non]) → Q (.ref p) G) → E (.ref Cx) (some d) (upd H2 d (.xd (vf y))) := by
    intro Cx y d nd ex k
    have s3 := same_new nd (.xd (vf y))
    have hd : (upd H2 d (.xd (vf y))) d = some (.xd (vf y)) := upd_same
    refine he _ _ _ ex fun a na p np => ?_
    have s4 := same_new na (exq a (.ref Cx) (some d))
    have s5 := same_new np (.tup [.ref a, V.non])
    have s35 := (s3.trans s4).trans s5
    refine k (.ref a) p _ (e2.trans (ExtN.of s35)) (T2.ext s35) ⟨a, d, rfl, s5 _ _ upd_same, (s4.trans s5) _ _ hd⟩ upd_same
  refine run H2 E R e2 ⟨fun a1 d nd => ?_, fun a1 a2 d nd => ?_⟩ fun a1 a2 t G' sG => ?_
  · exact fin d nd eS.box fun v p G eG tG cG hp => qs v p G a1 eG tG cG hp
  · exact fin d nd eC.box fun v p G eG tG cG hp => qc v p G a1 a2 eG tG cG hp
  · refine hr _ _ fun p np => ?_
    have s5 := same_new np (.tup [V.non, .ref t])
    exact qn (.ref t) p _ a1 a2 (e2.trans (ExtN.of (sG.trans s5))) (T2.ext (sG.trans s5)) upd_same
end LG
set_option Elab.async false
set_option linter.all false
set_option maxRecDepth 100000
set_option maxHeartbeats 8000000
namespace LG
open PySem L2 LamX
theorem kit_self {K : PySem.W.Frag} {t : Value} : PySem.W.kitOne K t t = some true := if_pos (beq_self_eq_true _)
theorem upper_small {x : Str} (h : isNameB x = true) : small 0 (.str (Txt.upper x)) = true := by
  have hl := name_len h
  have hu := PyProof.Rows.len_upper x
  have hs := name_signs h
  have ok : ∀ c : Nat, (inL c || inF c) = true → (Unicode.upperOf c).all (fun d => decide (d < 16 ^ 8)) = true := by
    intro c hc
    have hm : c ∈ LET.cps.toList ++ FIG.cps.toList := by
      rw [Bool.or_eq_true] at hc
      rcases hc with hc | hc
      · exact List.mem_append_left _ (of_decide_eq_true hc)
      · exact List.mem_append_right _ (of_decide_eq_true hc)
    have all : (LET.cps.toList ++ FIG.cps.toList).all (fun c => (Unicode.upperOf c).all fun d => decide (d < 16 ^ 8)) = true := by decide +kernel
    exact List.all_eq_true.mp all c hm
  simp only [small, Bool.and_eq_true, decide_eq_true_eq]
  refine ⟨by omega, List.all_eq_true.mpr fun d hd => ?_⟩
  have hd' : d ∈ ((x.cps.mapIdx fun i c => (Unicode.upperOf c).toArray).flatten).toList := hd
  rw [Array.mem_toList_iff, Array.mem_flatten] at hd'
  obtain ⟨a, ha, hda⟩ := hd'
  obtain ⟨i, hi, rfl⟩ := Array.mem_mapIdx.mp ha
  have hc : x.cps[i] ∈ TL.tl x := by
    show x.cps[i] ∈ x.cps.toList
    simp
  have := List.all_eq_true.mp (ok _ (hs _ hc)) d (by simpa using hda)
  exact this
theorem name_small {x : Str} (h : isNameB x = true) : small 0 (.str x) = true := by
  have hl := name_len h
  have hs := name_signs h
  simp only [small, Bool.and_eq_true, decide_eq_true_eq]
  refine ⟨by omega, List.all_eq_true.mpr fun d hd => ?_⟩
  have hc := hs d hd
  have hm : d ∈ LET.cps.toList ++ FIG.cps.toList := by
    rw [Bool.or_eq_true] at hc
    rcases hc with hc | hc
    · exact List.mem_append_left _ (of_decide_eq_true hc)
    · exact List.mem_append_right _ (of_decide_eq_true hc)
  have all : (LET.cps.toList ++ FIG.cps.toList).all (fun d => decide (d < 16 ^ 8)) = true := by decide +kernel
  exact List.all_eq_true.mp all d hm
theorem name_x_small {x : Str} (h : isNameB x = true) : small 0 (.str (x ++ ("x" : Str))) = true := by
  have hl := name_len h
  have h0 := name_small h
  simp only [small, Bool.and_eq_true, decide_eq_true_eq] at h0 ⊢
  refine ⟨?_, ?_⟩
  · rw [strLen_append]
    have : ("x" : Str).length = 1 := by decide +kernel
    omega
  · have e : (x ++ ("x" : Str)).cps.toList = x.cps.toList ++ ("x" : Str).cps.toList := TL.tl_append x "x"
    rw [e, List.all_append, h0.2]
    decide +kernel
theorem Gx.str {K : PySem.W.Frag} {n : Nat} {H : Hp} {x : Str} (h : small 0 (.str x) = true) : Gx K n H (.str x) := ⟨.str x, .flat (.str x), small_le (Nat.zero_le n) h⟩
/-- all but p and the tables stay -/
def BtR (p : Addr) (H H' : Hp) : Prop := ∀ c o, H c = some o → c ≠ p → (∀ ps, o ≠ .tbl ps) → H' c = some o
theorem BtR.trans {p : Addr} {H H1 H2 : Hp} (a : BtR p H H1) (b : BtR p H1 H2) : BtR p H H2 := fun c o h n t => b c o (a c o h n t) n t
theorem BtR.of {p : Addr} {H H' : Hp} (a : But p H H') : BtR p H H' := fun c o h n _ => a c o h n
theorem BtR.ex {p : Addr} {H H' : Hp} (a : ExtN H H') : BtR p H H' := fun c o h _ t => a c o h t
theorem Tabs.but {T : List (Addr × Str)} {H H' : Hp} {p b : _} (e : But p H H') (hp : PotAt H p b) (h : Tabs T H) : Tabs T H' := by
  obtain ⟨own, sm, n, h1, _⟩ := hp
  intro q hq
  obtain ⟨ps, t1, t2, t3⟩ := h q hq
  refine ⟨ps, e _ _ t1 (fun z => by rw [z, h1] at t1; cases t1), t2, fun pos cv hc => ?_⟩
  obtain ⟨c, e1, e2⟩ := t3 pos cv hc
  exact ⟨c, e1, e _ _ e2 (fun z => by
    rw [z, h1] at e2
    have e3 : HO.lst _ = HO.ext _ := Option.some.inj e2
    cases e3)⟩
theorem PotAt.ext {H H' : Hp} {p b : _} (e : ExtN H H') (h : PotAt H p b) : PotAt H' p b := by
  obtain ⟨own, sm, n, h1, h2⟩ := h
  exact ⟨own, sm, n, e _ _ h1 (fun ps z => by cases z), h2⟩
end LG
set_option linter.all false
/-! Two states that are called alike: the first walk that is answered otherwise, by length and then by the numbers of the calls; how long it can be. -/
namespace AW
/-! ### walks of numbers in their sequence -/
def lx : List Nat → List Nat → Prop
  | a :: u, b :: v => a < b ∨ (a = b ∧ lx u v)
  | _, _ => False
def wl (u v : List Nat) : Prop := u.length < v.length ∨ (u.length = v.length ∧ lx u v)
theorem lx_irr : ∀ u : List Nat, ¬ lx u u
  | [] => fun h => h
  | a :: u => fun h => h.elim (Nat.lt_irrefl a) fun h => lx_irr u h.2
theorem lx_tr : ∀ {u v x : List Nat}, lx u v → lx v x → lx u x
  | [], _, _, h, _ => h.elim
  | _ :: _, [], _, h, _ => h.elim
  | _ :: _, _ :: _, [], _, h => h.elim
  | a :: u, b :: v, c :: x, h, k => by
    rcases h with h | ⟨rfl, h⟩
    · rcases k with k | ⟨rfl, _⟩
      · exact .inl (Nat.lt_trans h k)
      · exact .inl h
    · rcases k with k | ⟨rfl, k⟩
      · exact .inl k
      · exact .inr ⟨rfl, lx_tr h k⟩
theorem lx_tri : ∀ {u v : List Nat}, u.length = v.length → u = v ∨ lx u v ∨ lx v u
  | [], [], _ => .inl rfl
  | a :: u, b :: v, h => by
    have h' : u.length = v.length := by simpa using h
    rcases Nat.lt_trichotomy a b with q | rfl | q
    · exact .inr (.inl (.inl q))
    · rcases lx_tri h' with rfl | k | k
      · exact .inl rfl
      · exact .inr (.inl (.inr ⟨rfl, k⟩))
      · exact .inr (.inr (.inr ⟨rfl, k⟩))
    · exact .inr (.inr (.inl q))
theorem lx_snoc : ∀ {u v : List Nat} {a b : Nat}, u.length = v.length → (lx (u ++ [a]) (v ++ [b]) ↔ lx u v ∨ (u = v ∧ a < b))
  | [], [], a, b, _ => by simp [lx]
  | c :: u, d :: v, a, b, h => by
    have h' : u.length = v.length := by simpa using h
    have ih := lx_snoc (a := a) (b := b) h'
    show (c < d ∨ (c = d ∧ lx (u ++ [a]) (v ++ [b]))) ↔ (c < d ∨ (c = d ∧ lx u v)) ∨ (c :: u = d :: v ∧ a < b)
    rw [ih]
    constructor
    · rintro (q | ⟨rfl, q | ⟨rfl, q⟩⟩)
      · exact .inl (.inl q)
      · exact .inl (.inr ⟨rfl, q⟩)
      · exact .inr ⟨rfl, q⟩
    · rintro ((q | ⟨rfl, q⟩) | ⟨e, q⟩)
      · exact .inl q
      · exact .inr ⟨rfl, .inl q⟩
      · cases e
        exact .inr ⟨rfl, .inr ⟨rfl, q⟩⟩
theorem wl_irr (u : List Nat) : ¬ wl u u := fun h => h.elim (Nat.lt_irrefl _) fun h => lx_irr u h.2
theorem wl_tr {u v x : List Nat} (h : wl u v) (k : wl v x) : wl u x := by
  rcases h with h | ⟨e, h⟩ <;> rcases k with k | ⟨e', k⟩
  · exact .inl (Nat.lt_trans h k)
  · exact .inl (by omega)
  · exact .inl (by omega)
  · exact .inr ⟨e.trans e', lx_tr h k⟩
theorem wl_tri (u v : List Nat) : u = v ∨ wl u v ∨ wl v u := by
  rcases Nat.lt_trichotomy u.length v.length with q | q | q
  · exact .inr (.inl (.inl q))
  · rcases lx_tri q with e | k | k
    · exact .inl e
    · exact .inr (.inl (.inr ⟨q, k⟩))
    · exact .inr (.inr (.inr ⟨q.symm, k⟩))
  · exact .inr (.inr (.inl q))
theorem wl_snoc {u v : List Nat} {a b : Nat} : wl (u ++ [a]) (v ++ [b]) ↔ wl u v ∨ (u = v ∧ a < b) := by
  unfold wl
  rw [List.length_append, List.length_append, List.length_singleton, List.length_singleton]
  by_cases h : u.length = v.length
  · rw [lx_snoc h]
    constructor
    · rintro (q | ⟨_, q⟩)
      · omega
      · rcases q with q | q
        · exact .inl (.inr ⟨h, q⟩)
        · exact .inr q
    · rintro ((q | ⟨_, q⟩) | q)
      · omega
      · exact .inr ⟨by omega, .inl q⟩
      · exact .inr ⟨by omega, .inr q⟩
  · constructor
    · rintro (q | ⟨q, _⟩)
      · exact .inl (.inl (by omega))
      · omega
    · rintro ((q | ⟨q, _⟩) | ⟨rfl, _⟩)
      · exact .inl (by omega)
      · exact absurd q h
      · exact absurd rfl h
def wle (u v : List Nat) : Prop := u = v ∨ wl u v
theorem wle_tr {u v x : List Nat} (h : wle u v) (k : wle v x) : wle u x := by
  rcases h with rfl | h
  · exact k
  · rcases k with rfl | k
    · exact .inr h
    · exact .inr (wl_tr h k)
theorem wle_wl {u v x : List Nat} (h : wle u v) (k : wl v x) : wl u x := by
  rcases h with rfl | h
  · exact k
  · exact wl_tr h k
theorem wle_snoc {u v : List Nat} {a : Nat} (h : wle u v) : wle (u ++ [a]) (v ++ [a]) := by
  rcases h with rfl | h
  · exact .inl rfl
  · exact .inr (wl_snoc.mpr (.inl h))
theorem wl_pre (u : List Nat) (a : Nat) : wl u (u ++ [a]) := .inl (by rw [List.length_append, List.length_singleton]; omega)
theorem nil_wle (u : List Nat) : wle [] u := by
  cases u with
  | nil => exact .inl rfl
  | cons a u => exact .inr (.inl (by simp))
/-! ### what two states answer -/
section
variable {S A : Type} (out : S → Nat → A) (nxt : S → Nat → S)
def hear : S → List Nat → List A
  | _, [] => []
  | s, c :: w => out s c :: hear (nxt s c) w
def goes : S → List Nat → S
  | s, [] => s
  | s, c :: w => goes (nxt s c) w
variable {out nxt}
theorem goes_snoc : ∀ (w : List Nat) (s : S) (c : Nat), goes nxt s (w ++ [c]) = nxt (goes nxt s w) c
  | [], _, _ => rfl
  | d :: w, s, c => goes_snoc w (nxt s d) c
theorem hear_snoc : ∀ (w : List Nat) (s : S) (c : Nat), hear out nxt s (w ++ [c]) = hear out nxt s w ++ [out (goes nxt s w) c]
  | [], _, _ => rfl
  | d :: w, s, c => by
    show out s d :: hear out nxt (nxt s d) (w ++ [c]) = _
    rw [hear_snoc w]
    rfl
theorem hear_app : ∀ (w x : List Nat) (s : S), hear out nxt s (w ++ x) = hear out nxt s w ++ hear out nxt (goes nxt s w) x
  | [], _, _ => rfl
  | d :: w, x, s => by
    show out s d :: hear out nxt (nxt s d) (w ++ x) = _
    rw [hear_app w]
    rfl
theorem hear_len : ∀ (w : List Nat) (s : S), (hear out nxt s w).length = w.length
  | [], _ => rfl
  | d :: w, s => by
    show (out s d :: hear out nxt (nxt s d) w).length = _
    rw [List.length_cons, hear_len w, List.length_cons]
def Valid (m : Nat) (w : List Nat) : Prop := ∀ c ∈ w, c < m
theorem Valid.snoc {m : Nat} {w : List Nat} {c : Nat} : Valid m (w ++ [c]) ↔ Valid m w ∧ c < m := by
  constructor
  · intro h
    exact ⟨fun d hd => h d (List.mem_append_left _ hd), h c (List.mem_append_right _ List.mem_cons_self)⟩
  · rintro ⟨h, hc⟩ d hd
    rcases List.mem_append.mp hd with hd | hd
    · exact h d hd
    · rw [List.mem_singleton.mp hd]
      exact hc
theorem snoc_ind {P : List Nat → Prop} (h0 : P []) (hs : ∀ w c, P w → P (w ++ [c])) : ∀ w, P w := fun w => by
  have : ∀ n (w : List Nat), w.length = n → P w := by
    intro n
    induction n with
    | zero =>
      intro w h
      rw [List.eq_nil_of_length_eq_zero h]
      exact h0
    | succ n ih =>
      intro w h
      have ne : w ≠ [] := fun z => by rw [z] at h; cases h
      have e := List.dropLast_concat_getLast ne
      rw [← e]
      exact hs _ _ (ih _ (by rw [List.length_dropLast, h]; rfl))
  exact this _ w rfl
/-! ### going on from pair to pair -/
/-- the i-th pair is looked at, by the calls below c so far -/
structure Bf (out : S → Nat → A) (nxt : S → Nat → S) (m : Nat) (s t : S) (i c : Nat) (ps : List (S × S)) (ws : List (List Nat)) : Prop where
  len : ps.length = ws.length
  pos : 0 < ws.length
  zero : ws[0]? = some []
  ok : ∀ (j : Nat) (w : List Nat), ws[j]? = some w → Valid m w ∧ ps[j]? = some (goes nxt s w, goes nxt t w)
  srt : ∀ (a b : Nat) (u v : List Nat), a < b → ws[a]? = some u → ws[b]? = some v → wl u v
  gen : ∀ (j : Nat) (w : List Nat), 0 < j → ws[j]? = some w → ∃ (j' d : Nat) (u : List Nat), ws[j']? = some u ∧ w = u ++ [d] ∧ (j' < i ∨ (j' = i ∧ d < c))
  done : ∀ (j d : Nat) (w : List Nat), (j < i ∨ (j = i ∧ d < c)) → d < m → ws[j]? = some w → out (goes nxt s w) d = out (goes nxt t w) d ∧ ∃ (j' : Nat) (u : List Nat), ws[j']? = some u ∧ goes nxt s u = goes nxt s (w ++ [d]) ∧ goes nxt t u = goes nxt t (w ++ [d]) ∧ wle u (w ++ [d])
  nd : ps.Nodup
theorem Bf.start (m : Nat) (s t : S) : Bf out nxt m s t 0 0 [(s, t)] [[]] where
  len := rfl
  pos := by decide
  zero := rfl
  ok := fun j w h => by
    match j, h with
    | 0, h =>
      cases h
      exact ⟨(fun _ h => nomatch h), rfl⟩
  srt := fun a b u v h _ h2 => by
    have := (List.getElem?_eq_some_iff.mp h2).1
    simp at this
    omega
  gen := fun j w h h2 => by
    have := (List.getElem?_eq_some_iff.mp h2).1
    simp at this
    omega
  done := fun j d w h _ _ => by omega
  nd := by simp
theorem Bf.below {m i c : Nat} {s t : S} {ps : List (S × S)} {ws : List (List Nat)} (b : Bf out nxt m s t i c ps ws) {wi : List Nat} (hi : ws[i]? = some wi) {j : Nat} {w : List Nat} (hj : ws[j]? = some w) : wle w (wi ++ [c]) := by
  rcases Nat.eq_zero_or_pos j with rfl | h0
  · rw [b.zero] at hj
    cases hj
    exact nil_wle _
  · obtain ⟨j', d, u, hu, rfl, h⟩ := b.gen j w h0 hj
    right
    rw [wl_snoc]
    rcases h with h | ⟨rfl, h⟩
    · exact .inl (b.srt _ _ _ _ h hu hi)
    · rw [hu] at hi
      exact .inr ⟨Option.some.inj hi, h⟩
theorem Bf.strict {m i c : Nat} {s t : S} {ps : List (S × S)} {ws : List (List Nat)} (b : Bf out nxt m s t i c ps ws) {wi : List Nat} (hi : ws[i]? = some wi) {j : Nat} {w : List Nat} (hj : ws[j]? = some w) : wl w (wi ++ [c]) := by
  rcases Nat.eq_zero_or_pos j with rfl | h0
  · rw [b.zero] at hj
    cases hj
    exact .inl (by simp)
  · obtain ⟨j', d, u, hu, rfl, h⟩ := b.gen j w h0 hj
    rw [wl_snoc]
    rcases h with h | ⟨rfl, h⟩
    · exact .inl (b.srt _ _ _ _ h hu hi)
    · rw [hu] at hi
      exact .inr ⟨Option.some.inj hi, h⟩
/-- no walk is longer than its place -/
theorem Bf.short {m i c : Nat} {s t : S} {ps : List (S × S)} {ws : List (List Nat)} (b : Bf out nxt m s t i c ps ws) : ∀ (n j : Nat) (w : List Nat), j ≤ n → ws[j]? = some w → w.length ≤ j := by
  intro n
  induction n with
  | zero =>
    intro j w hj hw
    have e : j = 0 := by omega
    subst e
    rw [b.zero] at hw
    cases hw
    exact Nat.le_refl 0
  | succ n ih =>
    intro j w hj hw
    rcases Nat.eq_zero_or_pos j with rfl | h0
    · rw [b.zero] at hw
      cases hw
      exact Nat.le_refl 0
    · obtain ⟨j', d, u, hu, rfl, _⟩ := b.gen j w h0 hw
      have lt : j' < j := by
        rcases Nat.lt_trichotomy j' j with q | q | q
        · exact q
        · subst q
          rw [hu] at hw
          have := congrArg List.length (Option.some.inj hw)
          rw [List.length_append, List.length_singleton] at this
          omega
        · exact absurd (wl_tr (wl_pre u d) (b.srt _ _ _ _ q hw hu)) (wl_irr _)
      have := ih j' u (by omega) hu
      rw [List.length_append, List.length_singleton]
      omega
/-- one call more, its pair known -/
theorem Bf.old {m i c : Nat} {s t : S} {ps : List (S × S)} {ws : List (List Nat)} (b : Bf out nxt m s t i c ps ws) {wi : List Nat} (hi : ws[i]? = some wi) (hc : c < m) (ag : out (goes nxt s wi) c = out (goes nxt t wi) c)
    (hp : (nxt (goes nxt s wi) c, nxt (goes nxt t wi) c) ∈ ps) : Bf out nxt m s t i (c + 1) ps ws := by
  refine ⟨b.len, b.pos, b.zero, b.ok, b.srt, fun j w h hj => ?_, fun j d w h hd hj => ?_, b.nd⟩
  · obtain ⟨j', d, u, hu, e, h⟩ := b.gen j w h hj
    exact ⟨j', d, u, hu, e, h.imp id fun h => ⟨h.1, by omega⟩⟩
  · by_cases hn : j < i ∨ (j = i ∧ d < c)
    · exact b.done j d w hn hd hj
    · have e1 : j = i := by omega
      have e2 : d = c := by omega
      subst e1 e2
      rw [hi] at hj
      cases hj
      refine ⟨ag, ?_⟩
      obtain ⟨j', hj'⟩ := List.getElem?_of_mem hp
      have lj : j' < ws.length := by
        rw [← b.len]
        exact (List.getElem?_eq_some_iff.mp hj').1
      obtain ⟨v2, e⟩ := b.ok j' ws[j'] (List.getElem?_eq_getElem lj)
      rw [hj'] at e
      have e := Prod.mk.inj (Option.some.inj e)
      refine ⟨j', ws[j'], List.getElem?_eq_getElem lj, ?_, ?_, b.below hi (List.getElem?_eq_getElem lj)⟩
      · rw [goes_snoc, ← e.1]
      · rw [goes_snoc, ← e.2]
/-- one call more, its pair new -/
theorem Bf.new {m i c : Nat} {s t : S} {ps : List (S × S)} {ws : List (List Nat)} (b : Bf out nxt m s t i c ps ws) {wi : List Nat} (hi : ws[i]? = some wi) (hc : c < m) (ag : out (goes nxt s wi) c = out (goes nxt t wi) c)
    (hp : (nxt (goes nxt s wi) c, nxt (goes nxt t wi) c) ∉ ps) : Bf out nxt m s t i (c + 1) (ps ++ [(nxt (goes nxt s wi) c, nxt (goes nxt t wi) c)]) (ws ++ [wi ++ [c]]) := by
  have hil : i < ws.length := (List.getElem?_eq_some_iff.mp hi).1
  have old : ∀ {j : Nat} {w : List Nat}, ws[j]? = some w → (ws ++ [wi ++ [c]])[j]? = some w := fun {j w} h => by
    rw [List.getElem?_append_left (List.getElem?_eq_some_iff.mp h).1]
    exact h
  have last : ∀ {j : Nat} {w : List Nat}, (ws ++ [wi ++ [c]])[j]? = some w → ws[j]? = some w ∨ (j = ws.length ∧ w = wi ++ [c]) := fun {j w} h => by
    by_cases hj : j < ws.length
    · rw [List.getElem?_append_left hj] at h
      exact .inl h
    · have l := (List.getElem?_eq_some_iff.mp h).1
      rw [List.length_append, List.length_singleton] at l
      have e : j = ws.length := by omega
      subst e
      rw [List.getElem?_append_right (Nat.le_refl _), Nat.sub_self] at h
      exact .inr ⟨rfl, (Option.some.inj h).symm⟩
  have new : (ws ++ [wi ++ [c]])[ws.length]? = some (wi ++ [c]) := by
    rw [List.getElem?_append_right (Nat.le_refl _), Nat.sub_self]
    rfl
  refine ⟨by rw [List.length_append, List.length_append, b.len]; rfl, by rw [List.length_append]; exact Nat.lt_of_lt_of_le b.pos (Nat.le_add_right _ _), old b.zero, fun j w h => ?_, fun x y u v h h1 h2 => ?_, fun j w h hj => ?_, fun j d w h hd hj => ?_, ?_⟩
  · rcases last h with h | ⟨rfl, rfl⟩
    · obtain ⟨h1, h2⟩ := b.ok j w h
      refine ⟨h1, ?_⟩
      rw [List.getElem?_append_left (List.getElem?_eq_some_iff.mp h2).1]
      exact h2
    · refine ⟨Valid.snoc.mpr ⟨(b.ok i wi hi).1, hc⟩, ?_⟩
      rw [goes_snoc, goes_snoc, ← b.len, List.getElem?_append_right (Nat.le_refl _), Nat.sub_self]
      rfl
  · rcases last h1 with h1 | ⟨rfl, rfl⟩
    · rcases last h2 with h2 | ⟨rfl, rfl⟩
      · exact b.srt x y u v h h1 h2
      · exact b.strict hi h1
    · exfalso
      have l := (List.getElem?_eq_some_iff.mp h2).1
      rw [List.length_append, List.length_singleton] at l
      omega
  · rcases last hj with hj | ⟨rfl, rfl⟩
    · obtain ⟨j', d, u, hu, e, h⟩ := b.gen j w h hj
      exact ⟨j', d, u, old hu, e, h.imp id fun h => ⟨h.1, by omega⟩⟩
    · exact ⟨i, c, wi, old hi, rfl, .inr ⟨rfl, by omega⟩⟩
  · have hj' : ws[j]? = some w := by
      rcases last hj with hj | ⟨rfl, rfl⟩
      · exact hj
      · omega
    by_cases hn : j < i ∨ (j = i ∧ d < c)
    · obtain ⟨h1, j2, u, h2, h3, h4, h5⟩ := b.done j d w hn hd hj'
      exact ⟨h1, j2, u, old h2, h3, h4, h5⟩
    · have e1 : j = i := by omega
      have e2 : d = c := by omega
      subst e1 e2
      rw [hi] at hj'
      cases hj'
      exact ⟨ag, ws.length, _, new, rfl, rfl, .inl rfl⟩
  · rw [List.nodup_append]
    refine ⟨b.nd, by simp, fun x hx y hy => ?_⟩
    rw [List.mem_singleton.mp hy]
    exact fun z => hp (z ▸ hx)
/-- the next pair -/
theorem Bf.next {m i : Nat} {s t : S} {ps : List (S × S)} {ws : List (List Nat)} (b : Bf out nxt m s t i m ps ws) : Bf out nxt m s t (i + 1) 0 ps ws := by
  refine ⟨b.len, b.pos, b.zero, b.ok, b.srt, fun j w h hj => ?_, fun j d w h hd hj => ?_, b.nd⟩
  · obtain ⟨j', d, u, hu, e, h⟩ := b.gen j w h hj
    exact ⟨j', d, u, hu, e, .inl (by omega)⟩
  · exact b.done j d w (by omega) hd hj
/-- what is ahead of the walk that is looked at is answered alike -/
theorem Bf.ahead {m i c : Nat} {s t : S} {ps : List (S × S)} {ws : List (List Nat)} (b : Bf out nxt m s t i c ps ws) {wi : List Nat} (hi : ws[i]? = some wi) : ∀ w : List Nat, Valid m w → wl w (wi ++ [c]) →
    hear out nxt s w = hear out nxt t w ∧ ∃ (j : Nat) (u : List Nat), ws[j]? = some u ∧ goes nxt s u = goes nxt s w ∧ goes nxt t u = goes nxt t w ∧ wle u w := by
  refine snoc_ind (fun _ _ => ⟨rfl, 0, [], b.zero, rfl, rfl, .inl rfl⟩) fun w d ih hv hw => ?_
  obtain ⟨v1, v2⟩ := Valid.snoc.mp hv
  obtain ⟨h1, j, u, hu, g1, g2, lu⟩ := ih v1 (wl_tr (wl_pre w d) hw)
  have hjd : j < i ∨ (j = i ∧ d < c) := by
    have l := wle_wl (wle_snoc (a := d) lu) hw
    rw [wl_snoc] at l
    rcases l with l | ⟨e, l⟩
    · rcases Nat.lt_trichotomy j i with q | q | q
      · exact .inl q
      · subst q
        rw [hu] at hi
        cases hi
        exact absurd l (wl_irr _)
      · exact absurd (wl_tr l (b.srt _ _ _ _ q hi hu)) (wl_irr _)
    · rcases Nat.lt_trichotomy j i with q | q | q
      · exact .inl q
      · exact .inr ⟨q, l⟩
      · have := b.srt _ _ _ _ q hi hu
        rw [e] at this
        exact absurd this (wl_irr _)
  obtain ⟨ag, j', x, hx, y1, y2, lx_⟩ := b.done j d u hjd v2 hu
  refine ⟨by rw [hear_snoc, hear_snoc, h1, ← g1, ← g2, ag], j', x, hx, ?_, ?_, wle_tr lx_ (wle_snoc lu)⟩
  · rw [y1, goes_snoc, goes_snoc, g1]
  · rw [y2, goes_snoc, goes_snoc, g2]
/-- the first walk that is answered otherwise -/
def First (out : S → Nat → A) (nxt : S → Nat → S) (m : Nat) (s t : S) (w : List Nat) : Prop := Valid m w ∧ hear out nxt s w ≠ hear out nxt t w ∧ ∀ u, Valid m u → wl u w → hear out nxt s u = hear out nxt t u
theorem Bf.found {m i c : Nat} {s t : S} {ps : List (S × S)} {ws : List (List Nat)} (b : Bf out nxt m s t i c ps ws) {wi : List Nat} (hi : ws[i]? = some wi) (hc : c < m) (ne : out (goes nxt s wi) c ≠ out (goes nxt t wi) c) : First out nxt m s t (wi ++ [c]) := by
  have vi := (b.ok i wi hi).1
  refine ⟨Valid.snoc.mpr ⟨vi, hc⟩, ?_, fun u hu hl => (b.ahead hi u hu hl).1⟩
  rw [hear_snoc, hear_snoc, (b.ahead hi wi vi (wl_pre wi c)).1]
  intro e
  have := List.append_cancel_left e
  exact ne (by simpa using this)
theorem Bf.none {m i : Nat} {s t : S} {ps : List (S × S)} {ws : List (List Nat)} (b : Bf out nxt m s t i 0 ps ws) (hi : ws.length ≤ i) : ∀ w : List Nat, Valid m w → hear out nxt s w = hear out nxt t w ∧ ∃ (j : Nat) (u : List Nat), ws[j]? = some u ∧ goes nxt s u = goes nxt s w ∧ goes nxt t u = goes nxt t w := by
  refine snoc_ind (fun _ => ⟨rfl, 0, [], b.zero, rfl, rfl⟩) fun w d ih hv => ?_
  obtain ⟨v1, v2⟩ := Valid.snoc.mp hv
  obtain ⟨h1, j, u, hu, g1, g2⟩ := ih v1
  have lj := (List.getElem?_eq_some_iff.mp hu).1
  obtain ⟨ag, j', x, hx, y1, y2, _⟩ := b.done j d u (.inl (by omega)) v2 hu
  refine ⟨by rw [hear_snoc, hear_snoc, h1, ← g1, ← g2, ag], j', x, hx, ?_, ?_⟩
  · rw [y1, goes_snoc, goes_snoc, g1]
  · rw [y2, goes_snoc, goes_snoc, g2]
/-! ### how long it can be -/
theorem nodup_len {α : Type} : ∀ {L M : List α}, L.Nodup → (∀ x ∈ L, x ∈ M) → L.length ≤ M.length
  | [], _, _, _ => Nat.zero_le _
  | x :: L, M, nd, h => by
    obtain ⟨n1, n2⟩ := List.nodup_cons.mp nd
    obtain ⟨M1, M2, rfl⟩ := List.append_of_mem (h x List.mem_cons_self)
    have := nodup_len (L := L) (M := M1 ++ M2) n2 fun y hy => by
      rcases List.mem_append.mp (h y (List.mem_cons_of_mem _ hy)) with q | q
      · exact List.mem_append_left _ q
      · rcases List.mem_cons.mp q with rfl | q
        · exact absurd hy n1
        · exact List.mem_append_right _ q
    rw [List.length_append] at this ⊢
    rw [List.length_cons, List.length_cons]
    omega
/-- alike by all walks of at most k calls -/
def Ek (out : S → Nat → A) (nxt : S → Nat → S) (m k : Nat) (s t : S) : Prop := ∀ w, Valid m w → w.length ≤ k → hear out nxt s w = hear out nxt t w
theorem Ek.symm {m k : Nat} {s t : S} (h : Ek out nxt m k s t) : Ek out nxt m k t s := fun w v l => (h w v l).symm
theorem Ek.trans {m k : Nat} {s t u : S} (h : Ek out nxt m k s t) (h2 : Ek out nxt m k t u) : Ek out nxt m k s u := fun w v l => (h w v l).trans (h2 w v l)
theorem Ek.mono {m k l : Nat} {s t : S} (hl : l ≤ k) (h : Ek out nxt m k s t) : Ek out nxt m l s t := fun w v q => h w v (Nat.le_trans q hl)
/-- where one call more tells nothing new, none does -/
theorem Ek.stays {m k : Nat} {Sts : List S} (cl : ∀ s ∈ Sts, ∀ c, c < m → nxt s c ∈ Sts) (st : ∀ s ∈ Sts, ∀ t ∈ Sts, Ek out nxt m k s t → Ek out nxt m (k + 1) s t) : ∀ n, ∀ s ∈ Sts, ∀ t ∈ Sts, Ek out nxt m k s t → Ek out nxt m (k + n) s t := by
  intro n
  induction n with
  | zero => exact fun _ _ _ _ h => h
  | succ n ih =>
    intro s hs t ht h w v l
    match w, v, l with
    | [], _, _ => rfl
    | c :: w, v, l =>
      have hc := v c List.mem_cons_self
      have h1 := st s hs t ht h
      have o1 := h1 [c] (fun d hd => by rw [List.mem_singleton.mp hd]; exact hc) (by simp)
      have o1 : out s c = out t c := by
        have : [out s c] = [out t c] := o1
        simpa using this
      have e1 : Ek out nxt m k (nxt s c) (nxt t c) := fun x vx lx_ => by
        have := h1 (c :: x) (fun d hd => by
          rcases List.mem_cons.mp hd with rfl | hd
          · exact hc
          · exact vx d hd) (by rw [List.length_cons]; omega)
        have : out s c :: hear out nxt (nxt s c) x = out t c :: hear out nxt (nxt t c) x := this
        exact (List.cons.inj this).2
      have := ih _ (cl s hs c hc) _ (cl t ht c hc) e1 w (fun d hd => v d (List.mem_cons_of_mem _ hd)) (by rw [List.length_cons] at l; omega)
      show out s c :: hear out nxt (nxt s c) w = out t c :: hear out nxt (nxt t c) w
      rw [o1, this]
/-- as many states as are told apart in turn -/
theorem apart_many {m : Nat} {Sts : List S} (cl : ∀ s ∈ Sts, ∀ c, c < m → nxt s c ∈ Sts) : ∀ k : Nat, ∀ s ∈ Sts, ∀ t ∈ Sts, Ek out nxt m k s t → ¬ Ek out nxt m (k + 1) s t → ∃ L : List S, L.length = k + 2 ∧ (∀ x ∈ L, x ∈ Sts) ∧ L.Pairwise fun x y => ¬ Ek out nxt m (k + 1) x y := by
  intro k
  induction k with
  | zero =>
    intro s hs t ht _ hn
    refine ⟨[s, t], rfl, fun x hx => ?_, ?_⟩
    · rcases List.mem_cons.mp hx with rfl | hx
      · exact hs
      · rw [List.mem_singleton.mp hx]
        exact ht
    · exact .cons (fun y hy => by rw [List.mem_singleton.mp hy]; exact hn) (.cons (fun _ h => nomatch h) .nil)
  | succ k ih =>
    intro s hs t ht he hn
    -- at k, too, one call more told something
    obtain ⟨x, hx, y, hy, e1, e2⟩ : ∃ x ∈ Sts, ∃ y ∈ Sts, Ek out nxt m k x y ∧ ¬ Ek out nxt m (k + 1) x y := by
      apply Classical.byContradiction
      intro no
      have st : ∀ s ∈ Sts, ∀ t ∈ Sts, Ek out nxt m k s t → Ek out nxt m (k + 1) s t := fun s hs t ht h => Classical.byContradiction fun z => no ⟨s, hs, t, ht, h, z⟩
      exact hn (Ek.stays cl st 2 s hs t ht (he.mono (Nat.le_succ k)))
    obtain ⟨L, hl, hm, hp⟩ := ih x hx y hy e1 e2
    have up : ∀ {a b : S}, ¬ Ek out nxt m (k + 1) a b → ¬ Ek out nxt m (k + 1 + 1) a b := fun h z => h (z.mono (Nat.le_succ _))
    by_cases ex : ∃ r ∈ L, Ek out nxt m (k + 1) r s
    · obtain ⟨r, hr, er⟩ := ex
      obtain ⟨L1, L2, rfl⟩ := List.append_of_mem hr
      have hp1 := List.pairwise_append.mp hp
      obtain ⟨p1, p2, p3⟩ := hp1
      obtain ⟨p4, p5⟩ := List.pairwise_cons.mp p2
      have far : ∀ z ∈ L1 ++ L2, ¬ Ek out nxt m (k + 1) s z ∧ ¬ Ek out nxt m (k + 1) t z := by
        intro z hz
        have h : ¬ Ek out nxt m (k + 1) r z := by
          rcases List.mem_append.mp hz with hz | hz
          · exact fun q => p3 z hz r List.mem_cons_self q.symm
          · exact p4 z hz
        exact ⟨fun q => h (er.trans q), fun q => h ((er.trans he).trans q)⟩
      refine ⟨s :: t :: (L1 ++ L2), ?_, fun z hz => ?_, ?_⟩
      · rw [List.length_append, List.length_cons] at hl
        rw [List.length_cons, List.length_cons, List.length_append]
        omega
      · rcases List.mem_cons.mp hz with rfl | hz
        · exact hs
        rcases List.mem_cons.mp hz with rfl | hz
        · exact ht
        · rcases List.mem_append.mp hz with hz | hz
          · exact hm z (List.mem_append_left _ hz)
          · exact hm z (List.mem_append_right _ (List.mem_cons_of_mem _ hz))
      · refine .cons (fun z hz => ?_) (.cons (fun z hz => up (far z hz).2) ?_)
        · rcases List.mem_cons.mp hz with rfl | hz
          · exact hn
          · exact up (far z hz).1
        · refine (List.pairwise_append.mpr ⟨p1, p5, fun a ha b hb => p3 a ha b (List.mem_cons_of_mem _ hb)⟩).imp fun h => up h
    · refine ⟨s :: L, by rw [List.length_cons, hl], fun z hz => ?_, .cons (fun z hz => up fun q => ex ⟨z, hz, q.symm⟩) (hp.imp fun h => up h)⟩
      rcases List.mem_cons.mp hz with rfl | hz
      · exact hs
      · exact hm z hz
theorem First.short {m : Nat} {s t : S} {w : List Nat} {Sts : List S} (f : First out nxt m s t w) (cl : ∀ s ∈ Sts, ∀ c, c < m → nxt s c ∈ Sts) (hs : s ∈ Sts) (ht : t ∈ Sts) : w.length + 1 ≤ Sts.length := by
  obtain ⟨v, ne, first⟩ := f
  match hw : w.length with
  | 0 =>
    have : w = [] := List.eq_nil_of_length_eq_zero hw
    rw [this] at ne
    exact absurd rfl ne
  | k + 1 =>
    have e1 : Ek out nxt m k s t := fun u vu lu => first u vu (.inl (by omega))
    have e2 : ¬ Ek out nxt m (k + 1) s t := fun z => ne (z w v (by omega))
    obtain ⟨L, hl, hm, hp⟩ := apart_many cl k s hs t ht e1 e2
    have nd : L.Nodup := hp.imp fun h z => h (by rw [z]; exact fun _ _ _ => rfl)
    have : L.length ≤ Sts.length := nodup_len nd hm
    omega
theorem First.uniq {m : Nat} {s t : S} {w x : List Nat} (f : First out nxt m s t w) (g : First out nxt m s t x) : w = x := by
  rcases wl_tri w x with h | h | h
  · exact h
  · exact absurd (g.2.2 w f.1 h) f.2.1
  · exact absurd (f.2.2 x g.1 h) g.2.1
end
end AW
set_option Elab.async false
set_option linter.all false
set_option maxRecDepth 100000
set_option maxHeartbeats 4000000
/-! Walks of calls by their numbers; two devices side by side. -/
namespace LG
open PySem L2
/-- what is heard from the state on, and the state behind -/
def runD (D : Dev) : Str → List Str → List Str × Str
  | s, [] => ([], s)
  | s, w :: r => ((rowX D (s, w)).1 :: (runD D (rowX D (s, w)).2 r).1, (runD D (rowX D (s, w)).2 r).2)
/-- each state has a row for each call -/
structure Full (D : Dev) : Prop where
  st : D.states ≠ []
  row : ∀ s ∈ D.states, ∀ c ∈ D.calls, D.goals.lookup (s, c) = some (rowX D (s, c)) ∧ (rowX D (s, c)).2 ∈ D.states
theorem Full.run {D : Dev} (F : Full D) : ∀ {ws : List Str} {s : Str}, s ∈ D.states → (∀ w ∈ ws, w ∈ D.calls) → (runD D s ws).2 ∈ D.states
  | [], _, hs, _ => hs
  | w :: r, s, hs, h => F.run (ws := r) (F.row s hs w (h w List.mem_cons_self)).2 fun x hx => h x (List.mem_cons_of_mem _ hx)
/-- the call of this number -/
def callN (C : List Str) (c : Nat) : Str := C.getD c Str.empty
theorem callN_mem {C : List Str} {c : Nat} (h : c < C.length) : callN C c ∈ C := by
  unfold callN
  rw [List.getD_eq_getElem?_getD, List.getElem?_eq_getElem h]
  exact List.getElem_mem h
theorem callN_at {C : List Str} {c : Nat} {x : Str} (h : C[c]? = some x) : callN C c = x := by
  unfold callN
  rw [List.getD_eq_getElem?_getD, h]
  rfl
/-- two devices side by side: the state of the one, or of the other -/
def outB (D E : Dev) (C : List Str) (x : Bool × Str) (c : Nat) : Str := (rowX (if x.1 = true then E else D) (x.2, callN C c)).1
def nxtB (D E : Dev) (C : List Str) (x : Bool × Str) (c : Nat) : Bool × Str := (x.1, (rowX (if x.1 = true then E else D) (x.2, callN C c)).2)
theorem runB (D E : Dev) (C : List Str) : ∀ (w : List Nat) (b : Bool) (s : Str), runD (if b = true then E else D) s (w.map (callN C)) = (AW.hear (outB D E C) (nxtB D E C) (b, s) w, (AW.goes (nxtB D E C) (b, s) w).2)
  | [], _, _ => rfl
  | c :: w, b, s => by
    have ih := runB D E C w b (rowX (if b = true then E else D) (s, callN C c)).2
    show ((rowX _ (s, callN C c)).1 :: (runD _ (rowX _ (s, callN C c)).2 (w.map (callN C))).1, (runD _ (rowX _ (s, callN C c)).2 (w.map (callN C))).2) = _
    rw [ih]
    rfl
theorem goesB (D E : Dev) (C : List Str) : ∀ (w : List Nat) (b : Bool) (s : Str), (AW.goes (nxtB D E C) (b, s) w).1 = b
  | [], _, _ => rfl
  | c :: w, b, s => goesB D E C w b _
theorem goesB_mem {D E : Dev} {C : List Str} (FD : Full D) (FE : Full E) (hC : D.calls = C) (hE : E.calls = C) : ∀ {w : List Nat} {b : Bool} {s : Str}, AW.Valid C.length w → s ∈ (if b = true then E else D).states → (AW.goes (nxtB D E C) (b, s) w).2 ∈ (if b = true then E else D).states := by
  intro w b s hv hs
  have e := congrArg Prod.snd (runB D E C w b s)
  have e : (runD (if b = true then E else D) s (w.map (callN C))).2 = (AW.goes (nxtB D E C) (b, s) w).2 := e
  rw [← e]
  have hw : ∀ y ∈ w.map (callN C), y ∈ (if b = true then E else D).calls := by
    intro y hy
    obtain ⟨c, hc, rfl⟩ := List.mem_map.mp hy
    cases b
    · rw [if_neg (by decide), hC]
      exact callN_mem (hv c hc)
    · rw [if_pos rfl, hE]
      exact callN_mem (hv c hc)
  cases b
  · exact FD.run hs hw
  · exact FE.run hs hw
/-- all states of both -/
def stsB (D E : Dev) : List (Bool × Str) := D.states.map (fun s => (false, s)) ++ E.states.map (fun s => (true, s))
theorem stsB_mem {D E : Dev} {x : Bool × Str} : x ∈ stsB D E ↔ x.2 ∈ (if x.1 = true then E else D).states := by
  unfold stsB
  rw [List.mem_append, List.mem_map, List.mem_map]
  obtain ⟨b, s⟩ := x
  cases b
  · constructor
    · rintro (⟨y, hy, e⟩ | ⟨y, hy, e⟩)
      · cases e
        exact hy
      · cases e
    · intro h
      exact .inl ⟨s, h, rfl⟩
  · constructor
    · rintro (⟨y, hy, e⟩ | ⟨y, hy, e⟩)
      · cases e
      · cases e
        exact hy
    · intro h
      exact .inr ⟨s, h, rfl⟩
theorem stsB_closed {D E : Dev} {C : List Str} (FD : Full D) (FE : Full E) (hC : D.calls = C) (hE : E.calls = C) : ∀ x ∈ stsB D E, ∀ c, c < C.length → nxtB D E C x c ∈ stsB D E := by
  intro x hx c hc
  rw [stsB_mem] at hx ⊢
  obtain ⟨b, s⟩ := x
  have := goesB_mem FD FE hC hE (w := [c]) (b := b) (s := s) (fun d hd => by rw [List.mem_singleton.mp hd]; exact hc) hx
  exact this
/-- one device beside itself: its states once -/
def outO (D : Dev) (s : Str) (c : Nat) : Str := (rowX D (s, callN D.calls c)).1
def nxtO (D : Dev) (s : Str) (c : Nat) : Str := (rowX D (s, callN D.calls c)).2
theorem runO (D : Dev) : ∀ (w : List Nat) (s : Str), runD D s (w.map (callN D.calls)) = (AW.hear (outO D) (nxtO D) s w, AW.goes (nxtO D) s w)
  | [], _ => rfl
  | c :: w, s => by
    have ih := runO D w (rowX D (s, callN D.calls c)).2
    show ((rowX D (s, callN D.calls c)).1 :: (runD D (rowX D (s, callN D.calls c)).2 (w.map (callN D.calls))).1, (runD D (rowX D (s, callN D.calls c)).2 (w.map (callN D.calls))).2) = _
    rw [ih]
    rfl
theorem hearB_O (D : Dev) (b : Bool) (s : Str) (w : List Nat) : AW.hear (outB D D D.calls) (nxtB D D D.calls) (b, s) w = AW.hear (outO D) (nxtO D) s w := by
  have h1 := runB D D D.calls w b s
  have e : (if b = true then D else D) = D := by cases b <;> rfl
  rw [e, runO] at h1
  exact (congrArg Prod.fst h1).symm
theorem firstB_O {D : Dev} {s t : Str} {w : List Nat} (f : AW.First (outB D D D.calls) (nxtB D D D.calls) D.calls.length (false, s) (true, t) w) : AW.First (outO D) (nxtO D) D.calls.length s t w := by
  obtain ⟨h1, h2, h3⟩ := f
  rw [hearB_O, hearB_O] at h2
  exact ⟨h1, h2, fun u v l => by have := h3 u v l; rwa [hearB_O, hearB_O] at this⟩
/-! ### all walks in their sequence -/
def wd (m : Nat) : Nat → List (List Nat)
  | 0 => [[]]
  | k + 1 => (wd m k).flatMap fun w => (List.range m).map fun c => w ++ [c]
def md (m : Nat) : Nat → List (List Nat)
  | 0 => [[]]
  | k + 1 => md m k ++ wd m (k + 1)
theorem wd_mem {m : Nat} : ∀ {k : Nat} {w : List Nat}, w ∈ wd m k ↔ AW.Valid m w ∧ w.length = k
  | 0, w => by
    constructor
    · intro h
      rw [List.mem_singleton.mp h]
      exact ⟨(fun _ h => nomatch h), rfl⟩
    · rintro ⟨_, h⟩
      rw [List.eq_nil_of_length_eq_zero h]
      exact List.mem_singleton.mpr rfl
  | k + 1, w => by
    show w ∈ (wd m k).flatMap _ ↔ _
    rw [List.mem_flatMap]
    constructor
    · rintro ⟨u, hu, hw⟩
      obtain ⟨c, hc, rfl⟩ := List.mem_map.mp hw
      obtain ⟨h1, h2⟩ := wd_mem.mp hu
      exact ⟨AW.Valid.snoc.mpr ⟨h1, List.mem_range.mp hc⟩, by rw [List.length_append, h2]; rfl⟩
    · rintro ⟨h1, h2⟩
      have ne : w ≠ [] := fun z => by rw [z] at h2; cases h2
      have e := List.dropLast_concat_getLast ne
      rw [← e] at h1
      obtain ⟨v1, v2⟩ := AW.Valid.snoc.mp h1
      exact ⟨w.dropLast, wd_mem.mpr ⟨v1, by rw [List.length_dropLast, h2]; rfl⟩, List.mem_map.mpr ⟨_, List.mem_range.mpr v2, e⟩⟩
theorem md_mem {m : Nat} : ∀ {k : Nat} {w : List Nat}, w ∈ md m k ↔ AW.Valid m w ∧ w.length ≤ k
  | 0, w => by
    have := wd_mem (m := m) (k := 0) (w := w)
    show w ∈ wd m 0 ↔ _
    rw [this]
    constructor
    · rintro ⟨h1, h2⟩
      exact ⟨h1, by omega⟩
    · rintro ⟨h1, h2⟩
      exact ⟨h1, by omega⟩
  | k + 1, w => by
    show w ∈ md m k ++ wd m (k + 1) ↔ _
    rw [List.mem_append, md_mem, wd_mem]
    constructor
    · rintro (⟨h1, h2⟩ | ⟨h1, h2⟩)
      · exact ⟨h1, by omega⟩
      · exact ⟨h1, by omega⟩
    · rintro ⟨h1, h2⟩
      by_cases h : w.length ≤ k
      · exact .inl ⟨h1, h⟩
      · exact .inr ⟨h1, by omega⟩
theorem wd_sorted (m : Nat) : ∀ k, (wd m k).Pairwise AW.wl
  | 0 => .cons (fun _ h => nomatch h) .nil
  | k + 1 => by
    show ((wd m k).flatMap _).Pairwise _
    rw [List.pairwise_flatMap]
    refine ⟨fun w _ => ?_, (wd_sorted m k).imp fun {u v} h x hx y hy => ?_⟩
    · rw [List.pairwise_map]
      exact List.pairwise_lt_range.imp fun h => AW.wl_snoc.mpr (.inr ⟨rfl, h⟩)
    · obtain ⟨a, _, rfl⟩ := List.mem_map.mp hx
      obtain ⟨b, _, rfl⟩ := List.mem_map.mp hy
      exact AW.wl_snoc.mpr (.inl h)
theorem md_sorted (m : Nat) : ∀ k, (md m k).Pairwise AW.wl
  | 0 => .cons (fun _ h => nomatch h) .nil
  | k + 1 => List.pairwise_append.mpr ⟨md_sorted m k, wd_sorted m (k + 1), fun u hu v hv => .inl (by
    have h1 := (md_mem.mp hu).2
    have h2 := (wd_mem.mp hv).2
    omega)⟩
/-- the first of a sorted list -/
theorem find_first {p : List Nat → Bool} {w : List Nat} : ∀ {l : List (List Nat)}, l.Pairwise AW.wl → w ∈ l → p w = true → (∀ u ∈ l, AW.wl u w → p u = false) → l.find? p = some w
  | u :: l, pw, hw, pt, no => by
    obtain ⟨p1, p2⟩ := List.pairwise_cons.mp pw
    rw [List.find?_cons]
    rcases List.mem_cons.mp hw with rfl | hw
    · rw [pt]
    · rw [no u List.mem_cons_self (p1 w hw)]
      exact find_first p2 hw pt fun x hx => no x (List.mem_cons_of_mem _ hx)
end LG
set_option Elab.async false
set_option linter.all false
set_option maxRecDepth 100000
set_option maxHeartbeats 8000000
/-! Two devices met: all pairs that the same walks lead to, or the first walk that is answered otherwise. -/
namespace LG
open PySem L2
def pairD (k : Str × Str) : PyData := .tuple [.str k.1, .str k.2]
theorem pair_eqv (a b : Str × Str) : PyData.eqv (pairD a) (pairD b) = decide (a = b) := by
  obtain ⟨a1, a2⟩ := a
  obtain ⟨b1, b2⟩ := b
  unfold pairD
  simp only [PyData.eqv, PyData.eqvAll, Bool.and_true]
  by_cases h1 : a1 = b1
  · by_cases h2 : a2 = b2
    · subst h1 h2
      simp
    · have : (a2 == b2) = false := by simpa using h2
      simp [h2]
  · have : (a1 == b1) = false := by simpa using h1
    simp [h1]
theorem pairs_any (ks : List (Str × Str)) (k : Str × Str) : ((ks.map pairD).any fun z => PyData.eqv z (pairD k)) = ks.contains k := by
  rw [List.any_map, List.contains_eq_any_beq]
  congr 1
  funext y
  show PyData.eqv (pairD y) (pairD k) = (k == y)
  rw [pair_eqv]
  by_cases h : y = k
  · subst h
    simp
  · have h2 : ¬ k = y := fun z => h z.symm
    rw [decide_eq_false h]
    have : (k == y) = false := by simpa using h2
    rw [this]
theorem name_strOk {x : Str} (h : ∀ c ∈ TL.tl x, c < 128) : PyData.canLay0 (.str x) = true := by
  simp only [PyData.canLay0]
  show (x.cps.all fun c => decide (c < 0x110000)) = true
  rw [Array.all_eq_true']
  intro c hc
  exact decide_eq_true (Nat.lt_trans (h c (by simpa [TL.tl] using hc)) (by decide))
theorem pair_shaped {k : Str × Str} (h1 : ∀ c ∈ TL.tl k.1, c < 128) (h2 : ∀ c ∈ TL.tl k.2, c < 128) : SeqAt.shaped (pairD k) = true := by
  unfold SeqAt.shaped pairD
  have e1 := name_strOk h1
  have e2 := name_strOk h2
  have c : PyData.canLay0 (.tuple [.str k.1, .str k.2]) = true := by
    simp only [PyData.canLay0, PyData.canLayAll0] at e1 e2 ⊢
    rw [e1, e2]
    rfl
  rw [c]
  rfl
theorem pairs_shaped {ks : List (Str × Str)} (h : ∀ k ∈ ks, (∀ c ∈ TL.tl k.1, c < 128) ∧ ∀ c ∈ TL.tl k.2, c < 128) : SeqAt.shaped (.list (ks.map pairD)) = true := by
  have c : PyData.canLayAll0 (ks.map pairD) = true ∧ PyData.depthAll (ks.map pairD) ≤ 1 := by
    induction ks with
    | nil => exact ⟨rfl, by simp [PyData.depthAll]⟩
    | cons k r ih =>
      obtain ⟨i1, i2⟩ := ih fun x hx => h x (List.mem_cons_of_mem _ hx)
      obtain ⟨a1, a2⟩ := h k List.mem_cons_self
      have s := SeqAt.canLay_of_shaped (pair_shaped a1 a2)
      refine ⟨?_, ?_⟩
      · simp only [List.map_cons, PyData.canLayAll0, s, i1, Bool.and_self]
      · simp only [List.map_cons, PyData.depthAll]
        have : (pairD k).depth ≤ 1 := by
          unfold pairD
          simp only [PyData.depth, PyData.depthAll]
          omega
        omega
  unfold SeqAt.shaped
  simp only [PyData.canLay0, PyData.depth, c.1, Bool.true_and]
  exact decide_eq_true (by have := c.2; omega)
theorem pair_dp {K : PySem.W.Frag} {H : Hp} {t : Addr} {k : Str × Str} (h : H t = some (.tup [.str k.1, .str k.2])) : Dp K H (.ref t) (pairD k) := .tup (.inl (.inl h)) (.cons (.str _) (.cons (.str _) .nil))
theorem pairs_dp {K : PySem.W.Frag} {H : Hp} {vs : List V} {ks : List (Str × Str)} (h : KeyRefs H vs ks) : DpAll K H vs (ks.map pairD) := by
  induction h with
  | nil => exact .nil
  | cons a _ ih => exact .cons (pair_dp a) ih
theorem hu65 {k : Nat} {A : Around} (r : Room k A) : A.units + 65 < cLine := by have := r.un; omega
theorem tup0 {K : PySem.W.Frag} {a b : V} {p : Addr} {G : Hp} {Q : VK} (h : G p = some (.tup [a, b])) (q : Q a G) : rIxT K (.ref p) (.int 0) G Q := ⟨p, _, 0, a, rfl, rfl, .inl (.inl h), rfl, q⟩
/-- walks, each a tuple of its calls -/
def WkRefs (H : Hp) (C : List Str) (us : List V) (ws : List (List Nat)) : Prop := PySem.Paired (fun (v : V) (w : List Nat) => ∃ q, v = .ref q ∧ H q = some (.tup ((w.map (callN C)).map V.str))) us ws
theorem WkRefs.same {H H' : Hp} {C : List Str} {us : List V} {ws : List (List Nat)} (e : Same H H') (h : WkRefs H C us ws) : WkRefs H' C us ws := by
  induction h with
  | nil => exact .nil
  | cons a _ ih =>
    obtain ⟨q, e1, e2⟩ := a
    exact .cons ⟨q, e1, e _ _ e2⟩ ih
theorem WkRefs.len {H : Hp} {C : List Str} {us : List V} {ws : List (List Nat)} (h : WkRefs H C us ws) : us.length = ws.length := by
  induction h with
  | nil => rfl
  | cons _ _ ih => rw [List.length_cons, List.length_cons, ih]
theorem WkRefs.get {H : Hp} {C : List Str} {us : List V} {ws : List (List Nat)} (h : WkRefs H C us ws) : ∀ {i : Nat} {w : List Nat}, ws[i]? = some w → ∃ q, us[i]? = some (.ref q) ∧ H q = some (.tup ((w.map (callN C)).map V.str)) := by
  induction h with
  | nil => exact fun h => by cases h
  | cons a _ ih =>
    intro i w hw
    cases i with
    | zero =>
      obtain ⟨q, e1, e2⟩ := a
      have e : _ = w := Option.some.inj hw
      subst e
      exact ⟨q, by rw [e1]; rfl, e2⟩
    | succ i => exact ih (i := i) hw
theorem KeyRefs.at {H : Hp} {vs : List V} {ks : List (Str × Str)} (h : KeyRefs H vs ks) : ∀ {i : Nat} {k : Str × Str}, ks[i]? = some k → ∃ t, vs[i]? = some (.ref t) ∧ H t = some (.tup [.str k.1, .str k.2]) := by
  induction h with
  | nil => exact fun h => by cases h
  | cons a _ ih =>
    intro i k hk
    cases i with
    | zero =>
      have e : _ = k := Option.some.inj hk
      subst e
      exact ⟨_, rfl, a⟩
    | succ i => exact ih (i := i) hk
theorem outB_f {D E : Dev} {C : List Str} {x : Bool × Str} {c : Nat} (h : x.1 = false) : outB D E C x c = (rowX D (x.2, callN C c)).1 ∧ nxtB D E C x c = (false, (rowX D (x.2, callN C c)).2) := by
  obtain ⟨b, s⟩ := x
  dsimp only at h
  subst h
  exact ⟨rfl, rfl⟩
theorem outB_t {D E : Dev} {C : List Str} {x : Bool × Str} {c : Nat} (h : x.1 = true) : outB D E C x c = (rowX E (x.2, callN C c)).1 ∧ nxtB D E C x c = (true, (rowX E (x.2, callN C c)).2) := by
  obtain ⟨b, s⟩ := x
  dsimp only at h
  subst h
  exact ⟨rfl, rfl⟩
/-- the pair's names -/
def pN (p : (Bool × Str) × (Bool × Str)) : Str × Str := (p.1.2, p.2.2)
abbrev BfD (D E : Dev) (s t : Str) (i c : Nat) (ps : List ((Bool × Str) × (Bool × Str))) (ws : List (List Nat)) : Prop := AW.Bf (outB D E D.calls) (nxtB D E D.calls) D.calls.length (false, s) (true, t) i c ps ws
theorem BfD.sides {D E : Dev} {s t : Str} {i c : Nat} {ps : List ((Bool × Str) × (Bool × Str))} {ws : List (List Nat)} (b : BfD D E s t i c ps ws) : ∀ p ∈ ps, ∃ a d, p = ((false, a), (true, d)) := by
  intro p hp
  obtain ⟨j, hj⟩ := List.getElem?_of_mem hp
  have lj : j < ws.length := by
    rw [← b.len]
    exact (List.getElem?_eq_some_iff.mp hj).1
  obtain ⟨_, e⟩ := b.ok j ws[j] (List.getElem?_eq_getElem lj)
  rw [hj] at e
  have e := Option.some.inj e
  have h1 := goesB D E D.calls ws[j] false s
  have h2 := goesB D E D.calls ws[j] true t
  refine ⟨(AW.goes (nxtB D E D.calls) (false, s) ws[j]).2, (AW.goes (nxtB D E D.calls) (true, t) ws[j]).2, ?_⟩
  rw [e]
  exact Prod.ext (Prod.ext h1 rfl) (Prod.ext h2 rfl)
theorem BfD.mem {D E : Dev} {s t : Str} {i c : Nat} {ps : List ((Bool × Str) × (Bool × Str))} {ws : List (List Nat)} (b : BfD D E s t i c ps ws) (FD : Full D) (FE : Full E) (hE : E.calls = D.calls) (hs : s ∈ D.states) (ht : t ∈ E.states) : ∀ p ∈ ps, p.1.2 ∈ D.states ∧ p.2.2 ∈ E.states := by
  intro p hp
  obtain ⟨j, hj⟩ := List.getElem?_of_mem hp
  have lj : j < ws.length := by
    rw [← b.len]
    exact (List.getElem?_eq_some_iff.mp hj).1
  obtain ⟨v, e⟩ := b.ok j ws[j] (List.getElem?_eq_getElem lj)
  rw [hj] at e
  have e := Option.some.inj e
  rw [e]
  exact ⟨goesB_mem FD FE rfl hE (b := false) v hs, goesB_mem FD FE rfl hE (b := true) v ht⟩
theorem BfD.few {D E : Dev} {s t : Str} {i c : Nat} {ps : List ((Bool × Str) × (Bool × Str))} {ws : List (List Nat)} (b : BfD D E s t i c ps ws) (FD : Full D) (FE : Full E) (hE : E.calls = D.calls) (hs : s ∈ D.states) (ht : t ∈ E.states) (l1 : D.states.length ≤ 4) (l2 : E.states.length ≤ 4) : ps.length ≤ 16 := by
  have h := AW.nodup_len (M := D.states.flatMap fun a => E.states.map fun d => ((false, a), (true, d))) b.nd fun p hp => by
    obtain ⟨a, d, rfl⟩ := b.sides p hp
    obtain ⟨h1, h2⟩ := b.mem FD FE hE hs ht _ hp
    exact List.mem_flatMap.mpr ⟨a, h1, List.mem_map.mpr ⟨d, h2, rfl⟩⟩
  have e : ∀ l : List Str, (l.flatMap fun a => E.states.map fun d => ((false, a), (true, d))).length = l.length * E.states.length := by
    intro l
    induction l with
    | nil => simp
    | cons x r ih => rw [List.flatMap_cons, List.length_append, ih, List.length_map, List.length_cons, Nat.succ_mul, Nat.add_comm]
  rw [e] at h
  exact Nat.le_trans h (Nat.le_trans (Nat.mul_le_mul l1 l2) (by decide))
theorem BfD.contains {D E : Dev} {s t : Str} {i c : Nat} {ps : List ((Bool × Str) × (Bool × Str))} {ws : List (List Nat)} (b : BfD D E s t i c ps ws) (g a : Str) : (ps.map pN).contains (g, a) = decide (((false, g), (true, a)) ∈ ps) := by
  by_cases h : ((false, g), (true, a)) ∈ ps
  · rw [decide_eq_true h]
    exact List.contains_iff_mem.mpr (List.mem_map.mpr ⟨_, h, rfl⟩)
  · rw [decide_eq_false h]
    cases e : (ps.map pN).contains (g, a) with
    | false => rfl
    | true =>
      obtain ⟨p, hp, e2⟩ := List.mem_map.mp (List.contains_iff_mem.mp e)
      obtain ⟨x, y, rfl⟩ := b.sides p hp
      cases e2
      exact absurd hp h
theorem KeyRefs.updl {H : Hp} {a : Addr} {xs : List V} {o : HO} {vs : List V} {ks : List (Str × Str)} (h : H a = some (.lst xs)) (k : KeyRefs H vs ks) : KeyRefs (upd H a o) vs ks := by
  induction k with
  | nil => exact .nil
  | cons e _ ih => exact .cons (by rw [upd_ne (fun z => by rw [z, h] at e; cases e)]; exact e) ih
theorem WkRefs.updl {H : Hp} {a : Addr} {xs : List V} {o : HO} {C : List Str} {us : List V} {ws : List (List Nat)} (h : H a = some (.lst xs)) (k : WkRefs H C us ws) : WkRefs (upd H a o) C us ws := by
  induction k with
  | nil => exact .nil
  | cons e _ ih =>
    obtain ⟨q, e1, e2⟩ := e
    exact .cons ⟨q, e1, by rw [upd_ne (fun z => by rw [z, h] at e2; cases e2)]; exact e2⟩ ih
theorem cat_one {K : PySem.W.Frag} {q t1 : Addr} {xs : List V} {v : V} {G : Hp} {Q : VK} (hq : SqT K G q xs) (ht : G t1 = some (.tup [v])) (l : xs.length + 1 ≤ sizeLine) (k : ∀ (u : V) (G' : Hp), Same G G' → (∃ tw, u = .ref tw ∧ G' tw = some (.tup (xs ++ [v]))) → Q u G') : rCatA K (.ref q) (.ref t1) G Q := by
  refine ⟨q, t1, xs, [v], rfl, rfl, hq, .inl (.inl ht), l, fun e => ?_, (fun _ e => by cases e), fun _ _ p np => ?_⟩
  · subst e
    exact k _ _ (Same.refl G) ⟨t1, rfl, ht⟩
  · exact k _ _ (same_new np _) ⟨p, rfl, upd_same⟩
end LG
set_option Elab.async false
set_option linter.all false
set_option maxRecDepth 100000
set_option maxHeartbeats 16000000
namespace LG
open PySem L2
theorem name_asc_ {x : Str} (h : isNameB x = true) : ∀ c ∈ TL.tl x, c < 128 := by
  intro c hc
  have hs := name_signs h c hc
  rw [Bool.or_eq_true] at hs
  have all : (LET.cps.toList ++ FIG.cps.toList).all (fun d => decide (d < 128)) = true := by decide +kernel
  have hm : c ∈ LET.cps.toList ++ FIG.cps.toList := by
    rcases hs with h | h
    · exact List.mem_append_left _ (of_decide_eq_true h)
    · exact List.mem_append_right _ (of_decide_eq_true h)
  exact of_decide_eq_true (List.all_eq_true.mp all c hm)
end LG
namespace K51
open PySem L2 LG
section
variable {P : Program} {w : World} {K : PySem.W.Frag} {mg : Str → Option Value} {base : Heap}
/-- what a device has of its own -/
structure Fine (D : Dev) : Prop where
  full : Full D
  s4 : D.states.length ≤ 4
  c3 : D.calls.length ≤ 3
  sw : ∀ x ∈ D.states, isNameB x = true
  cw : ∀ x ∈ D.calls, isNameB x = true
  aw : ∀ s ∈ D.states, ∀ c ∈ D.calls, isNameB (rowX D (s, c)).1 = true
end
end K51
set_option Elab.async false
set_option linter.all false
set_option maxRecDepth 100000
set_option maxHeartbeats 16000000
namespace LG
open PySem L2
/-- a device of the law's own, its rows to be looked up -/
def OwnL (K : PySem.W.Frag) (H : Hp) (o : Addr) (D : Dev) : Prop := ∃ c a s r g, H o = some (.dK [(.inr ("calls" : Str), .ref c), (.inr ("answers" : Str), .ref a), (.inr ("states" : Str), .ref s), (.inr ("rows" : Str), .ref r)]) ∧ H c = some (.lst (D.calls.map V.str)) ∧ H a = some (.lst (D.answers.map V.str)) ∧ H s = some (.lst (D.states.map V.str)) ∧
  GoalsAt K H r g ∧ ∀ k ∈ prodK D.states D.calls, g.lookup k = some (rowX D k)
theorem OwnL.same {K : PySem.W.Frag} {H H' : Hp} {o : Addr} {D : Dev} (e : Same H H') (h : OwnL K H o D) : OwnL K H' o D := by
  obtain ⟨c, a, s, r, g, h1, h2, h3, h4, h5, h6⟩ := h
  exact ⟨c, a, s, r, g, e _ _ h1, e _ _ h2, e _ _ h3, e _ _ h4, h5.same e, h6⟩
theorem OwnAt.l {K : PySem.W.Frag} {H : Hp} {o : Addr} {D : Dev} (dr : Drawn D) (h : OwnAt K H o D) : OwnL K H o D := by
  obtain ⟨c, a, s, r, kvs, h1, h2, h3, h4, h5, h6⟩ := h.ex
  refine ⟨c, a, s, r, D.goals, h1, h2, h3, h4, ⟨kvs, .inl h5, h6⟩, fun k hk => ?_⟩
  exact (dr.row (by rw [dr.keys]; exact hk)).1
theorem pfx_row {S C : List Str} {i : Nat} {s : Str} (h : S[i]? = some s) : prodK (S.take (i + 1)) C = prodK (S.take i) C ++ C.map fun c => (s, c) := by
  unfold prodK
  rw [List.take_add_one, h]
  show (S.take i ++ [s]).flatMap _ = _
  rw [List.flatMap_append]
  simp
end LG
namespace K51
open PySem L2 LG
section
variable {P : Program} {w : World} {K : PySem.W.Frag} {mg : Str → Option Value} {base : Heap}
def spText (K : PySem.W.Frag) : Sp := fun vs H Q _ => ∃ (o : Addr) (D : Dev), vs = [.ref o] ∧ OwnL K H o D ∧ Drawn D ∧ ∀ H', Same H H' → Q (.str (textOf D (prodK D.states D.calls))) H'
abbrev nX : List Str := ["_law_device_here", "_law_rows", "_law_state", "_law_call"]
theorem scText : FnScope nX ["_law_device_here"] (defScope sText) := ⟨rfl, rfl, rfl, by decide +kernel, rfl, by decide +kernel, by decide +kernel⟩
theorem ok_text {f : Addr} {fd : FuncData} (F : Fun K "_law_text" "_law_text" sText f fd) (T : Bltn mg) : FnOk P w K mg base CX0 1 f fd ["_law_device_here"] (spText K) := by
  refine F.ok scText (fun vs H Q E h => ?_) (fun cdv A0 outer st H vs Q E hr h => ?_)
  · obtain ⟨o, D, rfl, _⟩ := h
    rfl
  obtain ⟨o, D, rfl, hO, dr, q⟩ := h
  have hu := hu_of hr
  refine' ⟨_, pss_cons (ps_set (i := 1) scText.nd rfl (Or.inl rfl) (pe_lst (pa_cons (pe_op op_add_str pe_str (pe_join pe_str (pe_dget hu (pv 0) pe_str (fun _ _ => rfl)))) (pa_cons (pe_op op_add_str pe_str (pe_join pe_str (pe_dget hu (pv 0) pe_str (fun _ _ => rfl)))) pa_nil))))
    (pss_cons (ps_expr (pe_bm PySem.F.plainAttrs_list PySem.F.slot_list_append PySem.F.type_list_append mt_append (pv 1) (pa_cons (pe_op op_add_str pe_str (pe_join pe_str (pe_dget hu (pv 0) pe_str (fun _ _ => rfl)))) pa_nil)))
    (pss_cons (ps_for PassesOwn.never rfl (pi_list (pe_dget hu (pv 0) pe_str (fun _ _ => rfl))) (pg_name (i := 2) scText.nd rfl (Or.inl rfl)) (pss_one (ps_for PassesOwn.never rfl (pi_list (pe_dget hu (pv 0) pe_str (fun _ _ => rfl))) (pg_name (i := 3) scText.nd rfl (Or.inl rfl)) (pss_one ?app))))
    (pss_one (ps_ret (pe_join pe_str (pv 1)))))), ?main⟩
  case app =>
    exact ps_expr (pe_bm PySem.F.plainAttrs_list PySem.F.slot_list_append PySem.F.type_list_append mt_append (pv 1) (pa_cons (pe_join pe_str (pe_op op_cat (pe_lst (pa_cons pe_str (pa_cons (pv 2) (pa_cons (pv 3) pa_nil)))) (pe_callTy call_list_of rfl T.list (by decide +kernel) (pa_cons (pe_dget hu (pe_dget hu (pv 0) pe_str (fun _ _ => rfl)) (pe_tup (pa_cons (pv 2) (pa_cons (pv 3) pa_nil))) (fun _ _ => rfl)) pa_nil)))) pa_nil))
  case main =>
    obtain ⟨c, a, s, r, g, h1, h2, h3, h4, h5, h6⟩ := hO
    obtain ⟨lc, la, ls⟩ := dr.lens
    have c1 := dr.c1
    have a1 := dr.a1
    have s1 := dr.s1
    have jc := join_le1 sp1_1 lc
    have ja := join_le1 sp1_1 la
    have js := join_le1 sp1_1 ls
    have sc := sum_le lc
    have sa := sum_le la
    have ss := sum_le ls
    have dK := fun (x : Str) (G : Hp) (e : G o = some (.dK [(.inr ("calls" : Str), .ref c), (.inr ("answers" : Str), .ref a), (.inr ("states" : Str), .ref s), (.inr ("rows" : Str), .ref r)])) => DGet.k (k := Sum.inr x) e
    have sz := sizeLine_eq
    have n1 : sp1.length = 1 := sp1_1
    refine ⟨⟨_, rfl⟩, _, rfl, o, _, rfl, dK "calls" H h1, sp1, c, D.calls, rfl, rfl, .inl (SqL.of h2), by rw [n1]; omega, _, _, rfl, rfl, ?_, ⟨_, rfl⟩, _, rfl, o, _, rfl, dK "answers" H h1, sp1, a, D.answers, rfl, rfl, .inl (SqL.of h3), by rw [n1]; omega, _, _, rfl, rfl, ?_, (by show 2 ≤ sizeLine; decide), fun rw_ nr => ?_⟩
    · have e1 : ("calls " : Str).length = 6 := by decide +kernel
      rw [e1, sz]
      omega
    · have e1 : ("answers " : Str).length = 8 := by decide +kernel
      rw [e1, sz]
      omega
    have t1 := same_new nr (.lst [.str (("calls " : Str) ++ Txt.join sp1 D.calls), .str (("answers " : Str) ++ Txt.join sp1 D.answers)])
    have hr1 : (upd H rw_ (.lst [.str (("calls " : Str) ++ Txt.join sp1 D.calls), .str (("answers " : Str) ++ Txt.join sp1 D.answers)])) rw_ = some (.lst [.str (("calls " : Str) ++ Txt.join sp1 D.calls), .str (("answers " : Str) ++ Txt.join sp1 D.answers)]) := upd_same
    show _
    generalize upd H rw_ (.lst [.str (("calls " : Str) ++ Txt.join sp1 D.calls), .str (("answers " : Str) ++ Txt.join sp1 D.answers)]) = H1 at t1 hr1 ⊢
    refine ⟨_, rfl, .inl ⟨rfl, _, SqL.of hr1⟩, ⟨_, rfl⟩, _, rfl, o, _, rfl, dK "states" H1 (t1 _ _ h1), sp1, s, D.states, rfl, rfl, .inl (SqL.of (t1 _ _ h4)), by rw [n1]; omega, _, _, rfl, rfl, ?_, rw_, _, _, rfl, rfl, hr1, (by show 2 < sizeLine; decide), ?_⟩
    · have e1 : ("states " : Str).length = 7 := by decide +kernel
      rw [e1, sz]
      omega
    have hr2 : (upd H1 rw_ (.lst ([.str (("calls " : Str) ++ Txt.join sp1 D.calls), .str (("answers " : Str) ++ Txt.join sp1 D.answers)] ++ [.str (("states " : Str) ++ Txt.join sp1 D.states)]))) rw_ = some (.lst ((headsOf D ++ (prodK (D.states.take 0) D.calls).map (rowOf D)).map V.str)) := upd_same
    have t2 : Same H (upd H1 rw_ (.lst ([.str (("calls " : Str) ++ Txt.join sp1 D.calls), .str (("answers " : Str) ++ Txt.join sp1 D.answers)] ++ [.str (("states " : Str) ++ Txt.join sp1 D.states)]))) := fun b u e => by
      rw [upd_ne (ne_of_none e nr)]
      exact t1 _ _ e
    show _
    generalize upd H1 rw_ (.lst ([.str (("calls " : Str) ++ Txt.join sp1 D.calls), .str (("answers " : Str) ++ Txt.join sp1 D.answers)] ++ [.str (("states " : Str) ++ Txt.join sp1 D.states)])) = H2 at hr2 t2 ⊢
    refine ⟨_, rfl, o, _, rfl, dK "states" H2 (t2 _ _ h1), s, rfl, ⟨_, SqL.of (t2 _ _ h4)⟩, ?_⟩
    refine for_it walk_list (fun i σ G => ∃ v2 v3, σ = [some (.ref o), some (.ref rw_), v2, v3] ∧ Same H G ∧ G rw_ = some (.lst ((headsOf D ++ (prodK (D.states.take i) D.calls).map (rowOf D)).map V.str))) ⟨_, _, rfl, t2, hr2⟩ (fun i σ G _ ⟨_, _, _, sG, _⟩ => SqL.of (sG _ _ h4)) ?_ ?_
    · rintro i y σ G G' hi ⟨v2, v3, rfl, sG, hG⟩ ⟨rfl, hy⟩
      rw [List.length_map] at hi
      rw [List.getElem?_map, List.getElem?_eq_getElem hi] at hy
      have ey : y = .str D.states[i] := (Option.some.inj hy).symm
      subst ey
      have hsi : D.states[i]? = some D.states[i] := List.getElem?_eq_getElem hi
      have mS : D.states[i] ∈ D.states := List.getElem_mem hi
      generalize D.states[i] = si at hsi mS
      refine ⟨_, rfl, o, _, rfl, dK "calls" G' (sG _ _ h1), c, rfl, ⟨_, SqL.of (sG _ _ h2)⟩, ?_⟩
      refine for_it walk_list (fun j σ F => ∃ v3, σ = [some (.ref o), some (.ref rw_), some (.str si), v3] ∧ Same H F ∧ F rw_ = some (.lst ((headsOf D ++ (prodK (D.states.take i) D.calls ++ (D.calls.take j).map fun cc => (si, cc)).map (rowOf D)).map V.str))) ⟨_, rfl, sG, by rw [List.take_zero, List.map_nil, List.append_nil]; exact hG⟩ (fun j σ F _ ⟨_, _, sF, _⟩ => SqL.of (sF _ _ h2)) ?_ ?_
      · rintro j y σ F F' hj ⟨v3, rfl, sF, hF⟩ ⟨rfl, hy⟩
        rw [List.length_map] at hj
        rw [List.getElem?_map, List.getElem?_eq_getElem hj] at hy
        have ey : y = .str D.calls[j] := (Option.some.inj hy).symm
        subst ey
        have hcj : D.calls[j]? = some D.calls[j] := List.getElem?_eq_getElem hj
        have mC : D.calls[j] ∈ D.calls := List.getElem_mem hj
        generalize D.calls[j] = cj at hcj mC
        have lk := h6 (si, cj) (prod_mem.mpr ⟨mS, mC⟩)
        refine ⟨_, rfl, .inl ⟨rfl, _, SqL.of hF⟩, ⟨_, rfl⟩, _, rfl, _, rfl, (by show 3 ≤ sizeLine; decide), fun l1 nl1 => ?_⟩
        have u1 := same_new nl1 (.lst [V.str "row", .str si, .str cj])
        have hl1 : (upd F' l1 (.lst [V.str "row", .str si, .str cj])) l1 = some (.lst [V.str "row", .str si, .str cj]) := upd_same
        have nl1r : l1 ≠ rw_ := fun z => by rw [z, hF] at nl1; cases nl1
        show _
        generalize upd F' l1 (.lst [V.str "row", .str si, .str cj]) = F1 at u1 hl1 ⊢
        have s1' := sF.trans u1
        refine ⟨_, rfl, o, _, rfl, dK "rows" F1 (s1' _ _ h1), _, rfl, _, rfl, (by show 2 ≤ sizeLine; decide), fun tk ntk => ?_⟩
        have u2 := same_new ntk (.tup [V.str si, .str cj])
        have htk : (upd F1 tk (.tup [V.str si, .str cj])) tk = some (.tup ((kT (si, cj)).map kV)) := upd_same
        show _
        generalize upd F1 tk (.tup [V.str si, .str cj]) = F2 at u2 htk ⊢
        have s2' := s1'.trans u2
        obtain ⟨kvs, hgr, gr⟩ := h5
        rcases gr.val (si, cj) with ⟨l1', _⟩ | ⟨r2, t2', l1', l2', l3'⟩
        · rw [l1'] at lk
          cases lk
        rw [l1'] at lk
        have er2 : r2 = rowX D (si, cj) := Option.some.inj lk
        subst er2
        have g1 : DGet _ r (.ref tk) (valV kvs (kT (si, cj))) := .inr ⟨kvs, kT (si, cj), tk, rd_same s2' hgr, rfl, htk, rfl⟩
        rw [l2'] at g1
        have l3'' := same_tup s2' l3'
        refine ⟨r, _, rfl, g1, t2', _, rfl, .inr l3'', fun l2 nl2 => ?_⟩
        have u3 := same_new nl2 (.lst [V.str (rowX D (si, cj)).1, .str (rowX D (si, cj)).2])
        have hl2 : (upd F2 l2 (.lst [V.str (rowX D (si, cj)).1, .str (rowX D (si, cj)).2])) l2 = some (.lst [V.str (rowX D (si, cj)).1, .str (rowX D (si, cj)).2]) := upd_same
        have hl1' := (u2.trans u3) _ _ hl1
        show _
        generalize upd F2 l2 (.lst [V.str (rowX D (si, cj)).1, .str (rowX D (si, cj)).2]) = F3 at u3 hl2 hl1' ⊢
        refine ⟨l1, l2, _, _, rfl, rfl, hl1', hl2, (by show 3 + 2 ≤ sizeLine; decide), fun l3 nl3 => ?_⟩
        have u4 := same_new nl3 (.lst ([V.str "row", .str si, .str cj] ++ [V.str (rowX D (si, cj)).1, .str (rowX D (si, cj)).2]))
        have hl3 : (upd F3 l3 (.lst ([V.str "row", .str si, .str cj] ++ [V.str (rowX D (si, cj)).1, .str (rowX D (si, cj)).2]))) l3 = some (.lst ((["row", si, cj, (rowX D (si, cj)).1, (rowX D (si, cj)).2] : List Str).map V.str)) := upd_same
        have s4' := s2'.trans (u3.trans u4)
        have hF4 := (u1.trans (u2.trans (u3.trans u4))) _ _ hF
        show _
        generalize upd F3 l3 (.lst ([V.str "row", .str si, .str cj] ++ [V.str (rowX D (si, cj)).1, .str (rowX D (si, cj)).2])) = F4 at hl3 s4' hF4 ⊢
        have km : (si, cj) ∈ D.goals.map (·.1) := by rw [dr.keys]; exact prod_mem.mpr ⟨mS, mC⟩
        have rl : ∀ t ∈ (["row", si, cj, (rowX D (si, cj)).1, (rowX D (si, cj)).2] : List Str), t.length ≤ 8 := by
          intro t ht
          rcases List.mem_cons.mp ht with rfl | ht
          · decide +kernel
          · exact name_len (dr.row_names km t ht)
        have rs := sum_le rl
        have r5 : (["row", si, cj, (rowX D (si, cj)).1, (rowX D (si, cj)).2] : List Str).length = 5 := rfl
        refine ⟨sp1, l3, _, rfl, rfl, .inl (SqL.of hl3), by rw [n1]; omega, rw_, _, _, rfl, rfl, hF4, ?_, ?_⟩
        · rw [List.length_map, List.length_append, List.length_map, List.length_append, List.length_map, List.length_take, prod_len, List.length_take, sz]
          have hh : (headsOf D).length = 3 := rfl
          rw [hh]
          have := Nat.mul_le_mul (Nat.min_le_right i D.states.length) (Nat.le_refl D.calls.length)
          have h3 : D.states.length * D.calls.length ≤ 4 * 3 := Nat.mul_le_mul s1.2 c1.2
          omega
        · refine ⟨_, rfl, fun b' o' hb => ?_, ?_⟩
          · rw [upd_ne (ne_of_none hb nr)]
            exact s4' _ _ hb
          · rw [upd_same]
            have et : D.calls.take (j + 1) = D.calls.take j ++ [cj] := by rw [List.take_add_one, hcj]; rfl
            rw [et]
            simp only [List.map_append, List.append_assoc]
            rfl
      · rintro σ F ⟨v3, rfl, sF, hF⟩
        rw [List.length_map, List.take_length] at hF
        rw [← pfx_row hsi] at hF
        exact ⟨_, _, rfl, sF, hF⟩
    · rintro σ G ⟨v2, v3, rfl, sG, hG⟩
      rw [List.length_map, List.take_length] at hG
      have mem : ∀ k ∈ prodK D.states D.calls, k ∈ D.goals.map (·.1) := fun k hk => by rw [dr.keys]; exact hk
      have ll := sum_le (Drawn.lines_len dr mem)
      have h2' : (linesOf D (prodK D.states D.calls)).length = 3 + (prodK D.states D.calls).length := by
        unfold LG.linesOf
        rw [List.length_append, List.length_map]
        rfl
      have hp12 : (prodK D.states D.calls).length ≤ 12 := by
        rw [prod_len]
        exact Nat.mul_le_mul s1.2 c1.2
      have n2 : nl1.length = 1 := by decide +kernel
      refine ⟨⟨_, rfl⟩, _, rfl, nl1, rw_, _, rfl, rfl, .inl (SqL.of hG), ?_, q G sG⟩
      show ((LG.linesOf D (prodK D.states D.calls)).map (·.length)).sum + (LG.linesOf D (prodK D.states D.calls)).length * nl1.length ≤ 16777216
      rw [n2]
      omega
end
end K51
set_option Elab.async false
set_option linter.all false
set_option maxRecDepth 100000
set_option maxHeartbeats 8000000
namespace LG
open PySem L2
theorem Drawn.full0 {D : Dev} (d : Drawn D) : Full D := by
  refine ⟨fun e => ?_, fun s hs c hc => ?_⟩
  · have := d.s1.1
    rw [e] at this
    simp at this
  · have km : (s, c) ∈ D.goals.map (·.1) := by
      rw [d.keys]
      exact prod_mem.mpr ⟨hs, hc⟩
    exact ⟨(d.row km).1, (d.row km).2.2.2.2⟩
theorem runD_snoc (D : Dev) : ∀ (ws : List Str) (s w : Str), runD D s (ws ++ [w]) = ((runD D s ws).1 ++ [(rowX D ((runD D s ws).2, w)).1], (rowX D ((runD D s ws).2, w)).2)
  | [], s, w => rfl
  | x :: r, s, w => by
    have ih := runD_snoc D r (rowX D (s, x)).2 w
    show ((rowX D (s, x)).1 :: (runD D (rowX D (s, x)).2 (r ++ [w])).1, (runD D (rowX D (s, x)).2 (r ++ [w])).2) = _
    rw [ih]
    rfl
end LG
set_option Elab.async false
set_option linter.all false
set_option maxRecDepth 100000
set_option maxHeartbeats 8000000
namespace LG
open PySem L2
theorem WkRefs.app {H : Hp} {C : List Str} {us vs : List V} {ws xs : List (List Nat)} (h : WkRefs H C us ws) (k : WkRefs H C vs xs) : WkRefs H C (us ++ vs) (ws ++ xs) := by
  induction h with
  | nil => exact k
  | cons e _ ih => exact .cons e ih
theorem wd_len (m : Nat) : ∀ k, (wd m k).length = m ^ k
  | 0 => rfl
  | k + 1 => by
    show ((wd m k).flatMap fun w => (List.range m).map fun c => w ++ [c]).length = _
    have e : ∀ l : List (List Nat), (l.flatMap fun w => (List.range m).map fun c => w ++ [c]).length = l.length * m := by
      intro l
      induction l with
      | nil => simp
      | cons a r ih => rw [List.flatMap_cons, List.length_append, ih, List.length_map, List.length_range, List.length_cons, Nat.add_mul]; omega
    rw [e, wd_len m k, Nat.pow_succ]
theorem wd_81 {m k : Nat} (hm : m ≤ 3) (hk : k ≤ 4) : (wd m k).length ≤ 81 := by
  rw [wd_len]
  have h1 : m ^ k ≤ 3 ^ k := Nat.pow_le_pow_left hm k
  have h2 : 3 ^ k ≤ 3 ^ 4 := Nat.pow_le_pow_right (by decide) hk
  omega
theorem md_len {m : Nat} (hm : m ≤ 3) : ∀ {k : Nat}, k ≤ 4 → (md m k).length ≤ 1 + 81 * k
  | 0, _ => Nat.le_refl _
  | k + 1, h => by
    have := md_len hm (k := k) (by omega)
    have w := wd_81 hm h
    show (md m k ++ wd m (k + 1)).length ≤ _
    rw [List.length_append]
    omega
end LG
set_option Elab.async false
set_option linter.all false
set_option maxRecDepth 100000
set_option maxHeartbeats 8000000
namespace LG
open PySem L2
theorem Drawn.fine {D : Dev} (d : Drawn D) : K51.Fine D where
  full := d.full0
  s4 := d.s1.2
  c3 := d.c1.2
  sw := d.sw
  cw := d.cw
  aw := fun s hs c hc => d.aw _ (d.row (k := (s, c)) (by rw [d.keys]; exact prod_mem.mpr ⟨hs, hc⟩)).2.2.2.1
/-! ### the first walk that parts, among all in their sequence -/
theorem First.at {S A : Type} {out : S → Nat → A} {nxt : S → Nat → S} {m k j : Nat} {s t : S} {w : List Nat} (hj : (md m k)[j]? = some w) (pr : ∀ (i : Nat) (u : List Nat), i < j → (md m k)[i]? = some u → AW.hear out nxt s u = AW.hear out nxt t u) (ne : AW.hear out nxt s w ≠ AW.hear out nxt t w) : AW.First out nxt m s t w := by
  have mw := md_mem.mp (List.mem_of_getElem? hj)
  refine ⟨mw.1, ne, fun u vu lu => ?_⟩
  have ul : u.length ≤ w.length := by
    rcases lu with h | h
    · omega
    · omega
  have mu : u ∈ md m k := md_mem.mpr ⟨vu, Nat.le_trans ul mw.2⟩
  obtain ⟨i, hi⟩ := List.getElem?_of_mem mu
  by_cases hij : i < j
  · exact pr i u hij hi
  · exfalso
    by_cases e : i = j
    · subst e
      rw [hi] at hj
      cases hj
      exact AW.wl_irr _ lu
    · have srt := List.pairwise_iff_getElem.mp (md_sorted m k)
      obtain ⟨h1, e1⟩ := List.getElem?_eq_some_iff.mp hi
      obtain ⟨h2, e2⟩ := List.getElem?_eq_some_iff.mp hj
      have := srt j i h2 h1 (by omega)
      rw [e1, e2] at this
      exact AW.wl_irr _ (AW.wl_tr lu this)
theorem none_parts {S A : Type} {out : S → Nat → A} {nxt : S → Nat → S} {m k : Nat} {s t : S} {Sts : List S} (cl : ∀ s ∈ Sts, ∀ c, c < m → nxt s c ∈ Sts) (hs : s ∈ Sts) (ht : t ∈ Sts) (hk : Sts.length ≤ k) (al : ∀ (i : Nat) (u : List Nat), (md m k)[i]? = some u → AW.hear out nxt s u = AW.hear out nxt t u) :
    ∀ u, AW.Valid m u → AW.hear out nxt s u = AW.hear out nxt t u := by
  intro u vu
  have key : ∀ (j : Nat), ∀ (i : Nat) (w : List Nat), i < j → (md m u.length)[i]? = some w → AW.hear out nxt s w = AW.hear out nxt t w := by
    intro j
    induction j with
    | zero => exact fun i w h => absurd h (Nat.not_lt_zero _)
    | succ j ih =>
      intro i w hi hw
      by_cases e : AW.hear out nxt s w = AW.hear out nxt t w
      · exact e
      · have f := First.at hw (fun i' u' h' => ih i' u' (by omega)) e
        have sh := f.short cl hs ht
        obtain ⟨i2, h2⟩ := List.getElem?_of_mem (md_mem.mpr ⟨f.1, by omega⟩ : w ∈ md m k)
        exact al i2 w h2
  obtain ⟨i, hi⟩ := List.getElem?_of_mem (md_mem.mpr ⟨vu, Nat.le_refl _⟩ : u ∈ md m u.length)
  exact key (i + 1) i u (Nat.lt_succ_self i) hi
/-! ### lists of texts -/
def txsD (xs : List Str) : PyData := .list (xs.map PyData.str)
theorem txs_eqv : ∀ (xs ys : List Str), PyData.eqv (txsD xs) (txsD ys) = decide (xs = ys) := by
  intro xs ys
  show PyData.eqvAll (xs.map PyData.str) (ys.map PyData.str) = _
  induction xs generalizing ys with
  | nil =>
    cases ys with
    | nil => rfl
    | cons y r => rfl
  | cons x l ih =>
    cases ys with
    | nil => rfl
    | cons y r =>
      rw [List.map_cons, List.map_cons]
      simp only [PyData.eqvAll, PyData.eqv, ih]
      by_cases h1 : x = y
      · subst h1
        by_cases h2 : l = r
        · subst h2
          simp
        · simp [h2]
      · simp [h1]
theorem txs_shaped {xs : List Str} (h : ∀ x ∈ xs, ∀ c ∈ TL.tl x, c < 128) : SeqAt.shaped (txsD xs) = true := by
  have c : PyData.canLayAll0 (xs.map PyData.str) = true ∧ PyData.depthAll (xs.map PyData.str) ≤ 1 := by
    induction xs with
    | nil => exact ⟨rfl, by simp [PyData.depthAll]⟩
    | cons k r ih =>
      obtain ⟨i1, i2⟩ := ih fun x hx => h x (List.mem_cons_of_mem _ hx)
      have s := name_strOk (h k List.mem_cons_self)
      refine ⟨?_, ?_⟩
      · simp only [List.map_cons, PyData.canLayAll0, s, i1, Bool.and_self]
      · simp only [List.map_cons, PyData.depthAll, PyData.depth]
        omega
  unfold SeqAt.shaped txsD
  simp only [PyData.canLay0, PyData.depth, c.1, Bool.true_and]
  exact decide_eq_true (by have := c.2; omega)
theorem txs_all {K : PySem.W.Frag} {H : Hp} : ∀ {xs : List Str}, DpAll K H (xs.map V.str) (xs.map PyData.str)
  | [] => .nil
  | x :: r => .cons (.str x) txs_all
theorem txs_dp {K : PySem.W.Frag} {H : Hp} {a : Addr} {xs : List Str} (h : H a = some (.lst (xs.map V.str))) : Dp K H (.ref a) (txsD xs) := .lst (SqL.of h) txs_all
theorem hear_names {D : Dev} (F : K51.Fine D) : ∀ {ws : List Str} {s : Str}, s ∈ D.states → (∀ y ∈ ws, y ∈ D.calls) → ∀ x ∈ (runD D s ws).1, isNameB x = true
  | [], _, _, _ => fun _ h => nomatch h
  | w :: r, s, hs, h => by
    intro x hx
    rcases List.mem_cons.mp hx with rfl | hx
    · exact F.aw s hs w (h w List.mem_cons_self)
    · exact hear_names F (F.full.row s hs w (h w List.mem_cons_self)).2 (fun y hy => h y (List.mem_cons_of_mem _ hy)) x hx
end LG
set_option Elab.async false
set_option linter.all false
set_option maxRecDepth 100000
set_option maxHeartbeats 8000000
namespace LG
open PySem L2
theorem perm_map {α β : Type} {f : α → β} {ys zs : List β} (h : ys.Perm zs) : ∀ l : List α, zs = l.map f → ∃ l' : List α, l'.Perm l ∧ ys = l'.map f := by
  induction h with
  | nil =>
    intro l e
    have : l = [] := List.map_eq_nil_iff.mp e.symm
    exact ⟨[], by rw [this], rfl⟩
  | cons x _ ih =>
    intro l e
    cases l with
    | nil => cases e
    | cons a r =>
      rw [List.map_cons] at e
      injection e with e1 e2
      obtain ⟨l', p, e3⟩ := ih r e2
      exact ⟨a :: l', p.cons a, by rw [e1, e3, List.map_cons]⟩
  | swap x y r =>
    intro l e
    match l, e with
    | a :: b :: r', e =>
      rw [List.map_cons, List.map_cons] at e
      injection e with e1 e2
      injection e2 with e2 e3
      exact ⟨b :: a :: r', List.Perm.swap a b r', by rw [e1, e2, e3, List.map_cons, List.map_cons]⟩
  | trans _ _ ih1 ih2 =>
    intro l e
    obtain ⟨l1, p1, e1⟩ := ih2 l e
    obtain ⟨l2, p2, e2⟩ := ih1 l1 e1
    exact ⟨l2, p2.trans p1, e2⟩
theorem Drawn.split_lines {D : Dev} (d : Drawn D) {ks : List (Str × Str)} (h : ∀ k ∈ ks, k ∈ D.goals.map (·.1)) : Txt.split (textOf D ks) nl1 = linesOf D ks := lines_join (by unfold linesOf headsOf; simp) (d.no10 h)
theorem Drawn.text_len {D : Dev} (d : Drawn D) {ks : List (Str × Str)} (h : ∀ k ∈ ks, k ∈ D.goals.map (·.1)) (hk : ks.length ≤ 12) : (textOf D ks).length ≤ 3000 := by
  have h1 := join_le1 nl1_1 (d.lines_len h)
  have ln : (linesOf D ks).length = 3 + ks.length := by
    unfold linesOf
    rw [List.length_append, List.length_map]
    rfl
  rw [ln] at h1
  have h2 := Nat.mul_le_mul_right (45 + 1) (show 3 + ks.length ≤ 15 by omega)
  exact Nat.le_trans h1 (by omega)
end LG
set_option Elab.async false
set_option linter.all false
set_option maxRecDepth 100000
set_option maxHeartbeats 2000000
/-! A lambda that is held as a value: made; called by a def that got it, in a block of the frame that made it. -/
namespace LG
open PySem PySem.Spec PyProof.Rows L2 LamX
/-- the function object of a lambda at f, its code object at c', its cells clo -/
def LamO (f c' : Addr) (q : Str) (params : Arguments) (body : Expr) (scope : Scope) (clo : List (Str × Addr)) : HO :=
  .ext fun h => ∃ pm ctv : Value, h.get? f = some (PySem.W.kla_obj "<lambda>" q params body scope clo pm c' ctv)
theorem lamO_tbl {f c' : Addr} {q : Str} {params : Arguments} {body : Expr} {scope : Scope} {clo : List (Str × Addr)} (ps : Array Value) : LamO f c' q params body scope clo ≠ .tbl ps := fun z => by
  unfold LamO at z
  cases z
theorem lamO_new {P : Program} {w : World} {H : Hp} {g : Heap} {c' : Addr} {q : Str} {params : Arguments} {body : Expr} {scope : Scope} {clo : List (Str × Addr)} {pm ctv : Value} :
    ObjOk P w H (g.push (PySem.W.kla_obj "<lambda>" q params body scope clo pm c' ctv)) g.objs.size (LamO g.objs.size c' q params body scope clo) :=
  ⟨⟨pm, ctv, Heap.get?_push_size _ rfl⟩, ⟨_, Heap.get?_push_size _ rfl⟩, fun _ _ ⟨pm, ctv, a⟩ st => ⟨pm, ctv, st _ a⟩⟩
section
variable {X : Cx} {pins : List (Addr × Obj)} {σ : L2.St} {H : Hp} {s : Shared}
/-- made: its function object is new, and told -/
theorem lam_new {T : List (Addr × Str)} {c P : Addr} {params : Arguments} {body : Expr} {scope : Scope} {pos : Pos} {E Q : Value → Shared → Prop} (I : Inv X pins σ H s) (TB : TabB X.base X.mg c P) (hcode : X.env.code = .ref c)
    (hm : (P, X.env.qual ++ "<lambda>") ∈ T) (hu : ∀ p ∈ T, p.1 = P → p.2 = X.env.qual ++ "<lambda>") (hT : Tabs T H) (hdef : defaultsOf params X.env = ([], [])) (L : LamS X.env.scope scope)
    (k : ∀ (f c' : Addr) (G : Hp) (z : Shared), Inv X pins σ G z → ExtN H G → Tabs T G → H f = none → G f = some (LamO f c' (X.env.qual ++ "<lambda>") params body scope (cloFrom X.env.cells scope.names [])) → G c' = some (CodeO c' (X.env.qual ++ "<lambda>")) → Q (.ref f) z) :
    wpAny (model X.prog X.w) X.A (eval (.Lambda params body scope pos) X.env) Q E s := by
  obtain ⟨ps, tb, tr, am⟩ := hT _ hm
  have cl := closure_ok (L.has I.ok)
  have gl := I.mod.glob.keeps I.bk
  have cd := TB.code.keeps I.bk
  have bm := TB.bm.keeps I.bk
  refine PySem.W.kla_eval hdef ?_
  cases e : codeAmong pos ps.toList with
  | some cv =>
    obtain ⟨c', rfl, kc⟩ := am pos cv e
    refine PySem.W.kla_makeFunctionHit cl I.ok.glob gl hcode cd (I.hok P _ tb) tr e bm fun ctv g tk kp sz => ?_
    have nf : H g.objs.size = none := I.hok.fresh sz
    have J := I.laid (a := g.objs.size) (t' := tk) (fun b o z => Heap.get?_push_of_some _ (kp b o z)) sz (lamO_new (P := X.prog) (w := X.w) (H := upd H g.objs.size (LamO g.objs.size c' (X.env.qual ++ "<lambda>") params body scope (cloFrom X.env.cells scope.names []))) (pm := (X.mg "__name__").getD .none) (ctv := ctv))
    have sm := same_new nf (LamO g.objs.size c' (X.env.qual ++ "<lambda>") params body scope (cloFrom X.env.cells scope.names []))
    exact k _ c' _ _ J (ExtN.of sm) (hT.ext sm) nf upd_same (sm _ _ kc)
  | none =>
    refine PySem.W.kla_makeFunction cl I.ok.glob gl hcode cd (I.hok P _ tb) tr e TB.gP bm fun c' ctv g tk kp ge lt rec_ tb2 => ?_
    obtain ⟨c2, oc, vs, t, e2, hoc, hd, hv⟩ := rec_
    cases e2
    have nC : H c' = none := I.hok.fresh ge
    have J1 := inv_table (t' := tk) (more := #[rawInt pos.line, rawInt pos.col, .ref c']) I tb (fun b o hb z => kp b o hb z) tb2 ge ⟨oc, vs, t, hoc, hd, hv⟩
    have sz : s.heap.objs.size ≤ g.objs.size := Nat.le_of_lt (Nat.lt_of_le_of_lt ge lt)
    have e1 : ExtN H (upd (upd H P (.tbl (ps ++ #[rawInt pos.line, rawInt pos.col, .ref c']))) c' (CodeO c' (X.env.qual ++ "<lambda>"))) := fun b o z n => by
      rw [upd_ne (ne_of_none z nC), upd_ne (fun y => n ps (Option.some.inj (z.symm.trans (by rw [y]; exact tb))))]
      exact z
    have T1 : Tabs T (upd (upd H P (.tbl (ps ++ #[rawInt pos.line, rawInt pos.col, .ref c']))) c' (CodeO c' (X.env.qual ++ "<lambda>"))) := fun p hp => by
      by_cases hb : p.1 = P
      · refine ⟨ps ++ #[rawInt pos.line, rawInt pos.col, .ref c'], by rw [hb, upd_ne (ne_of_none tb nC), upd_same], ?_, fun p' cv hcv => ?_⟩
        · rw [show (ps ++ #[rawInt pos.line, rawInt pos.col, .ref c']).toList = ps.toList ++ [rawInt pos.line, rawInt pos.col, .ref c'] by simp]
          exact PySem.TriplesOk_snoc _ _ _ _ tr
        · rw [show (ps ++ #[rawInt pos.line, rawInt pos.col, .ref c']).toList = ps.toList ++ [rawInt pos.line, rawInt pos.col, .ref c'] by simp] at hcv
          rw [hu p hp hb]
          rcases among_app _ tr hcv with z | z
          · obtain ⟨c0, y1, y2⟩ := am p' cv z
            exact ⟨c0, y1, e1 _ _ y2 codeO_ne⟩
          · exact ⟨c', z, upd_same⟩
      · obtain ⟨qs, a1, a2, a3⟩ := hT p hp
        exact ⟨qs, by rw [upd_ne (ne_of_none a1 nC), upd_ne hb]; exact a1, a2, fun p' cv hcv => let ⟨c0, y1, y2⟩ := a3 p' cv hcv; ⟨c0, y1, e1 _ _ y2 codeO_ne⟩⟩
    have hc1 : (upd (upd H P (.tbl (ps ++ #[rawInt pos.line, rawInt pos.col, .ref c']))) c' (CodeO c' (X.env.qual ++ "<lambda>"))) c' = some (CodeO c' (X.env.qual ++ "<lambda>")) := upd_same
    generalize upd (upd H P (.tbl (ps ++ #[rawInt pos.line, rawInt pos.col, .ref c']))) c' (CodeO c' (X.env.qual ++ "<lambda>")) = H1 at J1 e1 T1 hc1
    · have nf : H1 g.objs.size = none := J1.hok.fresh (Nat.le_refl _)
      have J := J1.laid (a := g.objs.size) (t' := tk) (fun b o z => Heap.get?_push_of_some _ z) (Nat.le_refl _) (lamO_new (P := X.prog) (w := X.w) (H := upd H1 g.objs.size (LamO g.objs.size c' (X.env.qual ++ "<lambda>") params body scope (cloFrom X.env.cells scope.names []))) (pm := (X.mg "__name__").getD .none) (ctv := ctv))
      have sm := same_new nf (LamO g.objs.size c' (X.env.qual ++ "<lambda>") params body scope (cloFrom X.env.cells scope.names []))
      exact k _ c' _ _ J (e1.trans (ExtN.of sm)) (T1.ext sm) (I.hok.fresh sz) upd_same (sm _ _ hc1)
def tLamv (T : List (Addr × Str)) (o : Addr → Addr → HO) (q : Str) : TE := fun _ H Q => Tabs T H ∧ ∀ (f c' : Addr) (G : Hp), ExtN H G → Tabs T G → H f = none → G f = some (o f c') → G c' = some (CodeO c' q) → Q (.ref f) G
end
section
variable {X : Cx}
/-- lambda: body, as a value -/
theorem pe_lamv {T : List (Addr × Str)} {c P : Addr} {params : Arguments} {body : Expr} {scope : Scope} {pos : Pos} (TB : TabB X.base X.mg c P) (hcode : X.env.code = .ref c) (hm : (P, X.env.qual ++ "<lambda>") ∈ T) (hu : ∀ p ∈ T, p.1 = P → p.2 = X.env.qual ++ "<lambda>")
    (L : LamS X.env.scope scope) (hdef : defaultsOf params X.env = ([], [])) :
    PE X (.Lambda params body scope pos) (tLamv T (fun f c' => LamO f c' (X.env.qual ++ "<lambda>") params body scope (cloFrom X.env.cells scope.names [])) (X.env.qual ++ "<lambda>")) := by
  refine ⟨fun pins s σ H Q I ⟨hT, h⟩ => ?_⟩
  exact lam_new I TB hcode hm hu hT hdef L fun f c' G z J e T1 nf hf hc => ⟨.ref f, G, J, rfl, h f c' G e T1 nf hf hc⟩
end
/-! ### a list comprehension whose element may rest on the frame as it stands at the block's start -/
section
variable {X : Cx}
theorem pe_lcS {elt tg iter : Expr} {ifs : List Expr} {scope : Scope} {own : List (Str × Nat)} {pos : Pos} {wi : TI} {g : TG} {tt : TT} {te : L2.St → TE} (hc : X.calm = true) (hN : X.N.Nodup) (hi : PI X tg iter wi) (ok : BlkOk X.N X.env.scope scope own)
    (hg : ∀ (s : Shared) (H : Hp) (C : Addr) (cl : List (Str × Addr)) (fp : List Addr), PG (X.blk s H scope (compEnvC scope cl C X.env) fp) tg g) (ht : ∀ (s : Shared) (H : Hp) (C : Addr) (cl : List (Str × Addr)) (fp : List Addr), PTs (X.blk s H scope (compEnvC scope cl C X.env) fp) ifs tt)
    (he : ∀ (pins : List (Addr × Obj)) (σ : L2.St) (s : Shared) (H : Hp) (C : Addr) (cl : List (Str × Addr)) (fp : List Addr), Inv X pins σ H s → (∀ b ∈ fp, FpOk X pins H b) → PE (X.blk s H scope (compEnvC scope cl C X.env) fp) elt (te σ)) (hs : ∀ x, foldedSetIterable iter X.env x = pure x := by intro _; rfl) :
    PE X (.ListComp elt [⟨tg, iter, ifs, 0⟩] scope pos) (fun σ H Q => tLc wi g tt (te σ) (own.map (·.2)) σ H Q) := by
  refine ⟨fun pins s σ H Q I h => ?_⟩
  rw [eval_ListComp]
  have fr : ∀ y ∈ scope.names, y.2 = .free → ∃ c, X.env.cells.lookup y.1 = some c := fun y hy e => (ok.free y hy e).elim (fun k => I.ok.has _ (.inl k)) fun k => I.ok.has _ (.inr k)
  refine wpAny_comprehension_free (use := none) rfl hs (closure_ok fr) ok.kind (fun y hy e => by rw [ok.uniq y hy, e]) ?_
  refine thn (hi.run pins s σ H _ I h) fun xv s1 hx => thn hx fun itv s2 ⟨it, fp, tn, J, H2, ev, I2, T, st2, f2, q⟩ => ?_
  subst ev
  refine wpAny_newObj_type (newEnv_comp ?_) (by show 0 ≤ sizeLine; decide)
  obtain ⟨D, hD⟩ : ∃ D, D = s2.heap.objs.size := ⟨_, rfl⟩
  rw [← hD]
  obtain ⟨W, ⟨m0, w0⟩, turn⟩ := q D (I2.hok.fresh (Nat.le_of_eq hD.symm))
  obtain ⟨s3, hs3⟩ : ∃ z : Shared, z = { s2 with heap := s2.heap.push { cls := .type "list", data := .seq ([] : List Value).toArray } } := ⟨_, rfl⟩
  have I3 : Inv X pins σ (upd H2 D (.lst [])) s3 := by
    rw [hs3]
    exact I2.laid (t' := s2.toks) (fun b o e => Heap.get?_push_of_some _ e) (Nat.le_of_eq hD.symm) ⟨Nat.zero_le _, [], 0, .nil, by rw [hD]; exact Heap.get?_push_size _ rfl⟩
  have f3 : ∀ b ∈ fp, FpOk X pins (upd H2 D (.lst [])) b ∧ b < s3.heap.objs.size := fun b hb => by
    obtain ⟨o, e, _⟩ := T.obj _ _ st2 b hb
    have lt := Heap.lt_size e
    refine ⟨⟨?_, (f2 b hb).2⟩, ?_⟩
    · rw [upd_ne (by rw [hD]; exact Nat.ne_of_lt lt)]
      exact (f2 b hb).1
    · rw [hs3]
      show b < (s2.heap.push _).objs.size
      rw [Heap.size_push]
      exact Nat.lt_succ_of_lt lt
  have st3 : tn 0 s3.heap := T.keep _ _ _ st2 fun b _ o e => by rw [hs3]; exact Heap.get?_push_of_some _ e
  obtain ⟨C, hC⟩ : ∃ C, C = s3.heap.objs.size := ⟨_, rfl⟩
  obtain ⟨cl, hcl⟩ : ∃ cl, cl = cellsFrom (s3.heap.objs.size + 1) scope.names (cloFrom X.env.cells scope.names []) := ⟨_, rfl⟩
  have I4 := block_start I3 ok hN f3
  rw [← hC] at hcl I4
  rw [← hcl] at I4
  obtain ⟨s4, hs4⟩ : ∃ z : Shared, z = { s3 with heap := pushCells (s3.heap.push { cls := .type "dict", data := .dict #[] }) scope.names } := ⟨_, rfl⟩
  rw [← hs4] at I4
  have st4 : tn 0 s4.heap := T.keep _ _ _ st3 fun b _ o e => by rw [hs4]; exact pushCells_keeps _ _ _ _ (Heap.get?_push_of_some _ e)
  have pe := he pins σ s3 (upd H2 D (.lst [])) C cl fp I3 fun b hb => (f3 b hb).1
  have pg := hg s3 (upd H2 D (.lst [])) C cl fp
  have pt := ht s3 (upd H2 D (.lst [])) C cl fp
  have fin : codeAny (model X.prog X.w) X.A (.compStart (.ListComp elt [⟨tg, iter, ifs, 0⟩] scope pos) 0 (.ref it) (.ref D) (compEnvC scope cl C X.env)) (compPost (model X.prog X.w) X.A X.xe none (EP X pins σ Q) (.ref D) C) s4 := ?_
  · rw [hs4, hcl, hC, hs3] at fin
    rw [hs3] at I3
    exact fin
  have cL : (compEnvC scope cl C X.env).locals = C := rfl
  generalize compEnvC scope cl C X.env = ce at I4 pe pg pt cL ⊢
  have nf3 : ∀ b ∈ fp, (upd H2 D (.lst [])) b = none := fun b hb => (f3 b hb).1.1
  have f3' : ∀ b ∈ fp, FpOk X pins (upd H2 D (.lst [])) b := fun b hb => (f3 b hb).1
  generalize upd H2 D (.lst []) = H3 at I3 I4 pe pg pt w0 nf3 f3'
  clear f3
  generalize hY : X.blk s3 H3 scope ce fp = Y at I4 pe pg pt
  have yE : Y.env = ce := by rw [← hY]
  have stat : ∀ {σ' : L2.St} {G : Hp} {z : Shared}, Inv Y [] σ' G z → (∀ b ∈ fp, G b = none) → ∀ b ∈ fp, FpOk Y [] G b := by
    rw [← hY]
    exact fun {σ' G z} I' hn b hb => ⟨hn b hb, (I'.ok.exf b hb).1, I'.ok.exfs b hb, .inl hb, fun x c e => (I'.ok.exf b hb).2 x c e, fun p hp => absurd (show p ∈ ([] : List (Addr × Obj)) ++ [] from hp) (by simp)⟩
  have back : ∀ {σ' : L2.St} {G : Hp} {z : Shared}, Inv Y [] σ' G z → Inv X pins σ G z := by
    rw [← hY]
    exact fun {σ' G z} I' => I3.call' (ch := fp) I'.os I'.base I'.hok I'.bare fun b hb => ⟨(f3' b hb).2.2.2.1, (f3' b hb).2.1, (f3' b hb).2.2.2.2.1, (f3' b hb).2.2.2.2.2⟩
  have yP : Y.prog = X.prog := by rw [← hY]
  have yW : Y.w = X.w := by rw [← hY]
  have yK : Y.K = X.K := by rw [← hY]
  have yA : Y.A = X.A := by rw [← hY]
  have yx : Y.xe = fun _ _ => False := by rw [← hY]
  have yc : Y.calm = true := by rw [← hY]; exact hc
  have kE : ce = Y.env := yE.symm
  have loop : codeAny (model X.prog X.w) X.A (.compLoop (.ListComp elt [⟨tg, iter, ifs, 0⟩] scope pos) 0 (.ref it) (.ref D) ce) (compPost (model X.prog X.w) X.A X.xe none (EP X pins σ Q) (.ref D) C) s4 := ?_
  · exact codeAny_compStart_list loop (T.self X.A 0 _ _ _ st4 loop)
  refine compLoop_any (fun n z => ∃ i G, Inv Y [] (wipe σ (own.map (·.2))) G z ∧ tn i z.heap ∧ (∀ b ∈ fp, G b = none) ∧ W i n G) ?_ m0 ⟨0, H3, I4, st4, nf3, w0⟩
  rintro n s5 ⟨i, G5, I5, st5, n5, w5⟩
  rw [kE]
  rcases turn i n G5 w5 with ⟨stop, qq⟩ | ⟨go, Nx, hNx, step⟩
  · have td := T.done Y yP yW yK yc i [] s5 _ G5 (fun _ _ => False) I5 (stat I5 n5) st5 stop
    rw [yA] at td
    refine thnF td fun r s6 ⟨hr, I6⟩ => ?_
    subst hr
    have I7 := back I6
    have nC : G5 C = none := by
      have z := I6.free
      rw [yE, cL] at z
      exact z
    obtain ⟨m, hn, _⟩ := I6.loc
    rw [yE, cL] at hn
    obtain ⟨e0, e1, e2, e3, e4, e5⟩ := I3.fpOk (Nat.le_of_eq hC.symm) nC
    exact ⟨m, hn, fun h'' sb => ⟨.ref D, G5, I7.turned (t' := s6.toks) (fun b o hb e => (sb.2 b hb).trans e) e0 e1 e3 e4 e5, rfl, qq⟩⟩
  · have ti := T.item Y yP yW yK yc i [] s5 _ G5 (fun _ _ => False) I5 (stat I5 n5) st5 go
    rw [yA] at ti
    refine thnF ti fun r s6 ⟨u, hr, h6⟩ => ?_
    subst hr
    rw [← yP, ← yW, ← yA]
    rw [← yP, ← yW, ← yA] at h6
    refine thnF h6 fun _ s7 ⟨x, G7, I7, r7, y7, st7, n7⟩ => ?_
    have I7' := I7.pinned (stat I7 n7) (T.obj _ _ st7)
    have pg1 := pg.run _ s7 _ G7 x u _ I7' r7 (step x G7 y7)
    rw [yx] at pg1
    refine thnF pg1 fun _ s8 ⟨σ8, G8, I8, hw8, q8⟩ => ?_
    have pt1 := pt.run _ s8 σ8 G8 _ I8 q8
    rw [yx] at pt1
    refine thnF pt1 fun b s9 ⟨G9, I9, q9⟩ => ?_
    have nxt : ∀ {z : Shared} {G : Hp}, Inv Y ([] ++ pinsAt fp s7.heap) σ8 G z → Nx G → ∃ m, m < n ∧ ∃ i G, Inv Y [] (wipe σ (own.map (·.2))) G z ∧ tn i z.heap ∧ (∀ b ∈ fp, G b = none) ∧ W i m G := by
      intro z G J nx
      obtain ⟨m', lt, w'⟩ := hNx G nx
      have pin' : ∀ b ∈ fp, ∀ o, s7.heap.get? b = some o → z.heap.get? b = some o ∧ G b = none := fun b hb o e => ⟨(J.pin (b, o) (List.mem_append_right _ (List.mem_append_right _ (mem_pinsAt hb e)))).1, (J.pin (b, o) (List.mem_append_right _ (List.mem_append_right _ (mem_pinsAt hb e)))).2.1⟩
      have ln : (wipe σ (own.map (·.2))).length = σ8.length := by rw [← hw8, wipe_length]
      refine ⟨m', lt, i + 1, G, (J.unpinned (pins := [])).weak ln (fun j v e => ?_), T.keep _ _ _ st7 fun b hb o e => (pin' b hb o e).1, fun b hb => ?_, w'⟩
      · rw [← hw8] at e
        exact (wipe_some e).1
      · obtain ⟨o, e, _⟩ := T.obj _ _ st7 b hb
        exact (pin' b hb o e).2
    cases b with
    | false => exact nxt I9 q9
    | true =>
      have pe1 := pe.run _ s9 σ8 G9 _ I9 q9
      rw [yx] at pe1
      refine thnF pe1 fun z s10 ⟨yv, G10, I10, r10, acc, hD10, hz10, nx⟩ => ?_
      exact app_ok (X := Y) I10 hD10 hz10 r10 fun s11 I11 => nxt I11 nx
end
end LG
set_option Elab.async false
set_option linter.all false
set_option maxRecDepth 100000
set_option maxHeartbeats 2000000
namespace LG
open PySem PySem.Spec PyProof.Rows L2 LamX
/-- a lambda of a frame: its text, and what its body asks -/
structure Lam where
  params : Arguments
  body : Expr
  scope : Scope
  t : XK → TE
def Lam.o (l : Lam) (X : Cx) (f c' : Addr) : HO := LamO f c' (X.env.qual ++ "<lambda>") l.params l.body l.scope (cloFrom X.env.cells l.scope.names [])
theorem Lam.o_tbl (l : Lam) (X : Cx) (f c' : Addr) : ∀ ps, l.o X f c' ≠ .tbl ps := lamO_tbl
section
variable {X : Cx} {pins : List (Addr × Obj)} {σ : L2.St} {H : Hp} {s : Shared}
/-- the lambda's body begins, the frame's cells as they were at s -/
theorem lam_start3 {A : Around} {outer : List Env} {E : XK} {scope : Scope} {f c' : Addr} {g : Heap} {tk : Nat} {z : Shared} {HZ : Hp} (I : Inv X pins σ H s) (L : LamS X.env.scope scope) (e0 : Env0 X.prog X.w X.K X.mg X.base A outer z HZ) (hd : A.handled = none)
    (kc : ∀ y c, X.env.cells.lookup y = some c → HZ c = none ∧ ∀ v, s.heap.IsCell c v → z.heap.IsCell c v) (ns : g.Ns z.heap.objs.size fun y => ([] : List (Str × Value)).reverse.lookup y) (kp : ∀ b o, z.heap.get? b = some o → g.get? b = some o) :
    Inv (lamCx X A outer z HZ E scope f c') [] σ HZ { z with heap := g, toks := tk } := by
  have mem : ∀ {y c}, (cloFrom X.env.cells scope.names []).lookup y = some c → X.env.cells.lookup y = some c := by
    intro y c e
    rcases cloFrom_mem (PySem.mem_of_lookup e) with hm | ⟨h1, h2⟩
    · cases hm
    · obtain ⟨c1, hc⟩ := L.has I.ok _ h1 rfl
      dsimp only at hc
      rw [h2, hc]
      rfl
  have look : ∀ {y}, scope.names.lookup y = some .free → ∃ c, (cloFrom X.env.cells scope.names []).lookup y = some c := fun {y} hl => mem_lookup (cloFrom_has (cells := X.env.cells) (acc := []) (PySem.mem_of_lookup hl))
  have cells : ∀ {c : Addr} {v : Option Value} {y : Str}, X.env.cells.lookup y = some c → s.heap.IsCell c v → g.IsCell c v := by
    intro c v y e q
    obtain ⟨o, ho, hv⟩ := (kc y c e).2 v q
    exact ⟨o, kp _ _ ho, hv⟩
  have noE : ∀ b : Addr, b ∉ (lamCx X A outer z HZ E scope f c').ex := fun b q => by cases (show b ∈ ([] : List Addr) from q)
  have okL : (lamCx X A outer z HZ E scope f c').Ok :=
    { mod := e0.mod, kind := L.kind, glob := rfl, blt := rfl, above := Nat.le_refl _, inj := fun y1 y2 c a b => I.ok.inj y1 y2 c (mem a) (mem b)
      has := fun y hy => hy.elim (fun k => absurd rfl (L.own _ (PySem.mem_of_lookup (show scope.names.lookup y = some .cell from k))).2) look
      cab := fun y c q _ => absurd (show false = true from q) (by decide)
      hd := fun _ => hd, frames := Around.frames_deeper e0.frames, stk := .inr ⟨rfl, rfl⟩, exf := fun b q => absurd q (noE b), bs := e0.bs, bsz := e0.bsz, noex := fun b _ _ => noE b, exfs := fun b q => absurd q (noE b), funs := e0.funs, frf := e0.frf }
  refine ⟨okL, rfl, e0.bare, Un.kept kp, ⟨_, ns, fun i y v e1 e2 e3 => ?_⟩, fun y c e => ?_, e0.hok.fresh (Nat.le_refl _), fun y c e => (kc y c (mem e)).1, fun q hq => ?_, e0.hok.kept kp, I.len⟩
  · have e3 : Vis scope y := e3
    rcases e3 with k | k | k
    · exact absurd rfl (L.own _ (PySem.mem_of_lookup k)).1
    · exact absurd rfl (L.own _ (PySem.mem_of_lookup k)).2
    obtain ⟨m, _, hl⟩ := I.loc
    have kind := L.free _ (PySem.mem_of_lookup k) rfl
    obtain ⟨u, r, q⟩ := hl i y v e1 e2 (kind.elim (fun k => .inr (.inl k)) (fun k => .inr (.inr k)))
    obtain ⟨c2, h2⟩ := look k
    refine ⟨u, r, .inr ⟨.inr k, c2, h2, ?_⟩⟩
    rcases q with ⟨k', _⟩ | ⟨_, c3, e', q⟩
    · have k' : X.env.scope.names.lookup y = some .local := k'
      rcases kind with k2 | k2
      · exact absurd (k'.symm.trans k2) (by simp)
      · exact absurd (k'.symm.trans k2) (by simp)
    · have c1 := mem h2
      rw [c1] at e'
      cases e'
      exact cells c1 q
  · obtain ⟨u, q⟩ := I.cell y c (mem e)
    exact ⟨u, cells (mem e) q⟩
  · cases (show q ∈ ([] : List (Addr × Obj)) ++ [] from hq)
/-- the def that got the lambda calls it -/
theorem pe_act3 {fp : List Addr} {s1 : Shared} {H1 : Hp} {Ng : List Str} {qg : Str} {sg : Scope} {g : Addr} {cdg : Value} {k i : Nat} {a : Str} {pn : List (Addr × Obj)} {xe : Value → Shared → Prop} {W : WX} {p1 p2 : Pos} (l : Lam)
    (I : Inv X pins σ H s) (L : LamS X.env.scope l.scope) (un : Un (frs X.stack) fp H H1 s.heap s1.heap) (hfp : ∀ b ∈ fp, ∀ y c, X.env.cells.lookup y = some c → c ≠ b)
    (hbind : ∀ (q : Str) (cl : List (Str × Addr)) (pm cv ctv : Value), bindArgs (PySem.W.kla_fn "<lambda>" q l.params l.body l.scope cl pm cv ctv) ⟨[], []⟩ = pure [])
    (tk : Takes ((cxOf CX0 X.prog X.w X.K X.mg X.base Ng qg sg g cdg X.A X.stack s1 H1 E0).tr pn xe) W) (hr : Room (k + 1) (X.A.deeper (envOfC qg sg s1.heap.objs.size g cdg)))
    (hbody : ∀ (A : Around) (outer : List Env) (s : Shared) (H : Hp) (E : XK) (f c' : Addr), Room k (A.deeper (lamEnv X l.scope s.heap.objs.size f c')) → PE (lamCx X A outer s H E l.scope f c') l.body (l.t E))
    (hN : Ng[i]? = some a) (hv : Vis sg a) (hd : (a == ("__debug__" : Str)) = false := by decide) (hcd : (a == ("__classdict__" : Str)) = false := by decide) :
    PE ((cxOf CX0 X.prog X.w X.K X.mg X.base Ng qg sg g cdg X.A X.stack s1 H1 E0).tr pn xe) (.Call (.Name a p1) [] [] p2)
      (fun σZ HZ Q => ∃ f c' : Addr, σZ[i]? = some (some (.ref f)) ∧ HZ f = some (l.o X f c') ∧ HZ c' = some (CodeO c' (X.env.qual ++ "<lambda>")) ∧ ∃ E : XK, (∀ cls d H', E cls d H' → W cls d σZ H') ∧ l.t E σ HZ Q) := by
  refine ⟨fun pinsZ sZ σZ HZ Q IZ ⟨f, c', slot, fo, code, E, hW, ht⟩ => ?_⟩
  refine wpAny_Call_Name_kw (thn ((pe_var (pos := p1) (i := i) hN hv hd hcd).run pinsZ sZ σZ HZ (fun v G => v = .ref f ∧ G = HZ) IZ ⟨.ref f, slot, rfl, rfl⟩) fun u z1 ⟨v, G, I1, r1, ev, eG⟩ => ?_)
  subst ev
  rw [eG] at I1
  have eu : u = Value.ref f := r1
  subst eu
  obtain ⟨⟨pm, ctv, fn1⟩, _, _⟩ := I1.hok f _ fo
  refine PySem.W.callWith_F0 ⟨_, _, _, _, fn1⟩ ?_
  have un2 : Un (frs X.stack) [] H1 HZ s1.heap z1.heap := I1.base
  obtain ⟨⟨oc, vs, t, hoc, hdc, hvc⟩, _, _⟩ := I1.hok c' _ code
  have kc : ∀ y c, X.env.cells.lookup y = some c → HZ c = none ∧ ∀ v, s.heap.IsCell c v → z1.heap.IsCell c v := by
    intro y c e
    have n0 := I.freeC y c e
    have nx : c ∉ fp := fun z => hfp c z y c e rfl
    obtain ⟨v0, o0, g0, _⟩ := I.cell y c e
    have n1 := un.free c o0 g0 n0 nx
    obtain ⟨sl, g1⟩ := un.any g0 n0 nx
    refine ⟨un2.free c _ g1 n1 (by simp), fun v ⟨o, ho, hv⟩ => ?_⟩
    obtain ⟨sl1, y1⟩ := un.any ho n0 nx
    obtain ⟨sl2, y2⟩ := un2.any y1 n1 (by simp)
    exact ⟨_, y2, hv⟩
  have rc : codeAny (model X.prog X.w) (X.A.deeper (envOfC qg sg s1.heap.objs.size g cdg)) (.call (.ref f) ⟨[], []⟩) (CR (L2.CX X.prog X.w) (envOfC qg sg s1.heap.objs.size g cdg :: X.stack) X.prog X.w HZ z1 Q E) z1 := by
    refine PySem.W.kla_callFunE hr.depth fn1 rfl L.co L.gen rfl ⟨c', oc, vs, t, rfl, hoc, hdc, hvc⟩ ?_
    rw [hbind]
    refine wpAny_pure (wpAny_newFunctionEnv (fun y hy => (L.own y hy).2) (fun y hy => absurd hy (by simp)) (fun g1 hns hsb => ⟨I1.nolimit.fresh _ hsb, ?_⟩) L.kind)
    show codeAny _ _ (.expr l.body (lamEnv X l.scope z1.heap.objs.size f c')) _ _
    have kp : ∀ b o, z1.heap.get? b = some o → g1.get? b = some o := fun b o e => hsb.extBut b o (Nat.ne_of_lt (Heap.lt_size e)) (Heap.get?_push_of_some _ e)
    have J := lam_start3 (f := f) (c' := c') (E := E) (tk := z1.toks + ([] : List (Str × Value)).length) I L I1.env0 hr.hd kc hns kp
    refine PySem.W.kla_codeExpr (wpAny_mono ((hbody _ _ z1 HZ E f c' (hr.deeper _)).run [] _ _ HZ Q J ht) (fun v z' hq => ?_) fun _ _ hq => hq)
    obtain ⟨w', H', J', rv, q⟩ := hq
    exact ⟨w', H', J'.os, J'.bare, J'.base, J'.hok, rv, q⟩
  refine wpAny_call (codeAny_mono rc fun r z' hq => ?_)
  match r, hq with
  | .error e, hq => exact tk e z' (XE.of_call I1 (fun cls d H' q => hW cls d H' q) hq)
  | .ok (.ret u), hq => exact I1.after hq
  | .ok .next, hq => exact hq.elim
  | .ok .brk, hq => exact hq.elim
  | .ok .cont, hq => exact hq.elim
/-- such a def called in a block of the frame, with a lambda that is held -/
theorem pe_toldv {ι : Type} (fam : ι → Lam) {bs : Scope} {ce : Env} {fp : List Addr} (I0 : Inv X pins σ H s) (f0 : ∀ b ∈ fp, FpOk X pins H b) {TT : (XK → Hp → VK → Prop) → Hp → VK → Prop} {x a : Str} {g : Addr} {k : Nat} {pg : Arguments} {bg : List Stmt} {sg : Scope} {dV kV doc pm cdv ct oc : Value} {an od : Option Addr} {osl : Array (Option Value)} {Ng : List Str}
    {y : Str} {ta : TE} {p py pos : Pos} (hg : Gl (X.blk s H bs ce fp) x) (hm : X.mg x = some (.ref g)) (hk : PySem.W.keepIn X.K (.ref g) = true)
    (lk : X.K.lookup g = some ⟨oc, od, .func (PySem.W.fnOf x x pg bg sg dV kV doc pm an cdv ct), osl⟩) (hcg : PySem.W.codeIn X.K cdv x = true) (hb : L2.Binds X.K (PySem.W.fnOf x x pg bg sg dV kV doc pm an cdv ct) [a] []) (Sg : FnScope Ng [a] sg) (hNg : Ng[0]? = some a) (hva : Vis sg a)
    (hG : Gives2 (X.blk s H bs ce fp) Ng x sg g cdv bg a (X.env.qual ++ "<lambda>") TT) (hTT : ∀ (tl : XK → Hp → VK → Prop) (o : HO) (f : Addr) (G : Hp) (Q : VK), G f = some o → TT tl G Q → TT (fun E G' R => G' f = some o ∧ tl E G' R) G Q)
    (hr : Room (k + 2) X.A) (L : ∀ j, LamS X.env.scope (fam j).scope) (hbind : ∀ (j : ι) (q : Str) (cl : List (Str × Addr)) (pm cv ctv : Value), bindArgs (PySem.W.kla_fn "<lambda>" q (fam j).params (fam j).body (fam j).scope cl pm cv ctv) ⟨[], []⟩ = pure [])
    (hbody : ∀ (j : ι) (A : Around) (outer : List Env) (s : Shared) (H : Hp) (E : XK) (f c' : Addr), Room k (A.deeper (lamEnv X (fam j).scope s.heap.objs.size f c')) → PE (lamCx X A outer s H E (fam j).scope f c') (fam j).body ((fam j).t E)) (ha : PE (X.blk s H bs ce fp) (.Name y py) ta)
    (hdb : (x == ("__debug__" : Str)) = false := by decide) (hd : (a == ("__debug__" : Str)) = false := by decide) (hcd : (a == ("__classdict__" : Str)) = false := by decide) :
    PE (X.blk s H bs ce fp) (.Call (.Name x p) [.Name y py] [] pos) (fun σ' H' Q => ta σ' H' fun v G => ∃ (j : ι) (f c' : Addr), v = .ref f ∧ G f = some ((fam j).o X f c') ∧ G c' = some (CodeO c' (X.env.qual ++ "<lambda>")) ∧ TT (fun E G' R => (fam j).t E σ G' R) G Q) := by
  refine ⟨fun pins1 s1 σ1 H1 Q I1 h => ?_⟩
  refine wpAny_Call_Name_kw (ld_glob I1 hg hm ?_ hdb)
  refine PySem.W.callWith_K (h₀ := X.base) I1.ok.mod.kin hk ?_ (by rfl) (by rfl)
  show wpAny _ _ (spliced ((false, eval (.Name y py) (X.blk s H bs ce fp).env) :: backTo pos (starEach [] (X.blk s H bs ce fp).env))) _ _ s1
  refine Calls.spliced_cons (thn (ha.run pins1 s1 σ1 H1 _ I1 h) fun u z ⟨v, G, I2, rv, j, f, c', ev, fo, co, tt⟩ => Calls.spliced_nil ⟨I2.kIn, ?_⟩)
  subst ev
  have eu : u = Value.ref f := rv
  subst eu
  have un : Un (frs X.stack) fp H G s.heap z.heap := I2.base
  have rc : codeAny (model X.prog X.w) X.A (.call (.ref g) ⟨[.ref f], []⟩) (CR CX0 X.stack X.prog X.w G z Q E0) z := by
    refine run_ofS (N := Ng) (ps := [a]) (us := [.ref f]) (vs := [.ref f]) lk hcg Sg hr I2.env0 (hb z [.ref f] I2.kIn rfl) (.cons rfl .nil) rfl fun hr' => ?_
    obtain ⟨t', ht', hq'⟩ := hG f c' z G Q (fun E G' R => G' f = some ((fam j).o X f c') ∧ (fam j).t E σ G' R) (fun W pn xe p1 p2 tk => pe_imp (pe_act3 (X := X) (i := 0) (fam j) I0 (L j) un (fun b hb => (f0 b hb).2.2.2.2.1) (hbind j) tk hr' (hbody j) hNg hva hd hcd) fun σZ HZ Q' ⟨h0, hc, E, hW, ho, ht⟩ => ⟨f, c', h0, ho, hc, E, hW, ht⟩) co (hTT _ _ _ _ _ fo tt)
    exact ⟨t', ht'.nox, hq'⟩
  refine wpAny_call (codeAny_mono rc fun r z2 hq => ?_)
  match r, hq with
  | .error e, hq => exact (show False from hq).elim
  | .ok (.ret u), hq => exact I2.after hq
  | .ok .next, hq => exact hq.elim
  | .ok .brk, hq => exact hq.elim
  | .ok .cont, hq => exact hq.elim
end
end LG
set_option Elab.async false
set_option linter.all false
set_option maxRecDepth 100000
set_option maxHeartbeats 8000000
/-! What k05's refusals and its question share: taken over from k03's texts. -/
namespace LG
open PySem L2 LamX
/-- one look by told: an error of these is caught, with its value; or nothing is raised -/
theorem told_gen {K : PySem.W.Frag} {B : Addr} {T : List (Addr × Str)} {H : Hp} {Q : VK} {tl : XK → Hp → VK → Prop} (Bad : Addr → V → Prop) (Good : Prop) (box : ∀ C y, Bad C y → PySem.W.exmOne K (.ref C) (.ref B) = some true) (hT : Tabs T H)
    (run : ∀ (G : Hp) (E : XK) (R : VK), ExtN H G → (∀ C y d G', Bad C y → Same G G' → G' d = none → E (.ref C) (some d) (upd G' d (.xd (vf y)))) → (Good → ∀ v G', Same G G' → R v G') → tl E G R)
    (qb : ∀ (C : Addr) (y v : V) (p : Addr) (G : Hp), Bad C y → ExtN H G → Tabs T G → Caught G C v y → G p = some (.tup [v, .non]) → Q (.ref p) G)
    (qg : ∀ (v : V) (p : Addr) (G : Hp), Good → ExtN H G → Tabs T G → G p = some (.tup [.non, v]) → Q (.ref p) G) :
    Tabs T H ∧ ∀ H1, ExtN H H1 → Tabs T H1 → TTk K B tl H1 Q := by
  refine ⟨hT, fun H1 e1 T1 H2 E R s2 he hr => ?_⟩
  have e2 : ExtN H H2 := e1.trans (ExtN.of s2)
  have T2 : Tabs T H2 := T1.ext s2
  refine run H2 E R e2 (fun C y d G' bad sG nd => ?_) fun good v G' sG => ?_
  · have s3 := same_new nd (.xd (vf y))
    have hd : (upd G' d (.xd (vf y))) d = some (.xd (vf y)) := upd_same
    refine he _ _ _ (box C y bad) fun a na p np => ?_
    have s4 := same_new na (exq a (.ref C) (some d))
    have s5 := same_new np (.tup [.ref a, V.non])
    have s35 := ((sG.trans s3).trans s4).trans s5
    exact qb C y (.ref a) p _ bad (e2.trans (ExtN.of s35)) (T2.ext s35) ⟨a, d, rfl, s5 _ _ upd_same, (s4.trans s5) _ _ hd⟩ upd_same
  · refine hr _ _ fun p np => ?_
    have s5 := same_new np (.tup [V.non, v])
    exact qg v p _ good (e2.trans (ExtN.of (sG.trans s5))) (T2.ext (sG.trans s5)) upd_same
theorem ext_bt {p : Addr} {H H' : Hp} (np : H p = none) (e : BtR p H H') : ExtN H H' := fun b o h t => e b o h (fun z => by rw [z, np] at h; cases h) t
theorem all_tr (n : Nat) : ((List.replicate n true).all id) = true := by simp
theorem tabs_upd {T : List (Addr × Str)} {H : Hp} {a : Addr} {xs : List V} {o : HO} (h : H a = some (.lst xs)) (t : Tabs T H) : Tabs T (upd H a o) := by
  intro q hq
  obtain ⟨ps, t1, t2, t3⟩ := t q hq
  refine ⟨ps, by rw [upd_ne (fun z => by rw [z, h] at t1; cases t1)]; exact t1, t2, fun pos cv hc => ?_⟩
  obtain ⟨c, e1, e2⟩ := t3 pos cv hc
  exact ⟨c, e1, by rw [upd_ne (fun z => by rw [z, h] at e2; have e3 : HO.lst _ = HO.ext _ := Option.some.inj e2; cases e3)]; exact e2⟩
def forBody : Stmt → List Stmt
  | .For _ _ b _ _ => b
  | _ => []
def stValue : Stmt → Expr
  | .Assign _ v _ => v
  | .Expr v _ => v
  | _ => .Constant .none 0 ⟨0, 0, 0, 0⟩
def exItem : Expr → Expr
  | .List (e :: _) _ => e
  | .Call _ (e :: _) _ _ => e
  | e => e
def lmP : Expr → Arguments
  | .Lambda a _ _ _ => a
  | _ => default
def lmB : Expr → Expr
  | .Lambda _ b _ _ => b
  | e => e
def lmS (d : Scope) : Expr → Scope
  | .Lambda _ _ s _ => s
  | _ => d
theorem ne_self {a : V} : (!decide (a = a)) = false := by simp
theorem pt_imp {X : Cx} {e : Expr} {t t' : TT} (h : PT X e t) (w : ∀ σ H Q, t' σ H Q → t σ H Q) : PT X e t' := ⟨fun pins s σ H Q I q => h.run pins s σ H Q I (w σ H Q q)⟩
theorem PotAt.upd {G : Hp} {p r : Addr} {k : Nat} {o : HO} (h : PotAt G p k) (ne : r ≠ p) : PotAt (upd G r o) p k := by
  obtain ⟨own, sm, n, e1, e2⟩ := h
  exact ⟨own, sm, n, by rw [upd_ne (Ne.symm ne)]; exact e1, e2⟩
theorem TTk.held {K : PySem.W.Frag} {B : Addr} (tl : XK → Hp → VK → Prop) (o : HO) (f : Addr) (G : Hp) (Q : VK) (h : G f = some o) (t : TTk K B tl G Q) : TTk K B (fun E G' R => G' f = some o ∧ tl E G' R) G Q :=
  fun H1 E R s he hr => ⟨s _ _ h, t H1 E R s he hr⟩
theorem caught_upd {H : Hp} {C a : Addr} {v y : V} {xs : List V} {o : HO} (h : H a = some (.lst xs)) (c : Caught H C v y) : Caught (upd H a o) C v y := by
  obtain ⟨b, d, e, er⟩ := c
  refine ⟨b, d, e, ?_, ?_⟩
  · rw [upd_ne (fun z => by
      have q := er.ob
      rw [z, h] at q
      have q2 : HO.lst _ = HO.ext _ := Option.some.inj q
      cases q2)]
    exact er.ob
  · rw [upd_ne (fun z => by
      have q := er.dc
      rw [z, h] at q
      cases q)]
    exact er.dc
theorem isi_str {K : PySem.W.Frag} {H : Hp} {v : V} {n : Nat} (g : Gx K n H v) : ∃ t b, TyX K H v t ∧ PySem.W.kitOne K t (.type "str") = some b ∧ ((b = true ∧ ∃ z, v = .str z) ∨ (b = false ∧ ∀ z, v ≠ .str z)) := by
  rcases g.ty with ⟨z, e, ty⟩ | ⟨T0, hT, ne, ty, no⟩
  · exact ⟨_, true, ty, kit_self, .inl ⟨rfl, z, e⟩⟩
  · exact ⟨_, false, ty, kit_nostr T0 hT ne, .inr ⟨rfl, no⟩⟩
theorem made {H1 H' : Hp} {x dx C : Addr} (nx : H1 x = none) (nd : H1 dx = none) (e : But x (upd (upd H1 dx (.own x)) x (.ins C dx [])) H') : Same H1 H' := fun b u q =>
  e b u (by rw [upd_ne (ne_of_none q nx), upd_ne (ne_of_none q nd)]; exact q) (ne_of_none q nx)
theorem Drawn.full {D : Dev} (d : Drawn D) {ks : List (Str × Str)} (pm : ks.Perm (D.goals.map (·.1))) : Full (readOf D ks) := by
  refine ⟨fun e => ?_, fun s hs c hc => ?_⟩
  · have e : D.states = [] := e
    have := d.s1.1
    rw [e] at this
    simp at this
  · have km : (s, c) ∈ D.goals.map (·.1) := by
      rw [d.keys]
      exact prod_mem.mpr ⟨hs, hc⟩
    have l := readOf_look d pm km
    have ex : rowX (readOf D ks) (s, c) = rowX D (s, c) := by
      unfold rowX
      rw [l]
      rfl
    rw [ex]
    exact ⟨l, (d.row km).2.2.2.2⟩
/-- the same rows, the same walks -/
theorem run_same {D E : Dev} (d : Drawn D) (h : ∀ k ∈ D.goals.map (·.1), rowX E k = rowX D k) : ∀ {ws : List Str} {s : Str}, s ∈ D.states → (∀ y ∈ ws, y ∈ D.calls) → runD E s ws = runD D s ws
  | [], _, _, _ => rfl
  | w :: r, s, hs, hw => by
    have km : (s, w) ∈ D.goals.map (·.1) := by
      rw [d.keys]
      exact prod_mem.mpr ⟨hs, hw w List.mem_cons_self⟩
    obtain ⟨_, _, _, _, mS⟩ := d.row km
    have ih := run_same d h (ws := r) mS fun y hy => hw y (List.mem_cons_of_mem _ hy)
    show ((rowX E (s, w)).1 :: (runD E (rowX E (s, w)).2 r).1, (runD E (rowX E (s, w)).2 r).2) = ((rowX D (s, w)).1 :: (runD D (rowX D (s, w)).2 r).1, (runD D (rowX D (s, w)).2 r).2)
    rw [h _ km, ih]
theorem row_read {D : Dev} (d : Drawn D) {ks : List (Str × Str)} (pm : ks.Perm (D.goals.map (·.1))) {k : Str × Str} (h : k ∈ D.goals.map (·.1)) : rowX (readOf D ks) k = rowX D k := by
  show ((readOf D ks).goals.lookup k).getD _ = _
  rw [readOf_look d pm h]
  rfl
theorem run_read {D : Dev} (d : Drawn D) {ks : List (Str × Str)} (pm : ks.Perm (D.goals.map (·.1))) {ws : List Str} {s : Str} (hs : s ∈ D.states) (hw : ∀ y ∈ ws, y ∈ D.calls) : runD (readOf D ks) s ws = runD D s ws := run_same d (fun _ h => row_read d pm h) hs hw
theorem dev_mk {K : PySem.W.Frag} {H : Hp} {p b : _} {x C : Addr} {T : Str} {D : Dev} (hp : PotAt H p b) (h : DevAt K H x C T D) : DevAt K (mk p H) x C T D := by
  obtain ⟨own, sm, n, e0, _⟩ := id hp
  obtain ⟨dx, c, a, s, g, h1, h2, h3, h4, kvs, h5, h6⟩ := h
  have ne : ∀ {b : Addr} {o : HO}, H b = some o → (∀ xs, o ≠ .lst xs) → b ≠ p := fun {b o} hb n z => by
    rw [z, e0] at hb
    exact n _ (Option.some.inj hb).symm
  exact ⟨dx, c, a, s, g, mk_of (ne h1 fun xs z => by cases z) h1, tup_mk hp h2, tup_mk hp h3, tup_mk hp h4, kvs, h5.elim (fun q => .inl (mk_of (ne q fun xs z => by cases z) q)) (fun ⟨o, q⟩ => .inr ⟨o, mk_of (ne q fun xs z => by cases z) q⟩), h6.mk hp⟩
theorem btr_ext {p : Addr} {H G : Hp} (e : BtR p H G) : ExtN (mk p H) (mk p G) := fun b o h nt => by
  obtain ⟨ne, h⟩ := mk_some h
  exact mk_of ne (e b o h ne nt)
theorem Drawn.fineR {D : Dev} (d : Drawn D) {ks : List (Str × Str)} (pm : ks.Perm (D.goals.map (·.1))) : K51.Fine (readOf D ks) where
  full := d.full pm
  s4 := d.s1.2
  c3 := d.c1.2
  sw := d.sw
  cw := d.cw
  aw := fun s hs c hc => by
    have km : (s, c) ∈ D.goals.map (·.1) := by
      rw [d.keys]
      exact prod_mem.mpr ⟨hs, hc⟩
    rw [row_read d pm km]
    exact d.aw _ (d.row km).2.2.2.1
end LG
set_option Elab.async false
set_option linter.all false
set_option maxRecDepth 100000
set_option maxHeartbeats 4000000
/-! {k: v}, one entry, the key a tuple. -/
namespace LG
open PySem PySem.Spec PyProof.Rows L2
section
variable {prog : Program} {w : World} {A : Around} {E : Value → Shared → Prop} {s : Shared}
theorem wpAny_subDictE {pairs : List (Sem Value × Sem Value)} {Q : Addr → Shared → Prop} (hlen : pairs.length ≤ 15)
    (h : wpAny (model prog w) A (evalPairs pairs) (fun vs s₁ => wpAny (model prog w) A (forIn vs PUnit.unit fun (x : Value × Value) (_ : PUnit) => (do dictSet s.heap.objs.size x.1 x.2; pure (ForInStep.yield PUnit.unit) : Sem (ForInStep PUnit))) (fun _ s2 => Q s.heap.objs.size s2) E s₁) E
      { s with heap := s.heap.push { cls := .type "dict", data := .dict #[] } }) :
    wpAny (model prog w) A (subDict pairs) Q E s := by
  unfold subDict
  refine wpAny_bind (wpAny_alloc ?_)
  refine wpAny_bind (wpAny_holding ?_)
  rw [if_pos hlen]
  refine wpAny_bind (wpAny_mono h (fun vs s₁ h₁ => ?_) fun _ _ e => e)
  refine wpAny_holding ?_
  exact wpAny_bind (wpAny_mono h₁ (fun _ s2 h2 => wpAny_pure (wpAny_pure h2)) fun _ _ e => e)
end
def tDisp1T (tk tv : TE) : TE := fun σ H Q => ∀ p, H p = none → tk σ (upd H p (.dT [])) fun x H1 => tv σ H1 fun y H2 => H2 p = some (.dT []) ∧ ∃ (k : List Key) (b : Addr), x = .ref b ∧ H2 b = some (.tup (k.map kV)) ∧ Q (.ref p) (upd H2 p (.dT [(k, y)]))
theorem pe_disp1T {X : Cx} {pos : Pos} {ke ve : Expr} {tk tv : TE} (hu : X.A.units + 1 < cLine) (hk : PE X ke tk) (hv : PE X ve tv) : PE X (.Dict [some ke] [ve] pos) (tDisp1T tk tv) := by
  refine ⟨fun pins s σ H Q I q => ?_⟩
  have hn := I.hok.fresh (Nat.le_refl s.heap.objs.size)
  have I1 := I.laid (a := s.heap.objs.size) (o := .dT []) (h' := s.heap.push { cls := .type "dict", data := .dict #[] }) (t' := s.toks) (fun _ _ q => Heap.get?_push_of_some _ q) (Nat.le_refl _) (dt_empty s.heap I.big)
  have hl := pairTrees_length [some ke] [ve] X.env pos rfl rfl
  rw [arm_eval_Dict, zip_pairTrees [some ke] [ve] X.env pos rfl rfl, dictDisplay_pairs (pairTrees [some ke] [ve] X.env pos) (fun z => by rw [z] at hl; cases hl) (by rw [hl]; show 1 < 17; decide)]
  refine wpAny_bind (wpAny_standAt (wpAny_bind (wpAny_subDictE (by rw [hl]; show 1 ≤ 15; decide) ?_)))
  refine pairTrees_cons_walk (thn (hk.run pins _ σ _ _ I1 (q _ hn)) fun u s1 ⟨x, H1, J1, rx, q1⟩ => thn (hv.run pins s1 σ H1 _ J1 q1) fun r s2 ⟨y, H2, I2, ry, e, k, b, ex, eb, q2⟩ => pairTrees_nil_walk ?_)
  subst ex
  cases (show u = Value.ref b from rx)
  rw [List.forIn_cons]
  obtain ⟨z, hd, xs, rel, dd⟩ := dt_of I2.hok e
  have hz : xs.length ≤ sizeLine := by rw [← Paired.length rel]; exact z
  have ra : (tupleKind (mixKind X.prog X.w)).room X.A := by
    show X.A.units < cLine
    omega
  refine wpAny_bind (wpAny_bind (wpAny_dictSet_heap (hsz := hz) ra (key_of I2.hok eb) dd fun h' dd' hs => wpAny_pure ?_))
  show wpAny _ _ (forIn [] PUnit.unit _) _ _ _
  rw [List.forIn_nil]
  refine wpAny_pure ?_
  obtain ⟨o, es, ep, ho, h2, h3, h4, _, h5⟩ := dd'
  have kt := rel.put k eb ry
  cases rel
  have ob : ObjOk X.prog X.w (upd H2 s.heap.objs.size (.dT [(k, y)])) h' s.heap.objs.size (.dT [(k, y)]) := ⟨by show 1 ≤ sizeLine; decide, hd, _, kt.keeps fun c ys ec => (by
    rw [upd_ne (ne_of ec e (fun z => nomatch z))]
    exact ec), o, es, ep, ho, h2, h3, h4, h5⟩
  exact wpAny_pure ⟨.ref s.heap.objs.size, _, d_write I2 (by rw [e]; exact True.intro) hs ⟨o, ho⟩ ob, rfl, q2⟩
end LG
set_option Elab.async false
set_option linter.all false
set_option maxRecDepth 100000
set_option maxHeartbeats 8000000
/-! The ways to the states of an own device: breadth first, in their sequence. -/
namespace LG
open PySem L2
def wStep (F : List Str) (g : Str) : List Str := if g ∈ F then F else F ++ [g]
def wRow (D : Dev) (s : Str) (cs : List Str) (F : List Str) : List Str := cs.foldl (fun F c => wStep F (rowX D (s, c)).2) F
def wayN (D : Dev) : Nat → List Str
  | 0 => [D.states.headD Str.empty]
  | i + 1 => match (wayN D i)[i]? with
    | some s => wRow D s D.calls (wayN D i)
    | none => wayN D i
def wayL (D : Dev) : List Str := wayN D D.states.length
structure WayOk (S F : List Str) : Prop where
  nd : F.Nodup
  sub : ∀ x ∈ F, x ∈ S
theorem WayOk.len {S F : List Str} (h : WayOk S F) : F.length ≤ S.length := AW.nodup_len h.nd h.sub
theorem WayOk.step {S F : List Str} {g : Str} (h : WayOk S F) (hg : g ∈ S) : WayOk S (wStep F g) := by
  unfold wStep
  by_cases e : g ∈ F
  · rw [if_pos e]
    exact h
  · rw [if_neg e]
    refine ⟨List.nodup_append.mpr ⟨h.nd, by simp, fun a ha b hb z => e (by rw [List.mem_singleton.mp hb] at z; rw [← z]; exact ha)⟩, fun x hx => ?_⟩
    rcases List.mem_append.mp hx with hx | hx
    · exact h.sub x hx
    · rw [List.mem_singleton.mp hx]
      exact hg
theorem wStep_pre (F : List Str) (g : Str) : F <+: wStep F g := by
  unfold wStep
  by_cases e : g ∈ F
  · rw [if_pos e]
    exact List.prefix_rfl
  · rw [if_neg e]
    exact List.prefix_append _ _
theorem wRow_pre (D : Dev) (s : Str) : ∀ (cs F : List Str), F <+: wRow D s cs F
  | [], F => List.prefix_rfl
  | c :: r, F => (wStep_pre F _).trans (wRow_pre D s r _)
theorem WayOk.row {D : Dev} (FD : Full D) {s : Str} (hs : s ∈ D.states) : ∀ {cs F : List Str}, (∀ c ∈ cs, c ∈ D.calls) → WayOk D.states F → WayOk D.states (wRow D s cs F)
  | [], _, _, h => h
  | c :: r, _, hc, h => WayOk.row FD hs (cs := r) (fun x hx => hc x (List.mem_cons_of_mem _ hx)) (h.step (FD.row s hs c (hc c List.mem_cons_self)).2)
theorem wRow_take (D : Dev) (s : Str) (cs F : List Str) {j : Nat} {c : Str} (h : cs[j]? = some c) : wRow D s (cs.take (j + 1)) F = wStep (wRow D s (cs.take j) F) (rowX D (s, c)).2 := by
  unfold wRow
  rw [List.take_add_one, h]
  show ((cs.take j ++ [c]).foldl _ F) = _
  rw [List.foldl_append]
  rfl
theorem wayN_ok {D : Dev} (FD : Full D) : ∀ i, WayOk D.states (wayN D i)
  | 0 => by
    obtain ⟨y, l, e⟩ := List.exists_cons_of_ne_nil FD.st
    refine ⟨by show List.Nodup [_]; simp, fun x hx => ?_⟩
    rw [List.mem_singleton.mp hx, e]
    exact List.mem_cons_self
  | i + 1 => by
    have ih := wayN_ok FD i
    show WayOk D.states (match (wayN D i)[i]? with | some s => wRow D s D.calls (wayN D i) | none => wayN D i)
    cases e : (wayN D i)[i]? with
    | none => exact ih
    | some s => exact WayOk.row FD (ih.sub s (List.mem_of_getElem? e)) (fun _ h => h) ih
theorem wayN_succ {D : Dev} {i : Nat} {s : Str} (h : (wayN D i)[i]? = some s) : wayN D (i + 1) = wRow D s D.calls (wayN D i) := by
  show (match (wayN D i)[i]? with | some s => wRow D s D.calls (wayN D i) | none => wayN D i) = _
  rw [h]
theorem wayN_end {D : Dev} {i : Nat} (h : (wayN D i).length ≤ i) : ∀ k, wayN D (i + k) = wayN D i
  | 0 => rfl
  | k + 1 => by
    have ih := wayN_end h k
    show (match (wayN D (i + k))[i + k]? with | some s => wRow D s D.calls (wayN D (i + k)) | none => wayN D (i + k)) = _
    rw [ih, List.getElem?_eq_none (by omega)]
theorem wayL_of {D : Dev} {i : Nat} (h : (wayN D i).length ≤ i) (hi : i ≤ D.states.length) : wayL D = wayN D i := by
  have := wayN_end h (D.states.length - i)
  rwa [Nat.add_sub_cancel' hi] at this
theorem same_put {H F : Hp} {a : Addr} {o : HO} (s : Same H F) (n : H a = none) : Same H (upd F a o) := fun b u h => by
  rw [upd_ne (ne_of_none h n)]
  exact s _ _ h
theorem seqIndex0 {x : V} {r : List V} : seqIndex? 0 (x :: r).length = some 0 := by
  rw [List.length_cons]
  unfold seqIndex?
  simp
/-- the walks that a dict holds -/
def VT (F : Hp) (vs : List V) (n : Nat) : Prop := ∀ v ∈ vs, ∃ t xs, v = .ref t ∧ F t = some (.tup xs) ∧ xs.length ≤ n
theorem VT.upd {F : Hp} {vs : List V} {n : Nat} {a : Addr} {o' o : HO} (ha : F a = some o) (no : ∀ xs, o ≠ .tup xs) (h : VT F vs n) : VT (upd F a o') vs n := fun v hv => by
  obtain ⟨t, xs, e, ht, l⟩ := h v hv
  exact ⟨t, xs, e, by rw [upd_ne (fun z => by rw [z, ha] at ht; exact no _ (Option.some.inj ht))]; exact ht, l⟩
theorem VT.same {F G : Hp} {vs : List V} {n : Nat} (s : Same F G) (h : VT F vs n) : VT G vs n := fun v hv => by
  obtain ⟨t, xs, e, ht, l⟩ := h v hv
  exact ⟨t, xs, e, s _ _ ht, l⟩
theorem VT.mono {F : Hp} {vs : List V} {n m : Nat} (l : n ≤ m) (h : VT F vs n) : VT F vs m := fun v hv => by
  obtain ⟨t, xs, e, ht, l'⟩ := h v hv
  exact ⟨t, xs, e, ht, Nat.le_trans l' l⟩
theorem valV_at {κ : Type} [DecidableEq κ] {kvs : List (κ × V)} {k : κ} (h : k ∈ kvs.map (·.1)) : ∃ v, valV kvs k = some v ∧ v ∈ kvs.map (·.2) := by
  cases e : valV kvs k with
  | none => exact absurd h (valV_not e)
  | some v =>
    refine ⟨v, rfl, ?_⟩
    unfold valV at e
    obtain ⟨p, hp, e2⟩ := Option.map_eq_some_iff.mp e
    exact List.mem_map.mpr ⟨p, List.mem_of_find?_eq_some hp, e2⟩
theorem valV_out {κ : Type} [DecidableEq κ] {kvs : List (κ × V)} {k : κ} (h : ¬ k ∈ kvs.map (·.1)) : valV kvs k = none := by
  cases e : valV kvs k with
  | none => rfl
  | some v => exact absurd (valV_in e) h
theorem keys_new {κ : Type} [DecidableEq κ] {kvs : List (κ × V)} {k : κ} {v : V} (h : ¬ k ∈ kvs.map (·.1)) : putK kvs k v = kvs ++ [(k, v)] := putK_new v (valV_out h)
end LG
namespace K51
open PySem L2 LG
section
variable {P : Program} {w : World} {K : PySem.W.Frag} {mg : Str → Option Value} {base : Heap}
def spWays (K : PySem.W.Frag) : Sp := fun vs H Q _ => ∃ (o : Addr) (D : Dev), vs = [.ref o] ∧ OwnL K H o D ∧ Drawn D ∧ ∀ (r : Addr) (kvs : List (Key × V)) (G : Hp), Same H G → H r = none → G r = some (.dK kvs) → kvs.map (·.1) = (wayL D).map (Sum.inr : Str → Key) → Q (.ref r) G
abbrev nWa : List Str := ["_law_device_here", "_law_found", "_law_ends", "_law_state", "_law_call", "_law_goal"]
theorem scWays : FnScope nWa ["_law_device_here"] (defScope sWays) := ⟨rfl, rfl, rfl, by decide +kernel, rfl, by decide +kernel, by decide +kernel⟩
theorem ok_ways {f : Addr} {fd : FuncData} (F : Fun K "_law_ways" "_law_ways" sWays f fd) (T : Bltn mg) : FnOk P w K mg base CX0 1 f fd ["_law_device_here"] (spWays K) := by
  refine F.ok scWays (fun vs H Q E h => ?_) (fun cdv A0 outer st H vs Q E hr h => ?_)
  · obtain ⟨o, D, rfl, _⟩ := h
    rfl
  obtain ⟨o, D, rfl, hO, dr, q⟩ := h
  have hu := hu_of hr
  refine' ⟨_, pss_cons ?ini (pss_cons (ps_while PassesOwn.never (pt_cmpR (op_neD hr.units) (pv 2) (pe_lst pa_nil) (nomark _))
      (pss_cons (ps_set (i := 3) scWays.nd rfl (Or.inl rfl) (pe_bm PySem.F.plainAttrs_list PySem.F.slot_list_pop PySem.F.type_list_pop mt_popAt (pv 2) (pa_cons pe_int pa_nil)))
      (pss_one (ps_for PassesOwn.never rfl (pi_list (pe_dget hu (pv 0) pe_str (fun _ _ => rfl))) (pg_name (i := 4) scWays.nd rfl (Or.inl rfl)) (pss_cons ?goal (pss_one ?new))))))
    (pss_one (ps_ret (pv 1)))), ?main⟩
  case ini =>
    exact ps_par (i := 1) (j := 2) rfl scWays.nd rfl rfl (by decide) rfl rfl (pa_cons (pe_disp (pps_cons (pe_ix ix_list (pe_dget hu (pv 0) pe_str (fun _ _ => rfl)) pe_int (fun _ _ => rfl)) (pe_tup pa_nil) pps_nil) (by rfl) (by rfl) (fun z => by cases z) (by show 1 ≤ 15; decide))
      (pa_cons (pe_lst (pa_cons (pe_ix ix_list (pe_dget hu (pv 0) pe_str (fun _ _ => rfl)) pe_int (fun _ _ => rfl)) pa_nil)) pa_nil)) (by rfl)
  case goal => exact ps_set (i := 5) scWays.nd rfl (Or.inl rfl) (pe_ix ix_tup (pe_dget hu (pe_dget hu (pv 0) pe_str (fun _ _ => rfl)) (pe_tup (pa_cons (pv 3) (pa_cons (pv 4) pa_nil))) (fun _ _ => rfl)) pe_int (fun _ _ => rfl))
  case new =>
    exact ps_if (pt_cmp (pc_dnotin hu (pv 5) (pv 1))) (pss_cons (ps_dput hu (pv 1) (pv 5) (pe_op op_catA (pe_dget hu (pv 1) (pv 3) (fun _ _ => rfl)) (pe_tup (pa_cons (pv 4) pa_nil))) rfl)
      (pss_one (ps_expr (pe_bm PySem.F.plainAttrs_list PySem.F.slot_list_append PySem.F.type_list_append mt_append (pv 2) (pa_cons (pv 5) pa_nil))))) pss_nil
  case main =>
    have FD := dr.fine.full
    obtain ⟨c, a, sa, r, gg, h1, h2, h3, h4, h5, h6⟩ := hO
    have dK := fun (x : Str) (G : Hp) (e : G o = some (.dK [(.inr ("calls" : Str), .ref c), (.inr ("answers" : Str), .ref a), (.inr ("states" : Str), .ref sa), (.inr ("rows" : Str), .ref r)])) => DGet.k (k := Sum.inr x) e
    obtain ⟨st0, sr, es⟩ : ∃ y l, D.states = y :: l := List.exists_cons_of_ne_nil FD.st
    have h40 : H sa = some (.lst ((st0 :: sr).map V.str)) := by rw [← es]; exact h4
    intro fd_ nfd
    have sA := same_new nfd (.dK [])
    refine ⟨_, rfl, o, _, rfl, dK "states" _ (sA _ _ h1), sa, _, _, _, rfl, rfl, SqL.of (sA _ _ h40), atI_nat (j := 0) rfl, (by show 0 ≤ sizeLine; decide), fun e0 ne0 => ?_⟩
    have efd : e0 ≠ fd_ := fun z => by rw [z, upd_same] at ne0; cases ne0
    have sB := same_new ne0 (.tup [])
    have hfd0 : (upd (upd H fd_ (.dK [])) e0 (.tup [])) fd_ = some (.dK []) := sB _ _ upd_same
    have he0 : (upd (upd H fd_ (.dK [])) e0 (.tup [])) e0 = some (.tup []) := upd_same
    refine ⟨hfd0, [(.inr st0, .ref e0)], rfl, (by show 1 ≤ 15; decide), ?_⟩
    have em : mergeK [] [((.inr st0 : Key), V.ref e0)] = [(.inr st0, .ref e0)] := rfl
    rw [em]
    have sC : Same H (upd (upd (upd H fd_ (.dK [])) e0 (.tup [])) fd_ (.dK [(.inr st0, .ref e0)])) := same_put (sA.trans sB) nfd
    have hfd1 : (upd (upd (upd H fd_ (.dK [])) e0 (.tup [])) fd_ (.dK [(.inr st0, .ref e0)])) fd_ = some (.dK [(.inr st0, .ref e0)]) := upd_same
    have he1 : (upd (upd (upd H fd_ (.dK [])) e0 (.tup [])) fd_ (.dK [(.inr st0, .ref e0)])) e0 = some (.tup []) := by
      rw [upd_ne efd]
      exact he0
    show _
    generalize upd (upd (upd H fd_ (.dK [])) e0 (.tup [])) fd_ (.dK [(.inr st0, .ref e0)]) = G1 at sC hfd1 he1 ⊢
    clear sA sB hfd0 he0 ne0
    refine ⟨_, rfl, o, _, rfl, dK "states" _ (sC _ _ h1), sa, _, _, _, rfl, rfl, SqL.of (sC _ _ h40), atI_nat (j := 0) rfl, (by show 1 ≤ sizeLine; decide), fun el nel => ⟨_, _, rfl, ?_⟩⟩
    have nelH : H el = none := sC.free nel
    have fel : fd_ ≠ el := ne_of_none hfd1 nel
    have uD := same_new nel (.lst [V.str st0])
    have hel1 : (upd G1 el (.lst [V.str st0])) el = some (.lst [V.str st0]) := upd_same
    have sD := sC.trans uD
    have hfd2 := uD _ _ hfd1
    have he2 := uD _ _ he1
    show _
    generalize upd G1 el (.lst [V.str st0]) = G2 at sD hel1 hfd2 he2 ⊢
    clear uD sC hfd1 he1 nel
    have w0 : wayN D 0 = [st0] := by
      show [D.states.headD Str.empty] = _
      rw [es]
      rfl
    refine ⟨fun m σ F => ∃ (i : Nat) (kvs : List (Key × V)) (v3 v4 v5 : Option V), σ = [some (.ref o), some (.ref fd_), some (.ref el), v3, v4, v5] ∧ m = 5 - i ∧ i ≤ (wayN D i).length ∧ Same H F ∧ F fd_ = some (.dK kvs) ∧ kvs.map (·.1) = (wayN D i).map (Sum.inr : Str → Key) ∧
      F el = some (.lst (((wayN D i).drop i).map V.str)) ∧ VT F (kvs.map (·.2)) (4 * i), ⟨5, 0, _, _, _, _, rfl, rfl, Nat.zero_le _, sD, hfd2, by rw [w0]; rfl, by rw [w0]; exact hel1, fun v hv => ?_⟩, ?_⟩
    · rw [List.mem_singleton.mp hv]
      exact ⟨e0, [], rfl, he2, Nat.zero_le _⟩
    clear sD hel1 hfd2 he2
    rintro m σ F ⟨i, kvs, v3, v4, v5, rfl, rfl, hi, sF, hfd, hk, hel, vt⟩
    have okN := wayN_ok FD i
    have lenN := okN.len
    have s4 := dr.s1.2
    refine ⟨_, rfl, (by show 0 ≤ sizeLine; decide), fun l nl => ?_⟩
    have u1 := same_new nl (.lst [])
    have hl : (upd F l (.lst [])) l = some (.lst (([] : List Str).map V.str)) := upd_same
    have hel := u1 _ _ hel
    have hfd := u1 _ _ hfd
    have sF := sF.trans u1
    have vt := vt.same u1
    show _
    generalize upd F l (.lst []) = F1 at hl hel hfd sF vt ⊢
    clear u1 nl
    have asc : ∀ x ∈ (wayN D i).drop i, ∀ c ∈ TL.tl x, c < 128 := fun x hx => name_asc_ (dr.sw x (okN.sub x (List.mem_of_mem_drop hx)))
    refine ⟨_, _, txs_dp hel, txs_dp hl, txs_shaped asc, txs_shaped (fun x hx => by cases hx), _, rfl, ?_⟩
    rw [txs_eqv]
    by_cases hd : (wayN D i).drop i = []
    · refine iteN (by simp [hd]) ⟨_, rfl, q fd_ kvs F1 sF nfd hfd ?_⟩
      rw [hk, wayL_of (List.drop_eq_nil_iff.mp hd) (by omega)]
    have hil : i < (wayN D i).length := by
      have := mt List.drop_eq_nil_iff.mpr hd
      omega
    refine iteC (by simp [hd]) ?_
    have hs := List.getElem?_eq_getElem hil
    have ed := List.drop_eq_getElem_cons hil
    have ms := okN.sub _ (List.getElem_mem hil)
    generalize (wayN D i)[i] = s at hs ed ms
    rw [ed, List.map_cons] at hel
    refine ⟨fun σ' F' => ∃ m', m' < 5 - i ∧ ∃ (i : Nat) (kvs : List (Key × V)) (v3 v4 v5 : Option V), σ' = [some (.ref o), some (.ref fd_), some (.ref el), v3, v4, v5] ∧ m' = 5 - i ∧ i ≤ (wayN D i).length ∧ Same H F' ∧ F' fd_ = some (.dK kvs) ∧ kvs.map (·.1) = (wayN D i).map (Sum.inr : Str → Key) ∧
      F' el = some (.lst (((wayN D i).drop i).map V.str)) ∧ VT F' (kvs.map (·.2)) (4 * i), fun σ' F' h => h, ?_⟩
    refine ⟨_, rfl, .inl ⟨rfl, _, SqL.of hel⟩, el, _, 0, 0, .str s, rfl, rfl, hel, by decide, by decide, seqIndex0, by rfl, ?_⟩
    have hel2 : (upd F1 el (.lst ((V.str s :: ((wayN D i).drop (i + 1)).map V.str).eraseIdx 0))) el = some (.lst (((wayN D i).drop (i + 1)).map V.str)) := upd_same
    have hfd2 : (upd F1 el (.lst ((V.str s :: ((wayN D i).drop (i + 1)).map V.str).eraseIdx 0))) fd_ = some (.dK kvs) := by rw [upd_ne fel]; exact hfd
    have sF2 := same_put (o := .lst ((V.str s :: ((wayN D i).drop (i + 1)).map V.str).eraseIdx 0)) sF nelH
    have vt2 := VT.upd (o' := .lst ((V.str s :: ((wayN D i).drop (i + 1)).map V.str).eraseIdx 0)) hel (fun xs z => by cases z) vt
    show _
    generalize upd F1 el (.lst ((V.str s :: ((wayN D i).drop (i + 1)).map V.str).eraseIdx 0)) = F2 at hel2 hfd2 sF2 vt2
    clear hel hfd sF vt hl
    refine ⟨_, rfl, o, _, rfl, dK "calls" _ (sF2 _ _ h1), c, rfl, ⟨_, SqL.of (sF2 _ _ h2)⟩, ?_⟩
    refine for_it walk_list (fun j σ F => ∃ (kvs : List (Key × V)) (v4 v5 : Option V), σ = [some (.ref o), some (.ref fd_), some (.ref el), some (.str s), v4, v5] ∧ Same H F ∧ F fd_ = some (.dK kvs) ∧ kvs.map (·.1) = (wRow D s (D.calls.take j) (wayN D i)).map (Sum.inr : Str → Key) ∧
      F el = some (.lst (((wRow D s (D.calls.take j) (wayN D i)).drop (i + 1)).map V.str)) ∧ VT F (kvs.map (·.2)) (4 * i + j)) ⟨kvs, _, _, rfl, sF2, hfd2, hk, hel2, vt2⟩ (fun j σ F _ ⟨_, _, _, _, sF, _⟩ => SqL.of (sF _ _ h2)) ?_ ?_
    · clear hfd2 hk hel2 vt2 sF2
      rintro j y σ F F' hj ⟨kvs, v4, v5, rfl, sF, hfd, hk, hel, vt⟩ ⟨rfl, hy⟩
      have hj : j < D.calls.length := by
        rw [List.length_map] at hj
        exact hj
      rw [List.getElem?_map, List.getElem?_eq_getElem hj] at hy
      have ey : y = .str D.calls[j] := (Option.some.inj hy).symm
      subst ey
      have hcj := List.getElem?_eq_getElem hj
      have mc : D.calls[j] ∈ D.calls := List.getElem_mem hj
      generalize D.calls[j] = cc at hcj mc
      have okW := WayOk.row FD ms (cs := D.calls.take j) (fun x hx => List.mem_of_mem_take hx) okN
      have preW := wRow_pre D s (D.calls.take j) (wayN D i)
      have etk := wRow_take D s D.calls (wayN D i) hcj
      have msW : s ∈ wRow D s (D.calls.take j) (wayN D i) := preW.subset (List.mem_of_getElem? hs)
      have lW := preW.length_le
      rw [etk]
      generalize wRow D s (D.calls.take j) (wayN D i) = W at okW hk hel msW lW ⊢
      have lk := h6 (s, cc) (prod_mem.mpr ⟨ms, mc⟩)
      obtain ⟨gkv, hgr, gr⟩ := h5
      refine ⟨_, rfl, o, _, rfl, dK "rows" _ (sF _ _ h1), _, rfl, _, rfl, (by show 2 ≤ sizeLine; decide), fun tk ntk => ?_⟩
      have u5 := same_new ntk (.tup [.str s, .str cc])
      have htk : (upd F' tk (.tup [.str s, .str cc])) tk = some (.tup ((kT (s, cc)).map kV)) := upd_same
      have sF := sF.trans u5
      have hfd := u5 _ _ hfd
      have hel := u5 _ _ hel
      have vt := vt.same u5
      show _
      generalize upd F' tk (.tup [.str s, .str cc]) = F6 at sF htk hfd hel vt ⊢
      clear u5 ntk
      rcases gr.val (s, cc) with ⟨l1, _⟩ | ⟨r2, t2, l1, l2, l3⟩
      · rw [l1] at lk
        cases lk
      rw [l1] at lk
      have er2 : r2 = rowX D (s, cc) := Option.some.inj lk
      subst er2
      have g1 : DGet F6 r (.ref tk) (valV gkv (kT (s, cc))) := .inr ⟨gkv, kT (s, cc), tk, rd_same sF hgr, rfl, htk, rfl⟩
      rw [l2] at g1
      refine ⟨r, _, rfl, g1, t2, _, 1, _, rfl, rfl, same_tup sF l3, atI_nat (j := 1) rfl, ?_⟩
      have mg_ := (FD.row s ms cc mc).2
      generalize (rowX D (s, cc)).2 = g at mg_ ⊢
      -- is it found
      have dg := DGet.k (k := (Sum.inr g : Key)) hfd
      have kmem : ∀ x : Str, ((Sum.inr x : Key) ∈ kvs.map (·.1)) ↔ x ∈ W := fun x => by
        rw [hk]
        constructor
        · intro h
          obtain ⟨y, hy, e⟩ := List.mem_map.mp h
          cases e
          exact hy
        · exact fun h => List.mem_map.mpr ⟨x, h, rfl⟩
      by_cases hg : g ∈ W
      · obtain ⟨v, hv, _⟩ := valV_at ((kmem g).mpr hg)
        rw [hv] at dg
        have eW : wStep W g = W := if_pos hg
        rw [eW]
        exact ⟨_, rfl, _, rfl, fd_, _, rfl, dg, _, rfl, iteF ⟨kvs, _, _, rfl, sF, hfd, hk, hel, vt.mono (Nat.le_succ _)⟩⟩
      · rw [valV_out (fun z => hg ((kmem g).mp z))] at dg
        have eW : wStep W g = W ++ [g] := if_neg hg
        rw [eW]
        obtain ⟨v, hv, mv⟩ := valV_at ((kmem s).mpr msW)
        obtain ⟨tw, xs, rfl, htw, lxs⟩ := vt v mv
        have dg2 := DGet.k (k := (Sum.inr s : Key)) hfd
        rw [hv] at dg2
        refine ⟨_, rfl, _, rfl, fd_, _, rfl, dg, _, rfl, iteT ⟨_, rfl, _, rfl, fd_, _, rfl, dg2, _, rfl, (by show 1 ≤ sizeLine; decide), fun tc ntc => ?_⟩⟩
        have u7 := same_new ntc (.tup [V.str cc])
        have htc : (upd F6 tc (.tup [V.str cc])) tc = some (.tup [V.str cc]) := upd_same
        have htw := u7 _ _ htw
        have hfd := u7 _ _ hfd
        have hel := u7 _ _ hel
        have sF := sF.trans u7
        have vt := vt.same u7
        show _
        generalize upd F6 tc (.tup [V.str cc]) = F7 at htc htw hfd hel sF vt ⊢
        clear u7 ntc dg dg2 g1 htk
        have lk_ : kvs.length ≤ 4 := by
          have := congrArg List.length hk
          rw [List.length_map, List.length_map] at this
          have := okW.len
          omega
        -- the new walk, kept
        have fin : ∀ (tn : Addr) (ys : List V) (F8 : Hp), Same F7 F8 → F8 tn = some (.tup ys) → ys.length ≤ 4 * i + (j + 1) → ∃ (a_1 : Addr) (H4 : Hp), V.ref fd_ = .ref a_1 ∧ DPut F8 a_1 (.str g) (.ref tn) H4 ∧ H4 el = some (.lst ((W.drop (i + 1)).map V.str)) ∧ Same H H4 ∧ H4 fd_ = some (.dK (kvs ++ [(.inr g, .ref tn)])) ∧ VT H4 ((kvs ++ [((.inr g : Key), V.ref tn)]).map (·.2)) (4 * i + (j + 1)) := by
          intro tn ys F8 s8 h8 ly
          have hfd8 := s8 _ _ hfd
          refine ⟨fd_, _, rfl, DPut.k (k := (Sum.inr g : Key)) hfd8 (by rw [sizeLine_eq]; omega), ?_, ?_, ?_, ?_⟩
          · rw [upd_ne (Ne.symm fel)]
            exact s8 _ _ hel
          · exact same_put (sF.trans s8) nfd
          · rw [keys_new (fun z => hg ((kmem g).mp z))]
            exact upd_same
          · rw [List.map_append]
            intro v hv
            rcases List.mem_append.mp hv with hv | hv
            · exact VT.upd hfd8 (fun xs z => by cases z) ((vt.same s8).mono (Nat.le_succ _)) v hv
            · rw [List.mem_singleton.mp hv]
              exact ⟨tn, ys, rfl, by rw [upd_ne (fun z => by rw [z, hfd8] at h8; cases h8)]; exact h8, ly⟩
        have last : ∀ (tn : Addr) (F9 : Hp), F9 el = some (.lst ((W.drop (i + 1)).map V.str)) → Same H F9 → F9 fd_ = some (.dK (kvs ++ [(.inr g, .ref tn)])) → VT F9 ((kvs ++ [((.inr g : Key), V.ref tn)]).map (·.2)) (4 * i + (j + 1)) →
            ∃ (kvs_1 : List (Key × V)) (v4 v5 : Option V), ([some (.ref o), some (.ref fd_), some (.ref el), some (.str s), some (.str cc), some (.str g)] : L2.St) = [some (.ref o), some (.ref fd_), some (.ref el), some (.str s), v4, v5] ∧ Same H (upd F9 el (.lst ((W.drop (i + 1)).map V.str ++ [V.str g]))) ∧ (upd F9 el (.lst ((W.drop (i + 1)).map V.str ++ [V.str g]))) fd_ = some (.dK kvs_1) ∧ kvs_1.map (·.1) = (W ++ [g]).map (Sum.inr : Str → Key) ∧
              (upd F9 el (.lst ((W.drop (i + 1)).map V.str ++ [V.str g]))) el = some (.lst (((W ++ [g]).drop (i + 1)).map V.str)) ∧ VT (upd F9 el (.lst ((W.drop (i + 1)).map V.str ++ [V.str g]))) (kvs_1.map (·.2)) (4 * i + (j + 1)) := by
          intro tn F9 e9 s9 f9 v9
          refine ⟨_, _, _, rfl, same_put s9 nelH, by rw [upd_ne fel]; exact f9, ?_, ?_, VT.upd e9 (fun xs z => by cases z) v9⟩
          · rw [List.map_append, hk, List.map_append]
            rfl
          · rw [upd_same, List.drop_append_of_le_length (by omega), List.map_append]
            rfl
        have lW4 : (W.drop (i + 1)).length ≤ 4 := by
          rw [List.length_drop]
          have := okW.len
          omega
        refine ⟨_, _, _, _, rfl, rfl, .inl (.inl htw), .inl (.inl htc), ?_, fun e => ?_, fun _ e => ?_, fun ne _ tn ntn => ?_⟩
        · have c3 := dr.c1.2
          rw [sizeLine_eq, List.length_singleton]
          omega
        · obtain ⟨a1, H4, e1, dp, y1, y2, y3, y4⟩ := fin tc _ F7 (Same.refl _) htc (by simp; omega)
          refine ⟨_, rfl, _, rfl, a1, H4, e1, dp, _, rfl, .inl ⟨rfl, _, SqL.of y1⟩, _, rfl, el, _, _, rfl, rfl, y1, by rw [List.length_map, sizeLine_eq]; omega, last tc H4 y1 y2 y3 y4⟩
        · cases e
        · have u8 := same_new ntn (.tup (xs ++ [V.str cc]))
          obtain ⟨a1, H4, e1, dp, y1, y2, y3, y4⟩ := fin tn _ _ u8 upd_same (by rw [List.length_append, List.length_singleton]; omega)
          refine ⟨_, rfl, _, rfl, a1, H4, e1, dp, _, rfl, .inl ⟨rfl, _, SqL.of y1⟩, _, rfl, el, _, _, rfl, rfl, y1, by rw [List.length_map, sizeLine_eq]; omega, last tn H4 y1 y2 y3 y4⟩
    · rintro σ F ⟨kvs, v4, v5, rfl, sF, hfd, hk, hel, vt⟩
      rw [List.length_map, List.take_length, ← wayN_succ hs] at hk hel
      have := (wayN_ok FD (i + 1)).len
      have lp : (wayN D i).length ≤ (wayN D (i + 1)).length := by
        rw [wayN_succ hs]
        exact (wRow_pre D s D.calls (wayN D i)).length_le
      have c3 := dr.c1.2
      rw [List.length_map] at vt
      exact ⟨5 - (i + 1), by omega, i + 1, kvs, _, _, _, rfl, rfl, by omega, sF, hfd, hk, hel, vt.mono (by omega)⟩
end
end K51
set_option Elab.async false
set_option linter.all false
set_option maxRecDepth 100000
set_option maxHeartbeats 16000000
/-! The law's own look for a walk that parts two states of an own device: it ends. -/
namespace LG
open PySem L2
structure SeenOk (D : Dev) (S : List (Str × Str)) : Prop where
  nd : S.Nodup
  sub : ∀ k ∈ S, k.1 ∈ D.states ∧ k.2 ∈ D.states
theorem SeenOk.len {D : Dev} {S : List (Str × Str)} (h : SeenOk D S) (s4 : D.states.length ≤ 4) : S.length ≤ 16 := by
  have := AW.nodup_len (M := prodK D.states D.states) h.nd fun k hk => prod_mem.mpr (h.sub k hk)
  rw [prod_len] at this
  exact Nat.le_trans this (Nat.mul_le_mul s4 s4)
theorem SeenOk.snoc {D : Dev} {S : List (Str × Str)} {k : Str × Str} (h : SeenOk D S) (n : ¬ k ∈ S) (m : k.1 ∈ D.states ∧ k.2 ∈ D.states) : SeenOk D (S ++ [k]) := by
  refine ⟨List.nodup_append.mpr ⟨h.nd, by simp, fun a ha b hb z => n (by rw [List.mem_singleton.mp hb] at z; rw [← z]; exact ha)⟩, fun x hx => ?_⟩
  rcases List.mem_append.mp hx with hx | hx
  · exact h.sub x hx
  · rw [List.mem_singleton.mp hx]
    exact m
theorem KeyRefs.updo {H : Hp} {a : Addr} {u o : HO} {vs : List V} {ks : List (Str × Str)} (h : H a = some u) (no : ∀ xs, u ≠ .tup xs) (k : KeyRefs H vs ks) : KeyRefs (upd H a o) vs ks := by
  induction k with
  | nil => exact .nil
  | cons e _ ih => exact .cons (by rw [upd_ne (fun z => by rw [z, h] at e; exact no _ (Option.some.inj e))]; exact e) ih
theorem KeyRefs.uncons {H : Hp} {vs : List V} {k : Str × Str} {r : List (Str × Str)} (h : KeyRefs H vs (k :: r)) : ∃ t vr, vs = .ref t :: vr ∧ H t = some (.tup ((kT k).map kV)) ∧ KeyRefs H vr r := by
  cases h with
  | cons a b => exact ⟨_, _, rfl, a, b⟩
/-- what comes later: pairs of goals and the walks to them -/
def LT (D : Dev) (F : Hp) (vs : List V) (n : Nat) : Prop := ∀ v ∈ vs, ∃ (q g w : Addr) (k : Str × Str) (ys : List V), v = .ref q ∧ F q = some (.tup [.ref g, .ref w]) ∧ F g = some (.tup [.str k.1, .str k.2]) ∧ F w = some (.tup ys) ∧ ys.length ≤ n ∧ k.1 ∈ D.states ∧ k.2 ∈ D.states
theorem LT.upd {D : Dev} {F : Hp} {vs : List V} {n : Nat} {a : Addr} {o' o : HO} (ha : F a = some o) (no : ∀ xs, o ≠ .tup xs) (h : LT D F vs n) : LT D (upd F a o') vs n := fun v hv => by
  obtain ⟨q, g, w, k, ys, e, h1, h2, h3, l⟩ := h v hv
  have ne : ∀ {b xs}, F b = some (.tup xs) → b ≠ a := fun {b xs} hb z => by rw [z, ha] at hb; exact no _ (Option.some.inj hb)
  exact ⟨q, g, w, k, ys, e, by rw [upd_ne (ne h1)]; exact h1, by rw [upd_ne (ne h2)]; exact h2, by rw [upd_ne (ne h3)]; exact h3, l⟩
theorem LT.same {D : Dev} {F G : Hp} {vs : List V} {n : Nat} (s : Same F G) (h : LT D F vs n) : LT D G vs n := fun v hv => by
  obtain ⟨q, g, w, k, ys, e, h1, h2, h3, l⟩ := h v hv
  exact ⟨q, g, w, k, ys, e, s _ _ h1, s _ _ h2, s _ _ h3, l⟩
/-- rows of states, by one call -/
def RowsAt (K : PySem.W.Frag) (D : Dev) (cc : Str) (F : Hp) (vs : List V) (ss : List Str) : Prop := PySem.Paired (fun (v : V) (s : Str) => ∃ t, v = .ref t ∧ SqT K F t [.str (rowX D (s, cc)).1, .str (rowX D (s, cc)).2]) vs ss
theorem RowsAt.same {K : PySem.W.Frag} {D : Dev} {cc : Str} {F G : Hp} {vs : List V} {ss : List Str} (e : Same F G) (h : RowsAt K D cc F vs ss) : RowsAt K D cc G vs ss := by
  induction h with
  | nil => exact .nil
  | cons a _ ih =>
    obtain ⟨t, e1, e2⟩ := a
    exact .cons ⟨t, e1, same_tup e e2⟩ ih
theorem RowsAt.snoc {K : PySem.W.Frag} {D : Dev} {cc : Str} {F : Hp} {vs : List V} {ss : List Str} {v : V} {s : Str} (h : RowsAt K D cc F vs ss) (a : ∃ t, v = .ref t ∧ SqT K F t [.str (rowX D (s, cc)).1, .str (rowX D (s, cc)).2]) : RowsAt K D cc F (vs ++ [v]) (ss ++ [s]) := by
  induction h with
  | nil => exact .cons a .nil
  | cons b _ ih => exact .cons b ih
theorem sqT_upd {K : PySem.W.Frag} {F : Hp} {a b : Addr} {ys xs : List V} {o : HO} (ha : F a = some (.lst ys)) (h : SqT K F b xs) : SqT K (upd F a o) b xs := by
  rcases h with (h | ⟨ob, h⟩) | h
  · exact .inl (.inl (by rw [upd_ne (fun z => by rw [z, ha] at h; cases h)]; exact h))
  · exact .inl (.inr ⟨ob, by rw [upd_ne (fun z => by rw [z, ha] at h; cases h)]; exact h⟩)
  · exact .inr h
theorem RowsAt.upd {K : PySem.W.Frag} {D : Dev} {cc : Str} {F : Hp} {a : Addr} {ys : List V} {o : HO} {vs : List V} {ss : List Str} (ha : F a = some (.lst ys)) (h : RowsAt K D cc F vs ss) : RowsAt K D cc (upd F a o) vs ss := by
  induction h with
  | nil => exact .nil
  | cons a _ ih =>
    obtain ⟨t, e1, e2⟩ := a
    exact .cons ⟨t, e1, sqT_upd ha e2⟩ ih
theorem RowsAt.len {K : PySem.W.Frag} {D : Dev} {cc : Str} {F : Hp} {vs : List V} {ss : List Str} (h : RowsAt K D cc F vs ss) : vs.length = ss.length := by
  induction h with
  | nil => rfl
  | cons _ _ ih => rw [List.length_cons, List.length_cons, ih]
theorem RowsAt.two {K : PySem.W.Frag} {D : Dev} {cc : Str} {F : Hp} {vs : List V} {a b : Str} (h : RowsAt K D cc F vs [a, b]) : ∃ t1 t2, vs = [.ref t1, .ref t2] ∧ SqT K F t1 [.str (rowX D (a, cc)).1, .str (rowX D (a, cc)).2] ∧ SqT K F t2 [.str (rowX D (b, cc)).1, .str (rowX D (b, cc)).2] := by
  cases h with
  | cons x r =>
    cases r with
    | cons y r =>
      cases r
      obtain ⟨t1, rfl, h1⟩ := x
      obtain ⟨t2, rfl, h2⟩ := y
      exact ⟨t1, t2, rfl, h1, h2⟩
theorem pairs_ne_nil (ks : List (Str × Str)) : (!PyData.eqv (.list (ks.map pairD)) (.list [])) = !decide (ks = []) := by
  cases ks with
  | nil => rfl
  | cons a r => rfl
theorem kT_mem {kvs : List (List Key × V)} {S : List (Str × Str)} (h : kvs.map (·.1) = S.map kT) (k : Str × Str) : kT k ∈ kvs.map (·.1) ↔ k ∈ S := by
  rw [h]
  constructor
  · intro m
    obtain ⟨y, hy, e⟩ := List.mem_map.mp m
    rw [← kT_inj.mp e]
    exact hy
  · exact fun m => List.mem_map.mpr ⟨k, m, rfl⟩
end LG
namespace K51
open PySem L2 LG
section
variable {P : Program} {w : World} {K : PySem.W.Frag} {mg : Str → Option Value} {base : Heap}
def spLParting (K : PySem.W.Frag) : Sp := fun vs H Q _ => ∃ (o : Addr) (s t : Str) (D : Dev), vs = [.ref o, .str s, .str t] ∧ OwnL K H o D ∧ Drawn D ∧ s ∈ D.states ∧ t ∈ D.states ∧ (∀ G, Same H G → Q .non G) ∧ ∀ (tw : Addr) (ys : List V) (G : Hp), Same H G → G tw = some (.tup ys) → Q (.ref tw) G
abbrev nLp : List Str := ["_law_device_here", "_law_one", "_law_other_here", "_law_seen", "_law_ends", "_law_pair", "_law_later", "_law_call", "_law_rows", "_law_goals", "_law_walk", "_law_state"]
theorem scLp : FnScope nLp ["_law_device_here", "_law_one", "_law_other_here"] (defScope sLParting) := ⟨rfl, rfl, rfl, by decide +kernel, rfl, by decide +kernel, by decide +kernel⟩
theorem ok_lparting {f : Addr} {fd : FuncData} (F : Fun K "_law_parting" "_law_parting" sLParting f fd) (T : Bltn mg) : FnOk P w K mg base CX0 1 f fd ["_law_device_here", "_law_one", "_law_other_here"] (spLParting K) := by
  refine F.ok scLp (fun vs H Q E h => ?_) (fun cdv A0 outer st H vs Q E hr h => ?_)
  · obtain ⟨o, s, t, D, rfl, _⟩ := h
    rfl
  obtain ⟨o, s, t, D, rfl, hO, dr, hs, ht, q1, q2⟩ := h
  have hu := hu_of hr
  refine' ⟨_, pss_cons ?ini (pss_cons (ps_while PassesOwn.never (pt_cmpR (op_neD hr.units) (pv 4) (pe_lst pa_nil) (nomark _))
      (pss_cons (ps_set (i := 5) scLp.nd rfl (Or.inl rfl) (pe_bm PySem.F.plainAttrs_list PySem.F.slot_list_pop PySem.F.type_list_pop mt_popAt (pv 4) (pa_cons pe_int pa_nil)))
      (pss_cons (ps_set (i := 6) scLp.nd rfl (Or.inl rfl) (pe_lst pa_nil))
      (pss_cons (ps_for PassesOwn.never rfl (pi_list (pe_dget hu (pv 0) pe_str (fun _ _ => rfl))) (pg_name (i := 7) scLp.nd rfl (Or.inr rfl)) (pss_cons ?rows (pss_cons ?ret1 (pss_one ?app))))
      (pss_one (ps_for PassesOwn.never rfl (pi_list (pv 6)) (pg_tup rfl (pgs_cons (pg_name (i := 9) scLp.nd rfl (Or.inl rfl)) (pgs_cons (pg_name (i := 10) scLp.nd rfl (Or.inl rfl)) pgs_nil))) (pss_one ?add)))))))
    (pss_one (ps_ret pe_non))), ?main⟩
  case ini =>
    exact ps_par (i := 3) (j := 4) rfl scLp.nd rfl rfl (by decide) rfl rfl (pa_cons (pe_disp1T hu (pe_tup (pa_cons (pv 1) (pa_cons (pv 2) pa_nil))) (pe_tup pa_nil)) (pa_cons (pe_lst (pa_cons (pe_tup (pa_cons (pv 1) (pa_cons (pv 2) pa_nil))) pa_nil)) pa_nil)) (by rfl)
  case rows =>
    exact ps_setLc (i := 8) (te := tDGet (tDGet (tVar 0) (tC (.str "rows"))) (tTup (tCons (tVar 11) (tCons (tVar 7) tNil)))) (tt := tYes) (own := [("_law_state", 11)]) (g := gName 11) rfl scLp.nd rfl rfl (sw_true rfl rfl rfl (by decide +kernel)) (pi_tup (pv 5)) (blkOk_by (own := [("_law_state", 11)]) (N := nLp) (sc := defScope sLParting) (by decide +kernel))
      (fun _ _ _ _ _ => pg_name (i := 11) scLp.nd rfl (Or.inl rfl)) (fun _ _ _ _ _ => pts_nil) (fun _ _ _ _ _ => by exact pe_dget hu (pe_dget hu (pv 0) pe_str (fun _ _ => rfl)) (pe_tup (pa_cons (pv 11) (pa_cons (pv 7) pa_nil))) (fun _ _ => rfl))
  case ret1 =>
    exact ps_if (pt_cmpR op_ne (pe_ix ix_tup (pe_ix ix_list (pv 8) pe_int (fun _ _ => rfl)) pe_int (fun _ _ => rfl)) (pe_ix ix_tup (pe_ix ix_list (pv 8) pe_int (fun _ _ => rfl)) pe_int (fun _ _ => rfl)) (nomark _)) (pss_one (ps_ret (pe_op op_catA (pe_dget hu (pv 3) (pv 5) (fun _ _ => rfl)) (pe_tup (pa_cons (pv 7) pa_nil))))) pss_nil
  case app =>
    exact ps_expr (pe_bm PySem.F.plainAttrs_list PySem.F.slot_list_append PySem.F.type_list_append mt_append (pv 6) (pa_cons (pe_tup (pa_cons (pe_tup (pa_cons (pe_ix ix_tup (pe_ix ix_list (pv 8) pe_int (fun _ _ => rfl)) pe_int (fun _ _ => rfl)) (pa_cons (pe_ix ix_tup (pe_ix ix_list (pv 8) pe_int (fun _ _ => rfl)) pe_int (fun _ _ => rfl)) pa_nil)))
      (pa_cons (pe_op op_catA (pe_dget hu (pv 3) (pv 5) (fun _ _ => rfl)) (pe_tup (pa_cons (pv 7) pa_nil))) pa_nil))) pa_nil))
  case add =>
    exact ps_if (PW.pt (pw_and (pt_cmpR op_ne (pe_ix ix_tup (pv 9) pe_int (fun _ _ => rfl)) (pe_ix ix_tup (pv 9) pe_int (fun _ _ => rfl)) (nomark _)) (pw_and1 (pt_cmp (pc_dnotin hu (pv 9) (pv 3)))))) (pss_cons (ps_dput hu (pv 3) (pv 9) (pv 10) rfl)
      (pss_one (ps_expr (pe_bm PySem.F.plainAttrs_list PySem.F.slot_list_append PySem.F.type_list_append mt_append (pv 4) (pa_cons (pv 9) pa_nil))))) pss_nil
  case main =>
    have FD := dr.fine.full
    have s4 := dr.s1.2
    have c3 := dr.c1.2
    obtain ⟨c, a, sa, r, gg, h1, h2, h3, h4, h5, h6⟩ := hO
    have dK := fun (x : Str) (G : Hp) (e : G o = some (.dK [(.inr ("calls" : Str), .ref c), (.inr ("answers" : Str), .ref a), (.inr ("states" : Str), .ref sa), (.inr ("rows" : Str), .ref r)])) => DGet.k (k := Sum.inr x) e
    obtain ⟨gkv, hgr, gr⟩ := h5
    intro sd nsd
    refine ⟨_, rfl, _, rfl, (by show 2 ≤ sizeLine; decide), fun t0 nt0 => ⟨(by show 0 ≤ sizeLine; decide), fun e0 ne0 => ?_⟩⟩
    have t0sd : t0 ≠ sd := fun z => by rw [z, upd_same] at nt0; cases nt0
    have v1 := same_new nsd (.dT [])
    have v2 := same_new nt0 (.tup [V.str s, V.str t])
    have v3 := same_new ne0 (.tup [])
    have e0sd : e0 ≠ sd := fun z => by
      have e : (upd (upd H sd (.dT [])) t0 (.tup [V.str s, V.str t])) sd = some (.dT []) := v2 _ _ upd_same
      rw [z, e] at ne0
      cases ne0
    have hsd0 : (upd (upd (upd H sd (.dT [])) t0 (.tup [V.str s, V.str t])) e0 (.tup [])) sd = some (.dT []) := (v2.trans v3) _ _ upd_same
    have ht0 : (upd (upd (upd H sd (.dT [])) t0 (.tup [V.str s, V.str t])) e0 (.tup [])) t0 = some (.tup ((kT (s, t)).map kV)) := v3 _ _ upd_same
    have he0 : (upd (upd (upd H sd (.dT [])) t0 (.tup [V.str s, V.str t])) e0 (.tup [])) e0 = some (.tup []) := upd_same
    have s0 := (v1.trans v2).trans v3
    refine ⟨hsd0, kT (s, t), t0, rfl, ht0, ?_⟩
    have sC := same_put (o := .dT [(kT (s, t), V.ref e0)]) s0 nsd
    have hsd1 : (upd (upd (upd (upd H sd (.dT [])) t0 (.tup [V.str s, V.str t])) e0 (.tup [])) sd (.dT [(kT (s, t), V.ref e0)])) sd = some (.dT [(kT (s, t), V.ref e0)]) := upd_same
    have he1 : (upd (upd (upd (upd H sd (.dT [])) t0 (.tup [V.str s, V.str t])) e0 (.tup [])) sd (.dT [(kT (s, t), V.ref e0)])) e0 = some (.tup []) := by rw [upd_ne e0sd]; exact he0
    show _
    generalize upd (upd (upd (upd H sd (.dT [])) t0 (.tup [V.str s, V.str t])) e0 (.tup [])) sd (.dT [(kT (s, t), V.ref e0)]) = G1 at sC hsd1 he1 ⊢
    clear v1 v2 v3 s0 hsd0 ht0 he0 ne0 nt0 t0sd
    refine ⟨_, rfl, _, rfl, (by show 2 ≤ sizeLine; decide), fun t1 nt1 => ⟨(by show 1 ≤ sizeLine; decide), fun el nel => ⟨_, _, rfl, ?_⟩⟩⟩
    have v1 := same_new nt1 (.tup [V.str s, V.str t])
    have v2 := same_new nel (.lst [V.ref t1])
    have ht1 : (upd (upd G1 t1 (.tup [V.str s, V.str t])) el (.lst [V.ref t1])) t1 = some (.tup ((kT (s, t)).map kV)) := v2 _ _ upd_same
    have hel1 : (upd (upd G1 t1 (.tup [V.str s, V.str t])) el (.lst [V.ref t1])) el = some (.lst [V.ref t1]) := upd_same
    have nelH : H el = none := (sC.trans v1).free nel
    have sel : sd ≠ el := ne_of_none (v1 _ _ hsd1) nel
    have sD := (sC.trans v1).trans v2
    have hsd2 := (v1.trans v2) _ _ hsd1
    have he2 := (v1.trans v2) _ _ he1
    show _
    generalize upd (upd G1 t1 (.tup [V.str s, V.str t])) el (.lst [V.ref t1]) = G2 at ht1 hel1 sD hsd2 he2 ⊢
    clear v1 v2 sC hsd1 he1 nel nt1
    refine ⟨fun m σ F => ∃ (i : Nat) (S : List (Str × Str)) (kvs : List (List Key × V)) (vl : List V) (v5 v6 v7 v8 v9 v10 : Option V), σ = [some (.ref o), some (.str s), some (.str t), some (.ref sd), some (.ref el), v5, v6, v7, v8, v9, v10, none] ∧ m = 17 - i ∧ i ≤ S.length ∧ SeenOk D S ∧ Same H F ∧ F sd = some (.dT kvs) ∧ kvs.map (·.1) = S.map kT ∧
      F el = some (.lst vl) ∧ KeyRefs F vl (S.drop i) ∧ VT F (kvs.map (·.2)) i, ⟨17, 0, [(s, t)], _, _, _, _, _, _, _, _, rfl, rfl, Nat.zero_le _, ⟨by simp, fun k hk => by rw [List.mem_singleton.mp hk]; exact ⟨hs, ht⟩⟩, sD, hsd2, rfl, hel1, .cons ht1 .nil, fun v hv => ?_⟩, ?_⟩
    · rw [List.mem_singleton.mp hv]
      exact ⟨e0, [], rfl, he2, Nat.le_refl _⟩
    clear sD hsd2 hel1 ht1 he2
    rintro m σ F ⟨i, S, kvs, vl, v5, v6, v7, v8, v9, v10, rfl, rfl, hi, okS, sF, hsd, hk, hel, kr, vt⟩
    have len16 := okS.len s4
    refine ⟨_, rfl, (by show 0 ≤ sizeLine; decide), fun l nl => ?_⟩
    have u1 := same_new nl (.lst [])
    have hl : (upd F l (.lst [])) l = some (.lst []) := upd_same
    have hel := u1 _ _ hel
    have hsd := u1 _ _ hsd
    have sF := sF.trans u1
    have vt := vt.same u1
    have kr := kr.same u1
    show _
    generalize upd F l (.lst []) = F1 at hl hel hsd sF vt kr ⊢
    clear u1 nl
    have asc : ∀ x ∈ D.states, ∀ c ∈ TL.tl x, c < 128 := fun x hx => name_asc_ (dr.sw x hx)
    refine ⟨.list ((S.drop i).map pairD), .list [], .lst (SqL.of hel) (pairs_dp kr), .lst (SqL.of hl) .nil, pairs_shaped (fun k hk => ?_), (pairs_shaped (ks := []) (fun k hk => by cases hk)), _, rfl, ?_⟩
    · have := okS.sub k (List.mem_of_mem_drop hk)
      exact ⟨asc _ this.1, asc _ this.2⟩
    rw [pairs_ne_nil]
    by_cases hd : S.drop i = []
    · exact iteN (by simp [hd]) (q1 F1 sF)
    have hil : i < S.length := by
      have := mt List.drop_eq_nil_iff.mpr hd
      omega
    refine iteC (by simp [hd]) ?_
    have hsi := List.getElem?_eq_getElem hil
    have ed := List.drop_eq_getElem_cons hil
    have ms := okS.sub _ (List.getElem_mem hil)
    generalize S[i] = pk at hsi ed ms
    rw [ed] at kr
    obtain ⟨pr, vr, rfl, hpr, kr⟩ := KeyRefs.uncons kr
    refine ⟨fun σ' F' => ∃ m', m' < 17 - i ∧ ∃ (i : Nat) (S : List (Str × Str)) (kvs : List (List Key × V)) (vl : List V) (v5 v6 v7 v8 v9 v10 : Option V), σ' = [some (.ref o), some (.str s), some (.str t), some (.ref sd), some (.ref el), v5, v6, v7, v8, v9, v10, none] ∧ m' = 17 - i ∧ i ≤ S.length ∧ SeenOk D S ∧ Same H F' ∧ F' sd = some (.dT kvs) ∧ kvs.map (·.1) = S.map kT ∧
      F' el = some (.lst vl) ∧ KeyRefs F' vl (S.drop i) ∧ VT F' (kvs.map (·.2)) i, fun σ' F' h => h, ?_⟩
    refine ⟨_, rfl, .inl ⟨rfl, _, SqL.of hel⟩, el, _, 0, 0, .ref pr, rfl, rfl, hel, by decide, by decide, seqIndex0, by rfl, ?_⟩
    have hel2 : (upd F1 el (.lst ((V.ref pr :: vr).eraseIdx 0))) el = some (.lst vr) := upd_same
    have hsd2 : (upd F1 el (.lst ((V.ref pr :: vr).eraseIdx 0))) sd = some (.dT kvs) := by rw [upd_ne sel]; exact hsd
    have sF2 := same_put (o := .lst ((V.ref pr :: vr).eraseIdx 0)) sF nelH
    have vt2 := VT.upd (o' := .lst ((V.ref pr :: vr).eraseIdx 0)) hel (fun xs z => by cases z) vt
    have kr2 := KeyRefs.updo (o := .lst ((V.ref pr :: vr).eraseIdx 0)) hel (fun xs z => by cases z) kr
    have hpr2 : (upd F1 el (.lst ((V.ref pr :: vr).eraseIdx 0))) pr = some (.tup ((kT pk).map kV)) := by
      rw [upd_ne (fun z => by rw [z, hel] at hpr; cases hpr)]
      exact hpr
    show _
    generalize upd F1 el (.lst ((V.ref pr :: vr).eraseIdx 0)) = F2 at hel2 hsd2 sF2 vt2 kr2 hpr2 ⊢
    clear hel hsd sF vt kr hpr hl
    refine ⟨(by show 0 ≤ sizeLine; decide), fun ll nll => ?_⟩
    have u3 := same_new nll (.lst [])
    have hll : (upd F2 ll (.lst [])) ll = some (.lst []) := upd_same
    have nllH : H ll = none := sF2.free nll
    have lls : sd ≠ ll := ne_of_none hsd2 nll
    have lle : el ≠ ll := ne_of_none hel2 nll
    have hel3 := u3 _ _ hel2
    have hsd3 := u3 _ _ hsd2
    have sF3 := sF2.trans u3
    have vt3 := vt2.same u3
    have kr3 := kr2.same u3
    have hpr3 := u3 _ _ hpr2
    show _
    generalize upd F2 ll (.lst []) = F3 at hll hel3 hsd3 sF3 vt3 kr3 hpr3 ⊢
    clear hel2 hsd2 sF2 vt2 kr2 hpr2 u3 nll
    refine ⟨_, rfl, o, _, rfl, dK "calls" _ (sF3 _ _ h1), c, rfl, ⟨_, SqL.of (sF3 _ _ h2)⟩, ?_⟩
    refine for_it walk_list (fun j σ F => ∃ (ls : List V) (v7 v8 v9 v10 : Option V), σ = [some (.ref o), some (.str s), some (.str t), some (.ref sd), some (.ref el), some (.ref pr), some (.ref ll), v7, v8, v9, v10, none] ∧ Same H F ∧ F sd = some (.dT kvs) ∧ F el = some (.lst vr) ∧ KeyRefs F vr (S.drop (i + 1)) ∧ VT F (kvs.map (·.2)) i ∧
      F pr = some (.tup ((kT pk).map kV)) ∧ F ll = some (.lst ls) ∧ LT D F ls (i + 1) ∧ ls.length = j) ⟨[], _, _, _, _, rfl, sF3, hsd3, hel3, kr3, vt3, hpr3, hll, (fun v hv => nomatch hv), rfl⟩ (fun j σ F _ ⟨_, _, _, _, _, _, sF, _⟩ => SqL.of (sF _ _ h2)) ?_ ?_
    · clear sF3 hsd3 hel3 kr3 vt3 hpr3 hll
      rintro j y σ F F' hj ⟨ls, v7, v8, v9, v10, rfl, sF, hsd, hel, kr, vt, hpr, hll, lt, lls_⟩ ⟨rfl, hy⟩
      have hj : j < D.calls.length := by
        rw [List.length_map] at hj
        exact hj
      rw [List.getElem?_map, List.getElem?_eq_getElem hj] at hy
      have ey : y = .str D.calls[j] := (Option.some.inj hy).symm
      subst ey
      have mc : D.calls[j] ∈ D.calls := List.getElem_mem hj
      generalize D.calls[j] = cc at mc
      -- the rows
      refine ⟨_, rfl, pr, rfl, ⟨_, .inl (.inl hpr)⟩, fun DL nDL => ?_⟩
      refine lc_it walk_tup (D := DL) (g := gName 11) (tt := tYes) (te := tDGet (tDGet (tVar 0) (tC (.str "rows"))) (tTup (tCons (tVar 11) (tCons (tVar 7) tNil)))) (vs := [11]) (fun q Fz => ∃ rs : List V, Same F' Fz ∧ Fz DL = some (.lst rs) ∧ RowsAt K D cc Fz rs ([pk.1, pk.2].take q) ∧ rs.length = q)
        ⟨[], same_new nDL _, upd_same, .nil, rfl⟩ (fun q Fz _ ⟨_, sz, _⟩ => .inl (.inl (sz _ _ hpr))) ?_ ?_
      · rintro q y F6 F7 hq ⟨rs, sz, hDL, ra, lrs⟩ ⟨rfl, hy⟩
        refine ⟨rfl, ?_⟩
        have hq2 : q < 2 := hq
        obtain ⟨x, ex, mx, hx⟩ : ∃ x, y = .str x ∧ x ∈ D.states ∧ [pk.1, pk.2][q]? = some x := by
          match q, hq2, hy with
          | 0, _, hy => exact ⟨pk.1, (Option.some.inj hy).symm, ms.1, rfl⟩
          | 1, _, hy => exact ⟨pk.2, (Option.some.inj hy).symm, ms.2, rfl⟩
        subst ex
        have sHz := sF.trans sz
        have lk := h6 (x, cc) (prod_mem.mpr ⟨mx, mc⟩)
        refine ⟨_, rfl, o, _, rfl, dK "rows" _ (sHz _ _ h1), _, rfl, _, rfl, (by show 2 ≤ sizeLine; decide), fun tk ntk => ?_⟩
        have u5 := same_new ntk (.tup [.str x, .str cc])
        have htk : (upd F7 tk (.tup [.str x, .str cc])) tk = some (.tup ((kT (x, cc)).map kV)) := upd_same
        have sHz := sHz.trans u5
        have sz := sz.trans u5
        have hDL := u5 _ _ hDL
        have ra := ra.same u5
        show _
        generalize upd F7 tk (.tup [.str x, .str cc]) = F8 at sHz sz htk hDL ra ⊢
        rcases gr.val (x, cc) with ⟨l1, _⟩ | ⟨r2, t2, l1, l2, l3⟩
        · rw [l1] at lk
          cases lk
        rw [l1] at lk
        have er2 : r2 = rowX D (x, cc) := Option.some.inj lk
        subst er2
        have g1 : DGet F8 r (.ref tk) (valV gkv (kT (x, cc))) := .inr ⟨gkv, kT (x, cc), tk, rd_same sHz hgr, rfl, htk, rfl⟩
        rw [l2] at g1
        refine ⟨r, _, rfl, g1, rs, hDL, by rw [lrs, sizeLine_eq]; omega, rs ++ [.ref t2], same_put sz nDL, upd_same, ?_, by rw [List.length_append, lrs] <;> rfl⟩
        rw [List.take_add_one, hx]
        exact RowsAt.snoc (RowsAt.upd hDL ra) ⟨t2, rfl, sqT_upd hDL (same_tup sHz l3)⟩
      · rintro Fz ⟨rs, sz, hDL, ra, _⟩
        obtain ⟨r1, r2, rfl, g1, g2⟩ := RowsAt.two ra
        have sHz := sF.trans sz
        have hsd := sz _ _ hsd
        have hel := sz _ _ hel
        have kr := kr.same sz
        have vt := vt.same sz
        have hpr := sz _ _ hpr
        have hll := sz _ _ hll
        have lt := lt.same sz
        clear ra sz sF nDL
        have mk1 := (FD.row pk.1 ms.1 cc mc).2
        have mk2 := (FD.row pk.2 ms.2 cc mc).2
        obtain ⟨vw, hvw, mvw⟩ := valV_at ((kT_mem hk pk).mpr (List.mem_of_getElem? hsi))
        have cat : ∀ {G : Hp} {Q' : VK}, Same Fz G → (∀ (tw : Addr) (ys : List V) (G' : Hp), Same G G' → G' tw = some (.tup ys) → ys.length ≤ i + 1 → Q' (.ref tw) G') → tOp (rCatA K) (tDGet (tVar 3) (tVar 5)) (tTup (tCons (tVar 7) tNil)) [some (.ref o), some (.str s), some (.str t), some (.ref sd), some (.ref el), some (.ref pr), some (.ref ll), some (.str cc), some (.ref DL), v9, v10, none] G Q' := by
          intro G Q' sG k
          obtain ⟨tv, xs, rfl, htv, lxs⟩ := vt vw mvw
          have dg : DGet G sd (.ref pr) (valV kvs (kT pk)) := .inr ⟨kvs, kT pk, pr, .inl (sG _ _ hsd), rfl, sG _ _ hpr, rfl⟩
          rw [hvw] at dg
          refine ⟨_, rfl, _, rfl, sd, _, rfl, dg, _, rfl, (by show 1 ≤ sizeLine; decide), fun tc ntc => ?_⟩
          have u7 := same_new ntc (.tup [V.str cc])
          refine cat_one (.inl (.inl (u7 _ _ (sG _ _ htv)))) upd_same (by rw [sizeLine_eq]; omega) ?_
          rintro _ G9 s9 ⟨tw, rfl, htw⟩
          exact k tw _ G9 (u7.trans s9) htw (by rw [List.length_append, List.length_singleton]; omega)
        refine ⟨_, rfl, DL, _, 0, _, rfl, rfl, SqL.of hDL, atI_nat (j := 0) rfl, r1, _, 0, _, rfl, rfl, g1, atI_nat (j := 0) rfl, _, rfl, DL, _, 1, _, rfl, rfl, SqL.of hDL, atI_nat (j := 1) rfl, r2, _, 0, _, rfl, rfl, g2, atI_nat (j := 0) rfl, rfl, _, rfl, ?_⟩
        by_cases e : (rowX D (pk.1, cc)).1 = (rowX D (pk.2, cc)).1
        · refine iteN (by simp [e]) ?_
          refine ⟨_, rfl, .inl ⟨rfl, _, SqL.of hll⟩, _, rfl, DL, _, 0, _, rfl, rfl, SqL.of hDL, atI_nat (j := 0) rfl, r1, _, 1, _, rfl, rfl, g1, atI_nat (j := 1) rfl, _, rfl, DL, _, 1, _, rfl, rfl, SqL.of hDL, atI_nat (j := 1) rfl, r2, _, 1, _, rfl, rfl, g2, atI_nat (j := 1) rfl, (by show 2 ≤ sizeLine; decide), fun tg ntg => ?_⟩
          have u8 := same_new ntg (.tup [V.str (rowX D (pk.1, cc)).2, .str (rowX D (pk.2, cc)).2])
          have htg : (upd Fz tg (.tup [V.str (rowX D (pk.1, cc)).2, .str (rowX D (pk.2, cc)).2])) tg = some (.tup [V.str (rowX D (pk.1, cc)).2, .str (rowX D (pk.2, cc)).2]) := upd_same
          refine cat u8 fun tw ys G9 s9 htw lys => ⟨(by show 2 ≤ sizeLine; decide), fun tq ntq => ?_⟩
          have ua := same_new ntq (.tup [V.ref tg, .ref tw])
          have htq : (upd G9 tq (.tup [V.ref tg, .ref tw])) tq = some (.tup [V.ref tg, .ref tw]) := upd_same
          have sAll := (u8.trans s9).trans ua
          have htg := (s9.trans ua) _ _ htg
          have htw := ua _ _ htw
          have hll := sAll _ _ hll
          have hsd := sAll _ _ hsd
          have hel := sAll _ _ hel
          have kr := kr.same sAll
          have vt := vt.same sAll
          have hpr := sAll _ _ hpr
          have lt := lt.same sAll
          have sHz := sHz.trans sAll
          show _
          generalize upd G9 tq (.tup [V.ref tg, .ref tw]) = GA at htq htg htw hll hsd hel kr vt hpr lt sHz ⊢
          refine ⟨ll, _, _, rfl, rfl, hll, by rw [lls_, sizeLine_eq]; omega, _, _, _, _, _, rfl, same_put sHz nllH, ?_, ?_, KeyRefs.updo hll (fun xs z => by cases z) kr, VT.upd hll (fun xs z => by cases z) vt, ?_, upd_same, fun v hv => ?_, by rw [List.length_append, lls_] <;> rfl⟩
          · rw [upd_ne lls]
            exact hsd
          · rw [upd_ne lle]
            exact hel
          · rw [upd_ne (fun z => by rw [z, hll] at hpr; cases hpr)]
            exact hpr
          · rcases List.mem_append.mp hv with hv | hv
            · exact LT.upd hll (fun xs z => by cases z) lt v hv
            · rw [List.mem_singleton.mp hv]
              have lt1 : LT D GA [.ref tq] (i + 1) := fun v hv => by
                rw [List.mem_singleton.mp hv]
                exact ⟨tq, tg, tw, ((rowX D (pk.1, cc)).2, (rowX D (pk.2, cc)).2), ys, rfl, htq, htg, htw, lys, mk1, mk2⟩
              exact LT.upd hll (fun xs z => by cases z) lt1 _ List.mem_cons_self
        · refine iteC (by simp [e]) ?_
          exact cat (Same.refl Fz) fun tw ys G9 s9 htw _ => q2 tw ys G9 (sHz.trans s9) htw
    · clear sF3 hsd3 hel3 kr3 vt3 hpr3 hll
      rintro σ F ⟨ls, v7, v8, v9, v10, rfl, sF, hsd, hel, kr, vt, hpr, hll, lt, lls_⟩
      refine ⟨_, rfl, ll, rfl, ⟨_, SqL.of hll⟩, ?_⟩
      refine for_it walk_list (fun j σ F => ∃ (S' : List (Str × Str)) (kvs' : List (List Key × V)) (vl' : List V) (v9 v10 : Option V), σ = [some (.ref o), some (.str s), some (.str t), some (.ref sd), some (.ref el), some (.ref pr), some (.ref ll), v7, v8, v9, v10, none] ∧ i + 1 ≤ S'.length ∧ SeenOk D S' ∧ Same H F ∧ F sd = some (.dT kvs') ∧ kvs'.map (·.1) = S'.map kT ∧ F el = some (.lst vl') ∧ KeyRefs F vl' (S'.drop (i + 1)) ∧ VT F (kvs'.map (·.2)) (i + 1) ∧
        F ll = some (.lst ls) ∧ LT D F ls (i + 1)) ⟨S, kvs, vr, _, _, rfl, hil, okS, sF, hsd, hk, hel, kr, vt.mono (Nat.le_succ i), hll, lt⟩ (fun j σ F _ ⟨_, _, _, _, _, _, _, _, _, _, _, _, _, _, e, _⟩ => SqL.of e) ?_ ?_
      · clear sF hsd hel kr vt hpr hll lt
        rintro j y σ F F' hj ⟨S', kvs', vl', v9, v10, rfl, hi', okS', sF, hsd, hk', hel, kr, vt, hll, lt⟩ ⟨rfl, hy⟩
        obtain ⟨q, g, w_, k, ys, rfl, hq, hg, hw, lys, m1, m2⟩ := lt y (List.mem_of_getElem? hy)
        refine ⟨q, _, rfl, .inl (.inl hq), rfl, _, _, rfl, _, _, rfl, rfl, ?_⟩
        refine ⟨_, rfl, g, _, 0, _, rfl, rfl, .inl (.inl hg), atI_nat (j := 0) rfl, _, rfl, g, _, 1, _, rfl, rfl, .inl (.inl hg), atI_nat (j := 1) rfl, rfl, _, rfl, ?_⟩
        by_cases e1 : k.1 = k.2
        · exact iteN (by simp [e1]) (iteF ⟨S', kvs', vl', _, _, rfl, hi', okS', sF, hsd, hk', hel, kr, vt, hll, lt⟩)
        have dg : DGet F' sd (.ref g) (valV kvs' (kT k)) := .inr ⟨kvs', kT k, g, .inl hsd, rfl, hg, rfl⟩
        refine iteC (by simp [e1]) ?_
        by_cases mk_ : k ∈ S'
        · obtain ⟨v, hv, _⟩ := valV_at ((kT_mem hk' k).mpr mk_)
          rw [hv] at dg
          exact ⟨_, rfl, _, rfl, sd, _, rfl, dg, _, rfl, iteF ⟨S', kvs', vl', _, _, rfl, hi', okS', sF, hsd, hk', hel, kr, vt, hll, lt⟩⟩
        · have nv := valV_out (fun z => mk_ ((kT_mem hk' k).mp z))
          rw [nv] at dg
          have l16 := okS'.len s4
          have lkv : kvs'.length ≤ 16 := by
            have := congrArg List.length hk'
            rw [List.length_map, List.length_map] at this
            omega
          have dp := DPut.t (v := .ref w_) (k := kT k) hsd hg (by rw [sizeLine_eq]; omega)
          rw [putK_new _ nv] at dp
          have hel9 : (upd F' sd (.dT (kvs' ++ [(kT k, V.ref w_)]))) el = some (.lst vl') := by rw [upd_ne sel.symm]; exact hel
          have lvl : vl'.length ≤ 16 := by
            rw [kr.len, List.length_drop]
            omega
          refine ⟨_, rfl, _, rfl, sd, _, rfl, dg, _, rfl, iteT ⟨_, rfl, _, rfl, _, rfl, sd, _, rfl, dp, _, rfl, .inl ⟨rfl, _, SqL.of hel9⟩, _, rfl, el, _, _, rfl, rfl, hel9, by rw [sizeLine_eq]; omega, S' ++ [k], kvs' ++ [(kT k, .ref w_)], vl' ++ [.ref g], _, _, rfl, by rw [List.length_append]; omega, okS'.snoc mk_ ⟨m1, m2⟩, same_put (same_put sF nsd) nelH, ?_, ?_, upd_same, ?_, ?_, ?_, ?_⟩⟩
          · rw [upd_ne sel]
            exact upd_same
          · rw [List.map_append, hk', List.map_append]
            rfl
          · rw [List.drop_append_of_le_length (by omega)]
            refine KeyRefs.updo hel9 (fun xs z => by cases z) (KeyRefs.updo hsd (fun xs z => by cases z) (kr.app (.cons hg .nil)))
          · refine VT.upd hel9 (fun xs z => by cases z) (VT.upd hsd (fun xs z => by cases z) ?_)
            rw [List.map_append]
            intro v hv
            rcases List.mem_append.mp hv with hv | hv
            · exact vt v hv
            · rw [List.mem_singleton.mp hv]
              exact ⟨w_, ys, rfl, hw, lys⟩
          · rw [upd_ne lle.symm, upd_ne lls.symm]
            exact hll
          · exact LT.upd hel9 (fun xs z => by cases z) (LT.upd hsd (fun xs z => by cases z) lt)
      · rintro σ F ⟨S', kvs', vl', v9, v10, rfl, hi', okS', sF, hsd, hk', hel, kr, vt, hll, lt⟩
        exact ⟨17 - (i + 1), by omega, i + 1, S', kvs', vl', _, _, _, _, _, _, rfl, rfl, hi', okS', sF, hsd, hk', hel, kr, vt⟩
end
end K51
set_option Elab.async false
set_option linter.all false
set_option maxRecDepth 100000
set_option maxHeartbeats 8000000
/-! Whether an own device is least, and a drawn one that mostly is: whatever comes out, it is a drawn device. -/
namespace LG
open PySem L2
theorem for_enumL {K : PySem.W.Frag} {a : Addr} {xs : List V} {g : TG} {tb : TS} {D : Ends} {σ : L2.St} {H : Hp} (Pv : Nat → L2.St → Hp → Prop) (h0 : Pv 0 σ H) (hq : ∀ i σ H, Pv i σ H → SqL K H a xs)
    (hs : ∀ (i : Nat) (x : V) (T : Addr) (σ : L2.St) (H : Hp), xs[i]? = some x → Pv i σ H → H T = none → g (.ref T) σ (upd H T (.tup [.int (i : Nat), x])) fun σ2 H2 => tb { D with nx := Pv (i + 1), ct := Pv (i + 1), bk := D.nx } σ2 H2) (hd : ∀ σ H, Pv xs.length σ H → D.nx σ H) :
    ∃ W : Nat → Nat → L2.St → Hp → Prop, (∃ m, W 0 m σ H) ∧ ∀ i m σ H, W i m σ H →
      ((Ite K a).stop i H ∧ D.nx σ H) ∨ ((Ite K a).go i H ∧ ∃ N : L2.St → Hp → Prop, (∀ σ' H', N σ' H' → ∃ m', m' < m ∧ W (i + 1) m' σ' H') ∧ ∀ v H', (Ite K a).yld i H v H' → g v σ H' fun σ2 H2 => tb { D with nx := N, ct := N, bk := D.nx } σ2 H2) := by
  refine ⟨fun i m σ H => m = xs.length - i ∧ i ≤ xs.length ∧ Pv i σ H, ⟨_, rfl, Nat.zero_le _, h0⟩, ?_⟩
  rintro i m σ H ⟨rfl, hi, pv⟩
  have seq := hq i σ H pv
  by_cases more : i < xs.length
  · have there : xs[i]? = some xs[i] := List.getElem?_eq_getElem more
    refine .inr ⟨⟨xs, _, seq, there⟩, Pv (i + 1), fun σ' H' p' => ⟨xs.length - (i + 1), by omega, rfl, more, p'⟩, fun v H' y => ?_⟩
    obtain ⟨T, x', rfl, free, rfl, same⟩ := y
    have e := same xs seq
    rw [there] at e
    cases e
    exact hs i _ T σ H there pv free
  · have e : i = xs.length := by omega
    subst e
    exact .inl ⟨⟨xs, seq, Nat.le_refl _⟩, hd σ H pv⟩
theorem cut_mem {xs : List V} {lo hi : Option Int} {x : V} (h : x ∈ cutV xs lo hi) : x ∈ xs := by
  unfold cutV at h
  exact List.mem_of_mem_drop (List.mem_of_mem_take h)
theorem ite_any {c : Bool} {A B : Prop} (a : A) (b : B) : if c = true then A else B := by
  cases c
  · exact b
  · exact a
end LG
namespace K51
open PySem L2 LG
section
variable {P : Program} {w : World} {K : PySem.W.Frag} {mg : Str → Option Value} {base : Heap}
def spIsLeast (K : PySem.W.Frag) : Sp := fun vs H Q _ => ∃ (o : Addr) (D : Dev), vs = [.ref o] ∧ OwnL K H o D ∧ Drawn D ∧ ∀ (b : Bool) (G : Hp), Same H G → Q (.bl b) G
abbrev nIl : List Str := ["_law_device_here", "_law_states", "_law_at", "_law_one", "_law_other_here"]
theorem scIl : FnScope nIl ["_law_device_here"] (defScope sIsLeast) := ⟨rfl, rfl, rfl, by decide +kernel, rfl, by decide +kernel, by decide +kernel⟩
theorem ok_isleast {f g1 g2 : Addr} {fd gd1 gd2 : FuncData} (F : Fun K "_law_is_least" "_law_is_least" sIsLeast f fd) (T : Bltn mg)
    (GW : FnOk P w K mg base CX0 1 g1 gd1 ["_law_device_here"] (spWays K)) (mW : mg "_law_ways" = some (.ref g1)) (kW : PySem.W.keepIn K (.ref g1) = true) (bW : Binds K gd1 ["_law_device_here"] [])
    (GP : FnOk P w K mg base CX0 1 g2 gd2 ["_law_device_here", "_law_one", "_law_other_here"] (spLParting K)) (mP : mg "_law_parting" = some (.ref g2)) (kP : PySem.W.keepIn K (.ref g2) = true) (bP : Binds K gd2 ["_law_device_here", "_law_one", "_law_other_here"] []) :
    FnOk P w K mg base CX0 2 f fd ["_law_device_here"] (spIsLeast K) := by
  refine F.ok scIl (fun vs H Q E h => ?_) (fun cdv A0 outer st H vs Q E hr h => ?_)
  · obtain ⟨o, D, rfl, _⟩ := h
    rfl
  obtain ⟨o, D, rfl, hO, dr, q⟩ := h
  have hu := hu_of hr
  have r1 : Room 1 _ := hr.mono (by decide)
  refine' ⟨_, pss_cons (ps_set (i := 1) scIl.nd rfl (Or.inl rfl) (pe_dget hu (pv 0) pe_str (fun _ _ => rfl)))
    (pss_cons (ps_if (pt_cmpR op_lt (pe_callB call_lenD rfl T.len PySem.boot_len (pa_cons (pe_call GW r1 rfl mW kW bW .nil pass0 (pa_cons (pv 0) pa_nil)) pa_nil)) (pe_callB call_len_seq rfl T.len PySem.boot_len (pa_cons (pv 1) pa_nil)) (nomark _)) (pss_one (ps_ret pe_bl)) pss_nil)
    (pss_cons (ps_for PassesOwn.never rfl (pi_enum rfl T.enumerate (pa_cons (pv 1) pa_nil)) (pg_tup rfl (pgs_cons (pg_name (i := 2) scIl.nd rfl (Or.inl rfl)) (pgs_cons (pg_name (i := 3) scIl.nd rfl (Or.inr rfl)) pgs_nil))) (pss_one ?body))
    (pss_one (ps_ret pe_bl)))), ?main⟩
  case body =>
    exact ps_if (pt_not (pt_val (pe_callB (cr_all rfl) rfl T.all (by decide +kernel) (pa_cons (pe_lc (te := tNotN (tCall (spLParting K) [] E0 (tCons (tVar 0) (tCons (tVar 3) (tCons (tVar 4) tNil))))) (own := [("_law_other_here", 4)]) (g := gName 4) (tt := tYes) rfl scIl.nd (pi_list (pe_slice sl_list (pv 1) (po_some (pe_op op_add (pv 2) pe_int)) po_none))
      (blkOk_by (own := [("_law_other_here", 4)]) (N := nIl) (sc := defScope sIsLeast) (by decide +kernel)) (fun _ _ _ _ _ => pg_name (i := 4) scIl.nd rfl (Or.inl rfl)) (fun _ _ _ _ _ => pts_nil)
      (fun _ _ _ _ _ => by exact pe_cmp (pc_notN (pe_call GP r1 rfl mP kP bP .nil pass0 (pa_cons (pv 0) (pa_cons (pv 3) (pa_cons (pv 4) pa_nil))))) rfl)) pa_nil)))) (pss_one (ps_ret pe_bl)) pss_nil
  case main =>
    obtain ⟨c, a, sa, r, gg, h1, h2, h3, h4, h5, h6⟩ := id hO
    have dK := fun (x : Str) (G : Hp) (e : G o = some (.dK [(.inr ("calls" : Str), .ref c), (.inr ("answers" : Str), .ref a), (.inr ("states" : Str), .ref sa), (.inr ("rows" : Str), .ref r)])) => DGet.k (k := Sum.inr x) e
    refine ⟨_, rfl, o, _, rfl, dK "states" H h1, ?_⟩
    refine ⟨_, rfl, o, D, rfl, hO, dr, fun rw_ kvs G sG _ hG hk => ⟨rw_, kvs, rfl, hG, _, rfl, sa, _, rfl, .inl (SqL.of (sG _ _ h4)), _, _, rfl, rfl, _, rfl, ite_any ?_ ?_⟩⟩
    · exact q _ G sG
    refine ⟨_, rfl, sa, _, rfl, SqL.of (sG _ _ h4), ?_⟩
    refine for_enumL (xs := D.states.map V.str) (fun i σ F => ∃ (v2 v3 : Option V), σ = [some (.ref o), some (.ref sa), v2, v3, none] ∧ Same H F) ⟨_, _, rfl, sG⟩ (fun i σ F ⟨_, _, _, sF⟩ => SqL.of (sF _ _ h4)) ?_ ?_
    · rintro i x TT σ F hx ⟨v2, v3, rfl, sF⟩ nT
      obtain ⟨s1, ms1, rfl⟩ := List.mem_map.mp (List.mem_of_getElem? hx)
      have u1 := same_new nT (.tup [V.int (i : Nat), .str s1])
      have sF := sF.trans u1
      refine ⟨TT, _, rfl, .inl (.inl upd_same), rfl, _, _, rfl, _, _, rfl, rfl, ?_⟩
      show _
      generalize upd F TT (.tup [V.int (i : Nat), .str s1]) = F1 at sF ⊢
      refine ⟨_, rfl, _, rfl, _, _, rfl, rfl, _, rfl, sa, _, rfl, SqL.of (sF _ _ h4), fun ql nql => ⟨ql, rfl, ⟨_, SqL.of upd_same⟩, fun DL nDL => ?_⟩⟩
      have cm : ∀ x ∈ cutV (D.states.map V.str) (some (((i : Nat) : Int) + 1)) none, ∃ s, x = .str s ∧ s ∈ D.states := fun x hx => by
        obtain ⟨s, hs, rfl⟩ := List.mem_map.mp (cut_mem hx)
        exact ⟨s, rfl, hs⟩
      have cl := cutV_length (D.states.map V.str) (some (((i : Nat) : Int) + 1)) none
      have u2 := same_new nql (.lst (cutV (D.states.map V.str) (some (((i : Nat) : Int) + 1)) none))
      have hql : (upd F1 ql (.lst (cutV (D.states.map V.str) (some (((i : Nat) : Int) + 1)) none))) ql = some (.lst (cutV (D.states.map V.str) (some (((i : Nat) : Int) + 1)) none)) := upd_same
      have sF := sF.trans u2
      rw [List.length_map] at cl
      have s4 := dr.s1.2
      show _
      generalize upd F1 ql (.lst (cutV (D.states.map V.str) (some (((i : Nat) : Int) + 1)) none)) = F2 at hql sF nDL ⊢
      generalize cutV (D.states.map V.str) (some (((i : Nat) : Int) + 1)) none = xs at cm cl hql ⊢
      refine lc_it walk_list (D := DL) (g := gName 4) (tt := tYes) (te := tNotN (tCall (spLParting K) [] E0 (tCons (tVar 0) (tCons (tVar 3) (tCons (tVar 4) tNil))))) (vs := [4]) (fun j F => ∃ bs : List Bool, Same F2 F ∧ F DL = some (.lst (bs.map V.bl)) ∧ bs.length = j) ⟨[], same_new nDL _, upd_same, rfl⟩ (fun j F _ ⟨_, sF, _⟩ => SqL.of (sF _ _ hql)) ?_ ?_
      · rintro j y F3 F4 hj ⟨bs, sz, hDL, lb⟩ ⟨rfl, hy⟩
        refine ⟨rfl, ?_⟩
        obtain ⟨s2, rfl, ms2⟩ := cm y (List.mem_of_getElem? hy)
        have fin : ∀ (b : Bool) (G : Hp), Same F4 G → ∃ acc, G DL = some (.lst acc) ∧ acc.length < sizeLine ∧ ∃ bs : List Bool, Same F2 (upd G DL (.lst (acc ++ [V.bl b]))) ∧ (upd G DL (.lst (acc ++ [V.bl b]))) DL = some (.lst (bs.map V.bl)) ∧ bs.length = j + 1 := by
          intro b G sG'
          refine ⟨_, sG' _ _ hDL, by rw [List.length_map, lb, sizeLine_eq]; omega, bs ++ [b], same_put (sz.trans sG') nDL, by rw [upd_same, List.map_append] <;> rfl, by rw [List.length_append, lb] <;> rfl⟩
        exact ⟨_, rfl, _, rfl, _, rfl, o, s1, s2, D, rfl, hO.same (sF.trans sz), dr, ms1, ms2, fun G sG' => fin _ G sG', fun tw ys G sG' _ => fin _ G sG'⟩
      · rintro F3 ⟨bs, sz, hDL, lb⟩
        exact ⟨DL, _, rfl, SqL.of hDL, _, rfl, ite_any (q _ F3 (sF.trans sz)) ⟨_, _, rfl, sF.trans sz⟩⟩
    · rintro σ F ⟨v2, v3, rfl, sF⟩
      exact q _ F sF
end
end K51
set_option Elab.async false
set_option linter.all false
set_option maxRecDepth 100000
set_option maxHeartbeats 8000000
namespace K51
open PySem L2 LG
section
variable {P : Program} {w : World} {K : PySem.W.Frag} {mg : Str → Option Value} {base : Heap}
def spDevice (K : PySem.W.Frag) : Sp := fun vs H Q _ => ∃ (p z : Addr) (m n1 n2 b : Nat), vs = [.ref p, .int m, .ref z] ∧ PotAt H p b ∧ b ≤ 40000 ∧ 1 ≤ m ∧ m ≤ 4 ∧ mk p H z = some (.tup [.int n1, .int n2]) ∧ 1 ≤ n1 ∧ n1 ≤ 3 ∧ 2 ≤ n2 ∧ n2 ≤ 3 ∧
  ∀ (o : Addr) (D : Dev) (H' : Hp), But p H H' → PotAt H' p (b + 700) → Drawn D → D.states.length = m → OwnAt K (mk p H') o D → Q (.ref o) H'
abbrev nDv : List Str := ["_law_pot_here", "_law_many", "_law_sizes_here", "_law_found", "_law_lap"]
theorem scDv : FnScope nDv ["_law_pot_here", "_law_many", "_law_sizes_here"] (defScope sDevice) := ⟨rfl, rfl, rfl, by decide +kernel, rfl, by decide +kernel, by decide +kernel⟩
theorem ok_device {f g1 g2 g3 : Addr} {fd gd1 gd2 gd3 : FuncData} (F : Fun K "_law_device" "_law_device" sDevice f fd) (T : Bltn mg)
    (GA : FnOk P w K mg base CX0 3 g1 gd1 ["_law_pot_here", "_law_many", "_law_sizes_here"] (spAny K)) (mA : mg "_law_any_device" = some (.ref g1)) (kA : PySem.W.keepIn K (.ref g1) = true) (bA : Binds K gd1 ["_law_pot_here", "_law_many", "_law_sizes_here"] [])
    (GI : FnOk P w K mg base CX0 2 g2 gd2 ["_law_device_here"] (spIsLeast K)) (mI : mg "_law_is_least" = some (.ref g2)) (kI : PySem.W.keepIn K (.ref g2) = true) (bI : Binds K gd2 ["_law_device_here"] [])
    (GT : FnOk P w K mg base CX0 1 g3 gd3 ["_law_pot_here", "_law_upto"] spTake) (mT : mg "_law_take" = some (.ref g3)) (kT_ : PySem.W.keepIn K (.ref g3) = true) (bT : Binds K gd3 ["_law_pot_here", "_law_upto"] []) :
    FnOk P w K mg base CX0 4 f fd ["_law_pot_here", "_law_many", "_law_sizes_here"] (spDevice K) := by
  refine F.ok scDv (fun vs H Q E h => ?_) (fun cdv A0 outer st H vs Q E hr h => ?_)
  · obtain ⟨p, z, m, n1, n2, b, rfl, _⟩ := h
    rfl
  obtain ⟨p, z, m, n1, n2, b, rfl, hp, hb, m1, m4, hz, a1, a3, c2, c3, q⟩ := h
  have r2 : Room 2 _ := hr.mono (by decide)
  have r1 : Room 1 _ := hr.mono (by decide)
  refine' ⟨_, pss_cons (ps_set (i := 3) scDv.nd rfl (Or.inl rfl) (pe_call GA hr rfl mA kA bA .nil pass0 (pa_cons (pv 0) (pa_cons (pv 1) (pa_cons (pv 2) pa_nil)))))
    (pss_cons (ps_for PassesOwn.never rfl (pi_range1 rfl T.range (pa_cons pe_int pa_nil)) (pg_name (i := 4) scDv.nd rfl (Or.inl rfl)) (pss_one ?body))
    (pss_one (ps_ret (pv 3)))), ?main⟩
  case body =>
    exact ps_if (PW.pt (pw_and (pt_not (pt_val (pe_call GI r2 rfl mI kI bI .nil pass0 (pa_cons (pv 3) pa_nil)))) (pw_and1 (pt_cmpR op_gt (pe_call GT r1 rfl mT kT_ bT .nil pass0 (pa_cons (pv 0) (pa_cons pe_int pa_nil))) pe_int (nomark _))))) (pss_one (ps_set (i := 3) scDv.nd rfl (Or.inl rfl) (pe_call GA hr rfl mA kA bA .nil pass0 (pa_cons (pv 0) (pa_cons (pv 1) (pa_cons (pv 2) pa_nil)))))) pss_nil
  case main =>
    obtain ⟨nzp, hz0⟩ := mk_some hz
    refine ⟨_, rfl, _, rfl, _, rfl, p, z, m, n1, n2, b, rfl, hp, by omega, m1, m4, hz, a1, a3, c2, c3, fun o D H1 but1 pot1 dr lD hO => ?_⟩
    refine ⟨12, rfl, by decide, by decide, ?_⟩
    refine for_range (lo := 0) (n := (12 : Int).toNat) (fun i σ G => ∃ (o : Addr) (D : Dev) (v4 : Option V), σ = [some (.ref p), some (.int m), some (.ref z), some (.ref o), v4] ∧ But p H G ∧ PotAt G p (b + 50 + 51 * i) ∧ LG.Drawn D ∧ D.states.length = m ∧ OwnAt K (mk p G) o D) ⟨o, D, _, rfl, but1, pot1, dr, lD, hO⟩ ?_ ?_
    · clear but1 pot1 dr lD hO
      rintro i σ G hi ⟨o, D, v4, rfl, bG, pG, dr, lD, hO⟩
      have hi : i < 12 := hi
      refine ⟨_, rfl, o, D, rfl, OwnL.same (mk_self p G) (OwnAt.l dr hO), dr, fun bb G1 s1 => ⟨_, rfl, ?_⟩⟩
      cases bb with
      | true => exact iteF (iteF ⟨o, D, _, rfl, bG.trans (But.of s1), (pG.same s1).mono (by omega), dr, lD, hO.same (mk_up s1)⟩)
      | false =>
        refine iteT ⟨_, rfl, p, 30, _, rfl, pG.same s1, by omega, by decide, by decide, fun k G2 k0 k1 but2 pot2 => ⟨_, _, rfl, rfl, _, rfl, ite_any ?_ ?_⟩⟩
        · refine ⟨_, rfl, _, rfl, _, rfl, p, z, m, n1, n2, _, rfl, pot2, by omega, m1, m4, mk_of nzp (but2 _ _ (s1 _ _ (bG _ _ hz0 nzp)) nzp), a1, a3, c2, c3, fun o2 D2 G3 but3 pot3 dr2 lD2 hO2 => ?_⟩
          exact ⟨o2, D2, _, rfl, ((bG.trans (But.of s1)).trans but2).trans but3, pot3.mono (by omega), dr2, lD2, hO2⟩
        · exact ⟨o, D, _, rfl, (bG.trans (But.of s1)).trans but2, pot2.mono (by omega), dr, lD, (hO.same (mk_up s1)).same (mk_but but2)⟩
    · rintro σ G ⟨o, D, v4, rfl, bG, pG, dr, lD, hO⟩
      exact ⟨_, rfl, q o D G bG (pG.mono (by show b + 50 + 51 * 12 ≤ b + 700; omega)) dr lD hO⟩
end
end K51
set_option Elab.async false
set_option linter.all false
set_option maxRecDepth 100000
set_option maxHeartbeats 8000000
/-! Logs as data: what a step is, what a log is, how far a device answers so. -/
namespace LG
open PySem L2 LamX
theorem tup_ty {K : PySem.W.Frag} {H : Hp} {a : Addr} {xs : List V} (h : SqT K H a xs) : TyX K H (.ref a) (.type "tuple") := by
  rcases h with (h | ⟨o, h⟩) | ⟨o, its, n, h, c, _⟩
  · exact .base (.tup h)
  · exact .fTuple h
  · exact .kTuple h c
theorem bits (xs : List V) (f : V → Bool) : (List.range xs.length).map (fun i => V.bl (f (xs.getD i .non))) = (xs.map f).map V.bl := by
  apply List.ext_getElem
  · simp
  · intro k h1 h2
    have hk : k < xs.length := by simpa using h1
    simp [List.getD, hk]
theorem kit_notup {K : PySem.W.Frag} : ∀ T ∈ tyNames, T ≠ "tuple" → PySem.W.kitOne K (.type T) (.type "tuple") = some false := by
  intro T hT ne
  simp only [tyNames, List.mem_cons, List.not_mem_nil, or_false] at hT
  rcases hT with rfl | rfl | rfl | rfl | rfl | rfl | rfl
  all_goals first
    | exact kit_ty (by decide +kernel)
    | exact absurd rfl ne
theorem Dx.ext {K : PySem.W.Frag} {H H' : Hp} {v : V} {d : PyData} (e : ExtN H H') (h : Dx K H v d) : Dx K H' v d := by
  cases h with
  | flat h => exact .flat (Dp_same (mt_self H') _ _ (Dp_same (mt_ext e) _ _ (Dp_mt _ _ h)))
  | dct h p => exact .dct (e _ _ h fun ps z => by cases z) p
theorem Dx.notup {K : PySem.W.Frag} {H : Hp} {v : V} {d : PyData} (h : Dx K H v d) (no : ∀ xs, d ≠ .tuple xs) : ∃ ty, TyX K H v ty ∧ PySem.W.kitOne K ty (.type "tuple") = some false := by
  cases h with
  | flat h =>
    obtain ⟨T, ty, e⟩ := ty_of h
    cases h with
    | tup _ _ => exact absurd rfl (no _)
    | non => exact ⟨_, ty, kit_notup _ (by subst e; simp [tyNames]) (by subst e; simp)⟩
    | bl b => exact ⟨_, ty, kit_notup _ (by subst e; simp [tyNames]) (by subst e; simp)⟩
    | int i => exact ⟨_, ty, kit_notup _ (by subst e; simp [tyNames]) (by subst e; simp)⟩
    | str x => exact ⟨_, ty, kit_notup _ (by subst e; simp [tyNames]) (by subst e; simp)⟩
    | lst _ _ => exact ⟨_, ty, kit_notup _ (by subst e; simp [tyNames]) (by subst e; simp)⟩
  | dct h p => exact ⟨_, .base (.dK h), kit_notup "dict" (by simp [tyNames]) (by simp)⟩
theorem Dx.strOr {K : PySem.W.Frag} {H : Hp} {v : V} {d : PyData} (h : Dx K H v d) : StrOr K H v := by
  cases h with
  | flat h =>
    obtain ⟨T, ty, e⟩ := ty_of h
    cases h with
    | str x => exact .inl ⟨x, rfl⟩
    | non => exact .inr ⟨_, ty, kit_nostr _ (by subst e; simp [tyNames]) (by subst e; simp), fun x z => nomatch z⟩
    | bl b => exact .inr ⟨_, ty, kit_nostr _ (by subst e; simp [tyNames]) (by subst e; simp), fun x z => nomatch z⟩
    | int i => exact .inr ⟨_, ty, kit_nostr _ (by subst e; simp [tyNames]) (by subst e; simp), fun x z => nomatch z⟩
    | lst _ _ => exact .inr ⟨_, ty, kit_nostr _ (by subst e; simp [tyNames]) (by subst e; simp), fun x z => nomatch z⟩
    | tup _ _ => exact .inr ⟨_, ty, kit_nostr _ (by subst e; simp [tyNames]) (by subst e; simp), fun x z => nomatch z⟩
  | dct h p => exact .inr ⟨_, .base (.dK h), kit_nostr "dict" (by simp [tyNames]) (by simp), fun x z => nomatch z⟩
def rNotInTxt (K : PySem.W.Frag) : R2 := fun x y H Q => ∃ (z : Str) (p : Addr) (ns : List Str), x = .str z ∧ y = .ref p ∧ (SqL K H p (ns.map V.str) ∨ SqT K H p (ns.map V.str)) ∧ Q (.bl (!ns.contains z)) H
theorem op_notIn_txt {X : Cx} : OpR X (compareOp .NotIn) (rNotInTxt X.K) := by
  intro pins s σ H x y v u Q I rx ry h
  obtain ⟨z, p, ns, rfl, rfl, hq, q⟩ := h
  refine op_notIn_seq pins s σ H _ _ v u Q I rx ry ⟨p, _, rfl, hq, rfl, flat_txt ns, ?_⟩
  rw [inV_str]
  exact q
def amongD (C : List Str) : PyData → Bool
  | .str x => C.contains x
  | _ => false
theorem among_dp {K : PySem.W.Frag} {H : Hp} {v : V} {d : PyData} {C : List Str} (h : Dp K H v d) : amongB v C = amongD C d := by
  cases h <;> rfl
def isPairD (C A : List Str) : PyData → Bool
  | .tuple [x, y] => amongD C x && amongD A y
  | _ => false
def isLogD (C A : List Str) : PyData → Bool
  | .tuple ds => decide (ds.length ≤ 24) && ds.all (isPairD C A)
  | _ => false
theorem DpAll.get {K : PySem.W.Frag} {H : Hp} : ∀ {xs : List V} {ds : List PyData} {i : Nat} {x : V}, DpAll K H xs ds → xs[i]? = some x → ∃ d, ds[i]? = some d ∧ Dp K H x d
  | _, _, i, x, .nil, h => by simp at h
  | _, _, 0, x, .cons a r, h => by
    simp at h
    subst h
    exact ⟨_, rfl, a⟩
  | _, _, i + 1, x, .cons a r, h => DpAll.get (i := i) r (by simpa using h)
theorem isPair_no {C A : List Str} {d : PyData} (h : ∀ x y, d ≠ .tuple [x, y]) : isPairD C A d = false := by
  cases d with
  | tuple ds =>
    match ds, h with
    | [], _ => rfl
    | [x], _ => rfl
    | [x, y], h => exact absurd rfl (h x y)
    | x :: y :: z :: r, _ => rfl
  | _ => rfl
theorem amongD_str {C : List Str} {d : PyData} (h : amongD C d = true) : ∃ x, d = .str x ∧ x ∈ C := by
  cases d with
  | str x => exact ⟨x, rfl, List.contains_iff_mem.mp h⟩
  | _ => cases h
theorem pair_of {C A : List Str} {d : PyData} (h : isPairD C A d = true) : ∃ k : Str × Str, d = pairD k ∧ k.1 ∈ C ∧ k.2 ∈ A := by
  cases d with
  | tuple ds =>
    match ds, h with
    | [x, y], h =>
      have h : (amongD C x && amongD A y) = true := h
      rw [Bool.and_eq_true] at h
      obtain ⟨a, rfl, ma⟩ := amongD_str h.1
      obtain ⟨b, rfl, mb⟩ := amongD_str h.2
      exact ⟨(a, b), rfl, ma, mb⟩
    | [], h => cases h
    | [x], h => cases h
    | x :: y :: z :: r, h => cases h
  | _ => cases h
theorem pairs_of {C A : List Str} : ∀ {ds : List PyData}, ds.all (isPairD C A) = true → ∃ st : List (Str × Str), ds = st.map pairD ∧ ∀ s ∈ st, s.1 ∈ C ∧ s.2 ∈ A
  | [], _ => ⟨[], rfl, fun _ h => nomatch h⟩
  | d :: r, h => by
    rw [List.all_cons, Bool.and_eq_true] at h
    obtain ⟨k, rfl, mk⟩ := pair_of h.1
    obtain ⟨st, rfl, ms⟩ := pairs_of h.2
    refine ⟨k :: st, rfl, fun s hs => ?_⟩
    rcases List.mem_cons.mp hs with rfl | hs
    · exact mk
    · exact ms s hs
theorem steps_of {C A : List Str} {d : PyData} (h : isLogD C A d = true) : ∃ st : List (Str × Str), d = .tuple (st.map pairD) ∧ st.length ≤ 24 ∧ ∀ s ∈ st, s.1 ∈ C ∧ s.2 ∈ A := by
  cases d with
  | tuple ds =>
    have h : (decide (ds.length ≤ 24) && ds.all (isPairD C A)) = true := h
    rw [Bool.and_eq_true] at h
    obtain ⟨st, rfl, ms⟩ := pairs_of h.2
    exact ⟨st, rfl, by have := of_decide_eq_true h.1; rwa [List.length_map] at this, ms⟩
  | _ => cases h
theorem isLog_of {C A : List Str} {st : List (Str × Str)} (hl : st.length ≤ 24) (h : ∀ s ∈ st, s.1 ∈ C ∧ s.2 ∈ A) : isLogD C A (.tuple (st.map pairD)) = true := by
  show (decide ((st.map pairD).length ≤ 24) && (st.map pairD).all (isPairD C A)) = true
  rw [List.length_map, decide_eq_true hl, Bool.true_and]
  refine List.all_eq_true.mpr fun d hd => ?_
  obtain ⟨k, hk, rfl⟩ := List.mem_map.mp hd
  show (amongD C (.str k.1) && amongD A (.str k.2)) = true
  rw [Bool.and_eq_true]
  exact ⟨List.contains_iff_mem.mpr (h k hk).1, List.contains_iff_mem.mpr (h k hk).2⟩
/-- how many steps the device answers so from a state on -/
def stepsR (D : Dev) : Str → List (Str × Str) → Nat
  | _, [] => 0
  | s, k :: r => if (rowX D (s, k.1)).1 = k.2 then stepsR D (rowX D (s, k.1)).2 r + 1 else 0
/-- the state behind, if all is answered so -/
def endS (D : Dev) : Str → List (Str × Str) → Option Str
  | s, [] => some s
  | s, k :: r => if (rowX D (s, k.1)).1 = k.2 then endS D (rowX D (s, k.1)).2 r else none
theorem stepsR_le (D : Dev) : ∀ (st : List (Str × Str)) (s : Str), stepsR D s st ≤ st.length
  | [], _ => Nat.le_refl _
  | k :: r, s => by
    show (if (rowX D (s, k.1)).1 = k.2 then stepsR D (rowX D (s, k.1)).2 r + 1 else 0) ≤ r.length + 1
    by_cases e : (rowX D (s, k.1)).1 = k.2
    · rw [if_pos e]
      exact Nat.succ_le_succ (stepsR_le D r _)
    · rw [if_neg e]
      exact Nat.zero_le _
/-- i steps on: the state there, what is left -/
structure Along (D : Dev) (s : Str) (st : List (Str × Str)) (i : Nat) (si : Str) : Prop where
  n : stepsR D s st = stepsR D si (st.drop i) + i
  e : endS D s st = endS D si (st.drop i)
  m : si ∈ D.states
theorem Along.start {D : Dev} {s : Str} {st : List (Str × Str)} (m : s ∈ D.states) : Along D s st 0 s := ⟨rfl, rfl, m⟩
theorem Along.step {D : Dev} (FD : Full D) {s : Str} {st : List (Str × Str)} {i : Nat} {si : Str} {k : Str × Str} (a : Along D s st i si) (hk : st[i]? = some k) (mc : k.1 ∈ D.calls) (e : (rowX D (si, k.1)).1 = k.2) : Along D s st (i + 1) (rowX D (si, k.1)).2 := by
  obtain ⟨hi, hk2⟩ := List.getElem?_eq_some_iff.mp hk
  have ed := List.drop_eq_getElem_cons hi
  rw [hk2] at ed
  refine ⟨?_, ?_, (FD.row si a.m k.1 mc).2⟩
  · rw [a.n, ed]
    show (if (rowX D (si, k.1)).1 = k.2 then stepsR D (rowX D (si, k.1)).2 (st.drop (i + 1)) + 1 else 0) + i = _
    rw [if_pos e]
    omega
  · rw [a.e, ed]
    show (if (rowX D (si, k.1)).1 = k.2 then endS D (rowX D (si, k.1)).2 (st.drop (i + 1)) else none) = _
    rw [if_pos e]
theorem Along.wrong {D : Dev} {s : Str} {st : List (Str × Str)} {i : Nat} {si : Str} {k : Str × Str} (a : Along D s st i si) (hk : st[i]? = some k) (e : ¬ (rowX D (si, k.1)).1 = k.2) : stepsR D s st = i ∧ endS D s st = none := by
  obtain ⟨hi, hk2⟩ := List.getElem?_eq_some_iff.mp hk
  have ed := List.drop_eq_getElem_cons hi
  rw [hk2] at ed
  refine ⟨?_, ?_⟩
  · rw [a.n, ed]
    show (if (rowX D (si, k.1)).1 = k.2 then stepsR D (rowX D (si, k.1)).2 (st.drop (i + 1)) + 1 else 0) + i = _
    rw [if_neg e]
    omega
  · rw [a.e, ed]
    show (if (rowX D (si, k.1)).1 = k.2 then endS D (rowX D (si, k.1)).2 (st.drop (i + 1)) else none) = _
    rw [if_neg e]
theorem Along.done {D : Dev} {s : Str} {st : List (Str × Str)} {si : Str} (a : Along D s st st.length si) : stepsR D s st = st.length ∧ endS D s st = some si := by
  have n := a.n
  have e := a.e
  rw [List.drop_length] at n e
  exact ⟨by rw [n]; show 0 + st.length = _; omega, e⟩
/-- a log in the heap -/
def LogAt (K : PySem.W.Frag) (H : Hp) (t : Addr) (st : List (Str × Str)) : Prop := ∃ xs, SqT K H t xs ∧ DpAll K H xs (st.map pairD)
theorem dpAll_same {K : PySem.W.Frag} {H H' : Hp} (e : Same H H') : ∀ {ds : List PyData} {xs : List V}, DpAll K H xs ds → DpAll K H' xs ds
  | [], _, .nil => .nil
  | _ :: _, _, .cons a r => .cons (Dp_same e _ _ a) (dpAll_same e r)
theorem LogAt.same {K : PySem.W.Frag} {H H' : Hp} {t : Addr} {st : List (Str × Str)} (e : Same H H') (h : LogAt K H t st) : LogAt K H' t st := by
  obtain ⟨xs, h1, h2⟩ := h
  exact ⟨xs, same_tup e h1, dpAll_same e h2⟩
theorem pair_dp_inv {K : PySem.W.Frag} {H : Hp} {v : V} {k : Str × Str} (h : Dp K H v (pairD k)) : ∃ q, v = .ref q ∧ SqT K H q [.str k.1, .str k.2] := by
  obtain ⟨a, b⟩ := k
  cases h with
  | tup ht ha =>
    cases ha with
    | cons x r =>
      cases r with
      | cons y r =>
        cases r
        cases x
        cases y
        exact ⟨_, rfl, ht⟩
theorem log_item {K : PySem.W.Frag} {H : Hp} {xs : List V} {st : List (Str × Str)} {i : Nat} {x : V} (h : DpAll K H xs (st.map pairD)) (hx : xs[i]? = some x) : ∃ k q, st[i]? = some k ∧ x = .ref q ∧ SqT K H q [.str k.1, .str k.2] := by
  obtain ⟨d, hd, dp⟩ := DpAll.get h hx
  rw [List.getElem?_map] at hd
  cases e : st[i]? with
  | none =>
    rw [e] at hd
    cases hd
  | some k =>
    rw [e] at hd
    obtain rfl : pairD k = d := Option.some.inj hd
    obtain ⟨q, rfl, hq⟩ := pair_dp_inv dp
    exact ⟨k, q, rfl, rfl, hq⟩
theorem log_dp {K : PySem.W.Frag} {H : Hp} {v : V} {st : List (Str × Str)} (h : Dx K H v (.tuple (st.map pairD))) : ∃ t, v = .ref t ∧ LogAt K H t st := by
  cases h with
  | flat h =>
    cases h with
    | tup ht ha => exact ⟨_, rfl, _, ht, ha⟩
theorem dpAll_len {K : PySem.W.Frag} {H : Hp} : ∀ {ds : List PyData} {xs : List V}, DpAll K H xs ds → xs.length = ds.length
  | _, _, .nil => rfl
  | _, _, .cons _ r => by rw [List.length_cons, List.length_cons, dpAll_len r]
end LG
set_option Elab.async false
set_option linter.all false
set_option maxRecDepth 100000
set_option maxHeartbeats 8000000
/-! The program's side of logs: what is one, how far a device answers so, what is told. -/
namespace K51
open PySem L2 LG
section
variable {P : Program} {w : World} {K : PySem.W.Frag} {mg : Str → Option Value} {base : Heap} {fI : Addr}
/-! ### a step -/
def spIsPair (K : PySem.W.Frag) : Sp := fun vs H Q _ => ∃ (v : V) (d : PyData) (tc ta : Addr) (C A : List Str), vs = [v, .ref tc, .ref ta] ∧ Dp K H v d ∧ SqT K H tc (C.map V.str) ∧ SqT K H ta (A.map V.str) ∧ Q (.bl (isPairD C A d)) H
abbrev nIp : List Str := ["value", "calls", "answers"]
theorem scIp : FnScope nIp ["value", "calls", "answers"] (defScope sIsPair) := ⟨rfl, rfl, rfl, by decide +kernel, rfl, by decide +kernel, by decide +kernel⟩
theorem ok_ispair {f g : Addr} {fd gd : FuncData} (F : Fun K "is_pair" "is_pair" sIsPair f fd) (T : Bltn mg) (G : FnOk P w K mg base CX0 1 g gd ["value", "names"] (spAmong K)) (mG : mg "is_among" = some (.ref g)) (kG : PySem.W.keepIn K (.ref g) = true) (bG : Binds K gd ["value", "names"] []) :
    FnOk P w K mg base CX0 2 f fd ["value", "calls", "answers"] (spIsPair K) := by
  refine F.ok scIp (fun vs H Q E h => ?_) (fun cdv A outer s H vs Q E hr h => ?_)
  · obtain ⟨v, d, tc, ta, C, A, rfl, _⟩ := h
    rfl
  obtain ⟨v, d, tc, ta, C, A, rfl, hd, hc, ha, q⟩ := h
  refine ⟨_, pss_cons (ps_if (PW.pt (pw_or (pt_not (pt_val (pe_callB call_isi rfl T.isinstance (by decide +kernel) (pa_cons (pv 0) (pa_cons (pe_bltn (v := .ty "tuple") (u := .type "tuple") rfl T.tuple (by decide +kernel) rfl) pa_nil))))) (pw_or1 (pt_cmpR op_ne (pe_callB call_len_seq rfl T.len PySem.boot_len (pa_cons (pv 0) pa_nil)) pe_int (nomark _)))))
      (pss_one (ps_ret pe_bl)) pss_nil)
    (pss_one (ps_ret (pe_and (pe_call G hr rfl mG kG bG .nil pass0 (pa_cons (pe_ix ix_tup (pv 0) pe_int (fun _ _ => rfl)) (pa_cons (pv 1) pa_nil))) (pe_one (pe_call G hr rfl mG kG bG .nil pass0 (pa_cons (pe_ix ix_tup (pv 0) pe_int (fun _ _ => rfl)) (pa_cons (pv 2) pa_nil))))))), ?_⟩
  by_cases isT : ∃ ds, d = .tuple ds
  · obtain ⟨ds, rfl⟩ := isT
    cases hd with
    | @tup t xs _ ht hall =>
      refine ⟨_, rfl, .ref t, .ty "tuple", .type "tuple", .type "tuple", true, rfl, .ty _, tup_ty ht, if_pos (beq_self_eq_true _), _, rfl, iteF ?_⟩
      have ll := dpAll_len hall
      refine ⟨_, rfl, t, _, rfl, .inr ht, rfl, _, rfl, ?_⟩
      by_cases l2 : xs.length = 2
      · refine iteN (by simp [l2]) ?_
        match xs, ds, l2, ll, hall, ht with
        | [x, y], [dx, dy], _, _, .cons h1 (.cons h2 .nil), ht =>
          have q : Q (.bl (amongD C dx && amongD A dy)) H := q
          rw [← among_dp (C := C) h1, ← among_dp (C := A) h2] at q
          refine ⟨_, rfl, t, _, 0, _, rfl, rfl, ht, atI_nat (j := 0) rfl, _, rfl, x, tc, C, rfl, (Dx.flat h1).strOr, .inr hc, _, rfl, ?_⟩
          cases e : amongB x C with
          | false =>
            rw [e, Bool.false_and] at q
            exact iteF q
          | true =>
            rw [e, Bool.true_and] at q
            exact iteT ⟨_, rfl, t, _, 1, _, rfl, rfl, ht, atI_nat (j := 1) rfl, _, rfl, y, ta, A, rfl, (Dx.flat h2).strOr, .inr ha, q⟩
      · refine iteC (by simp; omega) ?_
        rw [isPair_no (fun x y e => by cases e; exact l2 (by rw [ll]; rfl))] at q
        exact q
  · obtain ⟨ty, hty, kk⟩ := (Dx.flat hd).notup (fun xs z => isT ⟨xs, z⟩)
    rw [isPair_no (fun x y e => isT ⟨_, e⟩)] at q
    exact ⟨_, rfl, v, .ty "tuple", ty, .type "tuple", false, rfl, .ty _, hty, kk, _, rfl, iteT q⟩
/-! ### a log -/
def spIsRow (K : PySem.W.Frag) : Sp := fun vs H Q _ => ∃ (v : V) (d : PyData) (tc ta : Addr) (C A : List Str), vs = [v, .ref tc, .ref ta, .int 0, .int 24] ∧ Dx K H v d ∧ SqT K H tc (C.map V.str) ∧ SqT K H ta (A.map V.str) ∧ ∀ G, Same H G → Q (.bl (isLogD C A d)) G
abbrev nIr : List Str := ["value", "calls", "answers", "fewest", "most", "pair"]
theorem scIr : FnScope nIr ["value", "calls", "answers", "fewest", "most"] (defScope sIsRow) := ⟨rfl, rfl, rfl, by decide +kernel, rfl, by decide +kernel, by decide +kernel⟩
theorem ok_isrow {f g : Addr} {fd gd : FuncData} (F : Fun K "is_row" "is_row" sIsRow f fd) (T : Bltn mg) (G : FnOk P w K mg base CX0 2 g gd ["value", "calls", "answers"] (spIsPair K)) (mG : mg "is_pair" = some (.ref g)) (kG : PySem.W.keepIn K (.ref g) = true) (bG : Binds K gd ["value", "calls", "answers"] []) :
    FnOk P w K mg base CX0 3 f fd ["value", "calls", "answers", "fewest", "most"] (spIsRow K) := by
  refine F.ok scIr (fun vs H Q E h => ?_) (fun cdv A outer s H vs Q E hr h => ?_)
  · obtain ⟨v, d, tc, ta, C, A, rfl, _⟩ := h
    rfl
  obtain ⟨v, d, tc, ta, C, A, rfl, hd, hc, ha, q⟩ := h
  refine ⟨_, pss_cons (ps_if (PW.pt (pw_or (pt_not (pt_val (pe_callB call_isi rfl T.isinstance (by decide +kernel) (pa_cons (pv 0) (pa_cons (pe_bltn (v := .ty "tuple") (u := .type "tuple") rfl T.tuple (by decide +kernel) rfl) pa_nil))))) (pw_or1 (pt_not (pt_chain op_le op_le (pv 3) (pe_callB call_len_seq rfl T.len PySem.boot_len (pa_cons (pv 0) pa_nil)) (pv 4))))))
      (pss_one (ps_ret pe_bl)) pss_nil)
    (pss_one (ps_ret (pe_callB (cr_all rfl) rfl T.all (by decide +kernel) (pa_cons (pe_lc (own := [("pair", 5)]) (g := gName 5) (tt := tYes) rfl scIr.nd (pi_tup (pv 0)) (blkOk_by (own := [("pair", 5)]) (N := nIr) (sc := defScope sIsRow) (by decide +kernel))
      (fun _ _ _ _ _ => pg_name (i := 5) scIr.nd rfl (Or.inl rfl)) (fun _ _ _ _ _ => pts_nil)
      (fun _ _ _ _ _ => pe_call G hr rfl mG kG bG .nil pass0 (pa_cons (pv 5) (pa_cons (pv 1) (pa_cons (pv 2) pa_nil))))) pa_nil)))), ?_⟩
  by_cases isT : ∃ ds, d = .tuple ds
  · obtain ⟨ds, rfl⟩ := isT
    cases hd with
    | flat hd =>
      cases hd with
      | @tup t xs _ ht hall =>
        refine ⟨_, rfl, .ref t, .ty "tuple", .type "tuple", .type "tuple", true, rfl, .ty _, tup_ty ht, if_pos (beq_self_eq_true _), _, rfl, iteF ?_⟩
        have ll := dpAll_len hall
        refine ⟨_, rfl, _, rfl, t, _, rfl, .inr ht, _, _, rfl, rfl, _, rfl, iteC (decide_eq_true (by omega)) ?_⟩
        refine ⟨_, rfl, _, _, rfl, rfl, _, rfl, ?_⟩
        have eL : isLogD C A (.tuple ds) = (decide (ds.length ≤ 24) && ds.all (isPairD C A)) := rfl
        rw [eL] at q
        by_cases c2 : (xs.length : Int) ≤ 24
        · rw [decide_eq_true c2]
          refine iteF ⟨_, rfl, t, rfl, ⟨_, ht⟩, fun D nD => ?_⟩
          refine lc_all walk_tup nD (fun i => V.bl (isPairD C A (ds.getD i .none))) (by rw [sizeLine_eq]; omega) (fun G sG => same_tup sG ht) ?_ ?_
          · rintro i x G4 G5 Kt hi4 sG ⟨rfl, hx⟩ hK
            obtain ⟨dx, hdx, dpx⟩ := DpAll.get hall hx
            refine ⟨rfl, _, rfl, _, rfl, _, rfl, x, dx, tc, ta, C, A, rfl, Dp_same sG _ _ dpx, same_tup sG hc, same_tup sG ha, ?_⟩
            have := hK _ (Same.refl _)
            rw [List.getD_eq_getElem?_getD, hdx] at this
            exact this
          · intro G sG hD
            have e1 : (List.range xs.length).map (fun i => V.bl (isPairD C A (ds.getD i .none))) = (ds.map (isPairD C A)).map V.bl := by
              rw [ll]
              apply List.ext_getElem
              · simp
              · intro k h1 h2
                have hk : k < ds.length := by simpa using h1
                simp [List.getD, hk]
            rw [e1] at hD
            refine ⟨D, _, rfl, SqL.of hD, ?_⟩
            have := q G sG
            rw [decide_eq_true (by omega), Bool.true_and] at this
            have e : (ds.map (isPairD C A)).all id = ds.all (isPairD C A) := by
              rw [List.all_map]
              rfl
            rw [e]
            exact this
        · rw [decide_eq_false c2]
          have := q H (Same.refl H)
          rw [decide_eq_false (by omega), Bool.false_and] at this
          exact iteT this
  · obtain ⟨ty, hty, kk⟩ := hd.notup (fun xs z => isT ⟨xs, z⟩)
    have e0 : isLogD C A d = false := by
      cases d with
      | tuple ds => exact absurd ⟨ds, rfl⟩ isT
      | _ => rfl
    have := q H (Same.refl H)
    rw [e0] at this
    exact ⟨_, rfl, v, .ty "tuple", ty, .type "tuple", false, rfl, .ty _, hty, kk, _, rfl, iteT this⟩
/-! ### what is no log is refused -/
def spRefLog (K : PySem.W.Frag) (C CL : Addr) : Sp := fun vs H Q E => ∃ (v : V) (d : PyData) (x : Addr) (X : Str) (D : Dev), vs = [v, .ref x] ∧ Dx K H v d ∧ DevAt K H x C X D ∧ (isLogD D.calls D.answers d = false → ∀ a G, Same H G → G a = none → E (.ref CL) (some a) (upd G a (.xd (vf v)))) ∧
  (isLogD D.calls D.answers d = true → ∀ G, Same H G → Q .non G)
theorem scRl : FnScope ["log", "device"] ["log", "device"] (defScope sRefLog) := ⟨rfl, rfl, rfl, by decide +kernel, rfl, by decide +kernel, by decide +kernel⟩
theorem ok_reflog {f g C CL : Addr} {fd gd : FuncData} {tM : Tok} (F : Fun K "refuse_log" "refuse_log" sRefLog f fd) (DC : DevCl K mg C) (I : Ini P w K mg base fI) (cL : ECl K mg fI "BadLog" CL) (hM : mg "MOST_STEPS" = some (.int 24 tM))
    (G : FnOk P w K mg base CX0 3 g gd ["value", "calls", "answers", "fewest", "most"] (spIsRow K)) (mG : mg "is_row" = some (.ref g)) (kG : PySem.W.keepIn K (.ref g) = true) (bG : Binds K gd ["value", "calls", "answers", "fewest", "most"] []) :
    FnOk P w K mg base (L2.CX P w) 4 f fd ["log", "device"] (spRefLog K C CL) := by
  refine F.okX scRl (fun vs H Q E h => ?_) (fun cdv A0 outer st H vs Q E hr h => ?_)
  · obtain ⟨v, d, x, X, D, rfl, _⟩ := h
    rfl
  obtain ⟨v, d, x, X, D, rfl, hd, hD, qn, qy⟩ := h
  have r2 : Room 2 _ := hr.mono (by decide)
  have tk := takes_of (X := cxOf (L2.CX P w) P w K mg base ["log", "device"] "refuse_log" (defScope sRefLog) f cdv A0 outer st H E) rfl rfl rfl rfl
  refine' ⟨_, pss_one (ps_if (pt_not (pt_val (pe_call G hr rfl mG kG bG .nil pass0 (pa_cons (pv 0) (pa_cons (pe_fld (pv 1) rfl) (pa_cons (pe_fld (pv 1) rfl) (pa_cons pe_int (pa_cons (pe_glob (v := .int 24) rfl hM ⟨_, rfl⟩) pa_nil)))))))) (pss_one (ps_err rfl I cL r2 tk (pv 0) rfl)) pss_nil), ?main⟩
  case main =>
    obtain ⟨dx, c0, a0, s0, g0, hx, hc, ha, hs, _⟩ := id hD
    refine ⟨_, rfl, _, rfl, x, C, dx, _, _, rfl, hx, DC.cl, DC.nc, rfl, _, rfl, x, C, dx, _, _, rfl, hx, DC.cl, DC.na, rfl, v, d, c0, a0, D.calls, D.answers, rfl, hd, hc, ha, fun G sG => ⟨_, rfl, ?_⟩⟩
    cases e : isLogD D.calls D.answers d with
    | false => exact iteT ⟨_, rfl, fun a na => qn e a G sG na⟩
    | true => exact iteF (qy e G sG)
end
end K51
set_option Elab.async false
set_option linter.all false
set_option maxRecDepth 100000
set_option maxHeartbeats 8000000
/-! How far a device answers so, where it is then. -/
namespace K51
open PySem L2 LG
section
variable {P : Program} {w : World} {K : PySem.W.Frag} {mg : Str → Option Value} {base : Heap} {fI : Addr}
def spSteps (K : PySem.W.Frag) (C : Addr) : Sp := fun vs H Q _ => ∃ (x t : Addr) (s X : Str) (D : Dev) (st : List (Str × Str)), vs = [.ref x, .str s, .ref t] ∧ DevAt K H x C X D ∧ Fine D ∧ s ∈ D.states ∧ LogAt K H t st ∧ st.length ≤ 24 ∧ (∀ k ∈ st, k.1 ∈ D.calls ∧ k.2 ∈ D.answers) ∧ ∀ G, Same H G → Q (.int (stepsR D s st : Nat)) G
def spBehind (K : PySem.W.Frag) (C : Addr) : Sp := fun vs H Q _ => ∃ (x t : Addr) (s X : Str) (D : Dev) (st : List (Str × Str)), vs = [.ref x, .str s, .ref t] ∧ DevAt K H x C X D ∧ Fine D ∧ s ∈ D.states ∧ LogAt K H t st ∧ (∀ k ∈ st, k.1 ∈ D.calls ∧ k.2 ∈ D.answers) ∧ ∀ G, Same H G → Q (match endS D s st with | some e => .str e | none => .non) G
abbrev nSt : List Str := ["device", "state", "log", "at", "call", "answer", "reply"]
theorem scSt : FnScope nSt ["device", "state", "log"] (defScope sSteps) := ⟨rfl, rfl, rfl, by decide +kernel, rfl, by decide +kernel, by decide +kernel⟩
theorem ok_steps {f g C CS CC : Addr} {fd gd : FuncData} (F : Fun K "steps_right" "steps_right" sSteps f fd) (T : Bltn mg) (DC : DevCl K mg C) (G : FnOk P w K mg base (L2.CX P w) 4 g gd ["self", "state", "call"] (spRow K C CS CC)) (mG : Meth K C "row" g) (bG : Binds K gd ["self", "state", "call"] []) :
    FnOk P w K mg base CX0 5 f fd ["device", "state", "log"] (spSteps K C) := by
  refine F.ok scSt (fun vs H Q E h => ?_) (fun cdv A0 outer st_ H vs Q E hr h => ?_)
  · obtain ⟨x, t, s, X, D, st, rfl, _⟩ := h
    rfl
  obtain ⟨x, t, s, X, D, st, rfl, hD, FD, ms, hL, l24, mk_, q⟩ := h
  refine' ⟨_, pss_cons (ps_for PassesOwn.never rfl (pi_enumT rfl T.enumerate (pa_cons (pv 2) pa_nil)) (pg_tup rfl (pgs_cons (pg_name (i := 3) scSt.nd rfl (Or.inl rfl)) (pgs_cons (pg_tup rfl (pgs_cons (pg_name (i := 4) scSt.nd rfl (Or.inl rfl)) (pgs_cons (pg_name (i := 5) scSt.nd rfl (Or.inl rfl)) pgs_nil))) pgs_nil))) (pss_cons ?row (pss_one ?cond)))
    (pss_one (ps_ret (pe_callB call_len_seq rfl T.len PySem.boot_len (pa_cons (pv 2) pa_nil)))), ?main⟩
  case row => exact ps_asg (pe_meth (pv 0) DC.cl mG G hr bG .nil passF (pa_cons (pv 1) (pa_cons (pv 4) pa_nil))) (pg_tup rfl (pgs_cons (pg_name (i := 6) scSt.nd rfl (Or.inl rfl)) (pgs_cons (pg_name (i := 1) scSt.nd rfl (Or.inl rfl)) pgs_nil)))
  case cond => exact ps_if (pt_cmpR op_ne (pv 6) (pv 5) (nomark _)) (pss_one (ps_ret (pv 3))) pss_nil
  case main =>
    obtain ⟨xs, ht, hall⟩ := hL
    have ll := dpAll_len hall
    rw [List.length_map] at ll
    refine ⟨_, rfl, t, _, rfl, ht, ?_⟩
    refine for_enumT (xs := xs) (fun i σ F => ∃ (si : Str) (v3 v4 v5 v6 : Option V), σ = [some (.ref x), some (.str si), some (.ref t), v3, v4, v5, v6] ∧ Same H F ∧ Along D s st i si) ⟨s, _, _, _, _, rfl, Same.refl H, Along.start ms⟩ (fun i σ F ⟨_, _, _, _, _, _, sF, _⟩ => same_tup sF ht) ?_ ?_
    · rintro i y TT σ F hy ⟨si, v3, v4, v5, v6, rfl, sF, al⟩ nT
      obtain ⟨k, qk, hk, rfl, hq⟩ := log_item hall hy
      have u1 := same_new nT (.tup [V.int (i : Nat), .ref qk])
      have sF := sF.trans u1
      refine ⟨TT, _, rfl, .inl (.inl upd_same), rfl, _, _, rfl, _, _, rfl, qk, _, rfl, same_tup sF hq, rfl, _, _, rfl, _, _, rfl, rfl, rfl, ?_⟩
      show _
      generalize upd F TT (.tup [V.int (i : Nat), .ref qk]) = F1 at sF ⊢
      have mk1 := (mk_ k (List.mem_of_getElem? hk)).1
      have hD1 := hD.same sF
      obtain ⟨dx, _, _, _, _, hx, _⟩ := id hD1
      have a1 : amongB (.str si) D.states = true := List.contains_iff_mem.mpr al.m
      have a2 : amongB (.str k.1) D.calls = true := List.contains_iff_mem.mpr mk1
      refine ⟨_, rfl, x, dx, _, rfl, hx, rfl, _, rfl, _, rfl, x, .str si, .str k.1, X, D, rfl, hD1, .inl ⟨_, rfl⟩, .inl ⟨_, rfl⟩, fun _ _ => ⟨si, k.1, rowX D (si, k.1), rfl, rfl, (FD.full.row _ al.m _ mk1).1, fun tt F2 s2 htt => ?_⟩, ⟨fun z => absurd (z.symm.trans a1) (by decide), fun _ z => absurd (z.symm.trans a2) (by decide)⟩⟩
      refine ⟨tt, _, rfl, htt, rfl, _, _, rfl, _, _, rfl, rfl, ?_⟩
      refine ⟨_, rfl, _, rfl, rfl, _, rfl, ?_⟩
      by_cases e : (rowX D (si, k.1)).1 = k.2
      · exact iteN (by simp [e]) ⟨_, _, _, _, _, rfl, sF.trans s2, al.step FD.full hk mk1 e⟩
      · refine iteC (by simp [e]) ⟨_, rfl, ?_⟩
        have := q F2 (sF.trans s2)
        rw [(al.wrong hk e).1] at this
        exact this
    · rintro σ F ⟨si, v3, v4, v5, v6, rfl, sF, al⟩
      rw [ll] at al
      refine ⟨_, rfl, t, _, rfl, .inr (same_tup sF ht), ?_⟩
      have := q F sF
      rw [al.done.1] at this
      rw [ll]
      exact this
end
end K51
set_option Elab.async false
set_option linter.all false
set_option maxRecDepth 100000
set_option maxHeartbeats 8000000
/-! now, first, torn. -/
namespace LG
open PySem L2
def nowD (D : Dev) (st : List (Str × Str)) : List Str := D.states.filter fun s => decide (some s ∈ D.states.map fun s => endS D s st)
def firstD (D : Dev) (st : List (Str × Str)) : List Str := D.states.filter fun s => decide (stepsR D s st = st.length)
def endV (o : Option Str) : V := match o with
  | some e => .str e
  | none => .non
theorem inV_ends {x : Str} : ∀ {os : List (Option Str)}, inV (.str x) (os.map endV) = decide (some x ∈ os)
  | [] => by simp [inV]
  | o :: r => by
    have ih := inV_ends (x := x) (os := r)
    unfold inV at ih ⊢
    rw [List.map_cons, List.any_cons, ih]
    cases o with
    | none => simp [endV, eqV]
    | some y =>
      by_cases e : x = y
      · subst e
        simp [endV, eqV]
      · have e2 : ¬ y = x := fun z => e z.symm
        simp [endV, eqV, e, e2]
theorem flat_ends (os : List (Option Str)) : (os.map endV).all flatV = true := by
  refine List.all_eq_true.mpr fun v hv => ?_
  obtain ⟨o, _, rfl⟩ := List.mem_map.mp hv
  cases o <;> rfl
/-- the most steps that are right from any state on -/
def IsMost (D : Dev) (st : List (Str × Str)) (m : Nat) : Prop := (∃ s ∈ D.states, stepsR D s st = m) ∧ ∀ s ∈ D.states, stepsR D s st ≤ m
end LG
namespace K51
open PySem L2 LG
section
variable {P : Program} {w : World} {K : PySem.W.Frag} {mg : Str → Option Value} {base : Heap} {fI : Addr}
/-- a look at a log: what is none is refused -/
def spLook (K : PySem.W.Frag) (C CL : Addr) (R : Dev → List (Str × Str) → VK → Hp → Prop) : Sp := fun vs H Q E => ∃ (x : Addr) (v : V) (d : PyData) (X : Str) (D : Dev), vs = [.ref x, v] ∧ DevAt K H x C X D ∧ Fine D ∧ Dx K H v d ∧
  (isLogD D.calls D.answers d = false → ∀ a G, Same H G → G a = none → E (.ref CL) (some a) (upd G a (.xd (vf v)))) ∧
  (∀ st : List (Str × Str), d = .tuple (st.map pairD) → st.length ≤ 24 → (∀ k ∈ st, k.1 ∈ D.calls ∧ k.2 ∈ D.answers) → R D st Q H)
def spNow (K : PySem.W.Frag) (C CL : Addr) : Sp := spLook K C CL fun D st Q H => ∀ tw G, Same H G → G tw = some (.tup ((nowD D st).map V.str)) → Q (.ref tw) G
def spFirst (K : PySem.W.Frag) (C CL : Addr) : Sp := spLook K C CL fun D st Q H => ∀ tw G, Same H G → G tw = some (.tup ((firstD D st).map V.str)) → Q (.ref tw) G
def spTorn (K : PySem.W.Frag) (C CL : Addr) : Sp := spLook K C CL fun D st Q H => ∀ m G, Same H G → IsMost D st m → Q (if m < st.length then .int (m : Nat) else .non) G
abbrev nFi : List Str := ["device", "log", "state"]
theorem scFi : FnScope nFi ["device", "log"] (defScope sFirst) := ⟨rfl, rfl, rfl, by decide +kernel, rfl, by decide +kernel, by decide +kernel⟩
theorem ok_first {f g1 g2 C CL : Addr} {fd gd1 gd2 : FuncData} (F : Fun K "first" "first" sFirst f fd) (T : Bltn mg) (DC : DevCl K mg C)
    (GR_ : FnOk P w K mg base (L2.CX P w) 4 g1 gd1 ["log", "device"] (spRefLog K C CL)) (mR : mg "refuse_log" = some (.ref g1)) (kR : PySem.W.keepIn K (.ref g1) = true) (bR : Binds K gd1 ["log", "device"] [])
    (GB : FnOk P w K mg base CX0 5 g2 gd2 ["device", "state", "log"] (spSteps K C)) (mB : mg "steps_right" = some (.ref g2)) (kB : PySem.W.keepIn K (.ref g2) = true) (bB : Binds K gd2 ["device", "state", "log"] []) :
    FnOk P w K mg base (L2.CX P w) 6 f fd ["device", "log"] (spFirst K C CL) := by
  refine F.okX scFi (fun vs H Q E h => ?_) (fun cdv A0 outer st_ H vs Q E hr h => ?_)
  · obtain ⟨x, v, d, X, D, rfl, _⟩ := h
    rfl
  obtain ⟨x, v, d, X, D, rfl, hD, FD, hd, qn, qy⟩ := h
  have r4 : Room 4 _ := hr.mono (by decide)
  have tk := takes_of (X := cxOf (L2.CX P w) P w K mg base nFi "first" (defScope sFirst) f cdv A0 outer st_ H E) rfl rfl rfl rfl
  refine' ⟨_, pss_cons (ps_expr (pe_call GR_ r4 rfl mR kR bR .nil (passes_call tk (fun _ _ _ _ h => h)) (pa_cons (pv 1) (pa_cons (pv 0) pa_nil))))
    (pss_one (ps_ret (pe_callTy call_tuple_of rfl T.tuple (by decide +kernel) (pa_cons (pe_lc (te := tVar 2) (tt := tTest (tOp rEq (tCall (spSteps K C) [] E0 (tCons (tVar 0) (tCons (tVar 2) (tCons (tVar 1) tNil)))) (tCB (fun xs H Q => ∃ p ys, xs = [.ref p] ∧ (SqL K H p ys ∨ SqT K H p ys) ∧ Q (.int ys.length) H) (tCons (tVar 1) tNil)))) (own := [("state", 2)]) (g := gName 2) rfl scFi.nd (pi_tup (pe_fld (pv 0) rfl)) (blkOk_by (own := [("state", 2)]) (N := nFi) (sc := defScope sFirst) (by decide +kernel))
      (fun _ _ _ _ _ => pg_name (i := 2) scFi.nd rfl (Or.inl rfl)) (fun _ _ _ _ _ => by exact pts_one (pt_cmpR op_eq (pe_call GB hr rfl mB kB bB .nil pass0 (pa_cons (pv 0) (pa_cons (pv 2) (pa_cons (pv 1) pa_nil)))) (pe_callB call_len_seq rfl T.len PySem.boot_len (pa_cons (pv 1) pa_nil)) (nomark _))) (fun _ _ _ _ _ => pv 2)) pa_nil)))), ?main⟩
  case main =>
    refine ⟨_, rfl, _, rfl, v, d, x, X, D, rfl, hd, hD, qn, fun el G sG => ?_⟩
    obtain ⟨st, rfl, l24, mk_⟩ := steps_of el
    obtain ⟨t, rfl, hL⟩ := log_dp hd
    have qy := qy st rfl l24 mk_
    have hD1 := hD.same sG
    have hL1 := hL.same sG
    obtain ⟨dx, c0, a0, s0, g0, hx, hc, ha, hs, _⟩ := id hD1
    have s4 := FD.s4
    refine ⟨_, rfl, x, C, dx, _, _, rfl, hx, DC.cl, DC.ns, rfl, _, rfl, ⟨_, hs⟩, fun D2 nD2 => ?_⟩
    refine lc_it walk_tup (D := D2) (g := gName 2) (tt := tTest (tOp rEq (tCall (spSteps K C) [] E0 (tCons (tVar 0) (tCons (tVar 2) (tCons (tVar 1) tNil)))) (tCB (fun xs H Q => ∃ p ys, xs = [.ref p] ∧ (SqL K H p ys ∨ SqT K H p ys) ∧ Q (.int ys.length) H) (tCons (tVar 1) tNil)))) (te := tVar 2) (vs := [2]) (fun j F => Same G F ∧ F D2 = some (.lst (((D.states.take j).filter fun s => decide (stepsR D s st = st.length)).map V.str))) ⟨same_new nD2 _, upd_same⟩ (fun j F _ h => same_tup h.1 hs) ?_ ?_
    · rintro j y F5 F6 hj ⟨s5, h5⟩ ⟨rfl, hy⟩
      have hj : j < D.states.length := by
        rw [List.length_map] at hj
        exact hj
      rw [List.getElem?_map, List.getElem?_eq_getElem hj] at hy
      have ey : y = .str D.states[j] := (Option.some.inj hy).symm
      subst ey
      have ej := List.getElem?_eq_getElem hj
      have ms : D.states[j] ∈ D.states := List.getElem_mem hj
      generalize D.states[j] = sj at ej ms
      have et : D.states.take (j + 1) = D.states.take j ++ [sj] := by rw [List.take_add_one, ej]; rfl
      refine ⟨rfl, _, rfl, _, rfl, _, rfl, x, t, sj, X, D, st, rfl, hD1.same s5, FD, ms, hL1.same s5, l24, mk_, fun G7 s7 => ?_⟩
      obtain ⟨xs, hxs, hall⟩ := hL1.same (s5.trans s7)
      have ll := dpAll_len hall
      rw [List.length_map] at ll
      refine ⟨_, rfl, t, _, rfl, .inr hxs, rfl, _, rfl, ?_⟩
      have s57 := s5.trans s7
      have h57 := s7 _ _ h5
      rw [ll]
      by_cases e' : stepsR D sj st = st.length
      · have lf : ((D.states.take j).filter fun s => decide (stepsR D s st = st.length)).length ≤ 4 := by
          have h1 := List.length_filter_le (fun s => decide (stepsR D s st = st.length)) (D.states.take j)
          rw [List.length_take] at h1
          omega
        refine iteC (by simp [e']) ⟨_, rfl, _, h57, by rw [List.length_map, sizeLine_eq]; omega, same_put s57 nD2, ?_⟩
        have z : [sj].filter (fun s => decide (stepsR D s st = st.length)) = [sj] := List.filter_cons_of_pos (decide_eq_true e')
        rw [upd_same, et, List.filter_append, List.map_append, z]
        rfl
      · refine iteN (by simp; omega) ⟨s57, ?_⟩
        have z : [sj].filter (fun s => decide (stepsR D s st = st.length)) = [] := List.filter_cons_of_neg (by simp [e'])
        rw [et, List.filter_append, z, List.append_nil]
        exact h57
    · rintro F5 ⟨s5, h5⟩
      rw [List.length_map, List.take_length] at h5
      refine ⟨D2, _, rfl, .inl ⟨SqL.of h5, fun tw ntw => ?_⟩⟩
      exact qy tw _ ((sG.trans s5).trans (same_new ntw _)) upd_same
end
end K51
set_option Elab.async false
set_option linter.all false
set_option maxRecDepth 100000
set_option maxHeartbeats 8000000
namespace K51
open PySem L2 LG
section
variable {P : Program} {w : World} {K : PySem.W.Frag} {mg : Str → Option Value} {base : Heap} {fI : Addr}
/-! ### the package's device of an own one -/
def spMade (K : PySem.W.Frag) (C : Addr) : Sp := fun vs H Q _ => ∃ (o : Addr) (D : Dev), vs = [.ref o] ∧ OwnL K H o D ∧ Drawn D ∧ ∀ (x : Addr) (G : Hp), Same H G → DevAt K G x C (textOf D (prodK D.states D.calls)) (readOf D (prodK D.states D.calls)) → Q (.ref x) G
theorem scMade : FnScope ["_law_device_here"] ["_law_device_here"] (defScope sMade) := ⟨rfl, rfl, rfl, by decide +kernel, rfl, by decide +kernel, by decide +kernel⟩
theorem ok_made {f g1 g2 C CB : Addr} {fd gd1 gd2 : FuncData} (F : Fun K "_law_here" "_law_here" sMade f fd) (DC : DevCl K mg C)
    (GX : FnOk P w K mg base CX0 1 g1 gd1 ["_law_device_here"] (spText K)) (mX : mg "_law_text" = some (.ref g1)) (kX : PySem.W.keepIn K (.ref g1) = true) (bX : Binds K gd1 ["_law_device_here"] [])
    (GI : FnOk P w K mg base (L2.CX P w) 4 g2 gd2 ["self", "text"] (spDInit K C CB)) (MI : Mk K C g2) (bI : L2.Binds K gd2 ["self", "text"] []) :
    FnOk P w K mg base CX0 6 f fd ["_law_device_here"] (spMade K C) := by
  refine F.ok scMade (fun vs H Q E h => ?_) (fun cdv A0 outer st H vs Q E hr h => ?_)
  · obtain ⟨o, D, rfl, _⟩ := h
    rfl
  obtain ⟨o, D, rfl, hO, dr, q⟩ := h
  have r1 : Room 1 _ := hr.mono (by decide)
  refine ⟨_, pss_one (ps_ret (pe_make MI GI hr rfl DC.mg bI .nil passF (pa_cons (pe_call GX r1 rfl mX kX bX .nil pass0 (pa_cons (pv 0) pa_nil)) pa_nil))), ?_⟩
  refine ⟨_, rfl, o, D, rfl, hO, dr, fun H1 s1 => ?_⟩
  have pm : (prodK D.states D.calls).Perm (D.goals.map (·.1)) := by rw [dr.keys]
  have mem : ∀ k ∈ prodK D.states D.calls, k ∈ D.goals.map (·.1) := fun k hk => pm.mem_iff.mp hk
  have len12 : (prodK D.states D.calls).length ≤ 12 := by
    rw [prod_len]
    exact Nat.mul_le_mul dr.s1.2 dr.c1.2
  have tl := dr.text_len mem len12
  refine fun x dx nx ndx nex => ⟨x, dx, .str (textOf D (prodK D.states D.calls)), rfl, upd_same, .inl ⟨_, rfl⟩, (fun T' e => ?_), (fun T' D' e hpa G but dev => ⟨rfl, ?_⟩), fun n hn => ?_⟩
  · cases e
    exact tl
  rotate_left
  · exfalso
    have e : parse (textOf D (prodK D.states D.calls)) = .inl n := hn
    rw [dr.read pm] at e
    cases e
  cases e
  rw [dr.read pm] at hpa
  cases hpa
  exact q x G (s1.trans (made nx ndx but)) dev
/-! ### whether any value is a log -/
def isStrD : PyData → Bool
  | .str _ => true
  | _ => false
def spIsLog (K : PySem.W.Frag) : Sp := fun vs H Q _ => ∃ (o : Addr) (v : V) (d : PyData) (D : Dev), vs = [.ref o, v] ∧ OwnL K H o D ∧ Dx K H v d ∧ ∀ G, Same H G → Q (.bl (isLogD D.calls D.answers d)) G
abbrev nLg : List Str := ["_law_device_here", "_law_value", "_law_step", "_law_word"]
theorem scLg : FnScope nLg ["_law_device_here", "_law_value"] (defScope sIsLog) := ⟨rfl, rfl, rfl, by decide +kernel, rfl, by decide +kernel, by decide +kernel⟩
def tStr (K : PySem.W.Frag) : TE := fun σ H Q => ∃ (v : V) (d : PyData), σ[3]? = some (some v) ∧ Dp K H v d ∧ Q (.bl (isStrD d)) H
theorem isstr_dp {H : Hp} {v : V} {d : PyData} (h : Dp K H v d) : ∃ t, TyX K H v t ∧ PySem.W.kitOne K t (.type "str") = some (isStrD d) := by
  obtain ⟨T, ty, e⟩ := ty_of h
  cases h with
  | str x => exact ⟨_, ty, by subst e; exact kit_self⟩
  | non => exact ⟨_, ty, kit_nostr _ (by subst e; simp [tyNames]) (by subst e; simp)⟩
  | bl b => exact ⟨_, ty, kit_nostr _ (by subst e; simp [tyNames]) (by subst e; simp)⟩
  | int i => exact ⟨_, ty, kit_nostr _ (by subst e; simp [tyNames]) (by subst e; simp)⟩
  | lst _ _ => exact ⟨_, ty, kit_nostr _ (by subst e; simp [tyNames]) (by subst e; simp)⟩
  | tup _ _ => exact ⟨_, ty, kit_nostr _ (by subst e; simp [tyNames]) (by subst e; simp)⟩
theorem ok_islog {f : Addr} {fd : FuncData} (F : Fun K "_law_is_log" "_law_is_log" sIsLog f fd) (T : Bltn mg) : FnOk P w K mg base CX0 1 f fd ["_law_device_here", "_law_value"] (spIsLog K) := by
  refine F.ok scLg (fun vs H Q E h => ?_) (fun cdv A0 outer st H vs Q E hr h => ?_)
  · obtain ⟨o, v, d, D, rfl, _⟩ := h
    rfl
  obtain ⟨o, v, d, D, rfl, hO, hd, q⟩ := h
  have hu := hu_of hr
  refine' ⟨_, pss_cons (ps_if (PW.pt (pw_or (pt_not (pt_val (pe_callB call_isi rfl T.isinstance (by decide +kernel) (pa_cons (pv 1) (pa_cons (pe_bltn (v := .ty "tuple") (u := .type "tuple") rfl T.tuple (by decide +kernel) rfl) pa_nil))))) (pw_or1 (pt_cmpR op_gt (pe_callB call_len_seq rfl T.len PySem.boot_len (pa_cons (pv 1) pa_nil)) pe_int (nomark _))))) (pss_one (ps_ret pe_bl)) pss_nil)
    (pss_cons (ps_for PassesOwn.never rfl (pi_tup (pv 1)) (pg_name (i := 2) scLg.nd rfl (Or.inl rfl)) (pss_cons ?c1 (pss_one ?c2))) (pss_one (ps_ret pe_bl))), ?main⟩
  case c1 =>
    exact ps_if (PW.pt (pw_or (pt_not (pt_val (pe_callB call_isi rfl T.isinstance (by decide +kernel) (pa_cons (pv 2) (pa_cons (pe_bltn (v := .ty "tuple") (u := .type "tuple") rfl T.tuple (by decide +kernel) rfl) pa_nil))))) (pw_or (pt_cmpR op_ne (pe_callB call_len_seq rfl T.len PySem.boot_len (pa_cons (pv 2) pa_nil)) pe_int (nomark _))
      (pw_or1 (pt_not (pt_val (pe_callB (cr_all rfl) rfl T.all (by decide +kernel) (pa_cons (pe_lc (te := tStr K) (own := [("_law_word", 3)]) (g := gName 3) (tt := tYes) rfl scLg.nd (pi_tup (pv 2)) (blkOk_by (own := [("_law_word", 3)]) (N := nLg) (sc := defScope sIsLog) (by decide +kernel))
        (fun _ _ _ _ _ => pg_name (i := 3) scLg.nd rfl (Or.inl rfl)) (fun _ _ _ _ _ => pts_nil)
        (fun _ _ _ _ _ => by
          refine' pe_imp (t' := tStr K) (pe_callB call_isi rfl T.isinstance (by decide +kernel) (pa_cons (pv 3) (pa_cons (pe_bltn (v := .ty "str") (u := .type "str") rfl T.str (by decide +kernel) rfl) pa_nil))) ?_
          rintro σ H Q ⟨v, d, e3, hd, k⟩
          obtain ⟨t, ty, kk⟩ := isstr_dp hd
          exact ⟨_, e3, v, _, t, _, _, rfl, .ty _, ty, kk, k⟩)) pa_nil))))))))
      (pss_one (ps_ret pe_bl)) pss_nil
  case c2 =>
    exact ps_if (PW.pt (pw_or (pt_cmpR op_notIn_txt (pe_ix ix_tup (pv 2) pe_int (fun _ _ => rfl)) (pe_dget hu (pv 0) pe_str (fun _ _ => rfl)) (by rfl)) (pw_or1 (pt_cmpR op_notIn_txt (pe_ix ix_tup (pv 2) pe_int (fun _ _ => rfl)) (pe_dget hu (pv 0) pe_str (fun _ _ => rfl)) (by rfl))))) (pss_one (ps_ret pe_bl)) pss_nil
  case main =>
    obtain ⟨c, a, sa, r, gg, h1, h2, h3, h4, h5, h6⟩ := hO
    have dK := fun (x : Str) (G : Hp) (e : G o = some (.dK [(.inr ("calls" : Str), .ref c), (.inr ("answers" : Str), .ref a), (.inr ("states" : Str), .ref sa), (.inr ("rows" : Str), .ref r)])) => DGet.k (k := Sum.inr x) e
    by_cases isT : ∃ ds, d = .tuple ds
    rotate_left
    · obtain ⟨ty, hty, kk⟩ := hd.notup (fun xs z => isT ⟨xs, z⟩)
      have e0 : isLogD D.calls D.answers d = false := by
        cases d with
        | tuple ds => exact absurd ⟨ds, rfl⟩ isT
        | _ => rfl
      have := q H (Same.refl H)
      rw [e0] at this
      exact ⟨_, rfl, v, .ty "tuple", ty, .type "tuple", false, rfl, .ty _, hty, kk, _, rfl, iteT this⟩
    obtain ⟨ds, rfl⟩ := isT
    cases hd with
    | flat hd =>
      cases hd with
      | @tup t xs _ ht hall =>
        have ll := dpAll_len hall
        have eL : isLogD D.calls D.answers (.tuple ds) = (decide (ds.length ≤ 24) && ds.all (isPairD D.calls D.answers)) := rfl
        rw [eL] at q
        refine ⟨_, rfl, .ref t, .ty "tuple", .type "tuple", .type "tuple", true, rfl, .ty _, tup_ty ht, if_pos (beq_self_eq_true _), _, rfl, iteF ⟨_, rfl, t, _, rfl, .inr ht, _, _, rfl, rfl, _, rfl, ?_⟩⟩
        by_cases c2 : ds.length ≤ 24
        rotate_left
        · refine iteC (decide_eq_true (by omega)) ?_
          have := q H (Same.refl H)
          rw [decide_eq_false c2, Bool.false_and] at this
          exact this
        refine iteN (decide_eq_false (by omega)) ?_
        rw [decide_eq_true c2] at q
        refine ⟨_, rfl, t, rfl, ⟨_, ht⟩, ?_⟩
        refine for_it walk_tup (fun i σ F => ∃ v2, σ = [some (.ref o), some (.ref t), v2, none] ∧ Same H F ∧ (ds.take i).all (isPairD D.calls D.answers) = true) ⟨_, rfl, Same.refl H, rfl⟩ (fun i σ F _ ⟨_, _, sF, _⟩ => same_tup sF ht) ?_ ?_
        · rintro i y σ F F1 hi ⟨v2, rfl, sF, al⟩ ⟨rfl, hy⟩
          obtain ⟨dy, hdy, dpy⟩ := DpAll.get hall hy
          have dpy := Dp_same sF _ _ dpy
          have bad : isPairD D.calls D.answers dy = false → ∀ G, Same F1 G → Q (.bl false) G := fun e G sG => by
            have := q G (sF.trans sG)
            have ef : ds.all (isPairD D.calls D.answers) = false := by
              cases h : ds.all (isPairD D.calls D.answers) with
              | false => rfl
              | true =>
                have := List.all_eq_true.mp h dy (List.mem_of_getElem? hdy)
                rw [e] at this
                cases this
            rw [ef] at this
            exact this
          have good : isPairD D.calls D.answers dy = true → (ds.take (i + 1)).all (isPairD D.calls D.answers) = true := fun e => by
            rw [List.take_add_one, hdy, List.all_append, al]
            show ([dy].all _) = true
            rw [List.all_cons, e]
            rfl
          by_cases isT2 : ∃ es, dy = .tuple es
          rotate_left
          · obtain ⟨ty, hty, kk⟩ := (Dx.flat dpy).notup (fun xs z => isT2 ⟨xs, z⟩)
            exact ⟨_, rfl, y, .ty "tuple", ty, .type "tuple", false, rfl, .ty _, hty, kk, _, rfl, iteT (bad (isPair_no (fun x y e => isT2 ⟨_, e⟩)) F1 (Same.refl _))⟩
          obtain ⟨es, rfl⟩ := isT2
          cases dpy with
          | @tup t2 ys _ ht2 hall2 =>
            have l2 := dpAll_len hall2
            refine ⟨_, rfl, .ref t2, .ty "tuple", .type "tuple", .type "tuple", true, rfl, .ty _, tup_ty ht2, if_pos (beq_self_eq_true _), _, rfl, iteF ⟨_, rfl, t2, _, rfl, .inr ht2, rfl, _, rfl, ?_⟩⟩
            by_cases e2 : ys.length = 2
            rotate_left
            · refine iteC (by simp; omega) (iteT (bad (isPair_no (fun x y e => by cases e; exact e2 (by rw [l2]; rfl))) F1 (Same.refl _)))
            refine iteN (by simp [e2]) ?_
            match ys, es, e2, l2, hall2, ht2 with
            | [x1, x2], [d1, d2], _, _, .cons p1 (.cons p2 .nil), ht2 =>
              refine ⟨_, rfl, t2, rfl, ⟨_, ht2⟩, fun DL nDL => ?_⟩
              refine lc_all walk_tup nDL (fun j => V.bl (isStrD ([d1, d2].getD j .none))) (by show 2 ≤ sizeLine; decide) (fun G sG => same_tup sG ht2) ?_ ?_
              · rintro j x G4 G5 Kt hj sG ⟨rfl, hx⟩ hK
                refine ⟨rfl, ?_⟩
                have hj2 : j < 2 := hj
                have kk := hK _ (Same.refl _)
                match j, hj2, hx, kk with
                | 0, _, hx, kk =>
                  cases hx
                  exact ⟨x1, d1, rfl, Dp_same sG _ _ p1, kk⟩
                | 1, _, hx, kk =>
                  cases hx
                  exact ⟨x2, d2, rfl, Dp_same sG _ _ p2, kk⟩
              · intro G sG hDL
                have e1 : (List.range ([x1, x2] : List V).length).map (fun j => V.bl (isStrD ([d1, d2].getD j .none))) = [isStrD d1, isStrD d2].map V.bl := rfl
                rw [e1] at hDL
                refine ⟨DL, _, rfl, SqL.of hDL, _, rfl, ?_⟩
                by_cases s1 : ∃ z1, d1 = .str z1
                rotate_left
                · have f1 : isStrD d1 = false := by
                    cases d1 with
                    | str z => exact absurd ⟨z, rfl⟩ s1
                    | _ => rfl
                  have nb : isPairD D.calls D.answers (.tuple [d1, d2]) = false := by
                    show (amongD D.calls d1 && _) = false
                    have : amongD D.calls d1 = false := by
                      cases d1 with
                      | str z => exact absurd ⟨z, rfl⟩ s1
                      | _ => rfl
                    rw [this, Bool.false_and]
                  rw [f1]
                  exact iteT (bad nb G sG)
                by_cases s2 : ∃ z2, d2 = .str z2
                rotate_left
                · have f2 : isStrD d2 = false := by
                    cases d2 with
                    | str z => exact absurd ⟨z, rfl⟩ s2
                    | _ => rfl
                  have nb : isPairD D.calls D.answers (.tuple [d1, d2]) = false := by
                    show (amongD D.calls d1 && amongD D.answers d2) = false
                    have : amongD D.answers d2 = false := by
                      cases d2 with
                      | str z => exact absurd ⟨z, rfl⟩ s2
                      | _ => rfl
                    rw [this, Bool.and_false]
                  rw [f2]
                  refine iteC ?_ (bad nb G sG)
                  simp
                obtain ⟨z1, rfl⟩ := s1
                obtain ⟨z2, rfl⟩ := s2
                cases p1
                cases p2
                refine iteF ?_
                have ht3 := same_tup sG ht2
                have sFG := sF.trans sG
                have ep : isPairD D.calls D.answers (.tuple [.str z1, .str z2]) = (amongB (.str z1) D.calls && amongB (.str z2) D.answers) := rfl
                rw [ep] at bad good
                refine ⟨_, rfl, t2, _, 0, _, rfl, rfl, ht3, atI_nat (j := 0) rfl, _, rfl, o, _, rfl, dK "calls" _ (sFG _ _ h1), z1, c, _, rfl, rfl, .inl (SqL.of (sFG _ _ h2)), _, rfl, ?_⟩
                cases e3 : amongB (.str z1) D.calls with
                | false =>
                  have e3' : D.calls.contains z1 = false := e3
                  exact iteC (by rw [e3']; rfl) (iteT (bad (by rw [e3]; rfl) G sG))
                | true =>
                  have e3' : D.calls.contains z1 = true := e3
                  refine iteN (by rw [e3']; rfl) ⟨_, rfl, t2, _, 1, _, rfl, rfl, ht3, atI_nat (j := 1) rfl, _, rfl, o, _, rfl, dK "answers" _ (sFG _ _ h1), z2, a, _, rfl, rfl, .inl (SqL.of (sFG _ _ h3)), _, rfl, ?_⟩
                  cases e4 : amongB (.str z2) D.answers with
                  | false =>
                    have e4' : D.answers.contains z2 = false := e4
                    exact iteC (by rw [e4']; rfl) (bad (by rw [e4, Bool.and_false]) G sG)
                  | true =>
                    have e4' : D.answers.contains z2 = true := e4
                    exact iteN (by rw [e4']; rfl) ⟨_, rfl, sFG, good (by rw [e3, e4]; rfl)⟩
        · rintro σ F ⟨v2, rfl, sF, al⟩
          rw [ll, List.take_length] at al
          have := q F sF
          rw [al] at this
          exact this
end
end K51
set_option Elab.async false
set_option linter.all false
set_option maxRecDepth 100000
set_option maxHeartbeats 16000000
/-! The law's own going along with a log. -/
namespace LG
open PySem L2
theorem endS_snoc (D : Dev) : ∀ (st : List (Str × Str)) (s : Str) (k : Str × Str), endS D s (st ++ [k]) = (endS D s st).bind fun e => if (rowX D (e, k.1)).1 = k.2 then some (rowX D (e, k.1)).2 else none
  | [], s, k => rfl
  | x :: r, s, k => by
    show (if (rowX D (s, x.1)).1 = x.2 then endS D (rowX D (s, x.1)).2 (r ++ [k]) else none) = (if (rowX D (s, x.1)).1 = x.2 then endS D (rowX D (s, x.1)).2 r else none).bind _
    by_cases e : (rowX D (s, x.1)).1 = x.2
    · rw [if_pos e, if_pos e]
      exact endS_snoc D r _ k
    · rw [if_neg e, if_neg e]
      rfl
theorem endS_mem {D : Dev} (FD : Full D) : ∀ {st : List (Str × Str)} {s e : Str}, s ∈ D.states → (∀ k ∈ st, k.1 ∈ D.calls) → endS D s st = some e → e ∈ D.states
  | [], s, e, h, _, he => by
    cases he
    exact h
  | x :: r, s, e, h, hc, he => by
    have he : (if (rowX D (s, x.1)).1 = x.2 then endS D (rowX D (s, x.1)).2 r else none) = some e := he
    by_cases e1 : (rowX D (s, x.1)).1 = x.2
    · rw [if_pos e1] at he
      exact endS_mem FD (st := r) (FD.row s h x.1 (hc x List.mem_cons_self)).2 (fun k hk => hc k (List.mem_cons_of_mem _ hk)) he
    · rw [if_neg e1] at he
      cases he
theorem endS_some (D : Dev) : ∀ (st : List (Str × Str)) (s : Str) (j : Nat), j ≤ st.length → ((endS D s (st.take j)).isSome = true ↔ j ≤ stepsR D s st)
  | st, s, 0, _ => by simp [endS]
  | [], s, j + 1, h => absurd h (by simp)
  | x :: r, s, j + 1, h => by
    have h : j ≤ r.length := by simpa using h
    show ((if (rowX D (s, x.1)).1 = x.2 then endS D (rowX D (s, x.1)).2 (r.take j) else none).isSome = true ↔ j + 1 ≤ (if (rowX D (s, x.1)).1 = x.2 then stepsR D (rowX D (s, x.1)).2 r + 1 else 0))
    by_cases e1 : (rowX D (s, x.1)).1 = x.2
    · rw [if_pos e1, if_pos e1, endS_some D r _ j h]
      omega
    · rw [if_neg e1, if_neg e1]
      simp
/-- where it may have begun, and where it is then, behind i steps -/
def rowsE (D : Dev) (st : List (Str × Str)) (i : Nat) : List (Str × Str) := D.states.filterMap fun s => (endS D s (st.take i)).map fun e => (s, e)
theorem rowsE_zero (D : Dev) (st : List (Str × Str)) : rowsE D st 0 = D.states.map fun s => (s, s) := by
  unfold rowsE
  rw [List.take_zero, ← List.filterMap_eq_map]
  rfl
theorem rowsE_step {D : Dev} {st : List (Str × Str)} {i : Nat} {k : Str × Str} (hk : st[i]? = some k) : rowsE D st (i + 1) = ((rowsE D st i).filter fun r => decide ((rowX D (r.2, k.1)).1 = k.2)).map fun r => (r.1, (rowX D (r.2, k.1)).2) := by
  unfold rowsE
  rw [← List.filterMap_eq_map, ← List.filterMap_eq_filter, List.filterMap_filterMap, List.filterMap_filterMap]
  congr 1
  funext s
  rw [List.take_add_one, hk]
  show (endS D s (st.take i ++ [k])).map _ = _
  rw [endS_snoc]
  cases endS D s (st.take i) with
  | none => rfl
  | some e =>
    show (if (rowX D (e, k.1)).1 = k.2 then some (rowX D (e, k.1)).2 else none).map _ = _
    by_cases e1 : (rowX D (e, k.1)).1 = k.2
    · rw [if_pos e1]
      simp [Option.guard, e1]
    · rw [if_neg e1]
      simp [Option.guard, e1]
theorem rowsE_mem {D : Dev} (FD : Full D) {st : List (Str × Str)} (hc : ∀ k ∈ st, k.1 ∈ D.calls) {i : Nat} : ∀ r ∈ rowsE D st i, r.1 ∈ D.states ∧ r.2 ∈ D.states := by
  intro r hr
  obtain ⟨s, hs, e⟩ := List.mem_filterMap.mp hr
  cases he : endS D s (st.take i) with
  | none =>
    rw [he] at e
    cases e
  | some x =>
    rw [he] at e
    cases e
    exact ⟨hs, endS_mem FD hs (fun k hk => hc k (List.mem_of_mem_take hk)) he⟩
theorem rowsE_len (D : Dev) (st : List (Str × Str)) (i : Nat) : (rowsE D st i).length ≤ D.states.length := List.length_filterMap_le _ _
theorem rowsE_nil {D : Dev} {st : List (Str × Str)} {j m : Nat} (hj : j ≤ st.length) (hm : IsMost D st m) : rowsE D st j = [] ↔ m < j := by
  obtain ⟨⟨s0, ms0, e0⟩, le⟩ := hm
  constructor
  · intro e
    by_cases h : m < j
    · exact h
    · exfalso
      have : (endS D s0 (st.take j)).isSome = true := (endS_some D st s0 j hj).mpr (by omega)
      obtain ⟨x, hx⟩ := Option.isSome_iff_exists.mp this
      have : (s0, x) ∈ rowsE D st j := List.mem_filterMap.mpr ⟨s0, ms0, by rw [hx]; rfl⟩
      rw [e] at this
      cases this
  · intro h
    refine List.eq_nil_iff_forall_not_mem.mpr fun r hr => ?_
    obtain ⟨s, hs, e⟩ := List.mem_filterMap.mp hr
    have : ¬ (endS D s (st.take j)).isSome = true := fun z => by
      have h1 := (endS_some D st s j hj).mp z
      have h2 := le s hs
      omega
    cases he : endS D s (st.take j) with
    | none =>
      rw [he] at e
      cases e
    | some x =>
      rw [he] at this
      exact this rfl
theorem endS_full (D : Dev) (st : List (Str × Str)) (s : Str) : (endS D s st).isSome = decide (stepsR D s st = st.length) := by
  have h := endS_some D st s st.length (Nat.le_refl _)
  rw [List.take_length] at h
  have le := stepsR_le D st s
  cases e : (endS D s st).isSome with
  | true => exact (decide_eq_true (by have := h.mp e; omega)).symm
  | false => exact (decide_eq_false (fun z => by have := h.mpr (by omega); rw [e] at this; cases this)).symm
theorem firstD_rows (D : Dev) (st : List (Str × Str)) : (rowsE D st st.length).map (·.1) = firstD D st := by
  unfold rowsE firstD
  rw [List.take_length, ← List.filterMap_eq_map, ← List.filterMap_eq_filter, List.filterMap_filterMap]
  congr 1
  funext s
  have := endS_full D st s
  cases e : endS D s st with
  | none =>
    rw [e] at this
    simp [Option.guard, ← this]
  | some x =>
    rw [e] at this
    simp [Option.guard, ← this]
theorem nowD_rows (D : Dev) (st : List (Str × Str)) : (D.states.filter fun s => ((rowsE D st st.length).map (·.2)).contains s) = nowD D st := by
  unfold nowD
  congr 1
  funext s
  rw [Bool.eq_iff_iff]
  rw [List.contains_iff_mem, decide_eq_true_iff]
  unfold rowsE
  rw [List.take_length]
  constructor
  · intro h
    obtain ⟨r, hr, rfl⟩ := List.mem_map.mp h
    obtain ⟨s0, hs0, e⟩ := List.mem_filterMap.mp hr
    cases he : endS D s0 st with
    | none =>
      rw [he] at e
      cases e
    | some x =>
      rw [he] at e
      cases e
      exact List.mem_map.mpr ⟨s0, hs0, he⟩
  · intro h
    obtain ⟨s0, hs0, he⟩ := List.mem_map.mp h
    exact List.mem_map.mpr ⟨(s0, s), List.mem_filterMap.mpr ⟨s0, hs0, by rw [he]; rfl⟩, rfl⟩
/-- the first step at which none are left -/
def lostV (m n : Nat) : V := if m < n then .int (m : Nat) else .non
/-- rows, as they are looked up -/
def RB (K : PySem.W.Frag) (D : Dev) (cc : Str) (F : Hp) (vs : List V) (rs : List (Str × Str)) : Prop := PySem.Paired (fun (v : V) (r : Str × Str) => ∃ q t, v = .ref q ∧ F q = some (.tup [.str r.1, .ref t]) ∧ SqT K F t [.str (rowX D (r.2, cc)).1, .str (rowX D (r.2, cc)).2]) vs rs
theorem RB.same {K : PySem.W.Frag} {D : Dev} {cc : Str} {F G : Hp} {vs : List V} {rs : List (Str × Str)} (e : Same F G) (h : RB K D cc F vs rs) : RB K D cc G vs rs := by
  induction h with
  | nil => exact .nil
  | cons a _ ih =>
    obtain ⟨q, t, e1, e2, e3⟩ := a
    exact .cons ⟨q, t, e1, e _ _ e2, same_tup e e3⟩ ih
theorem RB.upd {K : PySem.W.Frag} {D : Dev} {cc : Str} {F : Hp} {a : Addr} {ys : List V} {o : HO} {vs : List V} {rs : List (Str × Str)} (ha : F a = some (.lst ys)) (h : RB K D cc F vs rs) : RB K D cc (upd F a o) vs rs := by
  induction h with
  | nil => exact .nil
  | cons x _ ih =>
    obtain ⟨q, t, e1, e2, e3⟩ := x
    exact .cons ⟨q, t, e1, by rw [upd_ne (fun z => by rw [z, ha] at e2; cases e2)]; exact e2, sqT_upd ha e3⟩ ih
theorem RB.snoc {K : PySem.W.Frag} {D : Dev} {cc : Str} {F : Hp} {vs : List V} {rs : List (Str × Str)} {v : V} {r : Str × Str} (h : RB K D cc F vs rs) (a : ∃ q t, v = .ref q ∧ F q = some (.tup [.str r.1, .ref t]) ∧ SqT K F t [.str (rowX D (r.2, cc)).1, .str (rowX D (r.2, cc)).2]) : RB K D cc F (vs ++ [v]) (rs ++ [r]) := by
  induction h with
  | nil => exact .cons a .nil
  | cons b _ ih => exact .cons b ih
theorem RB.len {K : PySem.W.Frag} {D : Dev} {cc : Str} {F : Hp} {vs : List V} {rs : List (Str × Str)} (h : RB K D cc F vs rs) : vs.length = rs.length := by
  induction h with
  | nil => rfl
  | cons _ _ ih => rw [List.length_cons, List.length_cons, ih]
theorem RB.get {K : PySem.W.Frag} {D : Dev} {cc : Str} {F : Hp} {vs : List V} {rs : List (Str × Str)} (h : RB K D cc F vs rs) : ∀ {i : Nat} {v : V}, vs[i]? = some v → ∃ r q t, rs[i]? = some r ∧ v = .ref q ∧ F q = some (.tup [.str r.1, .ref t]) ∧ SqT K F t [.str (rowX D (r.2, cc)).1, .str (rowX D (r.2, cc)).2] := by
  induction h with
  | nil =>
    intro i v h
    simp at h
  | @cons v0 r0 vs rs a _ ih =>
    intro i v h
    cases i with
    | zero =>
      simp at h
      subst h
      obtain ⟨q, t, e1, e2, e3⟩ := a
      exact ⟨r0, q, t, rfl, e1, e2, e3⟩
    | succ i => exact ih (i := i) (by simpa using h)
theorem KeyRefs.snoc {H : Hp} {vs : List V} {ks : List (Str × Str)} {t : Addr} {k : Str × Str} (h : KeyRefs H vs ks) (a : H t = some (.tup ((kT k).map kV))) : KeyRefs H (vs ++ [.ref t]) (ks ++ [k]) := h.app (.cons a .nil)
end LG
set_option Elab.async false
set_option linter.all false
set_option maxRecDepth 100000
set_option maxHeartbeats 16000000
namespace K51
open PySem L2 LG
section
variable {P : Program} {w : World} {K : PySem.W.Frag} {mg : Str → Option Value} {base : Heap} {fI : Addr}
def spAlong (K : PySem.W.Frag) : Sp := fun vs H Q _ => ∃ (o t : Addr) (D : Dev) (st : List (Str × Str)) (m : Nat), vs = [.ref o, .ref t] ∧ OwnL K H o D ∧ Drawn D ∧ LogAt K H t st ∧ st.length ≤ 24 ∧ (∀ k ∈ st, k.1 ∈ D.calls ∧ k.2 ∈ D.answers) ∧ IsMost D st m ∧
  ∀ (tq tb te : Addr) (G : Hp), Same H G → G tq = some (.tup [.ref tb, .ref te, lostV m st.length]) → G tb = some (.tup ((firstD D st).map V.str)) → G te = some (.tup ((nowD D st).map V.str)) → Q (.ref tq) G
abbrev nAl : List Str := ["_law_device_here", "_law_log_here", "_law_rows", "_law_lost", "_law_at", "_law_call", "_law_answer", "_law_ends", "_law_begin", "_law_state", "_law_row", "_law_one"]
theorem scAl : FnScope nAl ["_law_device_here", "_law_log_here"] (defScope sAlong) := ⟨rfl, rfl, rfl, by decide +kernel, rfl, by decide +kernel, by decide +kernel⟩
abbrev g89 (K : PySem.W.Frag) : TG := gTup K 2 (gCons (gName 8) (gCons (gName 9) gNil))
abbrev g8a (K : PySem.W.Frag) : TG := gTup K 2 (gCons (gName 8) (gCons (gName 10) gNil))
abbrev te1 : TE := tTup (tCons (tVar 9) (tCons (tVar 9) tNil))
abbrev te2 : TE := tTup (tCons (tVar 8) (tCons (tDGet (tDGet (tVar 0) (tC (.str "rows"))) (tTup (tCons (tVar 9) (tCons (tVar 5) tNil)))) tNil))
abbrev te3 (K : PySem.W.Frag) : TE := tTup (tCons (tVar 8) (tCons (tOp (rIxT K) (tVar 10) (tC (.int 1))) tNil))
abbrev tt3 (K : PySem.W.Frag) : TT := tTest (tOp rEq (tOp (rIxT K) (tVar 10) (tC (.int 0))) (tVar 6))
theorem ok_along {f : Addr} {fd : FuncData} (F : Fun K "_law_along" "_law_along" sAlong f fd) (T : Bltn mg) : FnOk P w K mg base CX0 1 f fd ["_law_device_here", "_law_log_here"] (spAlong K) := by
  refine F.ok scAl (fun vs H Q E h => ?_) (fun cdv A0 outer st_ H vs Q E hr h => ?_)
  · obtain ⟨o, t, D, st, m, rfl, _⟩ := h
    rfl
  obtain ⟨o, t, D, st, m, rfl, hO, dr, hL, l24, mk_, most, q⟩ := h
  have hu := hu_of hr
  refine' ⟨_, pss_cons ?ini (pss_cons (ps_for PassesOwn.never rfl (pi_enumT rfl T.enumerate (pa_cons (pv 1) pa_nil)) (pg_tup rfl (pgs_cons (pg_name (i := 4) scAl.nd rfl (Or.inl rfl)) (pgs_cons (pg_tup rfl (pgs_cons (pg_name (i := 5) scAl.nd rfl (Or.inr rfl)) (pgs_cons (pg_name (i := 6) scAl.nd rfl (Or.inr rfl)) pgs_nil))) pgs_nil))) (pss_cons ?c2 (pss_cons ?c3 (pss_one ?lost))))
    (pss_cons ?ends (pss_one ?ret))), ?main⟩
  case ini =>
    exact ps_par (i := 2) (j := 3) rfl scAl.nd rfl rfl (by decide) rfl rfl (pa_cons (pe_lc (te := te1) (tt := tYes) (own := [("_law_state", 9)]) (g := gName 9) rfl scAl.nd (pi_list (pe_dget hu (pv 0) pe_str (fun _ _ => rfl))) (blkOk_by (own := [("_law_state", 9)]) (N := nAl) (sc := defScope sAlong) (by decide +kernel))
      (fun _ _ _ _ _ => pg_name (i := 9) scAl.nd rfl (Or.inl rfl)) (fun _ _ _ _ _ => pts_nil) (fun _ _ _ _ _ => pe_tup (pa_cons (pv 9) (pa_cons (pv 9) pa_nil)))) (pa_cons pe_non pa_nil)) (by rfl)
  case c2 =>
    exact ps_setLc (i := 2) (te := te2) (tt := tYes) (own := [("_law_begin", 8), ("_law_state", 9)]) (g := g89 K) rfl scAl.nd rfl rfl (sw_true rfl rfl rfl (by decide +kernel)) (pi_list (pv 2)) (blkOk_by (own := [("_law_begin", 8), ("_law_state", 9)]) (N := nAl) (sc := defScope sAlong) (by decide +kernel))
      (fun _ _ _ _ _ => by exact pg_tup rfl (pgs_cons (pg_name (i := 8) scAl.nd rfl (Or.inl rfl)) (pgs_cons (pg_name (i := 9) scAl.nd rfl (Or.inl rfl)) pgs_nil))) (fun _ _ _ _ _ => pts_nil) (fun _ _ _ _ _ => by exact pe_tup (pa_cons (pv 8) (pa_cons (pe_dget hu (pe_dget hu (pv 0) pe_str (fun _ _ => rfl)) (pe_tup (pa_cons (pv 9) (pa_cons (pv 5) pa_nil))) (fun _ _ => rfl)) pa_nil)))
  case c3 =>
    exact ps_setLc (i := 2) (te := te3 K) (tt := tt3 K) (own := [("_law_begin", 8), ("_law_row", 10)]) (g := g8a K) rfl scAl.nd rfl rfl (sw_true rfl rfl rfl (by decide +kernel)) (pi_list (pv 2)) (blkOk_by (own := [("_law_begin", 8), ("_law_row", 10)]) (N := nAl) (sc := defScope sAlong) (by decide +kernel))
      (fun _ _ _ _ _ => by exact pg_tup rfl (pgs_cons (pg_name (i := 8) scAl.nd rfl (Or.inl rfl)) (pgs_cons (pg_name (i := 10) scAl.nd rfl (Or.inl rfl)) pgs_nil))) (fun _ _ _ _ _ => by exact pts_one (pt_cmpR op_eq (pe_ix ix_tup (pv 10) pe_int (fun _ _ => rfl)) (pv 6) (nomark _))) (fun _ _ _ _ _ => by exact pe_tup (pa_cons (pv 8) (pa_cons (pe_ix ix_tup (pv 10) pe_int (fun _ _ => rfl)) pa_nil)))
  case lost =>
    exact ps_set (i := 3) scAl.nd rfl (Or.inl rfl) (pe_ifExp (PW.pt (pw_and (pt_cmpR (op_eqD hr.units) (pv 2) (pe_lst pa_nil) (nomark _)) (pw_and1 (pt_cmp (pc_isN (pv 3)))))) (pv 4) (pv 3))
  case ends =>
    exact ps_set (i := 7) scAl.nd rfl (Or.inr rfl) (pe_lc (te := tVar 9) (tt := tYes) (own := [("_law_begin", 8), ("_law_state", 9)]) (g := g89 K) rfl scAl.nd (pi_list (pv 2)) (blkOk_by (own := [("_law_begin", 8), ("_law_state", 9)]) (N := nAl) (sc := defScope sAlong) (by decide +kernel))
      (fun _ _ _ _ _ => by exact pg_tup rfl (pgs_cons (pg_name (i := 8) scAl.nd rfl (Or.inl rfl)) (pgs_cons (pg_name (i := 9) scAl.nd rfl (Or.inl rfl)) pgs_nil))) (fun _ _ _ _ _ => pts_nil) (fun _ _ _ _ _ => pv 9))
  case ret =>
    exact ps_ret (pe_tup (pa_cons (pe_callTy call_tuple_of rfl T.tuple (by decide +kernel) (pa_cons (pe_lc (te := tVar 8) (tt := tYes) (own := [("_law_begin", 8), ("_law_state", 9)]) (g := g89 K) rfl scAl.nd (pi_list (pv 2)) (blkOk_by (own := [("_law_begin", 8), ("_law_state", 9)]) (N := nAl) (sc := defScope sAlong) (by decide +kernel))
        (fun _ _ _ _ _ => by exact pg_tup rfl (pgs_cons (pg_name (i := 8) scAl.nd rfl (Or.inl rfl)) (pgs_cons (pg_name (i := 9) scAl.nd rfl (Or.inl rfl)) pgs_nil))) (fun _ _ _ _ _ => pts_nil) (fun _ _ _ _ _ => pv 8)) pa_nil))
      (pa_cons (pe_callTy call_tuple_of rfl T.tuple (by decide +kernel) (pa_cons (pe_lc (te := tVar 11) (tt := tTest (tOp (rInTxt K) (tVar 11) (tVar 7))) (own := [("_law_one", 11)]) (g := gName 11) rfl scAl.nd (pi_list (pe_dget hu (pv 0) pe_str (fun _ _ => rfl))) (blkOk_by (own := [("_law_one", 11)]) (N := nAl) (sc := defScope sAlong) (by decide +kernel))
        (fun _ _ _ _ _ => pg_name (i := 11) scAl.nd rfl (Or.inl rfl)) (fun _ _ _ _ _ => by exact pts_one (pt_cmpR op_in_txt (pv 11) (pv 7) (by rfl))) (fun _ _ _ _ _ => pv 11)) pa_nil))
      (pa_cons (pv 3) pa_nil))))
  case main =>
    have FD := dr.fine.full
    have s4 := dr.s1.2
    have hc_ : ∀ k ∈ st, k.1 ∈ D.calls := fun k hk => (mk_ k hk).1
    obtain ⟨c, a, sa, r, gg, h1, h2, h3, h4, h5, h6⟩ := id hO
    have dK := fun (x : Str) (G : Hp) (e : G o = some (.dK [(.inr ("calls" : Str), .ref c), (.inr ("answers" : Str), .ref a), (.inr ("states" : Str), .ref sa), (.inr ("rows" : Str), .ref r)])) => DGet.k (k := Sum.inr x) e
    obtain ⟨gkv, hgr, gr⟩ := h5
    obtain ⟨lx, hlx, hall⟩ := hL
    have ll := dpAll_len hall
    rw [List.length_map] at ll
    refine ⟨_, rfl, o, _, rfl, dK "states" H h1, sa, rfl, ⟨_, SqL.of h4⟩, fun D0 nD0 => ?_⟩
    refine lc_it walk_list (D := D0) (g := gName 9) (tt := tYes) (te := te1) (vs := [9]) (fun j F => ∃ vs : List V, Same H F ∧ F D0 = some (.lst vs) ∧ KeyRefs F vs ((D.states.take j).map fun s => (s, s)) ∧ vs.length = j) ⟨[], same_new nD0 _, upd_same, .nil, rfl⟩ (fun j F _ ⟨_, sF, _⟩ => SqL.of (sF _ _ h4)) ?_ ?_
    · rintro j y F3 F4 hj ⟨vs, sF, hD0, kr, lv⟩ ⟨rfl, hy⟩
      have hj : j < D.states.length := by
        rw [List.length_map] at hj
        exact hj
      rw [List.getElem?_map, List.getElem?_eq_getElem hj] at hy
      have ey : y = .str D.states[j] := (Option.some.inj hy).symm
      subst ey
      have ej := List.getElem?_eq_getElem hj
      generalize D.states[j] = sj at ej
      refine ⟨rfl, _, rfl, _, rfl, (by show 2 ≤ sizeLine; decide), fun tq ntq => ?_⟩
      have u := same_new ntq (.tup [V.str sj, .str sj])
      have hD4 := u _ _ hD0
      refine ⟨_, hD4, by rw [lv, sizeLine_eq]; omega, vs ++ [.ref tq], same_put (sF.trans u) nD0, upd_same, ?_, by rw [List.length_append, lv] <;> rfl⟩
      rw [List.take_add_one, ej, List.map_append]
      refine KeyRefs.updo hD4 (fun xs z => by cases z) (KeyRefs.snoc (kr.same u) ?_)
      exact upd_same
    rintro F0 ⟨vs0, sF0, hD0, kr0, _⟩
    rw [List.length_map, List.take_length, ← rowsE_zero D st] at kr0
    refine ⟨_, _, rfl, ?_⟩
    refine ⟨_, rfl, t, _, rfl, same_tup sF0 hlx, ?_⟩
    have lost_next : ∀ {i : Nat}, i < st.length → (if rowsE D st (i + 1) = [] ∧ lostV m i = V.non then V.int (i : Nat) else lostV m i) = lostV m (i + 1) := by
      intro i hi
      have e := rowsE_nil (j := i + 1) (by omega) most
      by_cases h1 : m < i
      · have a1 : lostV m i = .int (m : Nat) := if_pos h1
        have a2 : lostV m (i + 1) = .int (m : Nat) := if_pos (by omega)
        rw [a1, a2, if_neg (fun z => by cases z.2)]
      · have a1 : lostV m i = .non := if_neg h1
        by_cases h2 : m < i + 1
        · have a2 : lostV m (i + 1) = .int (m : Nat) := if_pos h2
          have : m = i := by omega
          rw [a1, a2, if_pos ⟨e.mpr h2, rfl⟩, this]
        · have a2 : lostV m (i + 1) = .non := if_neg h2
          rw [a1, a2, if_neg (fun z => h2 (e.mp z.1))]
    refine for_enumT (xs := lx) (fun i σ F => ∃ (rl : Addr) (vs : List V) (v4 v5 v6 : Option V), σ = [some (.ref o), some (.ref t), some (.ref rl), some (lostV m i), v4, v5, v6, none, none, none, none, none] ∧ Same H F ∧ F rl = some (.lst vs) ∧ KeyRefs F vs (rowsE D st i)) ⟨D0, vs0, _, _, _, (by unfold lostV; rw [if_neg (Nat.not_lt_zero m)]; rfl), sF0, hD0, kr0⟩ (fun i σ F ⟨_, _, _, _, _, _, sF, _⟩ => same_tup sF hlx) ?_ ?_
    · clear hD0 kr0 sF0
      rintro i y TT σ F hy ⟨rl, vs, v4, v5, v6, rfl, sF, hrl, kr⟩ nT
      obtain ⟨k, qk, hk, rfl, hq⟩ := log_item hall hy
      obtain ⟨cc, an⟩ := k
      have hq := (show SqT K _ qk [.str cc, .str an] from hq)
      have mc : cc ∈ D.calls := (mk_ _ (List.mem_of_getElem? hk)).1
      have hist : i < st.length := (List.getElem?_eq_some_iff.mp hk).1
      have u1 := same_new nT (.tup [V.int (i : Nat), .ref qk])
      have sF := sF.trans u1
      have hrl := u1 _ _ hrl
      have kr := kr.same u1
      refine ⟨TT, _, rfl, .inl (.inl upd_same), rfl, _, _, rfl, _, _, rfl, qk, _, rfl, same_tup sF hq, rfl, _, _, rfl, _, _, rfl, rfl, rfl, ?_⟩
      show _
      generalize upd F TT (.tup [V.int (i : Nat), .ref qk]) = F1 at sF hrl kr ⊢
      clear u1 nT
      have memR := rowsE_mem FD hc_ (i := i) (st := st)
      have lenR := rowsE_len D st i
      have eN := rowsE_step (D := D) hk
      have memN := rowsE_mem FD hc_ (i := i + 1) (st := st)
      -- the rows looked up
      refine ⟨_, rfl, rl, rfl, ⟨_, SqL.of hrl⟩, fun D1 nD1 => ?_⟩
      refine lc_it walk_list (D := D1) (g := g89 K) (tt := tYes) (te := te2) (vs := [8, 9]) (fun j F => ∃ ws : List V, Same F1 F ∧ F D1 = some (.lst ws) ∧ RB K D cc F ws ((rowsE D st i).take j) ∧ ws.length = j) ⟨[], same_new nD1 _, upd_same, .nil, rfl⟩ (fun j F _ ⟨_, sz, _⟩ => SqL.of (sz _ _ hrl)) ?_ ?_
      · rintro j y F3 F4 hj ⟨ws, sz, hD1, rb, lw⟩ ⟨rfl, hy⟩
        have krl := kr.len
        obtain ⟨tq, kk, rfl, hkk, htq⟩ := (kr.same sz).get hy
        have htq := (show _ = some (HO.tup [V.str kk.1, V.str kk.2]) from htq)
        have mr := memR kk (List.mem_of_getElem? hkk)
        refine ⟨tq, _, rfl, .inl (.inl htq), rfl, _, _, rfl, _, _, rfl, rfl, rfl, ?_⟩
        have sHz := sF.trans sz
        have lk := h6 (kk.2, cc) (prod_mem.mpr ⟨mr.2, mc⟩)
        refine ⟨_, rfl, _, rfl, o, _, rfl, dK "rows" _ (sHz _ _ h1), _, rfl, _, rfl, (by show 2 ≤ sizeLine; decide), fun tk ntk => ?_⟩
        have u5 := same_new ntk (.tup [.str kk.2, .str cc])
        have htk : (upd F4 tk (.tup [.str kk.2, .str cc])) tk = some (.tup ((kT (kk.2, cc)).map kV)) := upd_same
        have sHz := sHz.trans u5
        have sz := sz.trans u5
        have hD1 := u5 _ _ hD1
        have rb := rb.same u5
        show _
        generalize upd F4 tk (.tup [.str kk.2, .str cc]) = F8 at sHz sz htk hD1 rb ⊢
        rcases gr.val (kk.2, cc) with ⟨l1, _⟩ | ⟨r2, t2, l1, l2, l3⟩
        · rw [l1] at lk
          cases lk
        rw [l1] at lk
        have er2 : r2 = rowX D (kk.2, cc) := Option.some.inj lk
        subst er2
        have g1 : DGet F8 r (.ref tk) (valV gkv (kT (kk.2, cc))) := .inr ⟨gkv, kT (kk.2, cc), tk, rd_same sHz hgr, rfl, htk, rfl⟩
        rw [l2] at g1
        refine ⟨r, _, rfl, g1, (by show 2 ≤ sizeLine; decide), fun tn ntn => ?_⟩
        have u6 := same_new ntn (.tup [V.str kk.1, .ref t2])
        have hD9 := u6 _ _ hD1
        refine ⟨_, hD9, by rw [lw, sizeLine_eq]; omega, ws ++ [.ref tn], same_put (sz.trans u6) nD1, upd_same, ?_, by rw [List.length_append, lw] <;> rfl⟩
        rw [List.take_add_one, hkk]
        exact RB.upd hD9 (RB.snoc (rb.same u6) ⟨tn, t2, rfl, upd_same, same_tup (sHz.trans u6) l3⟩)
      rintro F2 ⟨ws, sz, hD1, rb, _⟩
      rw [kr.len, List.take_length] at rb
      have sF2 := sF.trans sz
      clear kr hrl sF nD1
      -- those that are answered so
      refine ⟨_, rfl, D1, rfl, ⟨_, SqL.of hD1⟩, fun D2 nD2 => ?_⟩
      refine lc_it walk_list (D := D2) (g := g8a K) (tt := tt3 K) (te := te3 K) (vs := [8, 10]) (fun j F => ∃ us : List V, Same F2 F ∧ F D2 = some (.lst us) ∧ KeyRefs F us ((((rowsE D st i).take j).filter fun r => decide ((rowX D (r.2, cc)).1 = an)).map fun r => (r.1, (rowX D (r.2, cc)).2))) ⟨[], same_new nD2 _, upd_same, .nil⟩ (fun j F _ ⟨_, sz, _⟩ => SqL.of (sz _ _ hD1)) ?_ ?_
      · rintro j y F3 F4 hj ⟨us, sy, hD2, kr⟩ ⟨rfl, hy⟩
        obtain ⟨kk, tq, t2, hkk, rfl, htq, ht2⟩ := (rb.same sy).get hy
        refine ⟨tq, _, rfl, .inl (.inl htq), rfl, _, _, rfl, _, _, rfl, rfl, rfl, ?_⟩
        refine ⟨_, rfl, t2, _, 0, _, rfl, rfl, ht2, atI_nat (j := 0) rfl, _, rfl, rfl, _, rfl, ?_⟩
        have et : (rowsE D st i).take (j + 1) = (rowsE D st i).take j ++ [kk] := by rw [List.take_add_one, hkk]; rfl
        rw [et, List.filter_append, List.map_append]
        by_cases e : (rowX D (kk.2, cc)).1 = an
        · have z : [kk].filter (fun r => decide ((rowX D (r.2, cc)).1 = an)) = [kk] := List.filter_cons_of_pos (decide_eq_true e)
          rw [z]
          have lu := kr.len
          have lf : us.length ≤ 4 := by
            rw [lu, List.length_map]
            have h1 := List.length_filter_le (fun r => decide ((rowX D (r.2, cc)).1 = an)) ((rowsE D st i).take j)
            rw [List.length_take] at h1
            omega
          refine iteC (by simp [e]) ⟨_, rfl, _, rfl, t2, _, 1, _, rfl, rfl, ht2, atI_nat (j := 1) rfl, (by show 2 ≤ sizeLine; decide), fun tn ntn => ?_⟩
          have u6 := same_new ntn (.tup [V.str kk.1, .str (rowX D (kk.2, cc)).2])
          have hD9 := u6 _ _ hD2
          refine ⟨_, hD9, by rw [sizeLine_eq]; omega, us ++ [.ref tn], same_put (sy.trans u6) nD2, upd_same, ?_⟩
          exact KeyRefs.updo hD9 (fun xs z => by cases z) (KeyRefs.snoc (kr.same u6) upd_same)
        · have z : [kk].filter (fun r => decide ((rowX D (r.2, cc)).1 = an)) = [] := List.filter_cons_of_neg (by simp [e])
          rw [z, List.map_nil, List.append_nil]
          exact iteN (by simp [e]) ⟨us, sy, hD2, kr⟩
      rintro F3 ⟨us, sy, hD2, kr⟩
      rw [rb.len, List.take_length] at kr
      have eN' : ((rowsE D st i).filter fun r => decide ((rowX D (r.2, cc)).1 = an)).map (fun r => (r.1, (rowX D (r.2, cc)).2)) = rowsE D st (i + 1) := eN.symm
      rw [eN'] at kr
      have sF3 := sF2.trans sy
      clear rb hD1 sF2 nD2
      -- lost
      refine ⟨_, rfl, (by show 0 ≤ sizeLine; decide), fun l nl => ?_⟩
      have u1 := same_new nl (.lst [])
      have hl : (upd F3 l (.lst [])) l = some (.lst []) := upd_same
      have hD3 := u1 _ _ hD2
      have kr3 := kr.same u1
      have sF4 := sF3.trans u1
      have asc : ∀ x ∈ D.states, ∀ c ∈ TL.tl x, c < 128 := fun x hx => name_asc_ (dr.sw x hx)
      refine ⟨.list ((rowsE D st (i + 1)).map pairD), .list [], .lst (SqL.of hD3) (pairs_dp kr3), .lst (SqL.of hl) .nil, pairs_shaped (fun k hk => ⟨asc _ (memN k hk).1, asc _ (memN k hk).2⟩), (pairs_shaped (ks := []) (fun k hk => by cases hk)), _, rfl, ?_⟩
      have en : PyData.eqv (.list ((rowsE D st (i + 1)).map pairD)) (.list []) = decide (rowsE D st (i + 1) = []) := by
        have := pairs_ne_nil (rowsE D st (i + 1))
        simpa using congrArg (!·) this
      rw [en]
      have nx := lost_next hist
      have fin : ∀ v, v = lostV m (i + 1) → ∃ (rl : Addr) (vs : List V) (w4 w5 w6 : Option V), ([some (.ref o), some (.ref t), some (.ref D2), some v, some (.int (i : Nat)), some (.str cc), some (.str an), none, none, none, none, none] : L2.St) = [some (.ref o), some (.ref t), some (.ref rl), some (lostV m (i + 1)), w4, w5, w6, none, none, none, none, none] ∧ Same H (upd F3 l (.lst [])) ∧ (upd F3 l (.lst [])) rl = some (.lst vs) ∧ KeyRefs (upd F3 l (.lst [])) vs (rowsE D st (i + 1)) := by
        rintro v rfl
        exact ⟨D2, us, _, _, _, rfl, sF4, hD3, kr3⟩
      by_cases e1 : rowsE D st (i + 1) = []
      · refine iteC (decide_eq_true e1) ⟨_, rfl, _, rfl, ?_⟩
        by_cases e2 : lostV m i = V.non
        · rw [if_pos ⟨e1, e2⟩] at nx
          exact iteC (decide_eq_true e2) ⟨_, rfl, fin _ nx⟩
        · rw [if_neg (fun z => e2 z.2)] at nx
          exact iteN (decide_eq_false e2) ⟨_, rfl, fin _ nx⟩
      · rw [if_neg (fun z => e1 z.1)] at nx
        exact iteN (decide_eq_false e1) (iteF ⟨_, rfl, fin _ nx⟩)
    · clear hD0 kr0 sF0
      rintro σ F ⟨rl, vs, v4, v5, v6, rfl, sF, hrl, kr⟩
      rw [ll] at kr
      have memR := rowsE_mem FD hc_ (i := st.length) (st := st)
      have lenR := rowsE_len D st st.length
      have lv := kr.len
      rw [ll]
      -- the ends
      refine ⟨_, rfl, rl, rfl, ⟨_, SqL.of hrl⟩, fun D1 nD1 => ?_⟩
      refine lc_it walk_list (D := D1) (g := g89 K) (tt := tYes) (te := tVar 9) (vs := [8, 9]) (fun j G => Same F G ∧ G D1 = some (.lst ((((rowsE D st st.length).take j).map (·.2)).map V.str))) ⟨same_new nD1 _, upd_same⟩ (fun j G _ h => SqL.of (h.1 _ _ hrl)) ?_ ?_
      · rintro j y F3 F4 hj ⟨sz, hD1⟩ ⟨rfl, hy⟩
        obtain ⟨tq, kk, rfl, hkk, htq⟩ := (kr.same sz).get hy
        have htq := (show _ = some (HO.tup [V.str kk.1, V.str kk.2]) from htq)
        refine ⟨tq, _, rfl, .inl (.inl htq), rfl, _, _, rfl, _, _, rfl, rfl, rfl, ?_⟩
        refine ⟨_, rfl, _, hD1, by rw [List.length_map, List.length_map, List.length_take, sizeLine_eq]; omega, same_put sz nD1, ?_⟩
        rw [upd_same, List.take_add_one, hkk, List.map_append, List.map_append]
        rfl
      rintro F1 ⟨s1, hD1⟩
      rw [lv, List.take_length] at hD1
      have hrl1 := s1 _ _ hrl
      have kr1 := kr.same s1
      -- the beginnings
      refine ⟨_, rfl, rl, rfl, ⟨_, SqL.of hrl1⟩, fun D2 nD2 => ?_⟩
      refine lc_it walk_list (D := D2) (g := g89 K) (tt := tYes) (te := tVar 8) (vs := [8, 9]) (fun j G => Same F1 G ∧ G D2 = some (.lst ((((rowsE D st st.length).take j).map (·.1)).map V.str))) ⟨same_new nD2 _, upd_same⟩ (fun j G _ h => SqL.of (h.1 _ _ hrl1)) ?_ ?_
      · rintro j y F3 F4 hj ⟨sz, hD2⟩ ⟨rfl, hy⟩
        obtain ⟨tq, kk, rfl, hkk, htq⟩ := (kr1.same sz).get hy
        have htq := (show _ = some (HO.tup [V.str kk.1, V.str kk.2]) from htq)
        refine ⟨tq, _, rfl, .inl (.inl htq), rfl, _, _, rfl, _, _, rfl, rfl, rfl, ?_⟩
        refine ⟨_, rfl, _, hD2, by rw [List.length_map, List.length_map, List.length_take, sizeLine_eq]; omega, same_put sz nD2, ?_⟩
        rw [upd_same, List.take_add_one, hkk, List.map_append, List.map_append]
        rfl
      rintro F2 ⟨s2, hD2⟩
      rw [lv, List.take_length, firstD_rows] at hD2
      refine ⟨D2, _, rfl, .inl ⟨SqL.of hD2, fun tb ntb => ?_⟩⟩
      have u3 := same_new ntb (.tup ((firstD D st).map V.str))
      have htb : (upd F2 tb (.tup ((firstD D st).map V.str))) tb = some (.tup ((firstD D st).map V.str)) := upd_same
      have hD13 := u3 _ _ (s2 _ _ hD1)
      have sF3 := ((sF.trans s1).trans s2).trans u3
      show _
      generalize upd F2 tb (.tup ((firstD D st).map V.str)) = F3 at htb hD13 sF3 ⊢
      -- where it is now
      refine ⟨_, rfl, o, _, rfl, dK "states" _ (sF3 _ _ h1), sa, rfl, ⟨_, SqL.of (sF3 _ _ h4)⟩, fun D4 nD4 => ?_⟩
      refine lc_it walk_list (D := D4) (g := gName 11) (tt := tTest (tOp (rInTxt K) (tVar 11) (tVar 7))) (te := tVar 11) (vs := [11]) (fun j G => Same F3 G ∧ G D4 = some (.lst (((D.states.take j).filter fun s => ((rowsE D st st.length).map (·.2)).contains s).map V.str))) ⟨same_new nD4 _, upd_same⟩ (fun j G _ h => SqL.of (h.1 _ _ (sF3 _ _ h4))) ?_ ?_
      · rintro j y F5 F6 hj ⟨s5, h5⟩ ⟨rfl, hy⟩
        have hj : j < D.states.length := by
          rw [List.length_map] at hj
          exact hj
        rw [List.getElem?_map, List.getElem?_eq_getElem hj] at hy
        have ey : y = .str D.states[j] := (Option.some.inj hy).symm
        subst ey
        have ej := List.getElem?_eq_getElem hj
        generalize D.states[j] = sj at ej
        have et : D.states.take (j + 1) = D.states.take j ++ [sj] := by rw [List.take_add_one, ej]; rfl
        refine ⟨rfl, _, rfl, _, rfl, sj, D1, _, rfl, rfl, .inl (SqL.of (s5 _ _ hD13)), _, rfl, ?_⟩
        cases e' : ((rowsE D st st.length).map (·.2)).contains sj with
        | false =>
          refine iteF ⟨s5, ?_⟩
          have z : [sj].filter (fun s => ((rowsE D st st.length).map (·.2)).contains s) = [] := List.filter_cons_of_neg (by rw [e']; simp)
          rw [et, List.filter_append, z, List.append_nil]
          exact h5
        | true =>
          have lf : ((D.states.take j).filter fun s => ((rowsE D st st.length).map (·.2)).contains s).length ≤ 4 := by
            have h1 := List.length_filter_le (fun s => ((rowsE D st st.length).map (·.2)).contains s) (D.states.take j)
            rw [List.length_take] at h1
            omega
          refine iteT ⟨_, rfl, _, h5, by rw [List.length_map, sizeLine_eq]; omega, same_put s5 nD4, ?_⟩
          have z : [sj].filter (fun s => ((rowsE D st st.length).map (·.2)).contains s) = [sj] := List.filter_cons_of_pos e'
          rw [upd_same, et, List.filter_append, List.map_append, z]
          rfl
      rintro F5 ⟨s5, h5⟩
      rw [List.length_map, List.take_length, nowD_rows] at h5
      refine ⟨D4, _, rfl, .inl ⟨SqL.of h5, fun te nte => ?_⟩⟩
      have u6 := same_new nte (.tup ((nowD D st).map V.str))
      refine ⟨_, rfl, (by show 3 ≤ sizeLine; decide), fun tq ntq => ?_⟩
      have u7 := same_new ntq (.tup [V.ref tb, .ref te, lostV m st.length])
      exact q tq tb te _ (((sF3.trans s5).trans u6).trans u7) upd_same ((u6.trans u7) _ _ (s5 _ _ htb)) (u7 _ _ upd_same)
end
end K51
set_option Elab.async false
set_option linter.all false
set_option maxRecDepth 100000
set_option maxHeartbeats 16000000
/-! Law k48's bent values (made over from k00's: names for letters, twenty-four items for four). -/
namespace K51
open PySem L2 LG
/-! ### values to be bent -/
mutual
def bd : Nat → PyData → Bool
  | _, .int i => decide (i.natAbs < 10 ^ 9)
  | _, .str x => isNameB x
  | 0, .tuple _ => false
  | n + 1, .tuple xs => decide (xs.length ≤ 24) && bds n xs
  | _, .none => false
  | _, .bool _ => false
  | _, .list _ => false
  | _, .dict _ => false
def bds : Nat → List PyData → Bool
  | _, [] => true
  | n, d :: ds => bd n d && bds n ds
end
theorem ab_small {x : Str} (h : isNameB x = true) : (decide (x.length ≤ 40) && x.cps.toList.all fun c => decide (c < 16 ^ 8)) = true := by
  have := name_small h
  simp only [small] at this
  exact this
mutual
theorem bd_small : ∀ (n : Nat) (d : PyData), bd n d = true → small n d = true
  | n, .int i, h => by
    simp only [bd, decide_eq_true_eq] at h
    simp only [small, decide_eq_true_eq]
    omega
  | n, .str x, h => by
    simp only [bd] at h
    simp only [small]
    exact ab_small h
  | 0, .tuple _, h => by
    simp only [bd] at h
    cases h
  | n + 1, .tuple xs, h => by
    simp only [bd, Bool.and_eq_true, decide_eq_true_eq] at h
    simp only [small, Bool.and_eq_true, decide_eq_true_eq]
    exact ⟨by omega, bds_small n xs h.2⟩
  | n, .none, h => by simp only [small]
  | n, .bool _, h => by simp only [small]
  | n, .list _, h => by
    simp only [bd] at h
    cases h
  | n, .dict _, h => by
    simp only [bd] at h
    cases h
theorem bds_small : ∀ (n : Nat) (ds : List PyData), bds n ds = true → smalls n ds = true
  | n, [], _ => by simp only [smalls]
  | n, d :: ds, h => by
    simp only [bds, Bool.and_eq_true] at h
    simp only [smalls, bd_small n d h.1, bds_small n ds h.2, Bool.and_self]
end
mutual
theorem bd_lay : ∀ (n : Nat) (d : PyData), bd n d = true → d.canLay0 = true
  | n, .int i, h => by simp only [PyData.canLay0]
  | n, .str x, h => by
    simp only [bd] at h
    simp only [PyData.canLay0]
    have := name_strOk (name_asc_ h)
    simp only [PyData.canLay0] at this
    exact this
  | 0, .tuple _, h => by
    simp only [bd] at h
    cases h
  | n + 1, .tuple xs, h => by
    simp only [bd, Bool.and_eq_true, decide_eq_true_eq] at h
    simp only [PyData.canLay0]
    exact bds_lay n xs h.2
  | n, .none, h => by simp only [PyData.canLay0]
  | n, .bool _, h => by simp only [PyData.canLay0]
  | n, .list _, h => by
    simp only [bd] at h
    cases h
  | n, .dict _, h => by
    simp only [bd] at h
    cases h
theorem bds_lay : ∀ (n : Nat) (ds : List PyData), bds n ds = true → PyData.canLayAll0 ds = true
  | n, [], _ => by simp only [PyData.canLayAll0]
  | n, d :: ds, h => by
    simp only [bds, Bool.and_eq_true] at h
    simp only [PyData.canLayAll0, bd_lay n d h.1, bds_lay n ds h.2, Bool.and_self]
end
theorem bd_shaped {n : Nat} {d : PyData} (h : bd n d = true) (hn : n ≤ 40) : SeqAt.shaped d = true := by
  have h1 := bd_lay n d h
  have h2 := small_depth n d (bd_small n d h)
  unfold SeqAt.shaped
  rw [h1, decide_eq_true (show d.depth ≤ 64 by omega)] <;> rfl
/-! ### items of the lists out of which a bent value is taken -/
def tM (K : PySem.W.Frag) (p : Addr) (k : Nat) (S : L2.St → Hp → Prop) : TE := fun σ H Q => S σ H ∧ ∀ x H', Same H H' → Gd K k (mk p H') x → Q x H'
def tMs (K : PySem.W.Frag) (p : Addr) (k m : Nat) (S : L2.St → Hp → Prop) : TA := fun σ H Q => S σ H ∧ ∀ xs H', Same H H' → xs.length = m → (∀ x ∈ xs, Gd K k (mk p H') x) → Q xs H'
def Stays (S : L2.St → Hp → Prop) : Prop := ∀ σ H H', Same H H' → S σ H → S σ H'
section
variable {X : Cx} {e : Expr} {es : List Expr} {p : Addr} {n k m : Nat} {pos : Pos} {S : L2.St → Hp → Prop}
theorem pm_nil : PA X [] (tMs X.K p k 0 S) := pa_imp pa_nil fun _ H Q h => h.2 _ _ (Same.refl H) rfl (fun _ m => nomatch m)
theorem pm_cons (hS : Stays S) (h : PE X e (tM X.K p k S)) (r : PA X es (tMs X.K p k m S)) (hs : starEach (e :: es) X.env = (false, eval e X.env) :: starEach es X.env := by rfl) : PA X (e :: es) (tMs X.K p k (m + 1) S) :=
  pa_imp (pa_cons h r hs) fun _ H Q q => ⟨q.1, fun x H1 s1 g1 => ⟨hS _ _ _ s1 q.1, fun xs H2 s2 l2 g2 => q.2 _ _ (s1.trans s2) (by rw [List.length_cons, l2]) fun y hy => by
    rcases List.mem_cons.mp hy with rfl | hy
    · exact g1.same (mk_up s2)
    · exact g2 y hy⟩⟩
theorem pm_of (hS : ∀ σ H, S σ H → H p ≠ none) (h : PE X e (tGd X.K k)) : PE X e (tM X.K p k S) := pe_imp h fun _ H Q q x H1 s1 g1 => q.2 _ _ s1 (g1.same (mn_mk (hS _ _ q.1)))
/-- a tuple stands in slot 1 -/
def ST (K : PySem.W.Frag) (p : Addr) (n : Nat) (xs : List V) : L2.St → Hp → Prop := fun σ H => ∃ v, σ[1]? = some (some v) ∧ H p ≠ none ∧ TupM K p H v xs ∧ Gds K n (mk p H) xs ∧ xs.length ≤ 24
theorem ST.stays {K : PySem.W.Frag} {xs : List V} : Stays (ST K p n xs) := fun σ H H' s ⟨v, h1, h2, h3, h4, h5⟩ => ⟨v, h1, Same.there s h2, h3.same (But.of s), h4.same (mk_up s), h5⟩
theorem tup_good {K : PySem.W.Frag} {H : Hp} {z : V} {zs : List V} (t : TupM K p H z zs) (g : Gds K n (mk p H) zs) (l : zs.length ≤ 25) : Gd K (n + 1) (mk p H) z := by
  obtain ⟨a, rfl, h⟩ := t
  exact .tup g l h
theorem cut_last {xs : List V} : (cutV xs (some (-1)) none).length ≤ 1 := by
  unfold cutV
  rw [List.length_take, List.length_drop]
  show min (xs.length - (if (-1 : Int) < 0 then ((-1 : Int) + (xs.length : Int)).toNat else min (-1 : Int).toNat xs.length)) (xs.length - (if (-1 : Int) < 0 then ((-1 : Int) + (xs.length : Int)).toNat else min (-1 : Int).toNat xs.length)) ≤ 1
  rw [if_pos (by decide)]
  omega
theorem cut_upto {xs : List V} {j : Int} (h0 : 0 ≤ j) : (cutV xs none (some j)).length ≤ j.toNat := by
  unfold cutV
  rw [List.length_take, List.length_drop]
  show min ((if j < 0 then (j + (xs.length : Int)).toNat else min j.toNat xs.length) - 0) (xs.length - 0) ≤ j.toNat
  rw [if_neg (by omega)]
  omega
theorem cut_from {xs : List V} {j : Int} (h0 : 0 ≤ j) : (cutV xs (some j) none).length ≤ xs.length - j.toNat := by
  unfold cutV
  rw [List.length_take, List.length_drop]
  show min (xs.length - (if j < 0 then (j + (xs.length : Int)).toNat else min j.toNat xs.length)) (xs.length - (if j < 0 then (j + (xs.length : Int)).toNat else min j.toNat xs.length)) ≤ xs.length - j.toNat
  rw [if_neg (by omega)]
  omega
theorem cut_len {xs : List V} {lo hi : Option Int} (h : xs.length ≤ 24) : (cutV xs lo hi).length ≤ 24 := Nat.le_trans (cutV_length _ _ _) h
theorem m_list {xs : List V} {j p1} (hv : X.N[1]? = some ("_law_value" : Str)) (vis : Vis X.env.scope "_law_value") (hg : Gl X "list") (hm : X.mg "list" = none) :
    PE X (.Call (.Name "list" p1) [.Name "_law_value" j] [] pos) (tM X.K p (n + 1) (ST X.K p n xs)) :=
  pe_imp (pe_callTy call_list_of hg hm (by decide +kernel) (pa_cons (pe_var hv vis) pa_nil)) fun _ H Q q => by
    obtain ⟨⟨v, h1, h2, ⟨a, rfl, h3⟩, h4, h5⟩, q⟩ := q
    exact ⟨_, h1, a, xs, rfl, .inr (same_tup (mk_self p H) h3), fun l nl => q _ _ (same_new nl _) (.lst (h4.same (mk_up (same_new nl _))) (by omega) (SqL.of (mk_new h2 nl)))⟩
theorem m_from {xs : List V} {j c p1 p2} (hv : X.N[1]? = some ("_law_value" : Str)) (vis : Vis X.env.scope "_law_value") :
    PE X (.Subscript (.Name "_law_value" j) (.Slice (some (.Constant (.int 1) c p1)) none none p2) pos) (tM X.K p (n + 1) (ST X.K p n xs)) :=
  pe_imp (pe_slice sl_tupM (pe_var hv vis) (po_some pe_int) po_none) fun _ H Q q => by
    obtain ⟨⟨v, h1, h2, h3, h4, h5⟩, q⟩ := q
    exact ⟨_, h1, 1, rfl, p, xs, h2, h3, fun z H' s t => q _ _ s (tup_good t ((h4.same (mk_up s)).cut _ _) (Nat.le_trans (cut_len h5) (by decide)))⟩
theorem m_upto {xs : List V} {j c p1 p2 p3} (hv : X.N[1]? = some ("_law_value" : Str)) (vis : Vis X.env.scope "_law_value") :
    PE X (.Subscript (.Name "_law_value" j) (.Slice none (some (.UnaryOp .USub (.Constant (.int 1) c p1) p3)) none p2) pos) (tM X.K p (n + 1) (ST X.K p n xs)) :=
  pe_imp (pe_slice sl_tupM (pe_var hv vis) po_none (po_some (pe_un un_neg pe_int))) fun _ H Q q => by
    obtain ⟨⟨v, h1, h2, h3, h4, h5⟩, q⟩ := q
    exact ⟨_, h1, 1, rfl, -1, rfl, p, xs, h2, h3, fun z H' s t => q _ _ s (tup_good t ((h4.same (mk_up s)).cut _ _) (Nat.le_trans (cut_len h5) (by decide)))⟩
theorem m_last {xs : List V} {j j2 c p1 p2 p3 p4} (hv : X.N[1]? = some ("_law_value" : Str)) (vis : Vis X.env.scope "_law_value") :
    PE X (.BinOp (.Name "_law_value" j) .Add (.Subscript (.Name "_law_value" j2) (.Slice (some (.UnaryOp .USub (.Constant (.int 1) c p1) p3)) none none p2) p4) pos) (tM X.K p (n + 1) (ST X.K p n xs)) :=
  pe_imp (pe_op op_catM (pe_var hv vis) (pe_slice sl_tupM (pe_var hv vis) (po_some (pe_un un_neg pe_int)) po_none)) fun _ H Q q => by
    obtain ⟨⟨v, h1, h2, h3, h4, h5⟩, q⟩ := q
    refine ⟨_, h1, _, h1, 1, rfl, -1, rfl, p, xs, h2, h3, fun z H' s t => ⟨p, xs, _, Same.there s h2, h3.same (But.of s), t, ?_, fun z2 H2 s2 t2 => q _ _ (s.trans s2) (tup_good t2 ?_ ?_)⟩⟩
    · have := cut_last (xs := xs)
      omega
    · exact (h4.same (mk_up (s.trans s2))).app ((h4.same (mk_up (s.trans s2))).cut _ _)
    · have := cut_last (xs := xs)
      rw [List.length_append]
      omega
theorem m_back {xs : List V} {j c p1 p2 p3} (hv : X.N[1]? = some ("_law_value" : Str)) (vis : Vis X.env.scope "_law_value") :
    PE X (.Subscript (.Name "_law_value" j) (.Slice none none (some (.UnaryOp .USub (.Constant (.int 1) c p1) p3)) p2) pos) (tM X.K p (n + 1) (ST X.K p n xs)) :=
  pe_imp (pe_back (pe_var hv vis) (pe_un un_neg pe_int)) fun _ H Q q => by
    obtain ⟨⟨v, h1, h2, ⟨a, rfl, h3⟩, h4, h5⟩, q⟩ := q
    exact ⟨_, h1, 1, rfl, a, xs, rfl, rfl, same_tup (mk_self p H) h3, fun l nl => q _ _ (same_new nl _) (.tup ((h4.same (mk_up (same_new nl _))).back) (by rw [List.length_reverse]; omega) (.inl (.inl (mk_new h2 nl))))⟩
theorem m_zero {xs : List V} {j c p1 p2 x1} (hv : X.N[1]? = some ("_law_value" : Str)) (vis : Vis X.env.scope "_law_value") (hs : starEach [.Constant (.int 0) c p1] X.env = (false, eval (.Constant (.int 0) c p1) X.env) :: starEach [] X.env := by rfl) :
    PE X (.BinOp (.Name "_law_value" j) .Add (.Tuple [.Constant (.int 0) c p1] x1 p2) pos) (tM X.K p (n + 1) (ST X.K p n xs)) :=
  pe_imp (pe_op op_catM (pe_var hv vis) (pe_tup (pa_cons pe_int pa_nil hs))) fun _ H Q q => by
    obtain ⟨⟨v, h1, h2, h3, h4, h5⟩, q⟩ := q
    refine ⟨_, h1, (by show 1 ≤ sizeLine; decide), fun t nt => ⟨p, xs, [.int 0], Same.there (same_new nt _) h2, h3.same (But.of (same_new nt _)), ⟨t, rfl, .inl (.inl (mk_new h2 nt))⟩, by rw [List.length_singleton]; omega, fun z2 H2 s2 t2 => q _ _ ((same_new nt _).trans s2) (tup_good t2 ?_ ?_)⟩⟩
    · exact (h4.same (mk_up ((same_new nt _).trans s2))).app (.cons ⟨.int 0, .int 0, by simp only [small]; decide⟩ .nil)
    · rw [List.length_append, List.length_singleton]
      omega
/-- an int stands in slot 1 -/
def SI (p : Addr) (i : Int) : L2.St → Hp → Prop := fun σ H => σ[1]? = some (some (.int i)) ∧ H p ≠ none ∧ i.natAbs < 10 ^ 9
theorem SI.stays {i : Int} : Stays (SI p i) := fun σ H H' s ⟨h1, h2, h3⟩ => ⟨h1, Same.there s h2, h3⟩
theorem gd_of_int {K : PySem.W.Frag} {H : Hp} {i : Int} (h : i.natAbs < 10 ^ 12) : Gd K n H (.int i) := ⟨.int i, .int i, by simp only [small, decide_eq_true h]⟩
theorem m_inc {i : Int} {j c p1} (hv : X.N[1]? = some ("_law_value" : Str)) (vis : Vis X.env.scope "_law_value") : PE X (.BinOp (.Name "_law_value" j) .Add (.Constant (.int 1) c p1) pos) (tM X.K p k (SI p i)) :=
  pe_imp (pe_op op_add (pe_var hv vis) pe_int) fun _ H Q q => ⟨_, q.1.1, _, _, rfl, rfl, q.2 _ _ (Same.refl H) (gd_of_int (by have := q.1.2.2; omega))⟩
theorem m_dec {i : Int} {j c p1} (hv : X.N[1]? = some ("_law_value" : Str)) (vis : Vis X.env.scope "_law_value") : PE X (.BinOp (.Name "_law_value" j) .Sub (.Constant (.int 1) c p1) pos) (tM X.K p k (SI p i)) :=
  pe_imp (pe_op op_sub (pe_var hv vis) pe_int) fun _ H Q q => ⟨_, q.1.1, _, _, rfl, rfl, q.2 _ _ (Same.refl H) (gd_of_int (by have := q.1.2.2; omega))⟩
theorem m_one {i : Int} {j c p1} (hv : X.N[1]? = some ("_law_value" : Str)) (vis : Vis X.env.scope "_law_value") : PE X (.Compare (.Name "_law_value" j) [.Eq] [.Constant (.int 1) c p1] pos) (tM X.K p k (SI p i)) :=
  pe_imp (pe_cmpR op_eq (pe_var hv vis) pe_int (nomark _)) fun _ H Q q => ⟨_, q.1.1, rfl, q.2 _ _ (Same.refl H) ⟨.bool _, .bl _, by simp only [small]⟩⟩
theorem m_itup {i : Int} {j x1} (hv : X.N[1]? = some ("_law_value" : Str)) (vis : Vis X.env.scope "_law_value") (hs : starEach [.Name "_law_value" j] X.env = (false, eval (.Name "_law_value" j) X.env) :: starEach [] X.env := by rfl) : PE X (.Tuple [.Name "_law_value" j] x1 pos) (tM X.K p (k + 1) (SI p i)) :=
  pe_imp (pe_tup (pa_cons (pe_var hv vis) pa_nil hs)) fun _ H Q q => ⟨_, q.1.1, (by show 1 ≤ sizeLine; decide), fun t nt => q.2 _ _ (same_new nt _) (.tup (.cons (gd_of_int (by have := q.1.2.2; omega)) .nil) (by show 1 ≤ 25; decide) (.inl (.inl (mk_new q.1.2.1 nt))))⟩
/-- a text stands in slot 1 -/
def SS (p : Addr) (x : Str) : L2.St → Hp → Prop := fun σ H => σ[1]? = some (some (.str x)) ∧ H p ≠ none ∧ isNameB x = true
theorem SS.stays {x : Str} : Stays (SS p x) := fun σ H H' s ⟨h1, h2, h3⟩ => ⟨h1, Same.there s h2, h3⟩
theorem gd_of_str {K : PySem.W.Frag} {H : Hp} {x : Str} (h : (decide (x.length ≤ 40) && x.cps.toList.all fun c => decide (c < 16 ^ 8)) = true) : Gd K n H (.str x) := ⟨.str x, .str x, by simp only [small, h]⟩
theorem m_x {x : Str} {j c p1} (hv : X.N[1]? = some ("_law_value" : Str)) (vis : Vis X.env.scope "_law_value") : PE X (.BinOp (.Name "_law_value" j) .Add (.Constant (.str "x") c p1) pos) (tM X.K p k (SS p x)) :=
  pe_imp (pe_op op_add_str (pe_var hv vis) pe_str) fun _ H Q q => by
    obtain ⟨⟨h1, h2, h3⟩, q⟩ := q
    have hl := name_len h3
    refine ⟨_, h1, _, _, rfl, rfl, ?_, q _ _ (Same.refl H) (gd_of_str ?_)⟩
    · have : ("x" : Str).length = 1 := by decide +kernel
      rw [this, sizeLine_eq]
      omega
    · have := name_x_small h3
      simp only [small] at this
      exact this
theorem cut_small {x : Str} {lo hi : Option Int} (h : isNameB x = true) : (decide ((cutS x lo hi).length ≤ 40) && (cutS x lo hi).cps.toList.all fun c => decide (c < 16 ^ 8)) = true := by
  have h0 := name_small h
  simp only [small, Bool.and_eq_true, decide_eq_true_eq] at h0 ⊢
  refine ⟨Nat.le_trans (cutS_length x lo hi) h0.1, List.all_eq_true.mpr fun d hd => List.all_eq_true.mp h0.2 d ?_⟩
  have hd' : d ∈ (((x.cps.toList.drop (HT.sIx x.length 0 lo)).take (HT.sIx x.length x.length hi - HT.sIx x.length 0 lo)).toArray).toList := hd
  exact List.mem_of_mem_drop (List.mem_of_mem_take hd')
theorem m_supto {x : Str} {j c p1 p2 p3} (hv : X.N[1]? = some ("_law_value" : Str)) (vis : Vis X.env.scope "_law_value") :
    PE X (.Subscript (.Name "_law_value" j) (.Slice none (some (.UnaryOp .USub (.Constant (.int 1) c p1) p3)) none p2) pos) (tM X.K p k (SS p x)) :=
  pe_imp (pe_slice sl_str (pe_var hv vis) po_none (po_some (pe_un un_neg pe_int))) fun _ H Q q => by
    obtain ⟨⟨h1, h2, h3⟩, q⟩ := q
    have hl := name_len h3
    refine ⟨_, h1, 1, rfl, -1, rfl, _, rfl, ?_, q _ _ (Same.refl H) (gd_of_str (cut_small h3))⟩
    rw [sizeLine_eq]
    omega
theorem m_up {x : Str} {j apos} (hv : X.N[1]? = some ("_law_value" : Str)) (vis : Vis X.env.scope "_law_value") (hbase : attributeBase (.Name "_law_value" j) "upper" X.env (eval (.Name "_law_value" j) X.env) = eval (.Name "_law_value" j) X.env := by rfl) (hline : (apos.endLine == pos.line) = true := by rfl) :
    PE X (.Call (.Attribute (.Name "_law_value" j) "upper" apos) [] [] pos) (tM X.K p k (SS p x)) :=
  pe_imp (pe_upper (pe_var hv vis) hbase hline) fun _ H Q q => by
    obtain ⟨⟨h1, h2, h3⟩, q⟩ := q
    have hl := name_len h3
    refine ⟨_, h1, ⟨_, rfl⟩, _, rfl, rfl, ?_, q _ _ (Same.refl H) (gd_of_str ?_)⟩
    · omega
    · have := upper_small h3
      simp only [small] at this
      exact this
theorem m_slst {x : Str} {j} (hv : X.N[1]? = some ("_law_value" : Str)) (vis : Vis X.env.scope "_law_value") (hs : starEach [.Name "_law_value" j] X.env = (false, eval (.Name "_law_value" j) X.env) :: starEach [] X.env := by rfl) : PE X (.List [.Name "_law_value" j] pos) (tM X.K p (k + 1) (SS p x)) :=
  pe_imp (pe_lst (pa_cons (pe_var hv vis) pa_nil hs)) fun _ H Q q => ⟨_, q.1.1, (by show 1 ≤ sizeLine; decide), fun t nt => q.2 _ _ (same_new nt _) (.lst (.cons (gd_of_str (ab_small q.1.2.2)) .nil) (by show 1 ≤ 25; decide) (SqL.of (mk_new q.1.2.1 nt)))⟩
end
/-! ### a bent value -/
def spBent (K : PySem.W.Frag) (m : Nat) : Sp := fun vs H Q _ => ∃ (p : Addr) (v : V) (b n : Nat) (d : PyData), vs = [.ref p, v] ∧ m = n + 1 ∧ n ≤ 30 ∧ PotAt H p b ∧ b + 3 * m ≤ 100000 ∧ Dp K (mk p H) v d ∧ bd n d = true ∧
  ∀ (x : V) (H' : Hp), But p H H' → PotAt H' p (b + 3 * m) → Gd K (n + 1) (mk p H') x → Q x H'
section
variable {P : Program} {w : World} {K : PySem.W.Frag} {mg : Str → Option Value} {base : Heap}
theorem no_bent {f : Addr} {fd : FuncData} {k : Nat} : FnOk P w K mg base CX0 k f fd ["_law_pot_here", "_law_value"] (spBent K 0) := by
  have no : ∀ vs H Q E, ¬ spBent K 0 vs H Q E := fun vs H Q E h => by
    obtain ⟨p, v, b, n, d, _, e, _⟩ := h
    exact nomatch e
  exact ⟨fun vs H Q E h => absurd h (no vs H Q E), fun A outer s H args us vs Q E _ _ _ _ h => absurd h (no vs H Q E)⟩
theorem scBent : FnScope ["_law_pot_here", "_law_value", "_law_at", "_law_some_here"] ["_law_pot_here", "_law_value"] (defScope sBent) := ⟨rfl, rfl, rfl, by decide +kernel, rfl, by decide +kernel, by decide +kernel⟩
/-- what the callees are worth -/
structure Bent (P : Program) (w : World) (K : PySem.W.Frag) (mg : Str → Option Value) (base : Heap) : Prop where
  take : ∃ g gd, FnOk P w K mg base CX0 1 g gd ["_law_pot_here", "_law_upto"] spTake ∧ mg "_law_take" = some (.ref g) ∧ PySem.W.keepIn K (.ref g) = true ∧ Binds K gd ["_law_pot_here", "_law_upto"] []
  one : ∃ g gd, FnOk P w K mg base CX0 2 g gd ["_law_pot_here", "_law_some_here"] (spOf K) ∧ mg "_law_of" = some (.ref g) ∧ PySem.W.keepIn K (.ref g) = true ∧ Binds K gd ["_law_pot_here", "_law_some_here"] []
section
variable {X : Cx} {p1 p2 p3 pos : Pos}
theorem pt_is {T : String} {x : Str} (hx : x = Str.ofString T) (hv : X.N[1]? = some ("_law_value" : Str)) (vis : Vis X.env.scope "_law_value") (hI : Gl X "isinstance") (mI : X.mg "isinstance" = none) (hT : Gl X x) (mT : X.mg x = none) (bT : bootBuiltins x = some (.type T)) (hn : x ≠ "__name__") (hd : (x == ("__debug__" : Str)) = false)
    (hs : starEach [.Name "_law_value" p2, .Name x p3] X.env = (false, eval (.Name "_law_value" p2) X.env) :: starEach [.Name x p3] X.env := by rfl) (hs2 : starEach [.Name x p3] X.env = (false, eval (.Name x p3) X.env) :: starEach [] X.env := by rfl)
    (hpl : (backTo pos (starEach [.Name x p3] X.env)).any (·.1) = false := by rfl) :
    PT X (.Call (.Name "isinstance" p1) [.Name "_law_value" p2, .Name x p3] [] pos) (fun σ H Q => ∃ v t b, σ[1]? = some (some v) ∧ TyX X.K H v (.type t) ∧ kitB t T = some b ∧ Q b H) := by
  have h := pt_val (pe_callB (p := p1) (pos := pos) call_isi hI mI (by decide +kernel) (pa_cons (pe_var (pos := p2) hv vis) (pa_cons (pe_bltn (pos := p3) (v := .ty T) (u := .type T) hT mT bT rfl hn hd) pa_nil hs2) hs) (by decide) (by decide) hs hpl)
  refine ⟨fun pins s σ H Q I q => h.run pins s σ H Q I ?_⟩
  obtain ⟨v, t, b, e, ty, k, q⟩ := q
  exact ⟨v, e, v, _, _, _, _, rfl, .ty _, ty, kit_ty k, _, rfl, q⟩
end
theorem nextIf {c : Bool} {A B C : Prop} (hc : ¬ c = true) (h : C) : (if c = true then A else C) := by
  rw [if_neg hc]
  exact h
theorem ty_tup {H : Hp} {a : Addr} {xs : List V} (h : SqT K H a xs) : TyX K H (.ref a) (.type "tuple") := by
  rcases h with (h | ⟨o, h⟩) | ⟨o, its, n, h, c, _⟩
  · exact .base (.tup h)
  · exact .fTuple h
  · exact .kTuple h c
theorem pick {H : Hp} {n : Nat} : ∀ {ds : List PyData} {xs : List V}, DpAll K H xs ds → bds n ds = true → ∀ x ∈ xs, ∃ d, Dp K H x d ∧ bd n d = true
  | [], _, h, _, x, hx => by
    cases h
    cases hx
  | d :: ds, _, h, e, x, hx => by
    cases h with
    | cons h1 h2 =>
      simp only [bds, Bool.and_eq_true] at e
      rcases List.mem_cons.mp hx with rfl | hx
      · exact ⟨d, h1, e.1⟩
      · exact pick h2 e.2 x hx
theorem bent_pot {p : Addr} {H : Hp} {b n : Nat} (h : PotAt H p b) (hn : n + 1 ≤ 100001) : PotAt H p (b + 3 * (n + 1)) := h.mono (by omega)
theorem ok_bent {f : Addr} {fd : FuncData} {m : Nat} (F : Fun K "_law_bent" "_law_bent" sBent f fd) (T : Bltn mg) (B : Bent P w K mg base) (G : FnOk P w K mg base CX0 (m + 4) f fd ["_law_pot_here", "_law_value"] (spBent K m))
    (mG : mg "_law_bent" = some (.ref f)) (bG : Binds K fd ["_law_pot_here", "_law_value"] []) : FnOk P w K mg base CX0 (m + 5) f fd ["_law_pot_here", "_law_value"] (spBent K (m + 1)) := by
  obtain ⟨gt, gtd, GT, mT, kT, bT⟩ := B.take
  obtain ⟨go, god, GO, mO, kO, bO⟩ := B.one
  refine F.ok scBent (fun vs H Q E h => ?_) (fun cdv A outer s H vs Q E hr h => ?_)
  · obtain ⟨p, v, b, n, d, rfl, _⟩ := h
    rfl
  obtain ⟨p, v, b, n, d, rfl, em, hn, hp, hb, hd, hbd, q⟩ := h
  have e1 : n = m := by omega
  subst e1
  have r1 : Room 1 _ := hr.mono (by omega)
  have r2 : Room 2 _ := hr.mono (by omega)
  have hpt := hp.there
  have hdH : Dp K H v d := Dp_same (mk_self p H) d v hd
  obtain ⟨T0, ty, eT⟩ := ty_of hdH
  cases d with
  | none =>
    simp only [bd] at hbd
    cases hbd
  | bool _ =>
    simp only [bd] at hbd
    cases hbd
  | list _ =>
    simp only [bd] at hbd
    cases hbd
  | dict _ =>
    simp only [bd] at hbd
    cases hbd
  | int i =>
    cases hd
    have eT : T0 = "int" := eT
    subst eT
    simp only [bd, decide_eq_true_eq] at hbd
    refine ⟨_, pss_cons (ps_if (PW.pt (pw_and (pt_is (T := "tuple") rfl rfl (Or.inl rfl) rfl T.isinstance rfl T.tuple (by decide +kernel) (by decide) (by decide)) (pw_and (pt_cmpR (op_neD hr.units) (pv 1) (pe_tup pa_nil) (nomark _)) (pw_and1 (pt_cmpR op_gt (pe_call GT r1 rfl mT kT bT .nil pass0 (pa_cons (pv 0) (pa_cons pe_int pa_nil))) pe_int (nomark _)))))) pss_never pss_nil)
      (pss_cons (ps_if (pt_is (T := "tuple") rfl rfl (Or.inl rfl) rfl T.isinstance rfl T.tuple (by decide +kernel) (by decide) (by decide)) pss_never pss_nil)
      (pss_cons (ps_if (pt_is (T := "bool") rfl rfl (Or.inl rfl) rfl T.isinstance rfl T.bool (by decide +kernel) (by decide) (by decide)) pss_never pss_nil)
      (pss_cons (ps_if (pt_is (T := "int") rfl rfl (Or.inl rfl) rfl T.isinstance rfl T.int (by decide +kernel) (by decide) (by decide)) (pss_one (ps_ret (pe_call GO r2 rfl mO kO bO .nil pass0 (pa_cons (pv 0) (pa_cons (pe_lst
          (pm_cons (p := p) (k := n + 1) (S := SI p i) SI.stays (m_inc rfl (Or.inl rfl)) (pm_cons SI.stays (m_dec rfl (Or.inl rfl)) (pm_cons SI.stays (m_one rfl (Or.inl rfl)) (pm_cons SI.stays (pm_of (fun _ _ h => h.2.1) gd_str) (pm_cons SI.stays (pm_of (fun _ _ h => h.2.1) gd_none) (pm_cons SI.stays (m_itup rfl (Or.inl rfl)) pm_nil))))))) pa_nil))))) pss_nil)
      pss_never))), ?_⟩
    refine ⟨_, _, false, rfl, ty, by decide +kernel, iteF (iteF ?_)⟩
    refine ⟨_, _, false, rfl, ty, by decide +kernel, iteF ?_⟩
    refine ⟨_, _, false, rfl, ty, by decide +kernel, iteF ?_⟩
    refine ⟨_, _, true, rfl, ty, by decide +kernel, iteT ?_⟩
    refine ⟨_, rfl, ⟨rfl, hpt, hbd⟩, fun xs H1 s1 l1 g1 => ⟨by rw [l1]; decide, fun l nl => ?_⟩⟩
    have s2 := same_new nl (.lst xs)
    refine ⟨p, l, xs, b, rfl, hp.same (s1.trans s2), by omega, SqL.of upd_same, by rw [l1]; decide, by rw [l1]; decide, new_ne (hp.same s1).there nl, fun x H' hx but pot => ?_⟩
    exact q x H' ((But.of (s1.trans s2)).trans but) (pot.mono (by omega)) ((g1 x hx).same ((mk_up s2).trans (mk_but but)))
  | str x =>
    cases hd
    have eT : T0 = "str" := eT
    subst eT
    simp only [bd] at hbd
    refine ⟨_, pss_cons (ps_if (PW.pt (pw_and (pt_is (T := "tuple") rfl rfl (Or.inl rfl) rfl T.isinstance rfl T.tuple (by decide +kernel) (by decide) (by decide)) (pw_and (pt_cmpR (op_neD hr.units) (pv 1) (pe_tup pa_nil) (nomark _)) (pw_and1 (pt_cmpR op_gt (pe_call GT r1 rfl mT kT bT .nil pass0 (pa_cons (pv 0) (pa_cons pe_int pa_nil))) pe_int (nomark _)))))) pss_never pss_nil)
      (pss_cons (ps_if (pt_is (T := "tuple") rfl rfl (Or.inl rfl) rfl T.isinstance rfl T.tuple (by decide +kernel) (by decide) (by decide)) pss_never pss_nil)
      (pss_cons (ps_if (pt_is (T := "bool") rfl rfl (Or.inl rfl) rfl T.isinstance rfl T.bool (by decide +kernel) (by decide) (by decide)) pss_never pss_nil)
      (pss_cons (ps_if (pt_is (T := "int") rfl rfl (Or.inl rfl) rfl T.isinstance rfl T.int (by decide +kernel) (by decide) (by decide)) pss_never pss_nil)
      (pss_cons (ps_if (pt_is (T := "str") rfl rfl (Or.inl rfl) rfl T.isinstance rfl T.str (by decide +kernel) (by decide) (by decide)) (pss_one (ps_ret (pe_call GO r2 rfl mO kO bO .nil pass0 (pa_cons (pv 0) (pa_cons (pe_lst
          (pm_cons (p := p) (k := n + 1) (S := SS p x) SS.stays (m_x rfl (Or.inl rfl)) (pm_cons SS.stays (m_supto rfl (Or.inl rfl)) (pm_cons SS.stays (m_up rfl (Or.inl rfl)) (pm_cons SS.stays (pm_of (fun _ _ h => h.2.1) gd_str) (pm_cons SS.stays (pm_of (fun _ _ h => h.2.1) gd_str)
          (pm_cons SS.stays (m_slst rfl (Or.inl rfl)) (pm_cons SS.stays (pm_of (fun _ _ h => h.2.1) gd_none) (pm_cons SS.stays (pm_of (fun _ _ h => h.2.1) gd_int) pm_nil))))))))) pa_nil))))) pss_nil)
      pss_never)))), ?_⟩
    refine ⟨_, _, false, rfl, ty, by decide +kernel, iteF (iteF ?_)⟩
    refine ⟨_, _, false, rfl, ty, by decide +kernel, iteF ?_⟩
    refine ⟨_, _, false, rfl, ty, by decide +kernel, iteF ?_⟩
    refine ⟨_, _, false, rfl, ty, by decide +kernel, iteF ?_⟩
    refine ⟨_, _, true, rfl, ty, by decide +kernel, iteT ?_⟩
    refine ⟨_, rfl, ⟨rfl, hpt, hbd⟩, fun xs H1 s1 l1 g1 => ⟨by rw [l1]; decide, fun l nl => ?_⟩⟩
    have s2 := same_new nl (.lst xs)
    refine ⟨p, l, xs, b, rfl, hp.same (s1.trans s2), by omega, SqL.of upd_same, by rw [l1]; decide, by rw [l1]; decide, new_ne (hp.same s1).there nl, fun x H' hx but pot => ?_⟩
    exact q x H' ((But.of (s1.trans s2)).trans but) (pot.mono (by omega)) ((g1 x hx).same ((mk_up s2).trans (mk_but but)))
  | tuple ds =>
    cases n with
    | zero =>
      simp only [bd] at hbd
      cases hbd
    | succ n =>
      cases hd with
      | @tup a xs _ hx hds =>
      have eT : T0 = "tuple" := eT
      subst eT
      have hbd0 := hbd
      simp only [bd, Bool.and_eq_true, decide_eq_true_eq] at hbd
      have hlen := DpAll_length ds xs hds
      have hx4 : xs.length ≤ 24 := by omega
      have gxs : Gds K n (mk p H) xs := ⟨ds, hds, bds_small n ds hbd.2⟩
      refine ⟨_, pss_cons (ps_if (PW.pt (pw_and (pt_is (T := "tuple") rfl rfl (Or.inl rfl) rfl T.isinstance rfl T.tuple (by decide +kernel) (by decide) (by decide)) (pw_and (pt_cmpR (op_neD hr.units) (pv 1) (pe_tup pa_nil) (nomark _)) (pw_and1 (pt_cmpR op_gt (pe_call GT r1 rfl mT kT bT .nil pass0 (pa_cons (pv 0) (pa_cons pe_int pa_nil))) pe_int (nomark _))))))
          (pss_cons (ps_set (i := 2) scBent.nd rfl (Or.inl rfl) (pe_call GT r1 rfl mT kT bT .nil pass0 (pa_cons (pv 0) (pa_cons (pe_callB call_len_seq rfl T.len PySem.boot_len (pa_cons (pv 1) pa_nil)) pa_nil))))
          (pss_one (ps_ret (pe_op op_catM (pe_op op_catM (pe_slice sl_tupM (pv 1) po_none (po_some (pv 2))) (pe_tup (pa_cons (pe_call G hr rfl mG F.kp bG .nil pass0 (pa_cons (pv 0) (pa_cons (pe_ix ix_tup (pv 1) (pv 2) (fun _ _ => rfl)) pa_nil))) pa_nil)))
            (pe_slice sl_tupM (pv 1) (po_some (pe_op op_add (pv 2) pe_int)) po_none))))) pss_nil)
        (pss_cons (ps_if (pt_is (T := "tuple") rfl rfl (Or.inl rfl) rfl T.isinstance rfl T.tuple (by decide +kernel) (by decide) (by decide))
          (pss_cons (ps_set (i := 3) scBent.nd rfl (Or.inl rfl) (pe_lst
            (pm_cons (p := p) (k := n + 1) (S := ST K p n xs) ST.stays (m_list rfl (Or.inl rfl) rfl T.list) (pm_cons ST.stays (m_from rfl (Or.inl rfl)) (pm_cons ST.stays (m_upto rfl (Or.inl rfl)) (pm_cons ST.stays (m_last rfl (Or.inl rfl)) (pm_cons ST.stays (m_back rfl (Or.inl rfl))
            (pm_cons ST.stays (pm_of (fun _ _ h => by obtain ⟨_, _, h, _⟩ := h; exact h) (gd_tup gd_nil)) (pm_cons ST.stays (pm_of (fun _ _ h => by obtain ⟨_, _, h, _⟩ := h; exact h) gd_none) (pm_cons ST.stays (m_zero rfl (Or.inl rfl)) pm_nil))))))))))
          (pss_one (ps_ret (pe_call GO r2 rfl mO kO bO .nil pass0 (pa_cons (pv 0) (pa_cons (pv 3) pa_nil)))))) pss_nil)
        pss_never), ?_⟩
      refine ⟨_, _, true, rfl, ty, by decide +kernel, iteT ?_⟩
      refine ⟨_, rfl, (by show 0 ≤ sizeLine; decide), fun t nt => ?_⟩
      have st := same_new nt (.tup [])
      have butT : But p H (upd H t (.tup [])) := But.of st
      have potT : PotAt (upd H t (.tup [])) p b := hp.same st
      have hxT : SqT K (mk p (upd H t (.tup []))) a xs := same_tup (mk_but butT) hx
      refine ⟨.tuple ds, .tuple [], Dp_same (mk_self p _) _ _ (.tup hxT (DpAll_same (mk_but butT) _ _ hds)), .tup (.inl (.inl upd_same)) .nil, bd_shaped hbd0 (by omega), rfl, _, rfl, ?_⟩
      cases ds with
      | nil =>
        refine iteF (iteF ?_)
        refine ⟨_, _, true, rfl, ty_tup (same_tup (mk_self p (upd H t (.tup []))) (same_tup (mk_but butT) hx)), by decide +kernel, iteT ?_⟩
        refine ⟨⟨_, rfl, potT.there, TupM.same butT ⟨a, rfl, hx⟩, gxs.same (mk_but butT), hx4⟩, fun ys G2 s2 l2 g2 => ⟨by rw [l2]; decide, fun l nl => ?_⟩⟩
        have s3 := same_new nl (.lst ys)
        refine ⟨_, rfl, _, rfl, p, l, ys, b, rfl, potT.same (s2.trans s3), by omega, SqL.of upd_same, by rw [l2]; decide, by rw [l2]; decide, new_ne (potT.same s2).there nl, fun x H' hx' but pot => ?_⟩
        exact q x H' ((butT.trans (But.of (s2.trans s3))).trans but) (pot.mono (by omega)) (((g2 x hx').same ((mk_up s3).trans (mk_but but))).le (by omega))
      | cons d0 ds =>
        refine iteT ?_
        have x0 : 1 ≤ xs.length := by
          rw [← hlen, List.length_cons]
          omega
        refine ⟨_, rfl, p, 6, b, rfl, potT, by omega, by decide, by decide, fun k H2 k0 k1 but2 pot2 => ⟨_, _, rfl, rfl, _, rfl, ?_⟩⟩
        have but12 := butT.trans but2
        refine ite2 (fun c => ?_) (fun c => ?_)
        · have hx2 : SqT K (mk p H2) a xs := same_tup (mk_but but12) hx
          refine ⟨_, rfl, _, rfl, a, xs, rfl, .inr (same_tup (mk_self p H2) hx2), p, _, b + 1, rfl, pot2, by omega, by omega, by omega, fun j H3 j0 j1 but3 pot3 => ?_⟩
          have but13 := but12.trans but3
          have hx3 : SqT K (mk p H3) a xs := same_tup (mk_but but13) hx
          refine ⟨_, rfl, _, rfl, _, rfl, p, xs, pot3.there, ⟨a, rfl, hx3⟩, fun z1 H4 s4 t4 => ?_⟩
          have but14 := but13.trans (But.of s4)
          have pot4 := pot3.same s4
          have hx4' : SqT K (mk p H4) a xs := same_tup (mk_but but14) hx
          have jl : j.toNat < xs.length := by omega
          have at_ : atI xs j = some xs[j.toNat] := at_of (j := j.toNat) (by omega) (List.getElem?_eq_getElem jl)
          obtain ⟨dj, hdj, bdj⟩ := pick (DpAll_same (mk_but but14) _ _ hds) hbd.2 _ (List.getElem_mem jl)
          refine ⟨_, rfl, _, rfl, _, rfl, a, xs, j, _, rfl, rfl, same_tup (mk_self p H4) hx4', at_, p, _, b + 2, n, dj, rfl, rfl, by omega, pot4, by omega, hdj, bdj, fun y H5 but5 pot5 gy => ⟨(by show 1 ≤ sizeLine; decide), fun t5 nt5 => ?_⟩⟩
          have s5 := same_new nt5 (.tup [y])
          have but15 := (but14.trans but5).trans (But.of s5)
          have pot6 := pot5.same s5
          have len1 := cut_upto (xs := xs) j0
          have len2 := cut_from (xs := xs) (show (0 : Int) ≤ j + 1 by omega)
          refine ⟨p, _, [y], pot6.there, (t4.same but5).same (But.of s5), ⟨t5, rfl, .inl (.inl (mk_new pot5.there nt5))⟩, by rw [List.length_singleton]; omega, fun z2 H7 s7 t7 => ?_⟩
          have but17 := but15.trans (But.of s7)
          refine ⟨_, rfl, _, rfl, _, _, rfl, rfl, _, rfl, p, xs, (pot6.same s7).there, ⟨a, rfl, same_tup (mk_but but17) hx⟩, fun z3 H8 s8 t8 => ?_⟩
          have but18 := but17.trans (But.of s8)
          refine ⟨p, _, _, ((pot6.same s7).same s8).there, t7.same (But.of s8), t8, by rw [List.length_append, List.length_singleton]; omega, fun z4 H9 s9 t9 => ?_⟩
          have but19 := but18.trans (But.of s9)
          have s59 : Same H5 H9 := (s5.trans s7).trans (s8.trans s9)
          have gx9 : Gds K (n + 1) (mk p H9) xs := (gxs.same (mk_but but19)).le (by omega)
          refine q z4 H9 but19 ((pot5.same s59).mono (by omega)) (tup_good t9 (((gx9.cut _ _).app (.cons (gy.same (mk_up s59)) .nil)).app (gx9.cut _ _)) ?_)
          rw [List.length_append, List.length_append, List.length_singleton]
          omega
        · refine ⟨_, _, true, rfl, ty_tup (same_tup (mk_self p H2) (same_tup (mk_but but12) hx)), by decide +kernel, iteT ?_⟩
          refine ⟨⟨_, rfl, pot2.there, TupM.same but12 ⟨a, rfl, hx⟩, gxs.same (mk_but but12), hx4⟩, fun ys G2 s2 l2 g2 => ⟨by rw [l2]; decide, fun l nl => ?_⟩⟩
          have s3 := same_new nl (.lst ys)
          refine ⟨_, rfl, _, rfl, p, l, ys, (b + 1), rfl, pot2.same (s2.trans s3), by omega, SqL.of upd_same, by rw [l2]; decide, by rw [l2]; decide, new_ne (pot2.same s2).there nl, fun x H' hx' but pot => ?_⟩
          exact q x H' ((but12.trans (But.of (s2.trans s3))).trans but) (pot.mono (by omega)) (((g2 x hx').same ((mk_up s3).trans (mk_but but))).le (by omega))
end
end K51
set_option Elab.async false
set_option linter.all false
set_option maxRecDepth 100000
set_option maxHeartbeats 4000000
/-! list(zip(a, b)) of two tuples: no rule of the hand layer gathers a zip. -/
namespace ZL
open PySem PySem.Spec PyProof.Rows RZ
section
variable {prog : Program} {w : World} {A : Around} {E : Value → Shared → Prop} {s : Shared} {z TI TO T i1 i2 l1 l2 : Addr} {f : Bool} {oT : Obj} {k : Nat} {xs ys : Array Value} {x y : Value}
/-- the two tuples behind a zip, k of each drawn -/
structure Two (h : Heap) (TI i1 i2 l1 l2 : Addr) (k : Nat) (xs ys : Array Value) : Prop where
  ti : IsPair h TI (.ref i1) (.ref i2)
  h1 : h.IsTupleIter i1 l1 k
  h2 : h.IsTupleIter i2 l2 k
  t1 : h.IsTuple l1 xs
  t2 : h.IsTuple l2 ys
theorem held_item {Q : Option Value → Shared → Prop} (D : ZipApart z TI TO i1 i2 l1 l2) (hz : IsZipHeld s.heap z TI TO T f) (hT : s.heap.get? T = some oT) (W : Two s.heap TI i1 i2 l1 l2 k xs ys) (hx : xs[k]? = some x) (hy : ys[k]? = some y)
    (hQ : ∀ h', IsZipHeld h' z TI TO T true → Two h' TI i1 i2 l1 l2 (k + 1) xs ys → IsPair h' s.heap.objs.size x y → h'.objs.size = s.heap.objs.size + 1 →
      (∀ c o, c ≠ z → c ≠ i1 → c ≠ i2 → s.heap.get? c = some o → h'.get? c = some o) → Q (some (.ref s.heap.objs.size)) { s with heap := h' }) :
    wpAny (model prog w) A (pyNext (.ref z)) Q E s := by
  have hTy : s.TypeIs (.ref z) "zip" := ⟨_, hz, rfl⟩
  unfold pyNext
  refine wpAny_bind (wpAny_attempt (wpAny_callSpecial?_slot (name := Str.ofString "__next__") hTy F.slot_zip_next
    (wpAny_call_entry F.slot_zip_next hTy F.entry_zip_next ?_ (F.args_zip_next_1 _))))
  show wpAny _ _ (field (.ref z) 2 >>= _) _ _ _
  refine wpAny_bind (wpAny_field hz rfl (x := .bool false) rfl ?_)
  show wpAny _ _ (field (.ref z) 3 >>= _) _ _ _
  refine wpAny_bind (wpAny_field hz rfl (x := .ref TI) rfl ?_)
  refine wpAny_bind (wpAny_seqItems W.ti rfl ?_)
  show wpAny _ _ (Builtin.SmallTypes.ownedTupleIsFree (.ref z) >>= _) _ _ _
  refine wpAny_bind (wpAny_tupleHeld_zip hz hT fun h₁ hz₁ hs₁ => ?_)
  simp only [Bool.false_eq_true, if_false]
  refine wpAny_bind ?_
  rw [← Array.forIn_toList]
  simp only [List.forIn_cons, List.forIn_nil]
  refine wpAny_bind (wpAny_bind (wpAny_holding ?_))
  show wpAny _ _ (Builtin.SmallTypes.nextOf (.ref i1) >>= _) _ _ _
  refine wpAny_bind (nextOf_tuple_item (s := { s with heap := h₁ }) (W.h1.extBut hs₁.extBut D.i1z) (W.t1.extBut hs₁.extBut D.l1z) hx fun h₂ h1₂ hs₂ => wpAny_pure ?_)
  refine wpAny_pure ?_
  refine wpAny_bind (wpAny_bind (wpAny_holding ?_))
  show wpAny _ _ (Builtin.SmallTypes.nextOf (.ref i2) >>= _) _ _ _
  refine wpAny_bind (nextOf_tuple_item (s := { s with heap := h₂ }) ((W.h2.extBut hs₁.extBut D.i2z).extBut hs₂.extBut D.i12.symm) ((W.t2.extBut hs₁.extBut D.l2z).extBut hs₂.extBut D.l2i1) hy fun h₃ h2₃ hs₃ => wpAny_pure ?_)
  refine wpAny_pure (wpAny_pure ?_)
  show wpAny _ _ (newTuple [x, y] >>= _) _ _ _
  refine wpAny_bind (wpAny_newTuple ?_)
  have hsz : h₃.objs.size = s.heap.objs.size := by rw [hs₃.1, hs₂.1, hs₁.1]
  have hk : ∀ c o, c ≠ z → c ≠ i1 → c ≠ i2 → s.heap.get? c = some o → (h₃.push { cls := .type "tuple", data := .seq #[x, y] }).get? c = some o := fun c o c1 c2 c3 e => Heap.get?_push_of_some _ (hs₃.extBut _ _ c3 (hs₂.extBut _ _ c2 (hs₁.extBut _ _ c1 e)))
  have hp : IsPair (h₃.push { cls := .type "tuple", data := .seq #[x, y] }) h₃.objs.size x y := Heap.get?_push_size _ rfl
  have hz4 : (h₃.push { cls := .type "tuple", data := .seq #[x, y] }).objs.size = h₃.objs.size + 1 := Heap.size_push ..
  refine wpAny_pure ⟨_, rfl, wpAny_pure ?_⟩
  show Q (some (.ref h₃.objs.size)) _
  rw [hsz] at hp hz4 ⊢
  refine hQ _ (Heap.get?_push_of_some _ (hs₃.extBut _ _ D.i2z.symm (hs₂.extBut _ _ D.i1z.symm hz₁))) ⟨hk _ _ D.TIz D.TIi1 D.TIi2 W.ti, ?_, h2₃.at fun o e => Heap.get?_push_of_some _ e, W.t1.at fun o e => hk _ o D.l1z D.l1i1 D.l1i2 e, W.t2.at fun o e => hk _ o D.l2z D.l2i1 D.l2i2 e⟩ hp hz4 hk
  exact (h1₂.extBut hs₃.extBut D.i12).at fun o e => Heap.get?_push_of_some _ e
theorem held_end {Q : Option Value → Shared → Prop} (hh : A.handled = none) (D : ZipApart z TI TO i1 i2 l1 l2) (hz : IsZipHeld s.heap z TI TO T f) (hT : s.heap.get? T = some oT) (W : Two s.heap TI i1 i2 l1 l2 k xs ys) (hx : xs[k]? = none)
    (hQ : ∀ h', (∀ c o, c ≠ z → c ≠ i1 → c ≠ i2 → s.heap.get? c = some o → h'.get? c = some o) → Q none { s with heap := h' }) : wpAny (model prog w) A (pyNext (.ref z)) Q E s := by
  have hTy : s.TypeIs (.ref z) "zip" := ⟨_, hz, rfl⟩
  unfold pyNext
  refine wpAny_bind (wpAny_attempt (wpAny_callSpecial?_slot (name := Str.ofString "__next__") hTy F.slot_zip_next
    (wpAny_call_entry F.slot_zip_next hTy F.entry_zip_next ?_ (F.args_zip_next_1 _))))
  show wpAny _ _ (field (.ref z) 2 >>= _) _ _ _
  refine wpAny_bind (wpAny_field hz rfl (x := .bool false) rfl ?_)
  show wpAny _ _ (field (.ref z) 3 >>= _) _ _ _
  refine wpAny_bind (wpAny_field hz rfl (x := .ref TI) rfl ?_)
  refine wpAny_bind (wpAny_seqItems W.ti rfl ?_)
  show wpAny _ _ (Builtin.SmallTypes.ownedTupleIsFree (.ref z) >>= _) _ _ _
  refine wpAny_bind (wpAny_tupleHeld_zip hz hT fun h₁ hz₁ hs₁ => ?_)
  simp only [Bool.false_eq_true, if_false]
  refine wpAny_bind ?_
  rw [← Array.forIn_toList]
  simp only [List.forIn_cons, List.forIn_nil]
  refine wpAny_bind (wpAny_bind (wpAny_holding ?_))
  show wpAny _ _ (Builtin.SmallTypes.nextOf (.ref i1) >>= _) _ _ _
  refine wpAny_bind (nextOf_tuple_end (s := { s with heap := h₁ }) hh (W.h1.extBut hs₁.extBut D.i1z) (W.t1.extBut hs₁.extBut D.l1z) hx fun h₂ e hs₂ he => ?_)
  obtain ⟨o, ho, hc⟩ := he
  refine wpAny_bind (wpAny_isInstance (T := "StopIteration") (b := true) ⟨o, ho, hc⟩ isSubtype_stop ?_)
  exact wpAny_pure (hQ _ fun c o c1 c2 _ x => hs₂ _ _ c2 (hs₁.extBut _ _ c1 x))
/-- a zip while its pairs are gathered in S: none drawn yet, or the last still out -/
structure Zst (h : Heap) (S z TI TO i1 i2 l1 l2 : Addr) (k : Nat) (xs ys : Array Value) : Prop where
  two : Two h TI i1 i2 l1 l2 k xs ys
  st : (IsZip h z TI TO .none ∧ ∃ a b, IsPair h TO a b) ∨ ∃ T f oT, IsZipHeld h z TI TO T f ∧ h.get? T = some oT ∧ T ≠ z ∧ T ≠ i1 ∧ T ≠ i2 ∧ T ≠ S
theorem Zst.typ {h : Heap} {S : Addr} (Z : Zst h S z TI TO i1 i2 l1 l2 k xs ys) : ∃ o, h.get? z = some o ∧ o.cls = .type "zip" := by
  rcases Z.st with ⟨hz, _⟩ | ⟨T, f, oT, hz, _⟩
  · exact ⟨_, hz, rfl⟩
  · exact ⟨_, hz, rfl⟩
theorem Zst.move {h h' : Heap} {S : Addr} (Z : Zst h S z TI TO i1 i2 l1 l2 k xs ys) (hS : ∀ c, c = z ∨ c = TI ∨ c = TO ∨ c = i1 ∨ c = i2 ∨ c = l1 ∨ c = l2 → c ≠ S) (kp : ∀ c o, c ≠ S → h.get? c = some o → h'.get? c = some o) : Zst h' S z TI TO i1 i2 l1 l2 k xs ys := by
  have n := fun c hc o e => kp c o (hS c hc) e
  refine ⟨⟨n TI (by simp) _ Z.two.ti, Z.two.h1.at fun o e => n i1 (by simp) o e, Z.two.h2.at fun o e => n i2 (by simp) o e, Z.two.t1.at fun o e => n l1 (by simp) o e, Z.two.t2.at fun o e => n l2 (by simp) o e⟩, ?_⟩
  rcases Z.st with ⟨hz, a, b, hTO⟩ | ⟨T, f, oT, hz, hT, r1, r2, r3, r4⟩
  · exact .inl ⟨n z (by simp) _ hz, a, b, n TO (by simp) _ hTO⟩
  · exact .inr ⟨T, f, oT, n z (by simp) _ hz, kp _ _ r4 hT, r1, r2, r3, r4⟩
theorem zst_item {S : Addr} {Q : Option Value → Shared → Prop} (D : ZipApart z TI TO i1 i2 l1 l2) (Z : Zst s.heap S z TI TO i1 i2 l1 l2 k xs ys) (hS : S < s.heap.objs.size) (hx : xs[k]? = some x) (hy : ys[k]? = some y)
    (hQ : ∀ h', Zst h' S z TI TO i1 i2 l1 l2 (k + 1) xs ys → IsPair h' s.heap.objs.size x y → (∀ c o, c ≠ z → c ≠ TO → c ≠ i1 → c ≠ i2 → s.heap.get? c = some o → h'.get? c = some o) → Q (some (.ref s.heap.objs.size)) { s with heap := h' }) :
    wpAny (model prog w) A (pyNext (.ref z)) Q E s := by
  have n1 : s.heap.objs.size ≠ i1 := let ⟨_, e, _⟩ := Z.two.h1; Nat.ne_of_gt (Heap.lt_size e)
  have n2 : s.heap.objs.size ≠ i2 := let ⟨_, e, _⟩ := Z.two.h2; Nat.ne_of_gt (Heap.lt_size e)
  have nz : s.heap.objs.size ≠ z := let ⟨_, e, _⟩ := Z.typ; Nat.ne_of_gt (Heap.lt_size e)
  rcases Z.st with ⟨hz, a, b, hTO⟩ | ⟨T, f, oT, hz, hT, r1, r2, r3, r4⟩
  · refine pyNext_zipT_item D hz Z.two.ti hTO Z.two.h1 Z.two.h2 Z.two.t1 Z.two.t2 hx hy fun h' a1 a2 a3 a4 a5 a6 hk => ?_
    refine hQ h' ⟨⟨hk _ _ D.TIz D.TITO D.TIi1 D.TIi2 Z.two.ti, a3, a4, Z.two.t1.at fun o e => hk _ o D.l1z D.l1TO D.l1i1 D.l1i2 e, Z.two.t2.at fun o e => hk _ o D.l2z D.l2TO D.l2i1 D.l2i2 e⟩, .inr ⟨s.heap.objs.size, false, _, a1, a5, nz, n1, n2, Nat.ne_of_gt hS⟩⟩ a5 hk
  · refine held_item D hz hT Z.two hx hy fun h' a1 W' a5 a6 hk => ?_
    exact hQ h' ⟨W', .inr ⟨T, true, oT, a1, hk _ _ r1 r2 r3 hT, r1, r2, r3, r4⟩⟩ a5 fun c o c1 _ c3 c4 e => hk c o c1 c3 c4 e
theorem zst_done {S : Addr} {Q : Option Value → Shared → Prop} (hh : A.handled = none) (D : ZipApart z TI TO i1 i2 l1 l2) (Z : Zst s.heap S z TI TO i1 i2 l1 l2 k xs ys) (hx : xs[k]? = none)
    (hQ : ∀ h', (∀ c o, c ≠ z → c ≠ TO → c ≠ i1 → c ≠ i2 → s.heap.get? c = some o → h'.get? c = some o) → Q none { s with heap := h' }) : wpAny (model prog w) A (pyNext (.ref z)) Q E s := by
  rcases Z.st with ⟨hz, a, b, hTO⟩ | ⟨T, f, oT, hz, hT, _⟩
  · exact pyNext_zipT_end hh D hz Z.two.ti hTO Z.two.h1 Z.two.h2 Z.two.t1 Z.two.t2 (.inl hx) hQ
  · exact held_end hh D hz hT Z.two hx fun h' hk => hQ h' fun c o c1 _ c3 c4 e => hk c o c1 c3 c4 e
end
end ZL
set_option Elab.async false
set_option linter.all false
set_option maxRecDepth 100000
set_option maxHeartbeats 4000000
/-! list(zip(a, b)) of two tuples: the loop that gathers, the call. -/
namespace ZL
open PySem PySem.Spec PyProof.Rows RZ
theorem nolen : typeLookup (.type "zip") "__len__" = pure none := am_miss_of_fast (by decide +kernel)
theorem nohint : typeLookup (.type "zip") "__length_hint__" = pure none := am_miss_of_fast (by decide +kernel)
/-- the pairs made so far -/
structure Got (xs ys : Array Value) (lo : Addr) (h : Heap) (as : List Addr) : Prop where
  rise : as.Pairwise (· < ·)
  above : ∀ a ∈ as, lo < a
  at_ : ∀ (j : Nat) (a : Addr), as[j]? = some a → ∃ x y, xs[j]? = some x ∧ ys[j]? = some y ∧ IsPair h a x y
theorem Got.move {xs ys : Array Value} {lo : Addr} {h h' : Heap} {as : List Addr} (g : Got xs ys lo h as) (kp : ∀ b o, lo < b → h.get? b = some o → h'.get? b = some o) : Got xs ys lo h' as :=
  ⟨g.rise, g.above, fun j a e => by
    obtain ⟨x, y, e1, e2, e3⟩ := g.at_ j a e
    exact ⟨x, y, e1, e2, kp _ _ (g.above a (List.mem_of_getElem? e)) e3⟩⟩
theorem Got.snoc {xs ys : Array Value} {lo b : Addr} {h : Heap} {as : List Addr} {x y : Value} (g : Got xs ys lo h as) (low : ∀ a ∈ as, a < b) (hl : lo < b) (hx : xs[as.length]? = some x) (hy : ys[as.length]? = some y) (hp : IsPair h b x y) : Got xs ys lo h (as ++ [b]) := by
  refine ⟨List.pairwise_append.mpr ⟨g.rise, List.pairwise_singleton _ _, fun a ha c hc => by rw [List.mem_singleton.mp hc]; exact low a ha⟩, fun a ha => ?_, fun j a e => ?_⟩
  · rcases List.mem_append.mp ha with ha | ha
    · exact g.above a ha
    · rw [List.mem_singleton.mp ha]
      exact hl
  · rcases Nat.lt_trichotomy j as.length with h1 | h1 | h1
    · rw [List.getElem?_append_left h1] at e
      exact g.at_ j a e
    · subst h1
      have : b = a := by simpa using e
      subst this
      exact ⟨x, y, hx, hy, hp⟩
    · rw [List.getElem?_eq_none (by rw [List.length_append, List.length_singleton]; omega)] at e
      cases e
section
variable {prog : Program} {w : World} {A : Around} {E : Value → Shared → Prop} {s : Shared} {z TI TO i1 i2 l1 l2 S : Addr} {xs ys : Array Value}
abbrev listAt (h : Heap) (S : Addr) (acc : Array Value) (c : Nat) : Prop := h.get? S = some { cls := .type "list", dict := none, data := .seq acc c, slots := #[] }
theorem loop {R : Result → Shared → Prop} (hh : A.handled = none) (D : ZipApart z TI TO i1 i2 l1 l2) (hS : ∀ c, c = z ∨ c = TI ∨ c = TO ∨ c = i1 ∨ c = i2 ∨ c = l1 ∨ c = l2 → c ≠ S) {lo : Addr} (hlo : S ≤ lo ∧ z ≤ lo ∧ TO ≤ lo ∧ i1 ≤ lo ∧ i2 ≤ lo)
    (hn : xs.size ≤ sizeLine) (hxy : xs.size = ys.size) (res : Value) {h₁ : Heap}
    (hR : ∀ h' tk acc c as, (∀ b o, b ≠ S → b ≠ z → b ≠ TO → b ≠ i1 → b ≠ i2 → h₁.get? b = some o → h'.get? b = some o) → listAt h' S acc c → as.length = xs.size → Got xs ys lo h' as → acc.toList = as.map Value.ref → R (.ok (.ret res)) { s with heap := h', toks := tk }) :
    ∀ (k i : Nat) (h : Heap) (tk c : Nat) (acc : Array Value) (as : List Addr), xs.size - i = k → i ≤ xs.size → Zst h S z TI TO i1 i2 l1 l2 i xs ys → (∀ b o, b ≠ S → b ≠ z → b ≠ TO → b ≠ i1 → b ≠ i2 → h₁.get? b = some o → h.get? b = some o) →
      listAt h S acc c → acc.toList = as.map Value.ref → as.length = i → Got xs ys lo h as → (∀ a ∈ as, a < h.objs.size) → lo < h.objs.size → codeAny (model prog w) A (.builtin "list.extend.loop" ⟨[.ref S, .ref z, res], []⟩) R { s with heap := h, toks := tk } := by
  have hz_ := hS z (by simp)
  have hTO_ := hS TO (by simp)
  have h1_ := hS i1 (by simp)
  have h2_ := hS i2 (by simp)
  have nlo : ∀ b, lo < b → b ≠ S ∧ b ≠ z ∧ b ≠ TO ∧ b ≠ i1 ∧ b ≠ i2 := fun b hb => by
    obtain ⟨q1, q2, q3, q4, q5⟩ := hlo
    exact ⟨Nat.ne_of_gt (Nat.lt_of_le_of_lt q1 hb), Nat.ne_of_gt (Nat.lt_of_le_of_lt q2 hb), Nat.ne_of_gt (Nat.lt_of_le_of_lt q3 hb), Nat.ne_of_gt (Nat.lt_of_le_of_lt q4 hb), Nat.ne_of_gt (Nat.lt_of_le_of_lt q5 hb)⟩
  intro k
  induction k with
  | zero =>
    intro i h tk c acc as hk hi hst kp hL hacc hal hG hlow hls
    refine codeAny_builtin PySem.F.entry_extend_loop ?_
    rw [Around.under_plainId PySem.F.plain_extend_loop _]
    show wpAny _ A.in1 (pyNext (.ref z) >>= _) _ _ _
    refine wpAny_bind (zst_done (s := { s with heap := h, toks := tk }) (A := A.in1) hh D hst (by simp; omega) fun h' he => ?_)
    refine wpAny_pure (hR h' tk acc c as (fun b o b1 b2 b3 b4 b5 e => he b o b2 b3 b4 b5 (kp b o b1 b2 b3 b4 b5 e)) (he S _ hz_.symm hTO_.symm h1_.symm h2_.symm hL) (by omega) (hG.move fun b o lb e => ?_) hacc)
    obtain ⟨q1, q2, q3, q4, q5⟩ := nlo b lb
    exact he b o q2 q3 q4 q5 e
  | succ k ih =>
    intro i h tk c acc as hk hi hst kp hL hacc hal hG hlow hls
    have hlt : i < xs.size := by omega
    have hsz : acc.size = i := by rw [← Array.length_toList, hacc, List.length_map, hal]
    refine codeAny_builtin PySem.F.entry_extend_loop ?_
    rw [Around.under_plainId PySem.F.plain_extend_loop _]
    show wpAny _ A.in1 (pyNext (.ref z) >>= _) _ _ _
    have ex : xs[i]? = some xs[i] := Array.getElem?_eq_getElem hlt
    have ey : ys[i]? = some (ys[i]'(by omega)) := Array.getElem?_eq_getElem (by omega)
    have Sl : S < h.objs.size := Heap.lt_size hL
    refine wpAny_bind (zst_item (s := { s with heap := h, toks := tk }) (S := S) D hst Sl ex ey fun h' hst' hp hkp => ?_)
    dsimp only at hp hkp ⊢
    have hL' := hkp S _ hz_.symm hTO_.symm h1_.symm h2_.symm hL
    have up : ∀ b o, b ≠ S → h'.get? b = some o → (h'.update S (Obj.mapSeq (·.push (Value.ref h.objs.size)))).get? b = some o := fun b o hb e => (Heap.get?_update_other _ _ (Ne.symm hb)).trans e
    have hp2 := up _ _ (Nat.ne_of_gt Sl) hp
    have hlast := Heap.lt_size hp2
    show wpAny _ A.in1 (updateSeq S (·.push (Value.ref h.objs.size)) >>= _) _ _ _
    refine wpAny_bind ?_
    refine wpAny_updateSeq hL' rfl (wpAny_pure ⟨plainId_quiet PySem.F.plain_extend_loop _, ih (i + 1) _ tk _ (acc.push (Value.ref h.objs.size)) (as ++ [h.objs.size]) (by omega) hlt (hst'.move hS up)
      (fun b o b1 b2 b3 b4 b5 e => up b o b1 (hkp b o b2 b3 b4 b5 (kp b o b1 b2 b3 b4 b5 e))) (Heap.get?_update_self _ hL' rfl) (by rw [Array.toList_push, hacc, List.map_append]; rfl) (by rw [List.length_append, hal]; rfl) ?_ ?_ ?_⟩) (by rw [hsz]; omega) (by
        show (acc.push (Value.ref h.objs.size)).size ≤ sizeLine + 1
        rw [Array.size_push, hsz]
        omega)
    · refine Got.snoc (hG.move fun b o lb e => up b o (nlo b lb).1 (hkp b o (nlo b lb).2.1 (nlo b lb).2.2.1 (nlo b lb).2.2.2.1 (nlo b lb).2.2.2.2 e)) hlow hls (by rw [hal]; exact ex) (by rw [hal]; exact ey) hp2
    · intro a ha
      rcases List.mem_append.mp ha with ha | ha
      · exact Nat.lt_trans (hlow a ha) hlast
      · rw [List.mem_singleton.mp ha]
        exact hlast
    · exact Nat.lt_trans hls hlast
theorem hint {r : Addr} {Q : Bool → Shared → Prop} (hT : s.TypeIs (.ref r) "zip") (h : Q true s) : wpAny (model prog w) A (Builtin.List.listLengthHint (.ref r)) Q E s := by
  unfold Builtin.List.listLengthHint
  refine wpAny_bind (wpAny_specialOf hT nolen ?_)
  show wpAny _ _ (specialOf (Value.ref r) (Str.ofString "__length_hint__") >>= _) _ _ _
  refine wpAny_bind (wpAny_specialOf hT nohint ?_)
  exact wpAny_pure h
theorem gather {Q : Value → Shared → Prop} (hh : A.handled = none) (D : ZipApart z TI TO i1 i2 l1 l2) (hz : IsZip s.heap z TI TO .none) (hTO : ∃ a b, IsPair s.heap TO a b) (W : Two s.heap TI i1 i2 l1 l2 0 xs ys) (hlo : ∀ c, c = z ∨ c = TI ∨ c = TO ∨ c = i1 ∨ c = i2 ∨ c = l1 ∨ c = l2 → c < s.heap.objs.size) (hn : xs.size ≤ sizeLine) (hxy : xs.size = ys.size)
    (hQ : ∀ h' tk acc c as, (∀ b o, b ≠ z → b ≠ TO → b ≠ i1 → b ≠ i2 → s.heap.get? b = some o → h'.get? b = some o) → listAt h' s.heap.objs.size acc c → as.length = xs.size → Got xs ys s.heap.objs.size h' as → acc.toList = as.map Value.ref → Q (.ref s.heap.objs.size) { s with heap := h', toks := tk }) :
    wpAny (model prog w) A (call (.type "list") [.ref z]) Q E s := by
  refine callType_codes (Q₁ := fun obj s₁ => obj = .ref s.heap.objs.size ∧ s₁ = { s with heap := s.heap.push { cls := .type "list", data := .seq #[] } }) PySem.F.called_list (PySem.F.typeCall_list_1 _) PySem.F.entry_list_init
    (code_list_new _ ⟨rfl, rfl⟩) fun obj s₁ h₁ => ?_
  obtain ⟨rfl, rfl⟩ := h₁
  have hS0 : (s.heap.push { cls := .type "list", data := .seq #[] }).get? s.heap.objs.size = some { cls := .type "list", data := .seq #[] } := Heap.get?_push_size _ rfl
  refine ⟨⟨_, hS0, rfl⟩, PySem.F.args_list_init_2 _ _, ?_⟩
  have ne : ∀ c, c = z ∨ c = TI ∨ c = TO ∨ c = i1 ∨ c = i2 ∨ c = l1 ∨ c = l2 → c ≠ s.heap.objs.size := fun c hc => Nat.ne_of_lt (hlo c hc)
  generalize hS_ : s.heap.objs.size = S at hS0 ne hQ
  obtain ⟨a0, b0, hTO⟩ := hTO
  have z0 : Zst (s.heap.push { cls := .type "list", data := .seq #[] }) S z TI TO i1 i2 l1 l2 0 xs ys := by
    have up := fun (b : Addr) (o : Obj) (e : s.heap.get? b = some o) => Heap.get?_push_of_some { cls := .type "list", data := .seq #[] } e
    exact ⟨⟨up _ _ W.ti, W.h1.at fun o e => up _ _ e, W.h2.at fun o e => up _ _ e, W.t1.at fun o e => up _ _ e, W.t2.at fun o e => up _ _ e⟩, .inl ⟨up _ _ hz, a0, b0, up _ _ hTO⟩⟩
  have kp0 : ∀ b o, b ≠ S → s.heap.get? b = some o → (s.heap.push { cls := .type "list", data := .seq #[] }).get? b = some o := fun b o _ e => Heap.get?_push_of_some _ e
  have sz0 : S < (s.heap.push { cls := .type "list", data := .seq #[] }).objs.size := Heap.lt_size hS0
  generalize s.heap.push { cls := .type "list", data := .seq #[] } = g0 at hS0 z0 kp0 sz0
  show wpAny _ A.in1.in1 (do let old ← Builtin.List.listItems (.ref S); Builtin.List.listUpdate (.ref S) (fun _ => #[]); letGo old.toList.reverse; Builtin.List.listExtendWith (.ref S) (.ref z) .none) _ _ _
  refine wpAny_bind ?_
  unfold Builtin.List.listItems
  refine wpAny_bind (wpAny_seqItems hS0 rfl (wpAny_pure ?_))
  show wpAny _ _ (updateSeq S (fun _ => #[]) >>= fun _ => letGo (#[] : Array Value).toList.reverse >>= fun _ => Builtin.List.listExtendWith (.ref S) (.ref z) .none) _ _ _
  refine wpAny_bind (wpAny_updateSeq hS0 rfl ?_)
  have hS1 := Heap.get?_update_self (Obj.mapSeq (fun _ => (#[] : Array Value))) hS0 rfl
  have z1 : Zst (g0.update S (Obj.mapSeq (fun _ => (#[] : Array Value)))) S z TI TO i1 i2 l1 l2 0 xs ys := z0.move ne fun c o hc e => (Heap.get?_update_other _ _ (Ne.symm hc)).trans e
  have kp1 : ∀ b o, b ≠ S → s.heap.get? b = some o → (g0.update S (Obj.mapSeq (fun _ => (#[] : Array Value)))).get? b = some o := fun b o b1 e => (Heap.get?_update_other _ _ (Ne.symm b1)).trans (kp0 b o b1 e)
  refine wpAny_bind (wpAny_letGo ?_)
  show wpAny _ _ (Builtin.List.listExtendWith (.ref S) (.ref z) .none) _ _ _
  generalize g0.update S (Obj.mapSeq (fun _ => (#[] : Array Value))) = g1 at hS1 z1 kp1
  have hty : ({ s with heap := g1 } : Shared).TypeIs (.ref z) "zip" := z1.typ
  unfold Builtin.List.listExtendWith
  refine wpAny_bind (wpAny_typeOf (T := "zip") hty ?_)
  have hSz : S ≠ z := (ne z (by simp)).symm
  have h1 : Builtin.List.listSameRef (.ref S) (.ref z) = false := by simp [Builtin.List.listSameRef, hSz]
  have h2 : (Value.type "zip" == Value.type "list") = false := by decide
  have h3 : (Value.type "zip" == Value.type "tuple") = false := by decide
  simp only [h1, h2, h3, Bool.or_false, Bool.false_eq_true, if_false]
  have hz1 : IsZip g1 z TI TO .none := kp1 _ _ hSz.symm hz
  refine wpAny_bind (wpAny_pyIter_zip hz1 ?_)
  refine wpAny_bind (wpAny_holding (hint hty ?_))
  refine wpAny_ite_split (fun _ => ?_) (fun hab => absurd (by simp) hab)
  refine wpAny_bind (wpAny_rule ?_)
  refine wpAny_bind ?_
  show wpAny _ _ (updateSeq S (·.push .none) >>= fun _ => updateSeq S (·.pop)) _ _ _
  refine wpAny_bind (wpAny_updateSeq hS1 rfl ?_)
  have hS2 := Heap.get?_update_self (Obj.mapSeq (·.push Value.none)) hS1 rfl
  refine wpAny_updateSeq (hz := by seq_fits) hS2 rfl ?_
  have hS3 := Heap.get?_update_self (Obj.mapSeq (·.pop)) hS2 rfl
  refine wpAny_pure ⟨plainId_quiet PySem.F.plain_extend_loop _, ?_⟩
  have oth : ∀ b o, b ≠ S → g1.get? b = some o → ((g1.update S (Obj.mapSeq (·.push Value.none))).update S (Obj.mapSeq (·.pop))).get? b = some o := fun b o hb e =>
    (Heap.get?_update_other _ _ (Ne.symm hb)).trans ((Heap.get?_update_other _ _ (Ne.symm hb)).trans e)
  have hlo' : S ≤ S ∧ z ≤ S ∧ TO ≤ S ∧ i1 ≤ S ∧ i2 ≤ S := by
    have := fun c hc => Nat.le_of_lt (by rw [← hS_]; exact hlo c hc : c < S)
    exact ⟨Nat.le_refl _, this z (by simp), this TO (by simp), this i1 (by simp), this i2 (by simp)⟩
  refine loop (s := s) (h₁ := s.heap) (lo := S) (A := A.in1) hh D ne hlo' hn hxy .none (fun h' tk acc c as hk hL hl hG hacc => ⟨rfl, hQ h' tk acc c as (fun b o b2 b3 b4 b5 e => hk b o (fun q => ?_) b2 b3 b4 b5 e) hL hl hG hacc⟩) xs.size 0 _ s.toks _ #[] [] (Nat.sub_zero _) (Nat.zero_le _)
    (z1.move ne oth) (fun b o b1 _ _ _ _ e => oth b o b1 (kp1 b o b1 e)) hS3 rfl rfl ⟨List.Pairwise.nil, (fun _ ha => nomatch ha), fun j a hj => by simp at hj⟩ (fun _ ha => nomatch ha) ?_
  · exact absurd (Heap.lt_size e) (by rw [q, hS_]; exact Nat.lt_irrefl _)
  · exact Heap.lt_size hS3
end
end ZL
set_option Elab.async false
set_option linter.all false
set_option maxRecDepth 100000
set_option maxHeartbeats 4000000
/-! list(zip(a, b)), told in the hand layer's words. -/
namespace LG
open PySem PySem.Spec PyProof.Rows L2
/-- the pairs tracked at their addresses -/
def putZ : Hp → List Addr → List (V × V) → Hp
  | H, a :: as, p :: ps => putZ (upd H a (.tup [p.1, p.2])) as ps
  | H, _, _ => H
theorem putZ_off {b : Addr} : ∀ (as : List Addr) (ps : List (V × V)) (H : Hp), b ∉ as → putZ H as ps b = H b
  | [], _, _, _ => rfl
  | _ :: _, [], _, _ => rfl
  | a :: as, p :: ps, H, h => by
    show putZ (upd H a (.tup [p.1, p.2])) as ps b = H b
    rw [putZ_off as ps _ (fun z => h (List.mem_cons_of_mem _ z)), upd_ne (fun z => h (by rw [z]; exact List.mem_cons_self))]
theorem putZ_at : ∀ (as : List Addr) (ps : List (V × V)) (H : Hp), as.length = ps.length → as.Nodup → Paired (fun (t : Addr) (p : V × V) => putZ H as ps t = some (.tup [p.1, p.2])) as ps
  | [], [], _, _, _ => .nil
  | [], _ :: _, _, h, _ => by cases h
  | _ :: _, [], _, h, _ => by cases h
  | a :: as, p :: ps, H, h, hn => by
    have hn' := List.nodup_cons.mp hn
    refine .cons ?_ (putZ_at as ps (upd H a (.tup [p.1, p.2])) (Nat.succ.inj h) hn'.2)
    show putZ (upd H a (.tup [p.1, p.2])) as ps a = some (.tup [p.1, p.2])
    rw [putZ_off as ps _ hn'.1, upd_same]
section
variable {X : Cx} {pins : List (Addr × Obj)} {σ : L2.St} {H : Hp} {s : Shared}
theorem zip_laid {h' : Heap} {tk : Nat} {vx vy : List V} {xs ys : List Value} {acc : Array Value} {c : Nat} {S : Addr} {as : List Addr} (I : Inv X pins σ H s) (rx : Vals vx xs) (ry : Vals vy ys) (hxy : vx.length = vy.length) (hz : vx.length ≤ sizeLine) (hSs : s.heap.objs.size ≤ S)
    (hk : ∀ b o, s.heap.get? b = some o → h'.get? b = some o) (hS : ZL.listAt h' S acc c) (hl : as.length = vx.length) (hG : ZL.Got xs.toArray ys.toArray S h' as) (hacc : acc.toList = as.map Value.ref) :
    ∃ H' : Hp, Same H H' ∧ H S = none ∧ H' S = some (.lst (as.map V.ref)) ∧ Paired (fun (t : Addr) (p : V × V) => H t = none ∧ H' t = some (.tup [p.1, p.2])) as (vx.zip vy) ∧ Inv X pins σ H' { s with heap := h', toks := tk } := by
  have hSn : S ∉ as := fun z => Nat.lt_irrefl _ (hG.above _ z)
  have nd : as.Nodup := List.Pairwise.imp (fun {a b} (h : a < b) => Nat.ne_of_lt h) hG.rise
  have new : ∀ t ∈ as, H t = none := fun t ht => I.hok.fresh (Nat.le_of_lt (Nat.lt_of_le_of_lt hSs (hG.above t ht)))
  have newS : H S = none := I.hok.fresh hSs
  have lz : as.length = (vx.zip vy).length := by rw [List.length_zip]; omega
  have atP := putZ_at as (vx.zip vy) (upd H S (.lst (as.map V.ref))) lz nd
  have off : ∀ b, b ∉ as → b ≠ S → putZ (upd H S (.lst (as.map V.ref))) as (vx.zip vy) b = H b := fun b h1 h2 => by rw [putZ_off as _ _ h1, upd_ne h2]
  have low : ∀ b o, s.heap.get? b = some o → b ∉ as ∧ b ≠ S := fun b o e => ⟨fun z => absurd (Heap.lt_size e) (Nat.not_lt.mpr (Nat.le_of_lt (Nat.lt_of_le_of_lt hSs (hG.above b z)))), Nat.ne_of_lt (Nat.lt_of_lt_of_le (Heap.lt_size e) hSs)⟩
  have kp : ∀ b u, H b = some u → (putZ (upd H S (.lst (as.map V.ref))) as (vx.zip vy)) b = some u := fun b u e => by
    rw [off b (fun z => by rw [new b z] at e; cases e) (fun z => by rw [z, newS] at e; cases e)]
    exact e
  have eS : putZ (upd H S (.lst (as.map V.ref))) as (vx.zip vy) S = some (.lst (as.map V.ref)) := by rw [putZ_off as _ _ hSn, upd_same]
  have at2 : Paired (fun (t : Addr) (p : V × V) => H t = none ∧ putZ (upd H S (.lst (as.map V.ref))) as (vx.zip vy) t = some (.tup [p.1, p.2])) as (vx.zip vy) := by
    have gen : ∀ {G : Hp} {as' : List Addr} {ps' : List (V × V)}, (∀ t ∈ as', H t = none) → Paired (fun (t : Addr) (p : V × V) => G t = some (.tup [p.1, p.2])) as' ps' → Paired (fun (t : Addr) (p : V × V) => H t = none ∧ G t = some (.tup [p.1, p.2])) as' ps' := by
      intro G as' ps' h0 q
      induction q with
      | nil => exact .nil
      | cons e _ ih => exact .cons ⟨h0 _ List.mem_cons_self, e⟩ (ih fun t ht => h0 t (List.mem_cons_of_mem _ ht))
    exact gen new atP
  refine ⟨putZ (upd H S (.lst (as.map V.ref))) as (vx.zip vy), fun b o e => kp b o e, newS, eS, at2, ?_⟩
  refine I.call' (ch := []) rfl ⟨fun b o q _ _ _ => hk b o q, fun b o q _ _ _ => ⟨o.slots, hk b o q⟩, fun b o q n _ => ?_, fun b o q _ => ⟨o, hk b o q⟩, fun b xs q => kp b _ q, fun b o u q => kp b _ q, fun b ps q => ⟨#[], by rw [kp b _ q]; simp⟩⟩ (fun b u q => ?_) I.bare fun b z => by cases z
  · obtain ⟨z1, z2⟩ := low b o q
    rw [off b z1 z2]
    exact n
  · by_cases hb : b ∈ as
    · obtain ⟨j, pk, e1, e2, e3⟩ := LiI.paired_ix atP hb
      rw [e3] at q
      cases q
      obtain ⟨x, y, f1, f2, f3⟩ := hG.at_ j b e1
      rw [List.getElem?_zip_eq_some] at e2
      obtain ⟨g1, r1a, r1b⟩ := rx.get e2.1
      obtain ⟨g2, r2a, r2b⟩ := ry.get e2.2
      have ex : xs[j]? = some x := by simpa using f1
      have ey : ys[j]? = some y := by simpa using f2
      rw [r1a] at ex
      cases ex
      rw [r2a] at ey
      cases ey
      exact ⟨by show 2 ≤ sizeLine; decide, [_, _], .cons r1b (.cons r2b .nil), ⟨_, f3, rfl, _, rfl⟩⟩
    · by_cases hb2 : b = S
      · rw [hb2] at q ⊢
        rw [eS] at q
        cases q
        refine ⟨by rw [List.length_map]; omega, acc.toList, c, by rw [hacc]; exact LiI.vals_refs as, ?_⟩
        rw [Array.toArray_toList]
        exact hS
      · rw [off b hb hb2] at q
        exact (I.hok b u q).stay (fun d v _ y => hk d v y) (fun d y => kp d _ y) fun d xs y => kp d _ y
def tListZip (K : PySem.W.Frag) (ta : TA) : TE := fun σ H Q => ta σ H fun vs H1 => ∃ (a b : Addr) (xs ys : List V), vs = [.ref a, .ref b] ∧ SqT K H1 a xs ∧ SqT K H1 b ys ∧ xs.length = ys.length ∧ xs.length ≤ sizeLine ∧
  ∀ (H' : Hp) (p : Addr) (ts : List Addr), Same H1 H' → H1 p = none → H' p = some (.lst (ts.map V.ref)) → Paired (fun (t : Addr) (q : V × V) => H1 t = none ∧ H' t = some (.tup [q.1, q.2])) ts (xs.zip ys) → Q (.ref p) H'
theorem pe_listZip {e e2 : Expr} {ta : TA} {p p2 pos2 pos : Pos} (hc : X.calm = true) (hg : Gl X "list") (hm : X.mg "list" = none) (hv : bootBuiltins "list" = some (.type "list")) (hgz : Gl X "zip") (hmz : X.mg "zip" = none) (ha : PA X [e, e2] ta)
    (hs : starEach [e, e2] X.env = (false, eval e X.env) :: starEach [e2] X.env := by rfl) (hpl : (backTo pos2 (starEach [e2] X.env)).any (·.1) = false := by rfl)
    (hs2 : starEach [.Call (.Name "zip" p2) [e, e2] [] pos2] X.env = (false, eval (.Call (.Name "zip" p2) [e, e2] [] pos2) X.env) :: starEach [] X.env := by rfl) :
    PE X (.Call (.Name "list" p) [.Call (.Name "zip" p2) [e, e2] [] pos2] [] pos) (tListZip X.K ta) := by
  refine ⟨fun pins s σ H Q I hq => ?_⟩
  refine wpAny_Call_Name_kw (ld_blt I hg hm hv ?_)
  refine PyProof.Rows.callWith_type1 ?_ hs2 rfl
  rw [hs2]
  show wpAny _ _ (spliced ((false, eval (.Call (.Name "zip" p2) [e, e2] [] pos2) X.env) :: backTo pos (starEach [] X.env))) _ _ s
  refine Calls.spliced_cons ?_
  refine Call_ (ld_blt I hgz hmz PyProof.Rows.boot_zip (PyProof.Rows.callWith_type1 (thn (ha.run pos2 pins s σ H _ I hq) fun us s1 ⟨vs, H1, I1, r1, q1⟩ => ?_) hs hpl))
  obtain ⟨a, b, xs, ys, ex, tx, ty, exy, lx, q⟩ := q1
  subst ex
  cases r1 with
  | cons r rr =>
    cases rr with
    | cons r' rr =>
      cases rr
      cases r
      cases r'
      obtain ⟨its, rv, pt1, _⟩ := I1.tuple tx
      obtain ⟨its2, rv2, pt2, _⟩ := I1.tuple ty
      obtain ⟨o1, ho1, _⟩ := id pt1
      obtain ⟨o2, ho2, _⟩ := id pt2
      refine RZ.call_zipT (show s1.heap.IsTuple a its.toArray from pt1) (show s1.heap.IsTuple b its2.toArray from pt2) fun h' hz hTI hTO h1 h2 hsz hk => ?_
      refine Calls.spliced_nil ?_
      have D := PySem.W.ktu_apart s1.heap.objs.size a b (Heap.lt_size ho1) (Heap.lt_size ho2)
      have I2 : Inv X pins σ H1 { s1 with heap := h' } := I1.kept (t' := s1.toks) hk
      have l1 := rv.length
      have l2 := rv2.length
      refine ZL.gather (s := { s1 with heap := h' }) (xs := its.toArray) (ys := its2.toArray) (I1.ok.hd hc) D hz ⟨_, _, hTO⟩ ⟨hTI, h1, h2, Heap.IsTuple.at (items := its.toArray) pt1 fun o e => hk _ _ e, Heap.IsTuple.at (items := its2.toArray) pt2 fun o e => hk _ _ e⟩ ?_ (by simp; omega) (by simp; omega) fun h2' tk acc c as kk hL hl hG hacc => ?_
      · have b1 := Heap.lt_size ho1
        have b2 := Heap.lt_size ho2
        intro c hc
        show c < h'.objs.size
        rw [hsz]
        rcases hc with q | q | q | q | q | q | q
        · rw [q]; exact Nat.add_lt_add_left (by decide) _
        · rw [q]; exact Nat.add_lt_add_left (by decide) _
        · rw [q]; exact Nat.add_lt_add_left (by decide) _
        · rw [q]; exact Nat.lt_add_of_pos_right (by decide)
        · rw [q]; exact Nat.add_lt_add_left (by decide) _
        · rw [q]; exact Nat.lt_of_lt_of_le b1 (Nat.le_add_right _ _)
        · rw [q]; exact Nat.lt_of_lt_of_le b2 (Nat.le_add_right _ _)
      · have kk' : ∀ b o, s1.heap.get? b = some o → h2'.get? b = some o := fun b o e => by
          have := Heap.lt_size e
          have ne : ∀ j, b ≠ s1.heap.objs.size + j := fun j => Nat.ne_of_lt (Nat.lt_of_lt_of_le this (Nat.le_add_right _ _))
          exact kk b o (ne 4) (ne 3) (ne 0) (ne 1) (hk b o e)
        obtain ⟨H', k1, k2, k3, k4, J⟩ := zip_laid (tk := tk) I1 rv rv2 exy lx (show s1.heap.objs.size ≤ h'.objs.size by rw [hsz]; omega) kk' hL (by simpa using (hl.trans (by simp; omega))) hG hacc
        exact ⟨.ref _, H', J, rfl, q H' _ as k1 k2 k3 k4⟩
end
end LG
set_option Elab.async false
set_option linter.all false
set_option maxRecDepth 100000
set_option maxHeartbeats 8000000
namespace K51
open PySem L2 LG
section
variable {P : Program} {w : World} {K : PySem.W.Frag} {mg : Str → Option Value} {base : Heap}
/-! ### the law's own walk of a device -/
def spRun (K : PySem.W.Frag) : Sp := fun vs H Q _ => ∃ (o r t : Addr) (s : Str) (ws : List Str) (D : Dev), vs = [.ref o, .str s, .ref t] ∧ (∀ G, Same H G → DGet G o (.str "rows") (some (.ref r))) ∧ GoalsAt K H r D.goals ∧ Full D ∧ s ∈ D.states ∧ (∀ y ∈ ws, y ∈ D.calls) ∧
  SqT K H t (ws.map V.str) ∧ ws.length ≤ 1000 ∧
  ∀ q a G, Same H G → G q = some (.tup [.ref a, .str (runD D s ws).2]) → G a = some (.tup ((runD D s ws).1.map V.str)) → Q (.ref q) G
abbrev nRu : List Str := ["_law_device_here", "_law_state", "_law_walk", "_law_found", "_law_call", "_law_answer"]
theorem scRun : FnScope nRu ["_law_device_here", "_law_state", "_law_walk"] (defScope sRun) := ⟨rfl, rfl, rfl, by decide +kernel, rfl, by decide +kernel, by decide +kernel⟩
theorem ok_run {f : Addr} {fd : FuncData} (F : Fun K "_law_run" "_law_run" sRun f fd) (T : Bltn mg) : FnOk P w K mg base CX0 1 f fd ["_law_device_here", "_law_state", "_law_walk"] (spRun K) := by
  refine F.ok scRun (fun vs H Q E h => ?_) (fun cdv A0 outer st H vs Q E hr h => ?_)
  · obtain ⟨o, r, t, s, ws, D, rfl, _⟩ := h
    rfl
  obtain ⟨o, r, t, s1, ws, D, rfl, hr0, hg, FD, hs1, hws, ht, hl, q⟩ := h
  have hu := hu_of hr
  refine ⟨_, pss_cons (ps_set (i := 3) scRun.nd rfl (Or.inl rfl) (pe_lst pa_nil))
    (pss_cons (ps_for PassesOwn.never rfl (pi_tup (pv 2)) (pg_name (i := 4) scRun.nd rfl (Or.inl rfl))
      (pss_cons (ps_asg (pe_dget hu (pe_dget hu (pv 0) pe_str (fun _ _ => rfl)) (pe_tup (pa_cons (pv 1) (pa_cons (pv 4) pa_nil))) (fun _ _ => rfl)) (pg_tup rfl (pgs_cons (pg_name (i := 5) scRun.nd rfl (Or.inl rfl)) (pgs_cons (pg_name (i := 1) scRun.nd rfl (Or.inl rfl)) pgs_nil))))
      (pss_one (ps_expr (pe_bm PySem.F.plainAttrs_list PySem.F.slot_list_append PySem.F.type_list_append mt_append (pv 3) (pa_cons (pv 5) pa_nil))))))
    (pss_one (ps_ret (pe_tup (pa_cons (pe_callTy call_tuple_of rfl T.tuple (by decide +kernel) (pa_cons (pv 3) pa_nil)) (pa_cons (pv 1) pa_nil)))))), ?_⟩
  refine ⟨(by show 0 ≤ sizeLine; decide), fun al nal => ?_⟩
  have u1 := same_new nal (.lst [])
  have hal : (upd H al (.lst [])) al = some (.lst []) := upd_same
  have nalH : H al = none := nal
  show _
  generalize upd H al (.lst []) = G1 at hal u1 ⊢
  refine ⟨_, rfl, t, rfl, ⟨_, same_tup u1 ht⟩, ?_⟩
  refine for_it walk_tup (fun i σ G4 => ∃ x4 x5, σ = [some (.ref o), some (.str (runD D s1 (ws.take i)).2), some (.ref t), some (.ref al), x4, x5] ∧ Same H G4 ∧ G4 al = some (.lst ((runD D s1 (ws.take i)).1.map V.str)) ∧ (runD D s1 (ws.take i)).1.length = i)
    ⟨_, _, rfl, u1, hal, rfl⟩ (fun i σ G4 _ ⟨_, _, _, s4, _⟩ => same_tup s4 ht) ?_ ?_
  · rintro i y σ G4 G5 hi ⟨x4, x5, rfl, s4, h4, l4⟩ ⟨rfl, hy⟩
    rw [List.length_map] at hi
    rw [List.getElem?_map, List.getElem?_eq_getElem hi] at hy
    have ey : y = .str ws[i] := (Option.some.inj hy).symm
    subst ey
    have inS := FD.run (ws := ws.take i) hs1 fun w hw => hws w (List.mem_of_mem_take hw)
    obtain ⟨lk, _⟩ := FD.row _ inS ws[i] (hws _ (List.getElem_mem hi))
    have et : ws.take (i + 1) = ws.take i ++ [ws[i]] := by rw [List.take_add_one, List.getElem?_eq_getElem hi]; rfl
    have er := runD_snoc D (ws.take i) s1 ws[i]
    rw [← et] at er
    generalize runD D s1 (ws.take (i + 1)) = R' at er
    subst er
    generalize runD D s1 (ws.take i) = R at h4 l4 lk inS ⊢
    obtain ⟨as, sn⟩ := R
    dsimp only at h4 l4 lk inS ⊢
    obtain ⟨kvs, hgr, gr⟩ := hg
    refine ⟨_, rfl, _, _, rfl, hr0 _ s4, _, rfl, _, rfl, (by show 2 ≤ sizeLine; decide), fun tk ntk => ?_⟩
    have u5 := same_new ntk (.tup [.str sn, .str ws[i]])
    have htk : (upd G5 tk (.tup [.str sn, .str ws[i]])) tk = some (.tup ((kT (sn, ws[i])).map kV)) := upd_same
    show _
    generalize upd G5 tk (.tup [.str sn, .str ws[i]]) = G6 at u5 htk ⊢
    rcases gr.val (sn, ws[i]) with ⟨l1, _⟩ | ⟨r2, t2, l1, l2, l3⟩
    · rw [l1] at lk
      cases lk
    · rw [l1] at lk
      have er2 : r2 = rowX D (sn, ws[i]) := Option.some.inj lk
      subst er2
      have g1 : DGet _ r (.ref tk) (valV kvs (kT (sn, ws[i]))) := .inr ⟨kvs, kT (sn, ws[i]), tk, rd_same (s4.trans u5) hgr, rfl, htk, rfl⟩
      rw [l2] at g1
      refine ⟨r, _, rfl, g1, t2, _, rfl, same_tup (s4.trans u5) l3, rfl, _, _, rfl, _, _, rfl, rfl, ?_⟩
      have h6 := u5 _ _ h4
      refine ⟨_, rfl, .inl ⟨rfl, _, SqL.of h6⟩, _, rfl, al, _, _, rfl, rfl, h6, by rw [List.length_map, sizeLine_eq]; omega, ?_⟩
      refine ⟨_, _, rfl, fun bq o hq => ?_, ?_, ?_⟩
      · rw [upd_ne (ne_of_none hq nalH)]
        exact (s4.trans u5) _ _ hq
      · rw [upd_same, List.map_append]
        rfl
      · rw [List.length_append, l4]
        rfl
  · rintro σ G4 ⟨x4, x5, rfl, s4, h4, l4⟩
    rw [List.length_map, List.take_length] at h4 ⊢
    refine ⟨_, rfl, al, _, rfl, .inl ⟨SqL.of h4, fun p np => ?_⟩⟩
    have u5 := same_new np (.tup ((runD D s1 ws).1.map V.str))
    have hp : (upd G4 p (.tup ((runD D s1 ws).1.map V.str))) p = some (.tup ((runD D s1 ws).1.map V.str)) := upd_same
    show _
    generalize upd G4 p (.tup ((runD D s1 ws).1.map V.str)) = G6 at u5 hp ⊢
    refine ⟨_, rfl, (by show 2 ≤ sizeLine; decide), fun r nr => ?_⟩
    have u6 := same_new nr (.tup [.ref p, .str (runD D s1 ws).2])
    exact q r p _ ((s4.trans u5).trans u6) upd_same (u6 _ _ hp)
end
end K51
set_option Elab.async false
set_option linter.all false
set_option maxRecDepth 100000
set_option maxHeartbeats 8000000
namespace K51
open PySem L2 LG
section
variable {P : Program} {w : World} {K : PySem.W.Frag} {mg : Str → Option Value} {base : Heap}
/-! ### a walk drawn -/
def spAWalk (K : PySem.W.Frag) : Sp := fun vs H Q _ => ∃ (p l : Addr) (m b : Nat) (C : List Str), vs = [.ref p, .ref l, .int m] ∧ PotAt H p b ∧ b ≤ 90000 ∧ m ≤ 30 ∧ SqL K H l (C.map V.str) ∧ l ≠ p ∧ 0 < C.length ∧ C.length ≤ 1000 ∧
  ∀ (t : Addr) (ws : List Str) (B : Nat) (H' : Hp), But p H H' → PotAt H' p B → B ≤ b + 31 → H t = none → t ≠ p → H' t = some (.tup (ws.map V.str)) → ws.length ≤ m → (∀ y ∈ ws, y ∈ C) → Q (.ref t) H'
abbrev nAw : List Str := ["_law_pot_here", "_law_calls", "_law_most", "_law_lap"]
theorem scAWalk : FnScope nAw ["_law_pot_here", "_law_calls", "_law_most"] (defScope sAWalk) := ⟨rfl, rfl, rfl, by decide +kernel, rfl, by decide +kernel, by decide +kernel⟩
theorem ok_awalk {f g1 g2 : Addr} {fd gd1 gd2 : FuncData} (F : Fun K "_law_a_walk" "_law_a_walk" sAWalk f fd) (T : Bltn mg)
    (GT : FnOk P w K mg base CX0 1 g1 gd1 ["_law_pot_here", "_law_upto"] spTake) (mT : mg "_law_take" = some (.ref g1)) (kT_ : PySem.W.keepIn K (.ref g1) = true) (bT : Binds K gd1 ["_law_pot_here", "_law_upto"] [])
    (GO : FnOk P w K mg base CX0 2 g2 gd2 ["_law_pot_here", "_law_some_here"] (spOf K)) (mO : mg "_law_of" = some (.ref g2)) (kO : PySem.W.keepIn K (.ref g2) = true) (bO : Binds K gd2 ["_law_pot_here", "_law_some_here"] []) :
    FnOk P w K mg base CX0 3 f fd ["_law_pot_here", "_law_calls", "_law_most"] (spAWalk K) := by
  refine F.ok scAWalk (fun vs H Q E h => ?_) (fun cdv A0 outer st H vs Q E hr h => ?_)
  · obtain ⟨p, l, m, b, C, rfl, _⟩ := h
    rfl
  obtain ⟨p, l, m, b, C, rfl, hp, hb, hm, hl, nlp, c0, c1, q⟩ := h
  have r1 : Room 1 _ := hr.mono (by decide)
  refine' ⟨_, pss_one (ps_ret (pe_callTy call_tuple_of rfl T.tuple (by decide +kernel) (pa_cons (pe_lc (te := tCall (spOf K) [] E0 (tCons (tVar 0) (tCons (tVar 1) tNil))) (own := [("_law_lap", 3)]) (g := gName 3) (tt := tYes) rfl scAWalk.nd (pi_range1 rfl T.range (pa_cons (pe_call GT r1 rfl mT kT_ bT .nil pass0 (pa_cons (pv 0) (pa_cons (pe_op op_add (pv 2) pe_int) pa_nil))) pa_nil))
      (blkOk_by (own := [("_law_lap", 3)]) (N := nAw) (sc := defScope sAWalk) (by decide +kernel)) (fun _ _ _ _ _ => pg_name (i := 3) scAWalk.nd rfl (Or.inl rfl)) (fun _ _ _ _ _ => pts_nil)
      (fun _ _ _ _ _ => by exact pe_call GO hr rfl mO kO bO .nil pass0 (pa_cons (pv 0) (pa_cons (pv 1) pa_nil)))) pa_nil))), ?main⟩
  case main =>
    refine ⟨_, rfl, _, rfl, _, _, rfl, rfl, p, _, b, rfl, hp, by omega, by omega, by omega, fun k H1 k0 k1 but pot => ⟨k, rfl, by omega, by omega, fun D nD => ?_⟩⟩
    have npD : D ≠ p := fun z => by
      obtain ⟨own, sm, n, e, _⟩ := pot
      rw [z, e] at nD
      cases nD
    have nDH : H D = none := by
      cases e : H D with
      | none => rfl
      | some o => rw [but _ _ e npD] at nD; cases nD
    have kn : k.toNat ≤ m := by omega
    refine lc_it (walk_range (lo := 0)) (D := D) (g := gName 3) (tt := tYes) (te := tCall (spOf K) [] E0 (tCons (tVar 0) (tCons (tVar 1) tNil))) (vs := [3]) (fun i G => ∃ ws : List Str, But p H G ∧ PotAt G p (b + 1 + i) ∧ G D = some (.lst (ws.map V.str)) ∧ ws.length = i ∧ ∀ y ∈ ws, y ∈ C)
      ⟨[], but.trans (But.of (same_new nD _)), pot.same (same_new nD _), upd_same, rfl, fun _ h => nomatch h⟩ (fun _ _ _ _ => trivial) ?_ ?_
    · rintro i y G4 G5 hi ⟨ws, b4, p4, d4, l4, m4⟩ ⟨rfl, rfl⟩
      refine ⟨rfl, ?_⟩
      refine ⟨_, rfl, _, rfl, p, l, C.map V.str, _, rfl, p4, by omega, But.seq b4 nlp hl, by rw [List.length_map]; exact c0, by rw [List.length_map]; exact c1, nlp, fun x G6 hx b6 p6 => ?_⟩
      obtain ⟨c, hc, rfl⟩ := List.mem_map.mp hx
      have d6 := b6 _ _ d4 npD
      refine ⟨_, d6, by rw [List.length_map, sizeLine_eq]; omega, ws ++ [c], ?_, ?_, ?_, ?_, ?_⟩
      · intro c' o hc' ne
        rw [upd_ne (ne_of_none hc' nDH)]
        exact b6 _ _ (b4 _ _ hc' ne) ne
      · obtain ⟨own, sm, n, e, r⟩ := p6
        exact ⟨own, sm, n, by rw [upd_ne npD.symm]; exact e, r⟩
      · rw [upd_same, List.map_append]
        rfl
      · rw [List.length_append, l4]
        rfl
      · intro y hy
        rcases List.mem_append.mp hy with h | h
        · exact m4 y h
        · rw [List.mem_singleton.mp h]
          exact hc
    · rintro G4 ⟨ws, b4, p4, d4, l4, m4⟩
      refine ⟨D, _, rfl, .inl ⟨SqL.of d4, fun t nt => ?_⟩⟩
      have ntp : t ≠ p := fun z => by
        obtain ⟨own, sm, n, e, _⟩ := p4
        rw [z, e] at nt
        cases nt
      have ntH : H t = none := by
        cases e : H t with
        | none => rfl
        | some o => rw [b4 _ _ e ntp] at nt; cases nt
      exact q t ws _ _ (b4.trans (But.of (same_new nt _))) (p4.same (same_new nt _)) (by omega) ntH ntp upd_same (by omega) m4
end
end K51
set_option Elab.async false
set_option linter.all false
set_option maxRecDepth 100000
set_option maxHeartbeats 16000000
/-! Law k48's drawn logs. -/
namespace LG
open PySem L2
theorem KeyRefs.set {H : Hp} {q : Addr} {k : Str × Str} (r : H q = some (.tup ((kT k).map kV))) : ∀ {vs : List V} {ks : List (Str × Str)} (j : Nat), KeyRefs H vs ks → KeyRefs H (vs.set j (.ref q)) (ks.set j k)
  | _, _, _, .nil => .nil
  | _, _, 0, .cons _ t => .cons r t
  | _, _, j + 1, .cons h t => .cons h (KeyRefs.set r j t)
theorem keyrefs_off {H H' : Hp} : ∀ {ts : List Addr} {ks : List (Str × Str)}, (∀ t ∈ ts, ∀ u, H t = some u → H' t = some u) → KeyRefs H (ts.map V.ref) ks → KeyRefs H' (ts.map V.ref) ks
  | [], _, _, .nil => .nil
  | t :: ts, _, h, .cons e r => .cons (h t List.mem_cons_self _ e) (keyrefs_off (fun t' m => h t' (List.mem_cons_of_mem _ m)) r)
theorem paired_left {α β : Type} {R : α → β → Prop} {C : α → Prop} : ∀ {as : List α} {bs : List β}, PySem.Paired R as bs → (∀ a b, R a b → C a) → ∀ a ∈ as, C a
  | _, _, .nil, _, a, h => by cases h
  | _, _, .cons e r, f, a, h => by
    rcases List.mem_cons.mp h with h | h
    · rw [h]
      exact f _ _ e
    · exact paired_left r f a h
theorem zip_keys {H0 H : Hp} : ∀ {ts : List Addr} {ws as : List Str}, PySem.Paired (fun (t : Addr) (q : V × V) => H0 t = none ∧ H t = some (.tup [q.1, q.2])) ts ((ws.map V.str).zip (as.map V.str)) → KeyRefs H (ts.map V.ref) (ws.zip as)
  | [], [], _, _ => .nil
  | [], _ :: _, [], _ => .nil
  | [], _ :: _, _ :: _, h => by cases h
  | _ :: _, [], _, h => by cases h
  | _ :: _, _ :: _, [], h => by cases h
  | t :: ts, w :: ws, a :: as, h => by
    cases h with
    | cons e r => exact .cons (k := (w, a)) e.2 (zip_keys r)
theorem runD_len (D : Dev) : ∀ (ws : List Str) (s : Str), (runD D s ws).1.length = ws.length
  | [], _ => rfl
  | w :: r, s => by
    show (runD D (rowX D (s, w)).2 r).1.length + 1 = r.length + 1
    rw [runD_len D r]
theorem runD_ans {D : Dev} (d : Drawn D) : ∀ (ws : List Str) (s : Str), s ∈ D.states → (∀ w ∈ ws, w ∈ D.calls) → ∀ a ∈ (runD D s ws).1, a ∈ D.answers
  | [], _, _, _, a, h => by cases h
  | w :: r, s, hs, hw, a, h => by
    have row := d.row (k := (s, w)) (by rw [d.keys]; exact prod_mem.mpr ⟨hs, hw w List.mem_cons_self⟩)
    rcases List.mem_cons.mp h with h | h
    · rw [h]
      exact row.2.2.2.1
    · exact runD_ans d r _ row.2.2.2.2 (fun x hx => hw x (List.mem_cons_of_mem _ hx)) a h
end LG
namespace K51
open PySem L2 LG
section
variable {P : Program} {w : World} {K : PySem.W.Frag} {mg : Str → Option Value} {base : Heap} {fI : Addr}
def spLog (K : PySem.W.Frag) : Sp := fun vs H Q _ => ∃ (p o : Addr) (m b : Nat) (D : Dev), vs = [.ref p, .ref o, .int m] ∧ PotAt H p b ∧ b ≤ 80000 ∧ m ≤ 24 ∧ OwnAt K (mk p H) o D ∧ Drawn D ∧
  ∀ (t : Addr) (st : List (Str × Str)) (H' : Hp), But p H H' → PotAt H' p (b + 40) → LogAt K (mk p H') t st → st.length ≤ m → (∀ k ∈ st, k.1 ∈ D.calls ∧ k.2 ∈ D.answers) → Q (.ref t) H'
abbrev nLo : List Str := ["_law_pot_here", "_law_device_here", "_law_most", "_law_walk", "_law_steps", "_law_at"]
theorem scLo : FnScope nLo ["_law_pot_here", "_law_device_here", "_law_most"] (defScope sLog) := ⟨rfl, rfl, rfl, by decide +kernel, rfl, by decide +kernel, by decide +kernel⟩
structure KitL (P : Program) (w : World) (K : PySem.W.Frag) (mg : Str → Option Value) (base : Heap) : Prop where
  take : ∃ g gd, FnOk P w K mg base CX0 1 g gd ["_law_pot_here", "_law_upto"] spTake ∧ mg "_law_take" = some (.ref g) ∧ PySem.W.keepIn K (.ref g) = true ∧ Binds K gd ["_law_pot_here", "_law_upto"] []
  one : ∃ g gd, FnOk P w K mg base CX0 2 g gd ["_law_pot_here", "_law_some_here"] (spOf K) ∧ mg "_law_of" = some (.ref g) ∧ PySem.W.keepIn K (.ref g) = true ∧ Binds K gd ["_law_pot_here", "_law_some_here"] []
  walk : ∃ g gd, FnOk P w K mg base CX0 3 g gd ["_law_pot_here", "_law_calls", "_law_most"] (spAWalk K) ∧ mg "_law_a_walk" = some (.ref g) ∧ PySem.W.keepIn K (.ref g) = true ∧ Binds K gd ["_law_pot_here", "_law_calls", "_law_most"] []
  run : ∃ g gd, FnOk P w K mg base CX0 1 g gd ["_law_device_here", "_law_state", "_law_walk"] (spRun K) ∧ mg "_law_run" = some (.ref g) ∧ PySem.W.keepIn K (.ref g) = true ∧ Binds K gd ["_law_device_here", "_law_state", "_law_walk"] []
  zip : mg "zip" = none
theorem ok_log {f : Addr} {fd : FuncData} (F : Fun K "_law_log" "_law_log" sLog f fd) (T : Bltn mg) (Z : KitL P w K mg base) : FnOk P w K mg base CX0 4 f fd ["_law_pot_here", "_law_device_here", "_law_most"] (spLog K) := by
  obtain ⟨gt, gtd, GT, mT, kT_, bT⟩ := Z.take
  obtain ⟨go, god, GO, mO, kO, bO⟩ := Z.one
  obtain ⟨gw, gwd, GW, mW, kW, bW⟩ := Z.walk
  obtain ⟨gr, grd, GR_, mR, kR, bR⟩ := Z.run
  refine F.ok scLo (fun vs H Q E h => ?_) (fun cdv A0 outer st_ H vs Q E hr h => ?_)
  · obtain ⟨p, o, m, b, D, rfl, _⟩ := h
    rfl
  obtain ⟨p, o, m, b, D, rfl, hp, hb, hm, hO, dr, q⟩ := h
  have hu := hu_of hr
  have r1 : Room 1 _ := hr.mono (by decide)
  have r2 : Room 2 _ := hr.mono (by decide)
  have r3 : Room 3 _ := hr.mono (by decide)
  refine' ⟨_, pss_cons ?walk (pss_cons ?steps (pss_cons (ps_if ?cond (pss_cons ?at_ (pss_one ?put)) pss_nil) (pss_one (ps_ret (pe_callTy call_tuple_of rfl T.tuple (by decide +kernel) (pa_cons (pv 4) pa_nil)))))), ?main⟩
  case walk => exact ps_set (i := 3) scLo.nd rfl (Or.inl rfl) (pe_call GW r3 rfl mW kW bW .nil pass0 (pa_cons (pv 0) (pa_cons (pe_dget hu (pv 1) pe_str (fun _ _ => rfl)) (pa_cons (pv 2) pa_nil))))
  case steps =>
    exact ps_set (i := 4) scLo.nd rfl (Or.inl rfl) (pe_listZip rfl rfl T.list (by decide +kernel) rfl Z.zip (pa_cons (pv 3) (pa_cons (pe_ix ix_tup (pe_call GR_ r1 rfl mR kR bR .nil pass0 (pa_cons (pv 1) (pa_cons (pe_call GO r2 rfl mO kO bO .nil pass0 (pa_cons (pv 0) (pa_cons (pe_dget hu (pv 1) pe_str (fun _ _ => rfl)) pa_nil))) (pa_cons (pv 3) pa_nil)))) pe_int (fun _ _ => rfl)) pa_nil)))
  case cond => exact PW.pt (pw_and (pt_cmpR (op_neD hr.units) (pv 4) (pe_lst pa_nil) (nomark _)) (pw_and1 (pt_cmpR op_eq (pe_call GT r1 rfl mT kT_ bT .nil pass0 (pa_cons (pv 0) (pa_cons pe_int pa_nil))) pe_int (nomark _))))
  case at_ => exact ps_set (i := 5) scLo.nd rfl (Or.inl rfl) (pe_call GT r1 rfl mT kT_ bT .nil pass0 (pa_cons (pv 0) (pa_cons (pe_callB call_len_seq rfl T.len PySem.boot_len (pa_cons (pv 4) pa_nil)) pa_nil)))
  case put => exact ps_asg (pe_tup (pa_cons (pe_ix ix_tup (pe_ix ix_list (pv 4) (pv 5) (fun _ _ => rfl)) pe_int (fun _ _ => rfl)) (pa_cons (pe_call GO r2 rfl mO kO bO .nil pass0 (pa_cons (pv 0) (pa_cons (pe_dget hu (pv 1) pe_str (fun _ _ => rfl)) pa_nil))) pa_nil))) (pg_sub (pv 4) (pv 5) set_list)
  case main =>
    obtain ⟨ca, aa, sa, ra, kvs, h1, h2, h3, h4, h5, h6⟩ := hO.ex
    have FD := dr.full0
    obtain ⟨npo, h1⟩ := mk_some h1
    obtain ⟨npc, h2⟩ := mk_some h2
    obtain ⟨npa, h3⟩ := mk_some h3
    obtain ⟨nps, h4⟩ := mk_some h4
    obtain ⟨npr, h5⟩ := mk_some h5
    have dK := fun (x : Str) (G : Hp) (e : G o = some (.dK [(.inr ("calls" : Str), .ref ca), (.inr ("answers" : Str), .ref aa), (.inr ("states" : Str), .ref sa), (.inr ("rows" : Str), .ref ra)])) => DGet.k (k := Sum.inr x) e
    have c1_ := dr.c1
    have a1_ := dr.a1
    have s1_ := dr.s1
    refine ⟨_, rfl, _, rfl, o, _, rfl, dK "calls" H h1, _, rfl, p, ca, m, b, D.calls, rfl, hp, by omega, by omega, SqL.of h2, npc, by omega, by omega, fun t ws B G0 b0 p0 hB nt ntp ht lws mws => ?_⟩
    refine ⟨_, rfl, _, rfl, _, rfl, _, rfl, o, _, rfl, dK "states" _ (b0 _ _ h1 npo), p, sa, D.states.map V.str, B, rfl, p0, by omega, SqL.of (b0 _ _ h4 nps), by rw [List.length_map]; omega, by rw [List.length_map]; omega, nps, fun x G1 hx b1 p1 => ?_⟩
    obtain ⟨s0, hs0, rfl⟩ := List.mem_map.mp hx
    have b01 := b0.trans b1
    have o1 := b01 _ _ h1 npo
    have ht1 := b1 _ _ ht ntp
    have g1 : GoalsAt K G1 ra D.goals := (GoalsAt.same (mk_but b01) (a := ra) (K := K) ⟨kvs, .inl (mk_of npr h5), h6⟩).same (mk_self p G1)
    refine ⟨_, rfl, o, ra, t, s0, ws, D, rfl, (fun G s => dK "rows" G (s _ _ o1)), g1, FD, hs0, mws, .inl (.inl ht1), by omega, fun qa a G2 s2 hqa ha => ?_⟩
    refine ⟨qa, _, 0, _, rfl, rfl, .inl (.inl hqa), atI_nat (j := 0) rfl, ?_⟩
    have ln := runD_len D ws s0
    have an := runD_ans dr ws s0 hs0 mws
    generalize (runD D s0 ws).1 = as at ha ln an
    refine ⟨t, a, ws.map V.str, as.map V.str, rfl, .inl (.inl (s2 _ _ ht1)), .inl (.inl ha), by rw [List.length_map, List.length_map]; omega, by rw [List.length_map, sizeLine_eq]; omega, fun G3 L ts s3 nL hL pr => ?_⟩
    have kr := zip_keys pr
    have nts : ∀ t' ∈ ts, G2 t' = none := fun t' h' => by
      obtain ⟨j, hj⟩ := List.mem_iff_getElem?.mp h'
      clear kr
      exact paired_left pr (fun _ _ e => e.1) t' h'
    clear pr
    have b02 : But p H G2 := b01.trans (But.of s2)
    have b03 : But p H G3 := b02.trans (But.of s3)
    have p2 : PotAt G2 p (B + 1) := p1.same s2
    have p3 : PotAt G3 p (B + 1) := p2.same s3
    have nLp : L ≠ p := new_ne p2.there nL
    have ntp' : ∀ t' ∈ ts, t' ≠ p := fun t' h' => new_ne p2.there (nts t' h')
    have HL : H L = none := by
      cases e : H L with
      | none => rfl
      | some u => rw [b02 _ _ e nLp] at nL; cases nL
    have kr : KeyRefs (mk p G3) (ts.map V.ref) (ws.zip as) := keyrefs_off (fun t' h' u e => mk_of (ntp' t' h') e) kr
    have lst : (ws.zip as).length ≤ m := by rw [List.length_zip]; omega
    have mst : ∀ k ∈ ws.zip as, k.1 ∈ D.calls ∧ k.2 ∈ D.answers := fun k hk => ⟨mws _ (List.of_mem_zip hk).1, an _ (List.of_mem_zip hk).2⟩
    generalize ws.zip as = st at kr lst mst
    generalize ts.map V.ref = zs at hL kr
    have lz : zs.length = st.length := kr.len
    clear nts ntp' ln an hqa ha g1 hx
    -- the end of it
    have fin : ∀ (st' : List (Str × Str)) (zs' : List V) (G : Hp), But p H G → PotAt G p (b + 40) → G L = some (.lst zs') → KeyRefs (mk p G) zs' st' → st'.length ≤ m → (∀ k ∈ st', k.1 ∈ D.calls ∧ k.2 ∈ D.answers) → SqL K G L zs' ∧ ∀ l, G l = none → Q (.ref l) (upd G l (.tup zs')) := by
      intro st' zs' G bG pG hG kG l' m'
      refine ⟨SqL.of hG, fun l nl => ?_⟩
      have sl := same_new nl (.tup zs')
      exact q l st' _ (bG.trans (But.of sl)) (pG.same sl) ⟨zs', .inl (.inl (mk_new pG.there nl)), pairs_dp (kG.same (mk_up sl))⟩ l' m'
    refine ⟨_, rfl, (by show 0 ≤ sizeLine; decide), fun l nl => ?_⟩
    have s4 := same_new nl (.lst [])
    have hl : (upd G3 l (.lst [])) l = some (.lst []) := upd_same
    show _
    generalize upd G3 l (.lst []) = G4 at s4 hl ⊢
    have hL := s4 _ _ hL
    have kr := kr.same (mk_up s4)
    have p4 := p3.same s4
    have b04 : But p H G4 := b03.trans (But.of s4)
    have asc : ∀ k ∈ st, (∀ c ∈ TL.tl k.1, c < 128) ∧ ∀ c ∈ TL.tl k.2, c < 128 := fun k hk => ⟨name_asc_ (dr.cw _ (mst k hk).1), name_asc_ (dr.aw _ (mst k hk).2)⟩
    refine ⟨.list (st.map pairD), .list [], .lst (SqL.of hL) (pairs_dp (kr.same (mk_self p G4))), .lst (SqL.of hl) .nil, pairs_shaped asc, (pairs_shaped (ks := []) (fun k hk => by cases hk)), _, rfl, ?_⟩
    rw [pairs_ne_nil]
    by_cases e0 : st = []
    · rw [decide_eq_true e0]
      refine iteF (iteF ?_)
      exact ⟨_, rfl, L, zs, rfl, .inl (fin st zs G4 b04 (p4.mono (by omega)) hL kr lst mst)⟩
    · rw [decide_eq_false e0]
      refine iteT ?_
      have l0 : 0 < st.length := List.length_pos_iff.mpr e0
      refine ⟨_, rfl, p, 3, B + 1, rfl, p4, by omega, by decide, by decide, fun k G5 k0 k1 b5 p5 => ⟨rfl, _, rfl, ?_⟩⟩
      generalize decide (V.int k = V.int 0) = cc
      have hL5 := b5 _ _ hL nLp
      have kr5 := kr.same (mk_but b5)
      have b05 := b04.trans b5
      cases cc with
      | true =>
        refine iteT ?_
        refine ⟨_, rfl, _, rfl, L, zs, rfl, .inl (SqL.of hL5), p, _, B + 1 + 1, rfl, p5, by omega, by omega, by omega, fun j G6 j0 j1 b6 p6 => ?_⟩
        have hL6 := b6 _ _ hL5 nLp
        have kr6 := kr5.same (mk_but b6)
        have b06 := b05.trans b6
        have jl : j.toNat < st.length := by omega
        have ej : j = ((j.toNat : Nat) : Int) := by omega
        obtain ⟨tj, etj, htj⟩ := kr6.at (List.getElem?_eq_getElem jl)
        obtain ⟨ntj, htj⟩ := mk_some htj
        refine ⟨_, rfl, _, rfl, L, zs, j, _, rfl, rfl, SqL.of hL6, by rw [ej]; exact atI_nat etj, tj, _, 0, _, rfl, rfl, .inl (.inl htj), atI_nat (j := 0) rfl, ?_⟩
        refine ⟨_, rfl, _, rfl, o, _, rfl, dK "answers" _ (b06 _ _ h1 npo), p, aa, D.answers.map V.str, B + 1 + 1 + 1, rfl, p6, by omega, SqL.of (b06 _ _ h3 npa), by rw [List.length_map]; omega, by rw [List.length_map]; omega, npa, fun x G7 hx b7 p7 => ?_⟩
        obtain ⟨a', ha', rfl⟩ := List.mem_map.mp hx
        have hL7 := b7 _ _ hL6 nLp
        have kr7 := kr6.same (mk_but b7)
        have b07 := b06.trans b7
        refine ⟨(by show 2 ≤ sizeLine; decide), fun q2 nq2 => ?_⟩
        have s8 := same_new nq2 (.tup [.str st[j.toNat].1, .str a'])
        have hq2 : (upd G7 q2 (.tup [.str st[j.toNat].1, .str a'])) q2 = some (.tup [.str st[j.toNat].1, .str a']) := upd_same
        have nq2p : q2 ≠ p := new_ne p7.there nq2
        show _
        generalize upd G7 q2 (.tup [.str st[j.toNat].1, .str a']) = G8 at s8 hq2 ⊢
        have hL8 := s8 _ _ hL7
        have kr8 := kr7.same (mk_up s8)
        have p8 := p7.same s8
        have b08 : But p H G8 := b07.trans (But.of s8)
        refine ⟨_, rfl, _, rfl, L, zs, j, j.toNat, rfl, rfl, hL8, by rw [ej]; unfold ixN; rw [if_pos (Int.natCast_nonneg _), if_pos (by omega), Int.toNat_natCast], ?_⟩
        have bL : But p H (upd G8 L (.lst (zs.set j.toNat (.ref q2)))) := fun c' u e ne => by
          rw [upd_ne (fun z => by rw [z, HL] at e; cases e)]
          exact b08 c' u e ne
        have kS := KeyRefs.set (k := (st[j.toNat].1, a')) (mk_of nq2p hq2) j.toNat kr8
        have kU := KeyRefs.updl (o := .lst (zs.set j.toNat (.ref q2))) (mk_of nLp hL8) kS
        have kF : KeyRefs (mk p (upd G8 L (.lst (zs.set j.toNat (.ref q2))))) (zs.set j.toNat (.ref q2)) (st.set j.toNat (st[j.toNat].1, a')) := kU.same fun b' u e => by
          by_cases z : b' = L
          · rw [z, upd_same] at e
            rw [z]
            exact mk_of nLp (by rw [upd_same]; exact e)
          · rw [upd_ne z] at e
            obtain ⟨e1, e2⟩ := mk_some e
            exact mk_of e1 (by rw [upd_ne z]; exact e2)
        refine ⟨_, rfl, L, _, rfl, .inl (fin _ _ _ bL ?_ upd_same kF (by rw [List.length_set]; exact lst) (fun k hk => ?_))⟩
        · obtain ⟨own, sm, n, e1, e2, e3, e4, e5, e6⟩ := p8
          exact ⟨own, sm, n, by rw [upd_ne nLp.symm]; exact e1, e2, e3, e4, e5, by omega⟩
        · rcases List.mem_or_eq_of_mem_set hk with h | h
          · exact mst k h
          · rw [h]
            exact ⟨(mst _ (List.getElem_mem jl)).1, ha'⟩
      | false => exact iteF ⟨_, rfl, L, zs, rfl, .inl (fin st zs G5 b05 (p5.mono (by omega)) hL5 kr5 lst mst)⟩
end
end K51
set_option Elab.async false
set_option linter.all false
set_option maxRecDepth 100000
set_option maxHeartbeats 16000000
/-! Law k48's logs and what is near them. -/
namespace K51
open PySem L2 LG
/-- the list in slot 6, where one stands there -/
def s6 (p : Addr) (σ : L2.St) : Addr := match (σ[6]? : Option (Option V)) with
  | some (some (V.ref l)) => l
  | _ => p
/-- the heap without the pot and without that list -/
def hd (p : Addr) (σ : L2.St) (H : Hp) : Hp := mk (s6 p σ) (mk p H)
theorem hd_up {p : Addr} {σ : L2.St} {H H' : Hp} (s : Same H H') : Same (hd p σ H) (hd p σ H') := mk_up (mk_up s)
theorem hd_self (p : Addr) (σ : L2.St) (H : Hp) : Same (hd p σ H) H := (mk_self _ _).trans (mk_self _ _)
theorem hd_new {p q : Addr} {σ : L2.St} {H : Hp} {o : HO} (hp : H p ≠ none) (h6 : H (s6 p σ) ≠ none) (nq : H q = none) : hd p σ (upd H q o) q = some o := mk_of (new_ne h6 nq) (mk_new hp nq)
theorem hd_mn {p : Addr} {σ : L2.St} {H H' : Hp} (hp : H p ≠ none) (h6 : H (s6 p σ) ≠ none) : Same (mn H H') (hd p σ H') := fun b o h => by
  obtain ⟨h0, h1⟩ := mn_some h
  exact mk_of (new_ne h6 h0) (mk_of (new_ne hp h0) h1)
def tE (K : PySem.W.Frag) (p : Addr) (k : Nat) (S : L2.St → Hp → Prop) : TE := fun σ H Q => S σ H ∧ ∀ x H', Same H H' → Gd K k (hd p σ H') x → Q x H'
def tEs (K : PySem.W.Frag) (p : Addr) (k m : Nat) (S : L2.St → Hp → Prop) : TA := fun σ H Q => S σ H ∧ ∀ xs H', Same H H' → xs.length = m → (∀ x ∈ xs, Gd K k (hd p σ H') x) → Q xs H'
/-- a log, a call, an answer and the step of both stand in the slots 2 to 5 -/
structure SN (K : PySem.W.Frag) (p lo : Addr) (ll : List V) (c a : Str) (σ : L2.St) (H : Hp) : Prop where
  s2 : σ[2]? = some (some (.ref lo))
  s3 : σ[3]? = some (some (.str c))
  s4 : σ[4]? = some (some (.str a))
  s5 : ∃ q, σ[5]? = some (some (.ref q)) ∧ SqT K (hd p σ H) q [.str c, .str a]
  hp : H p ≠ none
  h6 : H (s6 p σ) ≠ none
  tl : SqT K (hd p σ H) lo ll
  gl : Gds K 1 (hd p σ H) ll
  ln : ll.length ≤ 24
  nc : isNameB c = true
  na : isNameB a = true
section
variable {X : Cx} {e : Expr} {es : List Expr} {p lo : Addr} {ll : List V} {c a : Str} {k m : Nat} {pos p1 p2 p3 : Pos}
theorem SN.stays {K : PySem.W.Frag} : Stays (SN K p lo ll c a) := fun σ H H' s h => ⟨h.s2, h.s3, h.s4, h.s5.elim fun q e => ⟨q, e.1, same_tup (hd_up s) e.2⟩, Same.there s h.hp, Same.there s h.h6, same_tup (hd_up s) h.tl, h.gl.same (hd_up s), h.ln, h.nc, h.na⟩
theorem nm_gd {K : PySem.W.Frag} {n : Nat} {H : Hp} {x : Str} (h : isNameB x = true) : Gd K n H (.str x) := ⟨.str x, .str x, small_le (Nat.zero_le _) (name_small h)⟩
theorem step_gds {K : PySem.W.Frag} {n : Nat} {H : Hp} (hc : isNameB c = true) (ha : isNameB a = true) : Gds K n H [.str c, .str a] := .cons (nm_gd hc) (.cons (nm_gd ha) .nil)
theorem qm_nil {S : L2.St → Hp → Prop} : PA X [] (tEs X.K p k 0 S) := pa_imp pa_nil fun _ H Q h => h.2 _ _ (Same.refl H) rfl (fun _ m => nomatch m)
theorem qm_cons {S : L2.St → Hp → Prop} (hS : Stays S) (h : PE X e (tE X.K p k S)) (r : PA X es (tEs X.K p k m S)) (hs : starEach (e :: es) X.env = (false, eval e X.env) :: starEach es X.env := by rfl) : PA X (e :: es) (tEs X.K p k (m + 1) S) :=
  pa_imp (pa_cons h r hs) fun _ H Q q => ⟨q.1, fun x H1 s1 g1 => ⟨hS _ _ _ s1 q.1, fun xs H2 s2 l2 g2 => q.2 _ _ (s1.trans s2) (by rw [List.length_cons, l2]) fun y hy => by
    rcases List.mem_cons.mp hy with rfl | hy
    · exact g1.same (hd_up s2)
    · exact g2 y hy⟩⟩
theorem sn_c (h : PE X e (tVar 3)) : PE X e (tE X.K p k (SN X.K p lo ll c a)) := pe_imp h fun _ H Q r => ⟨_, r.1.s3, r.2 _ _ (Same.refl H) (nm_gd r.1.nc)⟩
theorem sn_a (h : PE X e (tVar 4)) : PE X e (tE X.K p k (SN X.K p lo ll c a)) := pe_imp h fun _ H Q r => ⟨_, r.1.s4, r.2 _ _ (Same.refl H) (nm_gd r.1.na)⟩
theorem sn_st (h : PE X e (tVar 5)) : PE X e (tE X.K p (k + 1) (SN X.K p lo ll c a)) := pe_imp h fun _ H Q r => by
  obtain ⟨q, e, t⟩ := r.1.s5
  exact ⟨_, e, r.2 _ _ (Same.refl H) (Gd.tup (step_gds r.1.nc r.1.na) (by simp) t)⟩
theorem sn_log (h : PE X e (tVar 2)) : PE X e (tE X.K p (k + 2) (SN X.K p lo ll c a)) := pe_imp h fun _ H Q r => ⟨_, r.1.s2, r.2 _ _ (Same.refl H) (Gd.tup (r.1.gl.le (by omega)) (Nat.le_trans r.1.ln (by decide)) r.1.tl)⟩
theorem sn_llog (h : PE X e (tVar 2)) (hg : Gl X "list") (hm : X.mg "list" = none) (he : starEach [e] X.env = (false, eval e X.env) :: starEach [] X.env := by rfl) : PE X (.Call (.Name "list" p1) [e] [] pos) (tE X.K p (k + 2) (SN X.K p lo ll c a)) :=
  pe_imp (pe_callTy call_list_of hg hm (by decide +kernel) (pa_cons h pa_nil he) (he := he)) fun _ H Q r =>
    ⟨_, r.1.s2, lo, ll, rfl, .inr (same_tup (hd_self p _ H) r.1.tl), fun l nl => r.2 _ _ (same_new nl _) (.lst ((r.1.gl.le (by omega)).same (hd_up (same_new nl _))) (Nat.le_trans r.1.ln (by decide)) (SqL.of (hd_new r.1.hp r.1.h6 nl)))⟩
theorem sn_lst (h : PE X e (tVar 5)) (hg : Gl X "list") (hm : X.mg "list" = none) (he : starEach [e] X.env = (false, eval e X.env) :: starEach [] X.env := by rfl) : PE X (.Call (.Name "list" p1) [e] [] pos) (tE X.K p (k + 1) (SN X.K p lo ll c a)) :=
  pe_imp (pe_callTy call_list_of hg hm (by decide +kernel) (pa_cons h pa_nil he) (he := he)) fun _ H Q r => by
    obtain ⟨q, e, t⟩ := r.1.s5
    exact ⟨_, e, q, _, rfl, .inr (same_tup (hd_self p _ H) t), fun l nl => r.2 _ _ (same_new nl _) (.lst (step_gds r.1.nc r.1.na) (by simp) (SqL.of (hd_new r.1.hp r.1.h6 nl)))⟩
theorem sn_back (h : PE X e (tVar 5)) {j} : PE X (.Subscript e (.Slice none none (some (.UnaryOp .USub (.Constant (.int 1) j p1) p3)) p2) pos) (tE X.K p (k + 1) (SN X.K p lo ll c a)) :=
  pe_imp (pe_back h (pe_un un_neg pe_int)) fun _ H Q r => by
    obtain ⟨q, e, t⟩ := r.1.s5
    exact ⟨_, e, 1, rfl, q, _, rfl, rfl, same_tup (hd_self p _ H) t, fun l nl => r.2 _ _ (same_new nl _) (.tup (step_gds r.1.na r.1.nc) (by simp) (.inl (.inl (hd_new r.1.hp r.1.h6 nl))))⟩
theorem sn_tup {x1} (h : PA X es (tEs X.K p k m (SN X.K p lo ll c a))) (hm : m ≤ 25 := by decide) : PE X (.Tuple es x1 pos) (tE X.K p (k + 1) (SN X.K p lo ll c a)) :=
  pe_imp (pe_tup h) fun _ H Q r => ⟨r.1, fun xs H1 s1 l1 g1 => ⟨Nat.le_trans (by omega : xs.length ≤ 25) (by decide), fun t nt =>
    r.2 _ _ (s1.trans (same_new nt _)) (.tup ((Gds.of_mem g1).same (hd_up (same_new nt _))) (by omega) (.inl (.inl (hd_new (Same.there s1 r.1.hp) (Same.there s1 r.1.h6) nt))))⟩⟩
theorem sn_rep {n : Int} {x1 j} (h : PE X e (tE X.K p k (SN X.K p lo ll c a))) (h2 : 2 ≤ n) (h25 : n ≤ 25) (he : starEach [e] X.env = (false, eval e X.env) :: starEach [] X.env := by rfl) :
    PE X (.BinOp (.Tuple [e] x1 p1) .Mult (.Constant (.int n) j p2) pos) (tE X.K p (k + 1) (SN X.K p lo ll c a)) :=
  pe_imp (pe_op op_repT (pe_tup (pa_cons h pa_nil he)) pe_int) fun _ H Q r => ⟨r.1, fun x H1 s1 g1 => ⟨(by show 1 ≤ sizeLine; decide), fun t nt => ⟨t, n, [x], rfl, rfl, .inl (.inl upd_same), (by simp), h2, by omega, (by simp), fun t2 nt2 => by
    have s2 := same_new nt (.tup [x])
    have s3 := same_new nt2 (.tup (List.replicate n.toNat [x]).flatten)
    refine r.2 _ _ (s1.trans (s2.trans s3)) (Gd.tup (Gds.of_mem fun y hy => ?_) ?_ (.inl (.inl (hd_new (Same.there (s1.trans s2) r.1.hp) (Same.there (s1.trans s2) r.1.h6) nt2))))
    · obtain ⟨l, hl, hy⟩ := List.mem_flatten.mp hy
      rw [List.eq_of_mem_replicate hl] at hy
      rw [List.mem_singleton.mp hy]
      exact g1.same (hd_up (s2.trans s3))
    · simp
      omega⟩⟩⟩
theorem sn_of (h : PE X e (tGd X.K k)) : PE X e (tE X.K p k (SN X.K p lo ll c a)) := pe_imp h fun _ H Q r x H1 s1 g1 => r.2 _ _ s1 (g1.same (hd_mn r.1.hp r.1.h6))
end
section
variable {P : Program} {w : World} {K : PySem.W.Frag} {mg : Str → Option Value} {base : Heap} {fI : Addr}
def spLogs (K : PySem.W.Frag) : Sp := fun vs H Q _ => ∃ (p o t : Addr) (b : Nat) (D : Dev) (st : List (Str × Str)), vs = [.ref p, .ref o, .ref t] ∧ PotAt H p b ∧ b ≤ 80000 ∧ OwnL K (mk p H) o D ∧ Drawn D ∧ LogAt K (mk p H) t st ∧ st.length ≤ 24 ∧ (∀ k ∈ st, k.1 ∈ D.calls ∧ k.2 ∈ D.answers) ∧
  ∀ (l : Addr) (xs : List V) (H' : Hp), But p H H' → PotAt H' p (b + 20) → l ≠ p → H' l = some (.lst xs) → xs.length = 18 → (∀ x ∈ xs, Gx K 3 (mk p H') x) → Q (.ref l) H'
abbrev nNr : List Str := ["_law_pot_here", "_law_device_here", "_law_log_here", "_law_call", "_law_answer", "_law_step", "_law_found"]
theorem scNr : FnScope nNr ["_law_pot_here", "_law_device_here", "_law_log_here"] (defScope sLogs) := ⟨rfl, rfl, rfl, by decide +kernel, rfl, by decide +kernel, by decide +kernel⟩
theorem bd_pair {k : Str × Str} (h1 : isNameB k.1 = true) (h2 : isNameB k.2 = true) : bd 1 (pairD k) = true := by
  show bd 1 (.tuple [.str k.1, .str k.2]) = true
  simp [bd, bds, h1, h2]
theorem bds_log : ∀ {st : List (Str × Str)}, (∀ k ∈ st, isNameB k.1 = true ∧ isNameB k.2 = true) → bds 1 (st.map pairD) = true
  | [], _ => by simp only [List.map_nil, bds]
  | k :: r, h => by
    simp only [List.map_cons, bds, bd_pair (h k List.mem_cons_self).1 (h k List.mem_cons_self).2, bds_log (fun x hx => h x (List.mem_cons_of_mem _ hx)), Bool.and_self]
theorem ok_logs {f g1 g2 : Addr} {fd gd1 gd2 : FuncData} (F : Fun K "_law_logs_near" "_law_logs_near" sLogs f fd) (T : Bltn mg)
    (GB : FnOk P w K mg base CX0 7 g1 gd1 ["_law_pot_here", "_law_value"] (spBent K 3)) (mB : mg "_law_bent" = some (.ref g1)) (kB : PySem.W.keepIn K (.ref g1) = true) (bB : Binds K gd1 ["_law_pot_here", "_law_value"] [])
    (GO : FnOk P w K mg base CX0 3 g2 gd2 ["_law_pot_here"] (spOdd K)) (mO : mg "_law_odd" = some (.ref g2)) (kO : PySem.W.keepIn K (.ref g2) = true) (bO : Binds K gd2 ["_law_pot_here"] []) :
    FnOk P w K mg base CX0 8 f fd ["_law_pot_here", "_law_device_here", "_law_log_here"] (spLogs K) := by
  refine F.ok scNr (fun vs H Q E h => ?_) (fun cdv A0 outer st_ H vs Q E hr h => ?_)
  · obtain ⟨p, o, t, b, D, st, rfl, _⟩ := h
    rfl
  obtain ⟨p, o, t, b, D, st, rfl, hp, hb, hO, dr, hL, l24, mst, q⟩ := h
  have hu := hu_of hr
  have r3 : Room 3 _ := hr.mono (by decide)
  obtain ⟨ca, aa, sa, ra, gg, h1, h2, h3, h4, h5, h6⟩ := hO
  obtain ⟨ll, tl, al⟩ := hL
  obtain ⟨npo, h1⟩ := mk_some h1
  obtain ⟨npc, h2⟩ := mk_some h2
  obtain ⟨npa, h3⟩ := mk_some h3
  have dK := fun (x : Str) (G : Hp) (e : G o = some (.dK [(.inr ("calls" : Str), .ref ca), (.inr ("answers" : Str), .ref aa), (.inr ("states" : Str), .ref sa), (.inr ("rows" : Str), .ref ra)])) => DGet.k (k := Sum.inr x) e
  have c1_ := dr.c1
  have a1_ := dr.a1
  obtain ⟨cl, cr, ec⟩ : ∃ y l, D.calls = y :: l := List.exists_cons_of_length_pos (by omega)
  obtain ⟨an, ar, ea⟩ : ∃ y l, D.answers = y :: l := List.exists_cons_of_length_pos (by omega)
  have ncl := dr.cw cl (by rw [ec]; exact List.mem_cons_self)
  have nan := dr.aw an (by rw [ea]; exact List.mem_cons_self)
  have stn : ∀ k ∈ st, isNameB k.1 = true ∧ isNameB k.2 = true := fun k hk => ⟨dr.cw _ (mst k hk).1, dr.aw _ (mst k hk).2⟩
  have lll : ll.length = st.length := by
    rw [dpAll_len al, List.length_map]
  have gll : Gds K 1 (mk p H) ll := ⟨_, al, bds_small 1 _ (bds_log stn)⟩
  refine' ⟨_, pss_cons ?ca (pss_cons ?st (pss_cons ?fo (pss_cons ?ex (pss_cons ?ap (pss_one ?re))))), ?main⟩
  case ca =>
    exact ps_par (i := 3) (j := 4) rfl scNr.nd rfl rfl (by decide) rfl rfl (pa_cons (pe_ix ix_list (pe_dget hu (pv 1) pe_str (fun _ _ => rfl)) pe_int (fun _ _ => rfl)) (pa_cons (pe_ix ix_list (pe_dget hu (pv 1) pe_str (fun _ _ => rfl)) pe_int (fun _ _ => rfl)) pa_nil)) (by rfl)
  case st => exact ps_set (i := 5) scNr.nd rfl (Or.inl rfl) (pe_tup (pa_cons (pv 3) (pa_cons (pv 4) pa_nil)))
  case fo =>
    exact ps_set (i := 6) scNr.nd rfl (Or.inl rfl) (pe_lst (qm_cons (p := p) (k := 3) (S := SN K p t ll cl an) SN.stays (sn_log (pv 2)) (qm_cons SN.stays (sn_llog (pv 2) rfl T.list) (qm_cons SN.stays (sn_rep (sn_st (pv 5)) (by decide) (by decide)) (qm_cons SN.stays (sn_rep (sn_st (pv 5)) (by decide) (by decide))
      (qm_cons SN.stays (sn_tup (qm_cons SN.stays (sn_back (pv 5)) qm_nil)) (qm_cons SN.stays (sn_tup (qm_cons SN.stays (sn_tup (qm_cons SN.stays (sn_c (pv 3)) qm_nil)) qm_nil)) (qm_cons SN.stays (sn_tup (qm_cons SN.stays (sn_c (pv 3)) (qm_cons SN.stays (sn_a (pv 4)) qm_nil)))
      (qm_cons SN.stays (sn_tup (qm_cons SN.stays (sn_tup (qm_cons SN.stays (sn_c (pv 3)) (qm_cons SN.stays (sn_of gd_str) qm_nil))) qm_nil)) qm_nil)))))))))
  case ex =>
    exact ps_expr (pe_bm PySem.F.plainAttrs_list PySem.F.slot_list_extend PySem.F.type_list_extend mt_extend (pv 6) (pa_cons (pe_lst
      (qm_cons (p := p) (k := 3) (S := SN K p t ll cl an) SN.stays (sn_tup (qm_cons SN.stays (sn_tup (qm_cons SN.stays (sn_of gd_str) (qm_cons SN.stays (sn_a (pv 4)) qm_nil))) qm_nil)) (qm_cons SN.stays (sn_tup (qm_cons SN.stays (sn_lst (pv 5) rfl T.list) qm_nil))
      (qm_cons SN.stays (sn_tup (qm_cons SN.stays (sn_tup (qm_cons SN.stays (sn_c (pv 3)) (qm_cons SN.stays (sn_a (pv 4)) (qm_cons SN.stays (sn_c (pv 3)) qm_nil)))) qm_nil)) (qm_cons SN.stays (sn_of gd_none) (qm_cons SN.stays (sn_of gd_int) (qm_cons SN.stays (sn_of gd_str)
      (qm_cons SN.stays (sn_tup (qm_cons SN.stays (sn_tup (qm_cons SN.stays (sn_c (pv 3)) (qm_cons SN.stays (sn_of gd_none) qm_nil))) qm_nil)) qm_nil)))))))) pa_nil))
  case ap =>
    exact ps_expr (pe_bm PySem.F.plainAttrs_list PySem.F.slot_list_append PySem.F.type_list_append mt_append (pv 6) (pa_cons (sn_tup (p := p) (k := 2) (lo := t) (ll := ll) (c := cl) (a := an) (qm_cons SN.stays (sn_st (pv 5)) (qm_cons SN.stays (sn_of (gd_tup gd_nil)) qm_nil))) pa_nil))
  case re =>
    exact ps_ret (pe_op op_cat (pv 6) (pe_lst (pa_cons (pe_call GB hr rfl mB kB bB .nil pass0 (pa_cons (pv 0) (pa_cons (pv 2) pa_nil))) (pa_cons (pe_call GO r3 rfl mO kO bO .nil pass0 (pa_cons (pv 0) pa_nil)) pa_nil))))
  case main =>
    have hc1 := h2
    have ha1 := h3
    rw [ec] at hc1
    rw [ea] at ha1
    refine ⟨_, rfl, o, _, rfl, dK "calls" H h1, ca, _, _, _, rfl, rfl, SqL.of hc1, atI_nat (j := 0) rfl, _, rfl, o, _, rfl, dK "answers" H h1, aa, _, _, _, rfl, rfl, SqL.of ha1, atI_nat (j := 0) rfl, _, _, rfl, ?_⟩
    refine ⟨_, rfl, _, rfl, (by show 2 ≤ sizeLine; decide), fun sq nsq => ?_⟩
    have u1 := same_new nsq (.tup [.str cl, .str an])
    have hsq : (upd H sq (.tup [.str cl, .str an])) sq = some (.tup [.str cl, .str an]) := upd_same
    have nsqp : sq ≠ p := new_ne hp.there nsq
    show _
    generalize upd H sq (.tup [.str cl, .str an]) = G0 at u1 hsq ⊢
    have p0 := hp.same u1
    have hp0 := p0.there
    have tl0 := same_tup (mk_up (p := p) u1) tl
    have gl0 := gll.same (mk_up (p := p) u1)
    have nst : ∀ {F : Hp}, Same G0 F → ∀ (σ : L2.St), σ[2]? = some (some (.ref t)) → σ[3]? = some (some (.str cl)) → σ[4]? = some (some (.str an)) → σ[5]? = some (some (.ref sq)) → F (s6 p σ) ≠ none → (∀ b' u, mk p G0 b' = some u → hd p σ F b' = some u) → SN K p t ll cl an σ F := by
      intro F sF σ e2 e3 e4 e5 e6 up
      exact ⟨e2, e3, e4, ⟨sq, e5, .inl (.inl (up _ _ (mk_of nsqp hsq)))⟩, Same.there sF hp0, e6, same_tup up tl0, gl0.same up, by rw [lll]; exact l24, ncl, nan⟩
    refine ⟨nst (Same.refl G0) _ rfl rfl rfl rfl hp0 (fun b' u e => mk_of (mk_some e).1 e), fun xs G1 s1 l1 g1 => ⟨by rw [l1]; decide, fun lf nlf => ?_⟩⟩
    have p1 := p0.same s1
    have nlfp : lf ≠ p := new_ne p1.there nlf
    have nlf0 : ∀ b' u, mk p G0 b' = some u → b' ≠ lf := fun b' u e z => by
      have := s1 _ _ (mk_some e).2
      rw [z, nlf] at this
      cases this
    have v1 := same_new nlf (.lst xs)
    have hlf : (upd G1 lf (.lst xs)) lf = some (.lst xs) := upd_same
    -- the items in the heap without the list
    have gi : ∀ x ∈ xs, Gd K 3 (mk lf (mk p (upd G1 lf (.lst xs)))) x := fun x hx => (g1 x hx).same fun b' u e => by
      obtain ⟨_, e⟩ := mk_some e
      obtain ⟨n1, e⟩ := mk_some e
      have nl : b' ≠ lf := fun z => by rw [z, nlf] at e; cases e
      exact mk_of nl (mk_of n1 (by rw [upd_ne nl]; exact e))
    have up2 : ∀ {F : Hp}, Same (upd G1 lf (.lst xs)) F → ∀ b' u, mk p G0 b' = some u → mk lf (mk p F) b' = some u := fun sF b' u e => mk_of (nlf0 b' u e) (mk_of (mk_some e).1 (sF _ _ (v1 _ _ (s1 _ _ (mk_some e).2))))
    have s02 : Same G0 (upd G1 lf (.lst xs)) := s1.trans v1
    have p2 := p1.same v1
    show _
    generalize upd G1 lf (.lst xs) = G2 at hlf gi up2 s02 p2 ⊢
    refine ⟨_, rfl, .inl ⟨rfl, _, SqL.of hlf⟩, nst s02 _ rfl rfl rfl rfl (by show G2 lf ≠ none; rw [hlf]; exact fun z => nomatch z) (up2 (Same.refl G2)), fun ys G3 s3 l3 g3 => ⟨by rw [l3]; decide, fun l2 nl2 => ?_⟩⟩
    have hlf3 := s3 _ _ hlf
    have nl2f : l2 ≠ lf := fun z => by rw [z, hlf3] at nl2; cases nl2
    have v3 := same_new nl2 (.lst ys)
    have hl2 : (upd G3 l2 (.lst ys)) l2 = some (.lst ys) := upd_same
    have hlf4 := v3 _ _ hlf3
    have p4 := (p2.same s3).same v3
    have s24 : Same G2 (upd G3 l2 (.lst ys)) := s3.trans v3
    have gi4 : ∀ x ∈ xs ++ ys, Gd K 3 (mk lf (mk p (upd G3 l2 (.lst ys)))) x := fun x hx => by
      rcases List.mem_append.mp hx with hx | hx
      · exact (gi x hx).same (mk_up (mk_up s24))
      · have g : Gd K 3 (mk lf (mk p G3)) x := g3 x hx
        exact g.same (mk_up (mk_up v3))
    show _
    generalize upd G3 l2 (.lst ys) = G4 at hl2 hlf4 p4 s24 gi4 ⊢
    refine ⟨lf, l2, xs, ys, rfl, rfl, hlf4, hl2, by rw [l1, l3]; decide, ?_⟩
    -- the longer list
    have lxy : (xs ++ ys).length = 15 := by rw [List.length_append, l1, l3]
    generalize xs ++ ys = zs at lxy gi4 ⊢
    have off5 : ∀ b', b' ≠ lf → upd G4 lf (.lst zs) b' = G4 b' := fun b' nb => upd_ne nb
    have hlf5 : (upd G4 lf (.lst zs)) lf = some (.lst zs) := upd_same
    have p5 : PotAt (upd G4 lf (.lst zs)) p b := by
      obtain ⟨own, sm, n, e1, e2⟩ := p4
      exact ⟨own, sm, n, by rw [upd_ne nlfp.symm]; exact e1, e2⟩
    have hid5 : Same (mk lf (mk p G4)) (mk lf (mk p (upd G4 lf (.lst zs)))) := fun b' u e => by
      obtain ⟨n1, e⟩ := mk_some e
      obtain ⟨n2, e⟩ := mk_some e
      exact mk_of n1 (mk_of n2 (by rw [upd_ne n1]; exact e))
    have gi5 : ∀ x ∈ zs, Gd K 3 (mk lf (mk p (upd G4 lf (.lst zs)))) x := fun x hx => (gi4 x hx).same hid5
    have up5 : ∀ b' u, mk p G0 b' = some u → mk lf (mk p (upd G4 lf (.lst zs))) b' = some u := fun b' u e => hid5 _ _ (up2 s24 b' u e)
    have s05 : Same G0 (upd G4 lf (.lst zs)) := fun b' u e => by
      have n1 : b' ≠ lf := fun z => by
        have := s1 _ _ e
        rw [z, nlf] at this
        cases this
      rw [upd_ne n1]
      exact s24 _ _ (s02 _ _ e)
    show _
    generalize upd G4 lf (.lst zs) = G5 at hlf5 p5 gi5 up5 s05 ⊢
    clear hlf4 hl2 gi4 off5 hid5 p4 s24 g3 gi g1 hlf hlf3 v3 nl2 up2 s3 v1 p2
    refine ⟨_, rfl, .inl ⟨rfl, _, SqL.of hlf5⟩, nst s05 _ rfl rfl rfl rfl (by show G5 lf ≠ none; rw [hlf5]; exact fun z => nomatch z) up5, fun y G6 s6_ g6 => ⟨lf, zs, y, rfl, rfl, s6_ _ _ hlf5, by rw [lxy]; decide, ?_⟩⟩
    have g6 : Gd K 3 (mk lf (mk p G6)) y := g6
    have p6 := p5.same s6_
    have hlf7 : (upd G6 lf (.lst (zs ++ [y]))) lf = some (.lst (zs ++ [y])) := upd_same
    have p7 : PotAt (upd G6 lf (.lst (zs ++ [y]))) p b := by
      obtain ⟨own, sm, n, e1, e2⟩ := p6
      exact ⟨own, sm, n, by rw [upd_ne nlfp.symm]; exact e1, e2⟩
    have hid7 : Same (mk lf (mk p G6)) (mk p (upd G6 lf (.lst (zs ++ [y])))) := fun b' u e => by
      obtain ⟨n1, e⟩ := mk_some e
      obtain ⟨n2, e⟩ := mk_some e
      exact mk_of n2 (by rw [upd_ne n1]; exact e)
    have gi7 : ∀ x ∈ zs ++ [y], Gd K 3 (mk p (upd G6 lf (.lst (zs ++ [y])))) x := fun x hx => by
      rcases List.mem_append.mp hx with hx | hx
      · exact ((gi5 x hx).same (mk_up (mk_up s6_))).same hid7
      · rw [List.mem_singleton.mp hx]
        exact g6.same hid7
    have s07 : Same G0 (upd G6 lf (.lst (zs ++ [y]))) := fun b' u e => by
      have n1 : b' ≠ lf := fun z => by
        have := s1 _ _ e
        rw [z, nlf] at this
        cases this
      rw [upd_ne n1]
      exact s6_ _ _ (s05 _ _ e)
    have lzy : (zs ++ [y]).length = 16 := by rw [List.length_append, lxy]; rfl
    show _
    generalize upd G6 lf (.lst (zs ++ [y])) = G7 at hlf7 p7 gi7 s07 ⊢
    generalize zs ++ [y] = ws at hlf7 gi7 lzy
    clear hid7 p6 g6 gi5 up5 s05 hlf5 p5 s6_
    have bH7 : But p H G7 := (But.of u1).trans (But.of s07)
    have al7 : DpAll K (mk p G7) ll (st.map pairD) := dpAll_same (mk_but bH7) al
    refine ⟨_, rfl, _, rfl, _, rfl, p, .ref t, b, 2, .tuple (st.map pairD), rfl, rfl, by decide, p7, by omega, .tup (same_tup (mk_but bH7) tl) al7, ?_, fun x8 G8 b8 p8 g8 => ?_⟩
    · simp only [bd, bds_log stn, List.length_map, Bool.and_true]
      exact decide_eq_true l24
    · refine ⟨_, rfl, p, b + 3 * 3, rfl, p8, by omega, fun x9 G9 b9 p9 g9 => ⟨(by show 2 ≤ sizeLine; decide), fun l3 nl3 => ?_⟩⟩
      have s10 := same_new nl3 (.lst [x8, x9])
      have hl3 : (upd G9 l3 (.lst [x8, x9])) l3 = some (.lst [x8, x9]) := upd_same
      show _
      generalize upd G9 l3 (.lst [x8, x9]) = G10 at s10 hl3 ⊢
      refine ⟨lf, l3, ws, [x8, x9], rfl, rfl, s10 _ _ (b9 _ _ (b8 _ _ hlf7 nlfp) nlfp), hl3, by rw [lzy]; show 16 + 2 ≤ sizeLine; decide, fun l nl => ?_⟩
      have s11 := same_new nl (.lst (ws ++ [x8, x9]))
      have p10 := p9.same s10
      have m8 : Same (mk p G8) (mk p (upd G10 l (.lst (ws ++ [x8, x9])))) := (mk_but b9).trans (mk_up (s10.trans s11))
      refine q l (ws ++ [x8, x9]) _ (((bH7.trans b8).trans b9).trans (But.of (s10.trans s11))) ((p10.same s11).mono (by omega)) (new_ne p10.there nl) upd_same (by rw [List.length_append, lzy]; rfl) fun x hx => ?_
      rcases List.mem_append.mp hx with hx | hx
      · exact (((gi7 x hx).same (mk_but b8)).same m8).x
      · simp only [List.mem_cons, List.not_mem_nil, or_false] at hx
        rcases hx with rfl | rfl
        · exact (g8.same m8).x
        · exact ((g9.same (mn_mk p8.there)).same (mk_up (s10.trans s11))).le (by decide)
end
end K51
set_option Elab.async false
set_option linter.all false
set_option maxRecDepth 100000
set_option maxHeartbeats 16000000
/-! Law k48's question of what is refused. -/
namespace LG
open PySem L2 LamX
theorem app_step {F G : Hp} {T : List (Addr × Str)} {l : Addr} {xs ys : List V} (nw : ∀ o', F l = some o' → ∃ ps, o' = .tbl ps) (e : ExtN F G) (hl : G l = some (.lst xs)) (t : Tabs T G) :
    ExtN F (upd G l (.lst ys)) ∧ Tabs T (upd G l (.lst ys)) ∧ (upd G l (.lst ys)) l = some (.lst ys) ∧ ∀ b o, G b = some o → (∀ zs, o ≠ .lst zs) → (upd G l (.lst ys)) b = some o := by
  refine ⟨fun b' o' h nt => ?_, tabs_upd hl t, upd_same, fun b o h n => ?_⟩
  · by_cases z : b' = l
    · rw [z] at h
      obtain ⟨ps, e'⟩ := nw o' h
      exact absurd e' (nt ps)
    · rw [upd_ne z]
      exact e _ _ h nt
  · rw [upd_ne (fun z => by rw [z, hl] at h; exact n _ (Option.some.inj h).symm)]
    exact h
theorem new_tbl {F G : Hp} {l : Addr} (e : ExtN F G) (n : G l = none) : ∀ o', F l = some o' → ∃ ps, o' = .tbl ps := fun o' h => by
  by_cases z : ∃ ps, o' = .tbl ps
  · exact z
  · have := e _ _ h (fun ps y => z ⟨ps, y⟩)
    rw [n] at this
    cases this
theorem notlst_ext {w : Heap → Prop} : ∀ zs, (HO.ext w) ≠ .lst zs := fun zs z => by cases z
end LG

namespace LG
open PySem L2 LamX
/-- a look at a log is behind: refused, with the value; or nothing is raised -/
def Looked (H : Hp) (CL : Addr) (b : Bool) (v cv : V) : Prop := (b = false ∧ Caught H CL cv v) ∨ (b = true ∧ cv = .non)
theorem Looked.ext {H H' : Hp} {CL : Addr} {b : Bool} {v cv : V} (e : ExtN H H') (h : Looked H CL b v cv) : Looked H' CL b v cv := h.elim (fun q => .inl ⟨q.1, q.2.ext e⟩) .inr
theorem looked_upd {H : Hp} {CL a : Addr} {b : Bool} {v cv : V} {xs : List V} {o : HO} (h : H a = some (.lst xs)) (c : Looked H CL b v cv) : Looked (upd H a o) CL b v cv := c.elim (fun q => .inl ⟨q.1, caught_upd h q.2⟩) .inr
theorem Gx.ext3 {K : PySem.W.Frag} {n : Nat} {H H' : Hp} {v : V} (e : ExtN H H') (h : Gx K n H v) : Gx K n H' v := h.ext e
end LG
set_option Elab.async false
set_option linter.all false
set_option maxRecDepth 100000
set_option maxHeartbeats 16000000
/-! What now, first and torn tell of a device as it is read back, and of a log's beginning. -/
namespace LG
open PySem L2 LamX
theorem pairD_inj {a b : Str × Str} (h : pairD a = pairD b) : a = b := by
  have h : PyData.tuple [.str a.1, .str a.2] = PyData.tuple [.str b.1, .str b.2] := h
  injection h with h
  injection h with h1 h
  injection h with h2 _
  injection h1 with h1
  injection h2 with h2
  exact Prod.ext h1 h2
theorem pairs_inj : ∀ {xs ys : List (Str × Str)}, xs.map pairD = ys.map pairD → xs = ys
  | [], [], _ => rfl
  | [], _ :: _, h => by simp at h
  | _ :: _, [], h => by simp at h
  | x :: xs, y :: ys, h => by
    rw [List.map_cons, List.map_cons] at h
    injection h with h1 h2
    rw [pairD_inj h1, pairs_inj h2]
theorem steps_read {D : Dev} (d : Drawn D) {ks : List (Str × Str)} (pm : ks.Perm (D.goals.map (·.1))) : ∀ (st : List (Str × Str)) (s : Str), s ∈ D.states → (∀ k ∈ st, k.1 ∈ D.calls) → stepsR (readOf D ks) s st = stepsR D s st ∧ endS (readOf D ks) s st = endS D s st
  | [], _, _, _ => ⟨rfl, rfl⟩
  | k :: r, s, hs, hk => by
    have hc := hk k List.mem_cons_self
    have e : rowX (readOf D ks) (s, k.1) = rowX D (s, k.1) := by
      have := run_read d pm (ws := [k.1]) hs (fun y hy => by rw [List.mem_singleton.mp hy]; exact hc)
      have h1 : ([(rowX (readOf D ks) (s, k.1)).1], (rowX (readOf D ks) (s, k.1)).2) = ([(rowX D (s, k.1)).1], (rowX D (s, k.1)).2) := this
      injection h1 with h1 h2
      injection h1 with h1 _
      exact Prod.ext h1 h2
    have ns := (d.full0.row s hs k.1 hc).2
    obtain ⟨i1, i2⟩ := steps_read d pm r (rowX D (s, k.1)).2 ns fun x hx => hk x (List.mem_cons_of_mem _ hx)
    constructor
    · show (if (rowX (readOf D ks) (s, k.1)).1 = k.2 then stepsR (readOf D ks) (rowX (readOf D ks) (s, k.1)).2 r + 1 else 0) = (if (rowX D (s, k.1)).1 = k.2 then stepsR D (rowX D (s, k.1)).2 r + 1 else 0)
      rw [e, i1]
    · show (if (rowX (readOf D ks) (s, k.1)).1 = k.2 then endS (readOf D ks) (rowX (readOf D ks) (s, k.1)).2 r else none) = (if (rowX D (s, k.1)).1 = k.2 then endS D (rowX D (s, k.1)).2 r else none)
      rw [e, i2]
theorem first_same {D : Dev} (d : Drawn D) {ks : List (Str × Str)} (pm : ks.Perm (D.goals.map (·.1))) {st : List (Str × Str)} (hk : ∀ k ∈ st, k.1 ∈ D.calls) : firstD (readOf D ks) st = firstD D st := by
  show D.states.filter (fun s => decide (stepsR (readOf D ks) s st = st.length)) = D.states.filter (fun s => decide (stepsR D s st = st.length))
  refine List.filter_congr fun s hs => ?_
  rw [(steps_read d pm st s hs hk).1]
theorem now_same {D : Dev} (d : Drawn D) {ks : List (Str × Str)} (pm : ks.Perm (D.goals.map (·.1))) {st : List (Str × Str)} (hk : ∀ k ∈ st, k.1 ∈ D.calls) : nowD (readOf D ks) st = nowD D st := by
  have e : (D.states.map fun s => endS (readOf D ks) s st) = D.states.map fun s => endS D s st := List.map_congr_left fun s hs => (steps_read d pm st s hs hk).2
  show D.states.filter (fun s => decide (some s ∈ D.states.map fun s => endS (readOf D ks) s st)) = D.states.filter (fun s => decide (some s ∈ D.states.map fun s => endS D s st))
  rw [e]
theorem most_same {D : Dev} (d : Drawn D) {ks : List (Str × Str)} (pm : ks.Perm (D.goals.map (·.1))) {st : List (Str × Str)} (hk : ∀ k ∈ st, k.1 ∈ D.calls) {m : Nat} (h : IsMost (readOf D ks) st m) : IsMost D st m := by
  obtain ⟨⟨s, hs, e⟩, le⟩ := h
  have hs : s ∈ D.states := hs
  have le : ∀ s ∈ D.states, stepsR (readOf D ks) s st ≤ m := le
  exact ⟨⟨s, hs, by rw [← (steps_read d pm st s hs hk).1]; exact e⟩, fun s' hs' => by rw [← (steps_read d pm st s' hs' hk).1]; exact le s' hs'⟩
theorem IsMost.uniq {D : Dev} {st : List (Str × Str)} {m n : Nat} (h : IsMost D st m) (g : IsMost D st n) : m = n := by
  obtain ⟨⟨s, hs, e⟩, le⟩ := h
  obtain ⟨⟨t, ht, f⟩, ge⟩ := g
  have := le t ht
  have := ge s hs
  omega
theorem most_of (f : Str → Nat) : ∀ (S : List Str), S ≠ [] → ∃ m, (∃ s ∈ S, f s = m) ∧ ∀ s ∈ S, f s ≤ m
  | [], h => absurd rfl h
  | [s], _ => ⟨f s, ⟨s, List.mem_cons_self, rfl⟩, fun t ht => by rw [List.mem_singleton.mp ht]; exact Nat.le_refl _⟩
  | s :: t :: r, _ => by
    obtain ⟨m, ⟨u, hu, e⟩, le⟩ := most_of f (t :: r) (fun z => by cases z)
    by_cases c : f s ≤ m
    · exact ⟨m, ⟨u, List.mem_cons_of_mem _ hu, e⟩, fun x hx => by
        rcases List.mem_cons.mp hx with h | h
        · rw [h]; exact c
        · exact le x h⟩
    · exact ⟨f s, ⟨s, List.mem_cons_self, rfl⟩, fun x hx => by
        rcases List.mem_cons.mp hx with h | h
        · rw [h]; exact Nat.le_refl _
        · have := le x h
          omega⟩
theorem IsMost.ex {D : Dev} (d : Drawn D) (st : List (Str × Str)) : ∃ m, IsMost D st m := most_of (fun s => stepsR D s st) D.states (fun z => by
  have := d.s1.1
  rw [z] at this
  cases this)
theorem steps_take (D : Dev) : ∀ (st : List (Str × Str)) (s : Str) (k : Nat), stepsR D s (st.take k) = min (stepsR D s st) k
  | [], s, k => by
    rw [List.take_nil]
    show 0 = min 0 k
    omega
  | x :: r, s, 0 => by
    show 0 = min _ 0
    omega
  | x :: r, s, k + 1 => by
    show (if (rowX D (s, x.1)).1 = x.2 then stepsR D (rowX D (s, x.1)).2 (r.take k) + 1 else 0) = min (if (rowX D (s, x.1)).1 = x.2 then stepsR D (rowX D (s, x.1)).2 r + 1 else 0) (k + 1)
    by_cases e : (rowX D (s, x.1)).1 = x.2
    · rw [if_pos e, if_pos e, steps_take D r _ k]
      omega
    · rw [if_neg e, if_neg e]
      omega
theorem IsMost.take {D : Dev} {st : List (Str × Str)} {m : Nat} (h : IsMost D st m) (k : Nat) : IsMost D (st.take k) (min m k) := by
  obtain ⟨⟨s, hs, e⟩, le⟩ := h
  refine ⟨⟨s, hs, by rw [steps_take, e]⟩, fun s' hs' => ?_⟩
  rw [steps_take]
  have := le s' hs'
  omega
end LG
set_option Elab.async false
set_option linter.all false
set_option maxRecDepth 100000
set_option maxHeartbeats 16000000
/-! Law k48's question of one device. -/
namespace LG
open PySem L2 LamX
theorem smalls_names {n : Nat} : ∀ {ns : List Str}, (∀ x ∈ ns, isNameB x = true) → smalls n (ns.map PyData.str) = true
  | [], _ => by simp only [List.map_nil, smalls]
  | x :: r, h => by
    simp only [List.map_cons, smalls, Bool.and_eq_true]
    exact ⟨small_le (Nat.zero_le n) (name_small (h x List.mem_cons_self)), smalls_names fun y hy => h y (List.mem_cons_of_mem _ hy)⟩
/-- the answer's third part, as data -/
def lostD (m n : Nat) : PyData := if m < n then .int (m : Nat) else .none
theorem lost_dp {K : PySem.W.Frag} {H : Hp} {m n : Nat} : Dp K H (lostV m n) (lostD m n) := by
  unfold lostV lostD
  by_cases h : m < n
  · rw [if_pos h, if_pos h]
    exact .int _
  · rw [if_neg h, if_neg h]
    exact .non
theorem lost_small {k m n : Nat} (h : n ≤ 24) : small k (lostD m n) = true := by
  unfold lostD
  by_cases c : m < n
  · rw [if_pos c]
    simp only [small, decide_eq_true_eq]
    omega
  · rw [if_neg c]
    simp only [small]
/-- the three answers -/
def threeD (xs ys : List Str) (d : PyData) : PyData := .tuple [.tuple (xs.map PyData.str), .tuple (ys.map PyData.str), d]
theorem three_dx {K : PySem.W.Frag} {H : Hp} {q a b : Addr} {xs ys : List Str} {m n : Nat} (hq : H q = some (.tup [.ref a, .ref b, lostV m n])) (ha : H a = some (.tup (xs.map V.str))) (hb : H b = some (.tup (ys.map V.str))) : Dx K H (.ref q) (threeD xs ys (lostD m n)) :=
  .flat (.tup (.inl (.inl hq)) (.cons (.tup (.inl (.inl ha)) txs_all) (.cons (.tup (.inl (.inl hb)) txs_all) (.cons lost_dp .nil))))
theorem three_small {xs ys : List Str} {m n : Nat} (hx : ∀ x ∈ xs, isNameB x = true) (hy : ∀ x ∈ ys, isNameB x = true) (lx : xs.length ≤ 25) (ly : ys.length ≤ 25) (h : n ≤ 24) : small 3 (threeD xs ys (lostD m n)) = true := by
  unfold threeD
  simp only [small, smalls, smalls_names hx, smalls_names hy, lost_small (k := 2) (m := m) h, List.length_map, List.length_cons, List.length_nil, Bool.and_true, decide_eq_true lx, decide_eq_true ly]
  rfl
theorem take_whole {xs : List V} {j : Nat} : cutV xs none (some (j : Int)) = xs.take j := by
  unfold cutV
  show (xs.drop 0).take ((if (j : Int) < 0 then ((j : Int) + (xs.length : Int)).toNat else min (j : Int).toNat xs.length) - 0) = xs.take j
  rw [if_neg (by omega), List.drop_zero, Nat.sub_zero, Int.toNat_natCast]
  by_cases h : j ≤ xs.length
  · rw [Nat.min_eq_left h]
  · rw [Nat.min_eq_right (by omega), List.take_of_length_le (Nat.le_refl _), List.take_of_length_le (by omega)]
theorem dpAll_take {K : PySem.W.Frag} {H : Hp} : ∀ {ds : List PyData} {xs : List V} (j : Nat), DpAll K H xs ds → DpAll K H (xs.take j) (ds.take j)
  | _, _, 0, _ => by
    rw [List.take_zero, List.take_zero]
    exact .nil
  | _, _, j + 1, .nil => .nil
  | _, _, j + 1, .cons a r => .cons a (dpAll_take j r)
end LG
set_option Elab.async false
set_option linter.all false
set_option maxRecDepth 100000
set_option maxHeartbeats 4000000
/-! x != x of the very same value: False, whatever lies in it. -/
namespace L2
open PySem PySem.Spec PyProof.Rows
section
variable {X : Cx}
/-- two rules for one operation -/
theorem op_or2 {f : Value → Value → Sem Value} {r1 r2 : R2} (h1 : OpR X f r1) (h2 : OpR X f r2) : OpR X f (fun x y H Q => r1 x y H Q ∨ r2 x y H Q) := by
  intro pins s σ H x y v u Q I rx ry h
  rcases h with h | h
  · exact h1 pins s σ H x y v u Q I rx ry h
  · exact h2 pins s σ H x y v u Q I rx ry h
def rNeSeq (K : PySem.W.Frag) : R2 := fun x y H Q => ∃ a xs, x = .ref a ∧ y = .ref a ∧ (SqL K H a xs ∨ SqT K H a xs) ∧ Q (.bl false) H
theorem op_neSeq (hu : X.A.units < cLine) : OpR X (compareOp .NotEq) (rNeSeq X.K) := by
  intro pins s σ H x y v u Q I rx ry h
  obtain ⟨a, xs, rfl, rfl, h, q⟩ := h
  obtain rfl : v = Value.ref a := rx
  obtain rfl : u = Value.ref a := ry
  show wpAny _ _ (richCompare .NotEq (.ref a) (.ref a)) _ _ _
  rcases h with h | h
  · obtain ⟨its, rv, pl, hz⟩ := I.list h
    refine (PySem.SeqAt.RcNeAt.lists (e := fun _ => true) pl.isList pl.isList rfl hu fun j h1 h2 => PySem.SeqAt.EqAt.same _) X.prog X.w _ _ ?_
    have e : (!(List.range its.toArray.size).all fun _ => true) = false := by simp
    rw [e]
    exact ⟨.bl false, H, I, rfl, q⟩
  · obtain ⟨its, rv, pl, hz⟩ := I.tuple h
    refine (PySem.SeqAt.RcNeAt.tuples (e := fun _ => true) pl pl hu fun j h1 h2 => PySem.SeqAt.EqAt.same _) X.prog X.w _ _ ?_
    have e : (!((List.range (min its.toArray.size its.toArray.size)).all (fun _ => true) && its.toArray.size == its.toArray.size)) = false := by simp
    rw [e]
    exact ⟨.bl false, H, I, rfl, q⟩
def rNeDS : R2 := fun x y H Q => ∃ a kvs, x = .ref a ∧ y = .ref a ∧ H a = some (.dK kvs) ∧ (∀ p ∈ kvs, flatB p.2 = true) ∧ Q (.bl false) H
theorem val_of_nodup : ∀ {kvs : List (Key × V)}, (kvs.map (·.1)).Nodup → ∀ p ∈ kvs, valV kvs p.1 = some p.2
  | [], _, _, h => by cases h
  | q :: r, nd, p, h => by
    rw [List.map_cons, List.nodup_cons] at nd
    unfold valV
    rcases List.mem_cons.mp h with rfl | h
    · simp
    · have ne : ¬ q.1 = p.1 := fun z => nd.1 (by rw [z]; exact List.mem_map.mpr ⟨p, h, rfl⟩)
      have := val_of_nodup nd.2 p h
      unfold valV at this
      rw [List.find?_cons_of_neg (by simpa using ne)]
      exact this
theorem op_neDS (hu : X.A.units < cLine) : OpR X (compareOp .NotEq) rNeDS := by
  intro pins s σ H x y v u Q I rx ry h
  obtain ⟨a, kvs, rfl, rfl, ha, hf, q⟩ := h
  obtain ⟨_, _, vs, rel, dd⟩ := (show ObjOk X.prog X.w H s.heap a (.dK kvs) from I.hok a _ ha)
  obtain ⟨ep, hat⟩ := dd.dictAt
  have nd : (kvs.map (·.1)).Nodup := by
    rw [rel.keys]
    exact hat.nodup
  exact op_ne_dictA hu pins s σ H _ _ v u Q I rx ry ⟨a, a, kvs, kvs, rfl, rfl, ha, ha, rfl, fun p hp => ⟨val_of_nodup nd p hp, hf p hp⟩, q⟩
end
end L2
namespace LG
open PySem L2
/-- data beside itself: no difference is seen -/
theorem dx_self {K : PySem.W.Frag} {H : Hp} {v : V} {d : PyData} {Q : VK} (h : Dx K H v d) (q : Q (.bl false) H) : rNe v v H Q ∨ rNeSeq K v v H Q ∨ rNeDS v v H Q := by
  cases h with
  | flat h =>
    cases h with
    | non => exact .inl ⟨rfl, by rw [decide_eq_true rfl]; exact q⟩
    | bl b => exact .inl ⟨rfl, by rw [decide_eq_true rfl]; exact q⟩
    | int i => exact .inl ⟨rfl, by rw [decide_eq_true rfl]; exact q⟩
    | str x => exact .inl ⟨rfl, by rw [decide_eq_true rfl]; exact q⟩
    | lst h _ => exact .inr (.inl ⟨_, _, rfl, rfl, .inl h, q⟩)
    | tup h _ => exact .inr (.inl ⟨_, _, rfl, rfl, .inr h, q⟩)
  | dct h p =>
    refine .inr (.inr ⟨_, _, rfl, rfl, h, ?_, q⟩)
    clear h
    induction p with
    | nil => exact fun _ h => nomatch h
    | int _ ih =>
      intro p hp
      rcases List.mem_cons.mp hp with rfl | hp
      · rfl
      · exact ih p hp
end LG
set_option Elab.async false
set_option linter.all false
set_option maxRecDepth 100000
set_option maxHeartbeats 16000000
/-! The package's look at several devices: what is refused; which are left. -/
namespace LG
open PySem L2
def tupD (xs : List Str) : PyData := .tuple (xs.map PyData.str)
theorem tup_eqv (xs ys : List Str) : PyData.eqv (tupD xs) (tupD ys) = decide (xs = ys) := txs_eqv xs ys
theorem tup_shaped {xs : List Str} (h : ∀ x ∈ xs, isNameB x = true) : SeqAt.shaped (tupD xs) = true := by
  have c : PyData.canLayAll0 (xs.map PyData.str) = true ∧ PyData.depthAll (xs.map PyData.str) ≤ 1 := by
    induction xs with
    | nil => exact ⟨rfl, by simp [PyData.depthAll]⟩
    | cons k r ih =>
      obtain ⟨i1, i2⟩ := ih fun x hx => h x (List.mem_cons_of_mem _ hx)
      have s := name_strOk (name_asc_ (h k List.mem_cons_self))
      refine ⟨?_, ?_⟩
      · simp only [List.map_cons, PyData.canLayAll0, s, i1, Bool.and_self]
      · simp only [List.map_cons, PyData.depthAll, PyData.depth]
        omega
  unfold SeqAt.shaped tupD
  simp only [PyData.canLay0, PyData.depth, c.1, Bool.true_and]
  exact decide_eq_true (by have := c.2; omega)
theorem tup_dp {K : PySem.W.Frag} {H : Hp} {a : Addr} {xs : List Str} (h : SqT K H a (xs.map V.str)) : Dp K H (.ref a) (tupD xs) := .tup h txs_all
/-- a device of the package that was made of an own one -/
def DevM (K : PySem.W.Frag) (H : Hp) (x C : Addr) (D : Dev) : Prop := DevAt K H x C (textOf D (prodK D.states D.calls)) (readOf D (prodK D.states D.calls))
theorem DevM.same {K : PySem.W.Frag} {H H' : Hp} {x C : Addr} {D : Dev} (e : Same H H') (h : DevM K H x C D) : DevM K H' x C D := DevAt.same e h
def sameD (D E : Dev) : Bool := decide (D.calls = E.calls) && decide (D.answers = E.answers)
def okO (D0 : Dev) : Option Dev → Bool
  | some E => sameD D0 E
  | none => false
/-- a device, or none -/
def ItemO (K : PySem.W.Frag) (C : Addr) (H : Hp) (x : V) : Option Dev → Prop
  | some D => ∃ a, x = .ref a ∧ Drawn D ∧ DevM K H a C D
  | none => ∃ ty, TyX K H x ty ∧ PySem.W.kitOne K ty (.ref C) = some false
def DevIt (K : PySem.W.Frag) (C : Addr) (H : Hp) (x : V) (D : Dev) : Prop := ∃ a, x = .ref a ∧ Drawn D ∧ DevM K H a C D
def BadDevs (K : PySem.W.Frag) (C : Addr) (H : Hp) (v : V) : Prop :=
  (∃ ty, TyX K H v ty ∧ PySem.W.kitOne K ty (.type "tuple") = some false) ∨
  (∃ t xs, v = .ref t ∧ SqT K H t xs ∧ xs.length ≤ 1000 ∧ ¬ (2 ≤ xs.length ∧ xs.length ≤ 4)) ∨
  (∃ t xs os D0, v = .ref t ∧ SqT K H t xs ∧ 2 ≤ xs.length ∧ xs.length ≤ 4 ∧ (∀ G, Same H G → PySem.Paired (ItemO K C G) xs os) ∧ ((∀ o ∈ os, o = none) ∨ os[0]? = some (some D0)) ∧ os.all (okO D0) = false)
def GoodDevs (K : PySem.W.Frag) (C : Addr) (H : Hp) (v : V) (D0 : Dev) (Ds : List Dev) : Prop :=
  ∃ t xs, v = .ref t ∧ SqT K H t xs ∧ 2 ≤ xs.length ∧ xs.length ≤ 4 ∧ (∀ G, Same H G → PySem.Paired (DevIt K C G) xs Ds) ∧ Ds[0]? = some D0 ∧ ∀ D ∈ Ds, sameD D0 D = true
theorem paired_some {K : PySem.W.Frag} {C : Addr} {H : Hp} : ∀ {xs : List V} {Ds : List Dev}, PySem.Paired (DevIt K C H) xs Ds → PySem.Paired (ItemO K C H) xs (Ds.map some)
  | _, _, .nil => .nil
  | _, _, .cons a r => .cons a (paired_some r)
theorem paired_len {α β : Type} {R : α → β → Prop} : ∀ {as : List α} {bs : List β}, PySem.Paired R as bs → as.length = bs.length
  | _, _, .nil => rfl
  | _, _, .cons _ r => by rw [List.length_cons, List.length_cons, paired_len r]
theorem paired_ix {α β : Type} {R : α → β → Prop} : ∀ {as : List α} {bs : List β} {j : Nat} {a : α}, PySem.Paired R as bs → as[j]? = some a → ∃ b, bs[j]? = some b ∧ R a b
  | _, _, 0, _, .cons h _, ea => by
    cases ea
    exact ⟨_, rfl, h⟩
  | _, _, j + 1, _, .cons _ t, ea => paired_ix (j := j) t (by simpa using ea)
end LG
namespace K51
open PySem L2 LG
section
variable {P : Program} {w : World} {K : PySem.W.Frag} {mg : Str → Option Value} {base : Heap} {fI C : Addr}
def spSameW (K : PySem.W.Frag) (C : Addr) : Sp := fun vs H Q _ => ∃ (x y : Addr) (D E : Dev), vs = [.ref x, .ref y] ∧ Drawn D ∧ Drawn E ∧ DevM K H x C D ∧ DevM K H y C E ∧ Q (.bl (sameD D E)) H
theorem scSw : FnScope ["one", "other"] ["one", "other"] (defScope sSameWords) := ⟨rfl, rfl, rfl, by decide +kernel, rfl, by decide +kernel, by decide +kernel⟩
theorem ok_samew {f : Addr} {fd : FuncData} (F : Fun K "same_words" "same_words" sSameWords f fd) (DC : DevCl K mg C) : FnOk P w K mg base CX0 1 f fd ["one", "other"] (spSameW K C) := by
  refine F.ok scSw (fun vs H Q E h => ?_) (fun cdv A outer s H vs Q E hr h => ?_)
  · obtain ⟨x, y, D, E, rfl, _⟩ := h
    rfl
  obtain ⟨x, y, D, E, rfl, dr, er, hD, hE, q⟩ := h
  refine ⟨_, pss_one (ps_ret (pe_and (pe_cmpR (op_eqD hr.units) (pe_fld (pv 0) rfl) (pe_fld (pv 1) rfl) (by rfl)) (pe_one (pe_cmpR (op_eqD hr.units) (pe_fld (pv 0) rfl) (pe_fld (pv 1) rfl) (by rfl))))), ?_⟩
  obtain ⟨dx, c, a, s, g, hx, hc, ha, _⟩ := hD
  obtain ⟨dy, c2, a2, s2, g2, hy, hc2, ha2, _⟩ := hE
  refine ⟨_, rfl, x, C, dx, _, _, rfl, hx, DC.cl, DC.nc, rfl, _, rfl, y, C, dy, _, _, rfl, hy, DC.cl, DC.nc, rfl, tupD D.calls, tupD E.calls, tup_dp hc, tup_dp hc2, tup_shaped dr.cw, tup_shaped er.cw, _, rfl, ?_⟩
  rw [tup_eqv]
  unfold sameD at q
  by_cases e : D.calls = E.calls
  · rw [decide_eq_true e, Bool.true_and] at q
    refine iteC (decide_eq_true e) ⟨_, rfl, x, C, dx, _, _, rfl, hx, DC.cl, DC.na, rfl, _, rfl, y, C, dy, _, _, rfl, hy, DC.cl, DC.na, rfl, tupD D.answers, tupD E.answers, tup_dp ha, tup_dp ha2, tup_shaped dr.aw, tup_shaped er.aw, ?_⟩
    rw [tup_eqv]
    exact q
  · rw [decide_eq_false e, Bool.false_and] at q
    exact iteN (decide_eq_false e) q
def spRefDev (K : PySem.W.Frag) (C CD : Addr) : Sp := fun vs H Q E => ∃ v, vs = [v] ∧ ((BadDevs K C H v ∧ ∀ d G, Same H G → G d = none → E (.ref CD) (some d) (upd G d (.xd (vf v)))) ∨ (∃ D0 Ds, GoodDevs K C H v D0 Ds ∧ ∀ G, Same H G → Q .non G))
theorem scRd : FnScope ["devices", "device"] ["devices"] (defScope sRefDev) := ⟨rfl, rfl, rfl, by decide +kernel, rfl, by decide +kernel, by decide +kernel⟩
abbrev teRD (K : PySem.W.Frag) (C : Addr) : TE := tAndV (tCB (rIsi K) (tCons (tVar 1) (tCons (tC (.ref C)) tNil))) (tCall (spSameW K C) [] E0 (tCons (tOp (rIxT K) (tVar 0) (tC (.int 0))) (tCons (tVar 1) tNil)))
theorem ok_refdev {f g CD : Addr} {fd gd : FuncData} {tM : Tok} (F : Fun K "refuse_devices" "refuse_devices" sRefDev f fd) (T : Bltn mg) (DC : DevCl K mg C) (IS : DevIs K C) (I : Ini P w K mg base fI) (cD : ECl K mg fI "BadDevices" CD) (hM : mg "MOST_DEVICES" = some (.int 4 tM))
    (G : FnOk P w K mg base CX0 1 g gd ["one", "other"] (spSameW K C)) (mG : mg "same_words" = some (.ref g)) (kG : PySem.W.keepIn K (.ref g) = true) (bG : Binds K gd ["one", "other"] []) :
    FnOk P w K mg base (L2.CX P w) 3 f fd ["devices"] (spRefDev K C CD) := by
  refine F.okX scRd (fun vs H Q E h => ?_) (fun cdv A0 outer st H vs Q E hr h => ?_)
  · obtain ⟨v, rfl, _⟩ := h
    rfl
  obtain ⟨v, rfl, h⟩ := h
  have r1 : Room 1 _ := hr.mono (by decide)
  have tk := takes_of (X := cxOf (L2.CX P w) P w K mg base ["devices", "device"] "refuse_devices" (defScope sRefDev) f cdv A0 outer st H E) rfl rfl rfl rfl
  refine' ⟨_, pss_cons (ps_if (PW.pt (pw_or (pt_not (pt_val (pe_callB call_isi rfl T.isinstance (by decide +kernel) (pa_cons (pv 0) (pa_cons (pe_bltn (v := .ty "tuple") (u := .type "tuple") rfl T.tuple (by decide +kernel) rfl) pa_nil))))) (pw_or1 (pt_not (pt_chain op_le op_le pe_int (pe_callB call_len_seq rfl T.len PySem.boot_len (pa_cons (pv 0) pa_nil)) (pe_glob (v := .int 4) rfl hM ⟨_, rfl⟩))))))
      (pss_one (ps_err rfl I cD hr tk (pv 0) rfl)) pss_nil)
    (pss_one (ps_if (pt_not (pt_val (pe_callB (cr_all rfl) rfl T.all (by decide +kernel) (pa_cons (pe_lc (te := teRD K C) (own := [("device", 1)]) (g := gName 1) (tt := tYes) rfl scRd.nd (pi_tup (pv 0)) (blkOk_by (own := [("device", 1)]) (N := ["devices", "device"]) (sc := defScope sRefDev) (by decide +kernel))
        (fun _ _ _ _ _ => pg_name (i := 1) scRd.nd rfl (Or.inl rfl)) (fun _ _ _ _ _ => pts_nil)
        (fun _ _ _ _ _ => by exact pe_and (pe_callB call_isi rfl T.isinstance (by decide +kernel) (pa_cons (pv 1) (pa_cons (pe_glob (v := .ref C) rfl DC.mg rfl) pa_nil))) (pe_one (pe_call G r1 rfl mG kG bG .nil pass0 (pa_cons (pe_ix ix_tup (pv 0) pe_int (fun _ _ => rfl)) (pa_cons (pv 1) pa_nil)))))) pa_nil))))
      (pss_one (ps_err rfl I cD hr tk (pv 0) rfl)) pss_nil)), ?main⟩
  case main =>
    have h3 : ((∃ ty, TyX K H v ty ∧ PySem.W.kitOne K ty (.type "tuple") = some false) ∧ ∀ d G, Same H G → G d = none → E (.ref CD) (some d) (upd G d (.xd (vf v)))) ∨
        ((∃ t xs, v = .ref t ∧ SqT K H t xs ∧ xs.length ≤ 1000 ∧ ¬ (2 ≤ xs.length ∧ xs.length ≤ 4)) ∧ ∀ d G, Same H G → G d = none → E (.ref CD) (some d) (upd G d (.xd (vf v)))) ∨
        (∃ t xs os D0, v = .ref t ∧ SqT K H t xs ∧ 2 ≤ xs.length ∧ xs.length ≤ 4 ∧ (∀ G, Same H G → PySem.Paired (ItemO K C G) xs os) ∧ ((∀ o ∈ os, o = none) ∨ os[0]? = some (some D0)) ∧
          (os.all (okO D0) = false → ∀ d G, Same H G → G d = none → E (.ref CD) (some d) (upd G d (.xd (vf v)))) ∧ (os.all (okO D0) = true → ∀ G, Same H G → Q .non G)) := by
      rcases h with ⟨bad, qe⟩ | ⟨D0, Ds, good, q⟩
      · rcases bad with b | b | ⟨t, xs, os, D0, ev, ht, l2, l4, pr, first, no⟩
        · exact .inl ⟨b, qe⟩
        · exact .inr (.inl ⟨b, qe⟩)
        · exact .inr (.inr ⟨t, xs, os, D0, ev, ht, l2, l4, pr, first, fun _ => qe, fun z => by rw [no] at z; cases z⟩)
      · obtain ⟨t, xs, ev, ht, l2, l4, pr, f0, sm⟩ := good
        refine .inr (.inr ⟨t, xs, Ds.map some, D0, ev, ht, l2, l4, fun G sG => paired_some (pr G sG), .inr (by rw [List.getElem?_map, f0]; rfl), fun z => ?_, fun _ => q⟩)
        exfalso
        have : (Ds.map some).all (okO D0) = true := List.all_eq_true.mpr fun o ho => by
          obtain ⟨D, hD, rfl⟩ := List.mem_map.mp ho
          exact sm D hD
        rw [this] at z
        cases z
    clear h
    rcases h3 with ⟨⟨ty, hty, kk⟩, qe⟩ | ⟨⟨t, xs, rfl, ht, l1000, nl⟩, qe⟩ | ⟨t, xs, os, D0, rfl, ht, l2, l4, pr, first, qn, qy⟩
    · exact ⟨_, rfl, v, .ty "tuple", ty, .type "tuple", false, rfl, .ty _, hty, kk, _, rfl, iteT ⟨_, rfl, fun d nd => qe d H (Same.refl H) nd⟩⟩
    · refine ⟨_, rfl, .ref t, .ty "tuple", .type "tuple", .type "tuple", true, rfl, .ty _, tup_ty ht, if_pos (beq_self_eq_true _), _, rfl, iteF ?_⟩
      refine ⟨_, rfl, t, _, rfl, .inr ht, _, _, rfl, rfl, _, rfl, ?_⟩
      by_cases c1 : (2 : Int) ≤ (xs.length : Int)
      · have c2 : ¬ (xs.length : Int) ≤ 4 := by omega
        refine iteC (decide_eq_true c1) ⟨_, _, rfl, rfl, _, rfl, ?_⟩
        exact iteC (by rw [decide_eq_false c2]; rfl) ⟨_, rfl, fun d nd => qe d H (Same.refl H) nd⟩
      · exact iteN (decide_eq_false c1) ⟨_, rfl, iteT ⟨_, rfl, fun d nd => qe d H (Same.refl H) nd⟩⟩
    · -- two to four items, each a device or none
      refine ⟨_, rfl, .ref t, .ty "tuple", .type "tuple", .type "tuple", true, rfl, .ty _, tup_ty ht, if_pos (beq_self_eq_true _), _, rfl, iteF ?_⟩
      refine ⟨_, rfl, t, _, rfl, .inr ht, _, _, rfl, rfl, _, rfl, ?_⟩
      have c1 : (2 : Int) ≤ (xs.length : Int) := by omega
      have c2 : (xs.length : Int) ≤ 4 := by omega
      refine iteC (decide_eq_true c1) ⟨_, _, rfl, rfl, _, rfl, ?_⟩
      refine iteN (by rw [decide_eq_true c2]; rfl) ?_
      refine ⟨_, rfl, t, rfl, ⟨_, ht⟩, fun DL nDL => ?_⟩
      have lo : os.length = xs.length := (paired_len (pr H (Same.refl H))).symm
      refine lc_it walk_tup (D := DL) (g := gName 1) (tt := tYes) (te := teRD K C) (vs := [1]) (fun j G => Same H G ∧ G DL = some (.lst (((os.take j).map (okO D0)).map V.bl))) ⟨same_new nDL _, upd_same⟩ (fun j G _ h => same_tup h.1 ht) ?_ ?_
      · rintro j y G3 G4 hj ⟨s3, d3⟩ ⟨rfl, hy⟩
        obtain ⟨o, ho, hi⟩ := paired_ix (pr G4 s3) hy
        refine ⟨rfl, ?_⟩
        have app : ∀ b, okO D0 o = b → ∃ acc, G4 DL = some (.lst acc) ∧ acc.length < sizeLine ∧ Same H (upd G4 DL (.lst (acc ++ [V.bl b]))) ∧ (upd G4 DL (.lst (acc ++ [V.bl b]))) DL = some (.lst (((os.take (j + 1)).map (okO D0)).map V.bl)) := by
          rintro b rfl
          refine ⟨_, d3, by rw [List.length_map, List.length_map, List.length_take, sizeLine_eq]; omega, same_put s3 nDL, ?_⟩
          rw [upd_same, List.take_add_one, ho, List.map_append, List.map_append]
          rfl
        cases o with
        | none =>
          obtain ⟨ty, hty, kk⟩ := hi
          exact ⟨_, rfl, y, .ref C, ty, .ref C, false, rfl, .own C, hty, kk, _, rfl, iteF (app false rfl)⟩
        | some Di =>
          obtain ⟨a, rfl, dri, hDi⟩ := hi
          have f0 : os[0]? = some (some D0) := by
            rcases first with f | f
            · exact absurd (f _ (List.mem_of_getElem? ho)) (by simp)
            · exact f
          obtain ⟨x0, hx0⟩ : ∃ x0, xs[0]? = some x0 := ⟨_, List.getElem?_eq_getElem (by omega)⟩
          obtain ⟨o0, ho0, hi0⟩ := paired_ix (pr G4 s3) hx0
          rw [f0] at ho0
          obtain rfl := (Option.some.inj ho0).symm
          obtain ⟨a0, rfl, dr0, hD0⟩ := hi0
          refine ⟨_, rfl, .ref a, .ref C, .ref C, .ref C, true, rfl, .own C, dev_ty DC IS hDi, if_pos (beq_self_eq_true _), _, rfl, iteT ?_⟩
          refine ⟨_, rfl, t, _, 0, _, rfl, rfl, same_tup s3 ht, atI_nat (j := 0) hx0, _, rfl, a0, a, D0, Di, rfl, dr0, dri, hD0, hDi, app _ rfl⟩
      · rintro G3 ⟨s3, d3⟩
        rw [← lo, List.take_length] at d3
        refine ⟨DL, _, rfl, SqL.of d3, _, rfl, ?_⟩
        have e : (os.map (okO D0)).all id = os.all (okO D0) := by
          rw [List.all_map]
          rfl
        rw [e]
        cases eo : os.all (okO D0) with
        | false => exact iteT ⟨_, rfl, fun d nd => qn eo d G3 s3 nd⟩
        | true => exact iteF (qy eo G3 s3)
end
end K51
set_option Elab.async false
set_option linter.all false
set_option maxRecDepth 100000
set_option maxHeartbeats 4000000
/-! A list comprehension whose step may raise: the error leaves it and the def. -/
namespace LG
open PySem PySem.Spec PyProof.Rows L2
/-! ### a frame is all that is asked of an environment -/
theorem note_congr {e : Value} {a b : Env} (h : a.frame = b.frame) : noteFrame e a = noteFrame e b := by
  unfold noteFrame PySem.frameOf
  rw [h]
theorem pass_congr {α : Type} {t : String} {e : Value} {a b : Env} (h : a.frame = b.frame) : (PySem.passOn t e a : Sem α) = PySem.passOn t e b := by
  unfold PySem.passOn
  rw [h]
/-- behind the block: the list; or the error, on its way -/
def postE (M : Model) (A : Around) (E : Value → Shared → Prop) (Q : Value → Shared → Prop) (acc : Value) (ce : Env) (r : Result) (z : Shared) : Prop := match r with
  | .ok _ => ∃ m, z.heap.Ns ce.locals m ∧ ∀ h', Heap.SameBut ce.locals z.heap h' → Q acc { z with heap := h' }
  | .error x => ∃ m, z.heap.Ns ce.locals m ∧ ∀ h', Heap.SameBut ce.locals z.heap h' → ∀ c2 : Env, c2.frame = ce.frame → wpAny M A (PySem.passOn "comprehension.variables-let-go" x c2 : Sem Value) (fun _ _ => False) E { z with heap := h' }
section
variable {M : Model} {A : Around} {E : Value → Shared → Prop} {env : Env} {s : Shared}
theorem comp_errs {e : Expr} {scope : Scope} {pos : Pos} {newAcc first : Sem Value} {g : Comprehension} {gs : List Comprehension} {cl : List (Str × Addr)} {Q : Value → Shared → Prop}
    (hcl : clausesOf e = g :: gs) (hs : ∀ x, foldedSetIterable g.iter env x = pure x) (hclos : closureFor scope env = pure cl) (hkind : scope.kind = .function) (hnames : ∀ x ∈ scope.names, x.2 = .local → scope.names.lookup x.1 = some .local)
    (h : wpAny M A first (fun x s₁ => wpAny M A (pyIter x) (fun it s₂ => wpAny M A newAcc (fun acc s₃ => wpAny M A (newFunctionEnv scope env.globals cl [] env.qual none .none (some env))
      (fun cenv s₄ => codeAny M A (.compStart e 0 it acc { cenv with scope := relabel scope env }) (postE M A E Q acc cenv) s₄) E s₃) E s₂) E s₁) E s) :
    wpAny M A (comprehension e scope env pos newAcc false first none) Q E s := by
  unfold comprehension
  rw [hclos, hcl]
  refine wpAny_bind (wpAny_mono h (fun x s₁ h₁ => ?_) fun _ _ y => y)
  refine wpAny_bind (wpAny_standAt (wpAny_bind (wpAny_of_eq (hs x) (wpAny_bind (wpAny_holding (wpAny_mono h₁ (fun it s₂ h₂ => ?_) fun _ _ y => y))))))
  refine wpAny_standIf (wpAny_bind (wpAny_mono h₂ (fun acc s₃ h₃ => ?_) fun _ _ y => y))
  refine wpAny_bind (wpAny_pure (wpAny_bind (wpAny_mono h₃ (fun cenv s₄ h₄ => ?_) fun _ _ y => y)))
  dsimp only
  have own : ∀ x ∈ (scope.names.filter fun x => (x.2 == .local || x.2 == .cell) && x.1 != (".0" : Str)).reverse, x.2 = .local → Env.kindOf { cenv with scope := relabel scope env } x.1 = some .local := by
    intro x hx hl
    exact lookup_relabel_local (hnames x (List.mem_filter.mp (List.mem_reverse.mp hx)).1 hl)
  refine wpAny_holding (wpAny_bind (wpAny_attempt (wpAny_holding (wpAny_run (codeAny_mono h₄ fun r z hr => ?_)))))
  cases r with
  | ok f =>
    obtain ⟨m, hn, k⟩ := hr
    exact wpAny_bind (wpAny_holding (wpAny_comp_letGo (cenv := { cenv with scope := relabel scope env }) hkind _ z m own hn fun h' m' _ sb => wpAny_pure (k h' sb)))
  | error x =>
    obtain ⟨m, hn, k⟩ := hr
    refine wpAny_bind (wpAny_holding (wpAny_comp_letGo (cenv := { cenv with scope := relabel scope env }) hkind _ z m own hn fun h' m' _ sb => ?_))
    exact wpAny_mono (k h' sb _ rfl) (fun _ _ f => f.elim) fun _ _ y => y
end
theorem funFrames_at {B h h' : Heap} : ∀ {l : List Env}, h.FunFrames B l → (∀ L ∈ frs l, h'.get? L = h.get? L) → h'.FunFrames B l
  | [], _, _ => trivial
  | env :: l, q, e => by
    obtain ⟨hk, ⟨L, o, hf, hb, ho, hd⟩, hr⟩ := q
    refine ⟨hk, ⟨L, o, hf, hb, (e L (List.mem_filterMap.mpr ⟨env, List.mem_cons_self, hf⟩)).trans ho, hd⟩, funFrames_at hr fun L' m => e L' ?_⟩
    obtain ⟨x, hx, q⟩ := List.mem_filterMap.mp m
    exact List.mem_filterMap.mpr ⟨x, List.mem_cons_of_mem _ hx, q⟩
/-- the context of such a block -/
abbrev blkE (X : Cx) (s : Shared) (H : Hp) (scope : Scope) (cenv : Env) (fp : List Addr) (xe : Value → Shared → Prop) : Cx := { X with s_0 := s, H_0 := H, env := cenv, outer := X.stack, ex := fp, fn := fun x => scope.names.lookup x == some .cell, pn := [], xe := xe }
section
variable {X : Cx} {pins pinsY : List (Addr × Obj)} {σ σ' : L2.St} {H H3 : Hp} {s s3 : Shared}
theorem air_comp {scope : Scope} {ce : Env} {fp : List Addr} {xe : Value → Shared → Prop} {Q : Value → Shared → Prop} {acc : Value} {E : XK} {W : WX} (hs : X.stack = X.env :: X.outer) (hf : X.env.frame = some X.env.locals) (tk : Takes X W)
    (I3 : Inv X pins σ H3 s3) (f3 : ∀ b ∈ fp, FpOk X pins H3 b) (hce : ce.frame = X.env.frame) (hcL : ce.locals = s3.heap.objs.size) (I : Inv (blkE X s3 H3 scope ce fp xe) pinsY σ' H s) {u : Value} {s' : Shared} (c : CX X.prog X.w X.stack H s E u s')
    (hW : ∀ cls d H', E cls d H' → W cls d σ H') : notedBy (model X.prog X.w) X.A ce (fun x z => postE (model X.prog X.w) X.A X.xe Q acc ce (.error x) z) u s' := by
  obtain ⟨a, B, sI, pinsI, σI, HI, cls, d, rfl, II, nb, up, sky, na, os, ag, hE⟩ := XE.of_call (X := blkE X s3 H3 scope ce fp xe) (W := fun cls d _ H' => E cls d H') I (fun _ _ _ q => q) c
  obtain ⟨a', B0, H0, cls0, d0, ea, fl0, _⟩ := c
  cases ea
  -- it flies
  have fl : HandSPX.FlyingZ B X.stack a (Zc cls d) s'.heap := by
    obtain ⟨oe, vs, T, oT, ts, y1, y2, y3, y4, y5, y6, y7, y8, y9⟩ := fl0.2.2.2
    rcases sky with ⟨_, _, _, oe', vs', z1, z2, z3, z4⟩ | fl | ⟨_, _, _, oe', vs', T', oT', ts', z1, z2, z3, z4, z5, z6, z7, z8, z9⟩
    · rw [y1] at z1
      cases z1
      rw [y3] at z3
      cases z3
      rw [y4] at z4
      cases z4
    · exact fl
    · rw [y1] at z1
      cases z1
      rw [y3] at z3
      cases z3
      rw [y4] at z4
      cases z4
      rw [y7] at z7
      cases z7
      rw [y8] at z8
      cases z8
      rw [y9] at z9
      exact absurd z9 (by simp [rawInt])
  clear sky fl0
  have hfr : X.A.frames = some (X.env :: X.outer) := by rw [I3.ok.frames, hs]
  have nC : ∀ b ∈ frs X.stack, b ≠ ce.locals := fun b hb z => by
    obtain ⟨_, o, ho, _⟩ := I3.stack.mem hb
    have := Heap.lt_size ho
    rw [z, hcL] at this
    exact Nat.lt_irrefl _ this
  rw [hs] at fl
  show wpAny _ _ (noteFrame (.ref a) ce) _ _ _
  rw [note_congr hce]
  refine HandSPX.looks_onZ Zc.steady hfr hf fl fun h1 held up1 => ?_
  obtain ⟨m, hn, _⟩ := II.loc
  have hn : sI.heap.Ns ce.locals m := hn
  obtain ⟨oC, es, ep, gC, dC, r⟩ := id hn
  have inB := nb _ _ gC fun z => nC _ z rfl
  have in1 := held.1 _ _ inB
  refine ⟨m, ⟨oC, es, ep, in1, dC, r⟩, fun h2 sb c2 hc2 => ?_⟩
  rw [pass_congr (hc2.trans hce)]
  have off : ∀ b o, b ≠ ce.locals → h1.get? b = some o → h2.get? b = some o := fun b o n e => (sb.2 b n).trans e
  obtain ⟨k1, k2, k3, oe, vs, T, oT, ts, y1, y2, y3, y4, y5, y6, y7, y8, y9⟩ := held
  have aC : a ≠ ce.locals := fun z => by
    rw [z, in1] at y1
    cases y1
    rw [dC] at y3
    cases y3
  have tC : T ≠ ce.locals := fun z => by
    rw [z, in1] at y7
    cases y7
    rw [dC] at y8
    cases y8
  -- the block's variables out of the ground
  have hB : ∀ {b o}, (PySem.W.hideAll B [ce.locals]).get? b = some o → B.get? b = some o ∧ b ≠ ce.locals := fun {b o} e => ⟨PySem.W.of_hideAll _ e, fun z => by
    rw [z, PySem.W.hideAll_none [ce.locals] List.mem_cons_self] at e
    cases e⟩
  have hB0 : ∀ {b}, B.get? b = none → (PySem.W.hideAll B [ce.locals]).get? b = none := fun {b} e => by
    cases q : (PySem.W.hideAll B [ce.locals]).get? b with
    | none => rfl
    | some o => rw [(hB q).1] at e; cases e
  have fr2 : h2.FunFrames (PySem.W.hideAll B [ce.locals]) (X.env :: X.outer) := by
    rw [← hs] at k3 ⊢
    refine funFrames_at (h := h1) (funFrames_none k3 fun L hL => hB0 (k3.mem hL).1) fun L hL => ?_
    exact sb.2 L (nC L hL)
  have held2 : HandSPX.HeldZ (PySem.W.hideAll B [ce.locals]) (X.env :: X.outer) a (Zc cls d) X.env.locals h2 := by
    refine ⟨fun b o e => off b o (hB e).2 (k1 _ _ (hB e).1), hB0 k2, fr2, oe, vs, T, oT, ts, off _ _ aC y1, y2, y3, y4, hB0 y5, y6, off _ _ tC y7, y8, y9⟩
  unfold PySem.passOn
  refine wpAny_bind (wpAny_field (off _ _ aC y1) y3 y4 ?_)
  rw [if_neg (by simp)]
  refine wpAny_bind ?_
  rw [hf]
  refine HandSPX.setFlight_onZ (s := { s' with heap := h2 }) held2 fun h3 held3 up3 => ?_
  refine wpAny_throw (tk _ _ ⟨a, PySem.W.hideAll B [ce.locals], { sI with heap := PySem.W.hideAll sI.heap [ce.locals] }, pins, σ, HI, cls, d, rfl, ?_, ?_, ?_, ?_, na, os, ag, hW _ _ _ hE⟩)
  · have hide : ∀ {b o}, sI.heap.get? b = some o → b ≠ ce.locals → (PySem.W.hideAll sI.heap [ce.locals]).get? b = some o := fun {b o} e n => PySem.W.hideAll_get _ e fun z => n (List.mem_singleton.mp z)
    have old : ∀ {b o}, s3.heap.get? b = some o → b ≠ ce.locals := fun {b o} e z => by
      have := Heap.lt_size e
      rw [z, hcL] at this
      exact Nat.lt_irrefl _ this
    have u := II.base
    have freeC : HI ce.locals = none := II.free
    refine I3.call' (ch := fp) (s' := { sI with heap := PySem.W.hideAll sI.heap [ce.locals] }) II.os ⟨fun b o e n1 n2 n3 => hide (u.keep b o e n1 n2 n3) (old e), fun b o e n1 n2 n3 => ?_, u.free, fun b o e n3 => ?_, u.tups, u.frzs, u.tbls⟩ (fun b o q => ?_) II.bare fun b hb => ⟨(f3 b hb).2.2.2.1, (f3 b hb).2.1, (f3 b hb).2.2.2.2.1, (f3 b hb).2.2.2.2.2⟩
    · obtain ⟨sl, g⟩ := u.slot b o e n1 n2 n3
      exact ⟨sl, hide g (old e)⟩
    · obtain ⟨o', g⟩ := u.there b o e n3
      exact ⟨o', hide g (old e)⟩
    · refine (II.hok b o q).stay (fun c2 u2 hc e => hide e fun z => ?_) (fun _ r => r) fun _ _ r => r
      rcases hc with hc | hc
      · rw [← hc, z, freeC] at q
        cases q
      · rw [z, freeC] at hc
        cases hc
  · intro b o e hb
    have e1 := PySem.W.of_hideAll _ e
    exact PySem.W.hideAll_get _ (nb b o e1 hb) fun z => by
      rw [List.mem_singleton.mp z, PySem.W.hideAll_none [ce.locals] List.mem_cons_self] at e
      cases e
  · intro b o e hnf
    have e1 := PySem.W.of_hideAll _ e
    have n : b ≠ ce.locals := fun z => by
      rw [z, PySem.W.hideAll_none [ce.locals] List.mem_cons_self] at e
      cases e
    obtain ⟨l1, g1⟩ := up b o e1 hnf
    obtain ⟨l2, g2⟩ := up1 b _ g1 hnf
    obtain ⟨l3, g3⟩ := up3 b _ (off _ _ n g2) hnf
    exact ⟨l3, g3⟩
  · rw [hs]
    exact .inr (.inr held3)
theorem reair {scope : Scope} {ce : Env} {fp : List Addr} (xe : Value → Shared → Prop) (I : Inv (X.blk s3 H3 scope ce fp) pins σ H s) : Inv (blkE X s3 H3 scope ce fp xe) pins σ H s := by
  obtain ⟨⟨a1, a2, a3, a4, a5, a6, a7, a8, a9, a10, a11, a12, a13, a14, a15, a16, a17, a18⟩, b1, b2, b3, b4, b5, b6, b7, b8, b9, b10⟩ := I
  exact ⟨⟨a1, a2, a3, a4, a5, a6, a7, a8, a9, a10, a11, a12, a13, a14, a15, a16, a17, a18⟩, b1, b2, b3, b4, b5, b6, b7, b8, b9, b10⟩
theorem pe_lcE {elt tg iter : Expr} {ifs : List Expr} {scope : Scope} {own : List (Str × Nat)} {pos : Pos} {wi : TI} {g : TG} {tt : TT} {te : TE} {E : XK} (hc : X.calm = true) (hs0 : X.stack = X.env :: X.outer) (hf0 : X.env.frame = some X.env.locals) (tk : Takes X (fun cls d _ H => E cls d H)) (hN : X.N.Nodup) (hi : PI X tg iter wi) (ok : BlkOk X.N X.env.scope scope own)
    (hg : ∀ (s : Shared) (H : Hp) (C : Addr) (cl : List (Str × Addr)) (fp : List Addr) (xe : Value → Shared → Prop), PG (blkE X s H scope (compEnvC scope cl C X.env) fp xe) tg g)
    (ht : ∀ (s : Shared) (H : Hp) (C : Addr) (cl : List (Str × Addr)) (fp : List Addr) (xe : Value → Shared → Prop), Passes (L2.CX X.prog X.w) (blkE X s H scope (compEnvC scope cl C X.env) fp xe) E → PTs (blkE X s H scope (compEnvC scope cl C X.env) fp xe) ifs tt)
    (he : ∀ (s : Shared) (H : Hp) (C : Addr) (cl : List (Str × Addr)) (fp : List Addr) (xe : Value → Shared → Prop), Passes (L2.CX X.prog X.w) (blkE X s H scope (compEnvC scope cl C X.env) fp xe) E → PE (blkE X s H scope (compEnvC scope cl C X.env) fp xe) elt te) (hs : ∀ x, foldedSetIterable iter X.env x = pure x := by intro _; rfl) :
    PE X (.ListComp elt [⟨tg, iter, ifs, 0⟩] scope pos) (tLc wi g tt te (own.map (·.2))) := by
  refine ⟨fun pins s σ H Q I h => ?_⟩
  rw [eval_ListComp]
  have fr : ∀ y ∈ scope.names, y.2 = .free → ∃ c, X.env.cells.lookup y.1 = some c := fun y hy e => (ok.free y hy e).elim (fun k => I.ok.has _ (.inl k)) fun k => I.ok.has _ (.inr k)
  refine comp_errs rfl hs (closure_ok fr) ok.kind (fun y hy e => by rw [ok.uniq y hy, e]) ?_
  refine thn (hi.run pins s σ H _ I h) fun xv s1 hx => thn hx fun itv s2 ⟨it, fp, tn, J, H2, ev, I2, T, st2, f2, q⟩ => ?_
  subst ev
  refine wpAny_newObj_type (newEnv_comp ?_) (by show 0 ≤ sizeLine; decide)
  obtain ⟨D, hD⟩ : ∃ D, D = s2.heap.objs.size := ⟨_, rfl⟩
  rw [← hD]
  obtain ⟨W, ⟨m0, w0⟩, turn⟩ := q D (I2.hok.fresh (Nat.le_of_eq hD.symm))
  obtain ⟨s3, hs3⟩ : ∃ z : Shared, z = { s2 with heap := s2.heap.push { cls := .type "list", data := .seq ([] : List Value).toArray } } := ⟨_, rfl⟩
  have I3 : Inv X pins σ (upd H2 D (.lst [])) s3 := by
    rw [hs3]
    exact I2.laid (t' := s2.toks) (fun b o e => Heap.get?_push_of_some _ e) (Nat.le_of_eq hD.symm) ⟨Nat.zero_le _, [], 0, .nil, by rw [hD]; exact Heap.get?_push_size _ rfl⟩
  have f3 : ∀ b ∈ fp, FpOk X pins (upd H2 D (.lst [])) b ∧ b < s3.heap.objs.size := fun b hb => by
    obtain ⟨o, e, _⟩ := T.obj _ _ st2 b hb
    have lt := Heap.lt_size e
    refine ⟨⟨?_, (f2 b hb).2⟩, ?_⟩
    · rw [upd_ne (by rw [hD]; exact Nat.ne_of_lt lt)]
      exact (f2 b hb).1
    · rw [hs3]
      show b < (s2.heap.push _).objs.size
      rw [Heap.size_push]
      exact Nat.lt_succ_of_lt lt
  have st3 : tn 0 s3.heap := T.keep _ _ _ st2 fun b _ o e => by rw [hs3]; exact Heap.get?_push_of_some _ e
  obtain ⟨C, hC⟩ : ∃ C, C = s3.heap.objs.size := ⟨_, rfl⟩
  obtain ⟨cl, hcl⟩ : ∃ cl, cl = cellsFrom (s3.heap.objs.size + 1) scope.names (cloFrom X.env.cells scope.names []) := ⟨_, rfl⟩
  have I4 := block_start I3 ok hN f3
  rw [← hC] at hcl I4
  rw [← hcl] at I4
  obtain ⟨s4, hs4⟩ : ∃ z : Shared, z = { s3 with heap := pushCells (s3.heap.push { cls := .type "dict", data := .dict #[] }) scope.names } := ⟨_, rfl⟩
  rw [← hs4] at I4
  have st4 : tn 0 s4.heap := T.keep _ _ _ st3 fun b _ o e => by rw [hs4]; exact pushCells_keeps _ _ _ _ (Heap.get?_push_of_some _ e)
  obtain ⟨xe, hxe⟩ : ∃ xe, xe = notedBy (model X.prog X.w) X.A (compEnvC scope cl C X.env) fun x z => postE (model X.prog X.w) X.A X.xe (EP X pins σ Q) (.ref D) (compEnvC scope cl C X.env) (.error x) z := ⟨_, rfl⟩
  have I4 := reair xe I4
  have ps : Passes (L2.CX X.prog X.w) (blkE X s3 (upd H2 D (.lst [])) scope (compEnvC scope cl C X.env) fp xe) E := fun pinsY σY HY sY e z IY cY => by
    have air := air_comp (acc := .ref D) (Q := EP X pins σ Q) hs0 hf0 tk I3 (fun b hb => (f3 b hb).1) (show (compEnvC scope cl C X.env).frame = X.env.frame from rfl) (by rw [← hC]; rfl) IY cY fun _ _ _ q => q
    show xe e z
    rw [hxe]
    exact air
  have pe := he s3 (upd H2 D (.lst [])) C cl fp xe ps
  have pg := hg s3 (upd H2 D (.lst [])) C cl fp xe
  have pt := ht s3 (upd H2 D (.lst [])) C cl fp xe ps
  have fin : codeAny (model X.prog X.w) X.A (.compStart (.ListComp elt [⟨tg, iter, ifs, 0⟩] scope pos) 0 (.ref it) (.ref D) (compEnvC scope cl C X.env)) (postE (model X.prog X.w) X.A X.xe (EP X pins σ Q) (.ref D) (compEnvC scope cl C X.env)) s4 := ?_
  · rw [hs4, hcl, hC, hs3] at fin
    rw [hs3] at I3
    exact fin
  have cL : (compEnvC scope cl C X.env).locals = C := rfl
  clear ps
  generalize compEnvC scope cl C X.env = ce at I4 pe pg pt cL hxe ⊢
  have nf3 : ∀ b ∈ fp, (upd H2 D (.lst [])) b = none := fun b hb => (f3 b hb).1.1
  have f3' : ∀ b ∈ fp, FpOk X pins (upd H2 D (.lst [])) b := fun b hb => (f3 b hb).1
  generalize upd H2 D (.lst []) = H3 at I3 I4 pe pg pt w0 nf3 f3'
  clear f3
  generalize hY : blkE X s3 H3 scope ce fp xe = Y at I4 pe pg pt
  have yE : Y.env = ce := by rw [← hY]
  have stat : ∀ {σ' : L2.St} {G : Hp} {z : Shared}, Inv Y [] σ' G z → (∀ b ∈ fp, G b = none) → ∀ b ∈ fp, FpOk Y [] G b := by
    rw [← hY]
    exact fun {σ' G z} I' hn b hb => ⟨hn b hb, (I'.ok.exf b hb).1, I'.ok.exfs b hb, .inl hb, fun x c e => (I'.ok.exf b hb).2 x c e, fun p hp => absurd (show p ∈ ([] : List (Addr × Obj)) ++ [] from hp) (by simp)⟩
  have back : ∀ {σ' : L2.St} {G : Hp} {z : Shared}, Inv Y [] σ' G z → Inv X pins σ G z := by
    rw [← hY]
    exact fun {σ' G z} I' => I3.call' (ch := fp) I'.os I'.base I'.hok I'.bare fun b hb => ⟨(f3' b hb).2.2.2.1, (f3' b hb).2.1, (f3' b hb).2.2.2.2.1, (f3' b hb).2.2.2.2.2⟩
  have yP : Y.prog = X.prog := by rw [← hY]
  have yW : Y.w = X.w := by rw [← hY]
  have yK : Y.K = X.K := by rw [← hY]
  have yA : Y.A = X.A := by rw [← hY]
  have yx : Y.xe = xe := by rw [← hY]
  have yc : Y.calm = true := by rw [← hY]; exact hc
  have kE : ce = Y.env := yE.symm
  have hxY : xe = notedBy (model Y.prog Y.w) Y.A Y.env fun x z => postE (model Y.prog Y.w) Y.A X.xe (EP X pins σ Q) (.ref D) Y.env (.error x) z := by rw [hxe, yP, yW, yA, yE]
  have loop : codeAny (model X.prog X.w) X.A (.compLoop (.ListComp elt [⟨tg, iter, ifs, 0⟩] scope pos) 0 (.ref it) (.ref D) ce) (postE (model X.prog X.w) X.A X.xe (EP X pins σ Q) (.ref D) ce) s4 := ?_
  · exact codeAny_compStart_list loop (T.self X.A 0 _ _ _ st4 loop)
  refine compLoop_any (fun n z => ∃ i G, Inv Y [] (wipe σ (own.map (·.2))) G z ∧ tn i z.heap ∧ (∀ b ∈ fp, G b = none) ∧ W i n G) ?_ m0 ⟨0, H3, I4, st4, nf3, w0⟩
  rintro n s5 ⟨i, G5, I5, st5, n5, w5⟩
  rw [kE]
  rcases turn i n G5 w5 with ⟨stop, qq⟩ | ⟨go, Nx, hNx, step⟩
  · have td := T.done Y yP yW yK yc i [] s5 _ G5 (fun _ _ => False) I5 (stat I5 n5) st5 stop
    rw [yA] at td
    refine thnF td fun r s6 ⟨hr, I6⟩ => ?_
    subst hr
    have I7 := back I6
    have nC : G5 C = none := by
      have z := I6.free
      rw [yE, cL] at z
      exact z
    obtain ⟨m, hn, _⟩ := I6.loc
    have eC : Y.env.locals = C := by rw [yE, cL]
    subst eC
    obtain ⟨e0, e1, e2, e3, e4, e5⟩ := I3.fpOk (Nat.le_of_eq hC.symm) nC
    exact ⟨m, hn, fun h'' sb => ⟨.ref D, G5, I7.turned (t' := s6.toks) (fun b o hb e => (sb.2 b hb).trans e) e0 e1 e3 e4 e5, rfl, qq⟩⟩
  · have ti := T.item Y yP yW yK yc i [] s5 _ G5 (fun _ _ => False) I5 (stat I5 n5) st5 go
    rw [yA] at ti
    refine thnF ti fun r s6 ⟨u, hr, h6⟩ => ?_
    subst hr
    rw [← yP, ← yW, ← yA]
    rw [← yP, ← yW, ← yA] at h6
    refine thnF h6 fun _ s7 ⟨x, G7, I7, r7, y7, st7, n7⟩ => ?_
    have I7' := I7.pinned (stat I7 n7) (T.obj _ _ st7)
    have pg1 := pg.run _ s7 _ G7 x u _ I7' r7 (step x G7 y7)
    rw [yx, hxY] at pg1
    refine thn pg1 fun _ s8 ⟨σ8, G8, I8, hw8, q8⟩ => ?_
    have pt1 := pt.run _ s8 σ8 G8 _ I8 q8
    rw [yx, hxY] at pt1
    refine thn pt1 fun b s9 ⟨G9, I9, q9⟩ => ?_
    have nxt : ∀ {z : Shared} {G : Hp}, Inv Y ([] ++ pinsAt fp s7.heap) σ8 G z → Nx G → ∃ m, m < n ∧ ∃ i G, Inv Y [] (wipe σ (own.map (·.2))) G z ∧ tn i z.heap ∧ (∀ b ∈ fp, G b = none) ∧ W i m G := by
      intro z G J nx
      obtain ⟨m', lt, w'⟩ := hNx G nx
      have pin' : ∀ b ∈ fp, ∀ o, s7.heap.get? b = some o → z.heap.get? b = some o ∧ G b = none := fun b hb o e => ⟨(J.pin (b, o) (List.mem_append_right _ (List.mem_append_right _ (mem_pinsAt hb e)))).1, (J.pin (b, o) (List.mem_append_right _ (List.mem_append_right _ (mem_pinsAt hb e)))).2.1⟩
      have ln : (wipe σ (own.map (·.2))).length = σ8.length := by rw [← hw8, wipe_length]
      refine ⟨m', lt, i + 1, G, (J.unpinned (pins := [])).weak ln (fun j v e => ?_), T.keep _ _ _ st7 fun b hb o e => (pin' b hb o e).1, fun b hb => ?_, w'⟩
      · rw [← hw8] at e
        exact (wipe_some e).1
      · obtain ⟨o, e, _⟩ := T.obj _ _ st7 b hb
        exact (pin' b hb o e).2
    cases b with
    | false => exact nxt I9 q9
    | true =>
      have pe1 := pe.run _ s9 σ8 G9 _ I9 q9
      rw [yx, hxY] at pe1
      refine thn pe1 fun z s10 ⟨yv, G10, I10, r10, acc, hD10, hz10, nx⟩ => ?_
      exact app_ok (X := Y) I10 hD10 hz10 r10 fun s11 I11 => nxt I11 nx
end
end LG
set_option Elab.async false
set_option linter.all false
set_option maxRecDepth 100000
set_option maxHeartbeats 16000000
/-! Which devices are left behind a log. -/
namespace LG
open PySem L2
theorem walk_enumT {K : PySem.W.Frag} {a : Addr} {xs : List V} : Walk (Itet K a) xs.length (fun H => SqT K H a xs) (YPair (fun i => some (.int (i : Nat))) (fun i => xs[i]?)) := by
  refine ⟨fun i _ hi q => ⟨xs, xs[i], q, by simp [hi]⟩, fun _ q => ⟨xs, q, Nat.le_refl _⟩, ?_⟩
  rintro i H v H' _ q ⟨T, x, h1, h2, h3, h4⟩
  exact ⟨T, .int (i : Nat), x, h1, h2, h3, rfl, h4 xs q⟩
def isLeft (Ds : List Dev) (st : List (Str × Str)) (i : Nat) : Bool := match Ds[i]? with
  | some D => !(firstD D st).isEmpty
  | none => false
def leftN (Ds : List Dev) (st : List (Str × Str)) : List Nat := (List.range Ds.length).filter (isLeft Ds st)
theorem same_of {D E : Dev} (h : sameD D E = true) : D.calls = E.calls ∧ D.answers = E.answers := by
  unfold sameD at h
  rw [Bool.and_eq_true] at h
  exact ⟨of_decide_eq_true h.1, of_decide_eq_true h.2⟩
theorem own_keys {D : Dev} (d : Drawn D) : (prodK D.states D.calls).Perm (D.goals.map (·.1)) := by rw [d.keys]
end LG
namespace K51
open PySem L2 LG
section
variable {P : Program} {w : World} {K : PySem.W.Frag} {mg : Str → Option Value} {base : Heap} {fI C : Addr}
def spLeft (K : PySem.W.Frag) (C CD CL : Addr) : Sp := fun vs H Q E => ∃ v w, vs = [v, w] ∧ ((BadDevs K C H v ∧ ∀ d G, Same H G → G d = none → E (.ref CD) (some d) (upd G d (.xd (vf v)))) ∨
  (∃ D0 Ds d, GoodDevs K C H v D0 Ds ∧ Dx K H w d ∧ (isLogD D0.calls D0.answers d = false → ∀ a G, Same H G → G a = none → E (.ref CL) (some a) (upd G a (.xd (vf w)))) ∧
    (∀ st, d = .tuple (st.map pairD) → st.length ≤ 24 → (∀ k ∈ st, k.1 ∈ D0.calls ∧ k.2 ∈ D0.answers) → ∀ tw G, Same H G → G tw = some (.tup ((leftN Ds st).map fun n => V.int (n : Nat))) → Q (.ref tw) G)))
abbrev nLf : List Str := ["devices", "log", "number", "device"]
theorem scLf : FnScope nLf ["devices", "log"] (defScope sLeft) := ⟨rfl, rfl, rfl, by decide +kernel, rfl, by decide +kernel, by decide +kernel⟩
abbrev g23 (K : PySem.W.Frag) : TG := gTup K 2 (gCons (gName 2) (gCons (gName 3) gNil))
abbrev ttF (K : PySem.W.Frag) (C CL : Addr) (E : XK) : TT := fun σ H Q => tCall (spFirst K C CL) [] E (tCons (tVar 3) (tCons (tVar 1) tNil)) σ H fun x H' => ∃ k, TruV K x H' k ∧ Q k H'
theorem ok_left {f g1 g2 CD CL : Addr} {fd gd1 gd2 : FuncData} (F : Fun K "left" "left" sLeft f fd) (T : Bltn mg)
    (GR_ : FnOk P w K mg base (L2.CX P w) 3 g1 gd1 ["devices"] (spRefDev K C CD)) (mR : mg "refuse_devices" = some (.ref g1)) (kR : PySem.W.keepIn K (.ref g1) = true) (bR : Binds K gd1 ["devices"] [])
    (GF : FnOk P w K mg base (L2.CX P w) 6 g2 gd2 ["device", "log"] (spFirst K C CL)) (mF : mg "first" = some (.ref g2)) (kF : PySem.W.keepIn K (.ref g2) = true) (bF : Binds K gd2 ["device", "log"] []) :
    FnOk P w K mg base (L2.CX P w) 7 f fd ["devices", "log"] (spLeft K C CD CL) := by
  refine F.okX scLf (fun vs H Q E h => ?_) (fun cdv A0 outer st_ H vs Q E hr h => ?_)
  · obtain ⟨v, lg, rfl, _⟩ := h
    rfl
  obtain ⟨v, lg, rfl, h⟩ := h
  have r3 : Room 3 _ := hr.mono (by decide)
  have tk := takes_of (X := cxOf (L2.CX P w) P w K mg base nLf "left" (defScope sLeft) f cdv A0 outer st_ H E) rfl rfl rfl rfl
  refine' ⟨_, pss_cons (ps_expr (pe_call GR_ r3 rfl mR kR bR .nil (passes_call tk (fun _ _ _ _ h => h)) (pa_cons (pv 0) pa_nil)))
    (pss_one (ps_ret (pe_callTy call_tuple_of rfl T.tuple (by decide +kernel) (pa_cons (pe_lcE (E := E) (te := tVar 2) (tt := ttF K C CL E) (own := [("number", 2), ("device", 3)]) (g := g23 K) rfl rfl rfl tk scLf.nd (pi_enumT rfl T.enumerate (pa_cons (pv 0) pa_nil)) (blkOk_by (own := [("number", 2), ("device", 3)]) (N := nLf) (sc := defScope sLeft) (by decide +kernel))
      (fun _ _ _ _ _ _ => by exact pg_tup rfl (pgs_cons (pg_name (i := 2) scLf.nd rfl (Or.inl rfl)) (pgs_cons (pg_name (i := 3) scLf.nd rfl (Or.inl rfl)) pgs_nil)))
      (fun _ _ _ _ _ _ hp => by exact pts_one (pt_truth (pe_call GF hr rfl mF kF bF .nil hp (pa_cons (pv 3) (pa_cons (pv 1) pa_nil))) (by intro _; rfl)))
      (fun _ _ _ _ _ _ _ => by exact pv 2)) pa_nil)))), ?main⟩
  case main =>
    rcases h with ⟨bad, qe⟩ | ⟨D0, Ds, d, good, hd, qn, qy⟩
    · exact ⟨_, rfl, v, rfl, .inl ⟨bad, qe⟩⟩
    refine ⟨_, rfl, v, rfl, .inr ⟨D0, Ds, good, fun G1 s1 => ?_⟩⟩
    obtain ⟨t, xs, rfl, ht, l2, l4, pr, f0, sm⟩ := good
    have lD : Ds.length = xs.length := (paired_len (pr H (Same.refl H))).symm
    refine ⟨_, rfl, t, xs, rfl, same_tup s1 ht, fun DL nDL => ?_⟩
    have item : ∀ {G : Hp} {j : Nat} {x : V}, Same H G → xs[j]? = some x → ∃ a D, x = .ref a ∧ Ds[j]? = some D ∧ Drawn D ∧ DevM K G a C D ∧ D0.calls = D.calls ∧ D0.answers = D.answers := fun {G j x} sG hx => by
      obtain ⟨D, hD, a, rfl, dr, dev⟩ := paired_ix (pr G sG) hx
      obtain ⟨e1, e2⟩ := same_of (sm D (List.mem_of_getElem? hD))
      exact ⟨a, D, rfl, hD, dr, dev, e1, e2⟩
    cases el : isLogD D0.calls D0.answers d with
    | false =>
      refine lc_it walk_enumT (D := DL) (g := g23 K) (tt := ttF K C CL E) (te := tVar 2) (vs := [2, 3]) (fun j G => j = 0 ∧ Same G1 G) ⟨rfl, same_new nDL _⟩ (fun j G _ h => same_tup (s1.trans h.2) ht) ?_ ?_
      · rintro j y G3 G4 hj ⟨rfl, s3⟩ ⟨T2, x1, x2, rfl, nT2, rfl, ex1, ex2⟩
        cases ex1
        have ex2 : xs[0]? = some x2 := ex2
        have u3 := same_new nT2 (.tup [.int (0 : Nat), x2])
        have s4 := (s1.trans s3).trans u3
        obtain ⟨a, D, rfl, hD, dr, dev, e1, e2⟩ := item s4 ex2
        have fineR := dr.fineR (own_keys dr)
        refine ⟨T2, _, rfl, .inl (.inl upd_same), rfl, _, _, rfl, _, _, rfl, rfl, rfl, ?_⟩
        refine ⟨_, rfl, _, rfl, a, lg, d, _, _, rfl, dev, fineR, Dx_same s4 hd, fun _ a2 G5 s5 na => qn el a2 G5 (s4.trans s5) na, fun st e l24 mk_ => ?_⟩
        exfalso
        have : isLogD D0.calls D0.answers d = true := by
          rw [e, e1, e2]
          exact isLog_of l24 mk_
        rw [el] at this
        cases this
      · rintro G3 ⟨z, _⟩
        omega
    | true =>
      obtain ⟨st, rfl, l24, mk_⟩ := steps_of el
      have qy := qy st rfl l24 mk_
      refine lc_it walk_enumT (D := DL) (g := g23 K) (tt := ttF K C CL E) (te := tVar 2) (vs := [2, 3]) (fun j G => Same G1 G ∧ G DL = some (.lst (((List.range j).filter (isLeft Ds st)).map fun n => V.int (n : Nat)))) ⟨same_new nDL _, upd_same⟩ (fun j G _ h => same_tup (s1.trans h.1) ht) ?_ ?_
      · rintro j y G3 G4 hj ⟨s3, d3⟩ ⟨T2, x1, x2, rfl, nT2, rfl, ex1, ex2⟩
        cases ex1
        have ex2 : xs[j]? = some x2 := ex2
        have u3 := same_new nT2 (.tup [.int (j : Nat), x2])
        have s4 := (s1.trans s3).trans u3
        have d4 := u3 _ _ d3
        obtain ⟨a, D, rfl, hD, dr, dev, e1, e2⟩ := item s4 ex2
        have fineR := dr.fineR (own_keys dr)
        refine ⟨T2, _, rfl, .inl (.inl upd_same), rfl, _, _, rfl, _, _, rfl, rfl, rfl, ?_⟩
        refine ⟨_, rfl, _, rfl, a, lg, _, _, _, rfl, dev, fineR, Dx_same s4 hd, fun z => ?_, fun st' e _ _ tw G5 s5 htw => ?_⟩
        · have z : isLogD D.calls D.answers (.tuple (st.map pairD)) = false := z
          rw [← e1, ← e2, el] at z
          cases z
        injection e with e
        obtain rfl := pairs_inj e
        rw [first_same dr (own_keys dr) (fun k hk => by rw [← e1]; exact (mk_ k hk).1)] at htw
        have s35 := (s3.trans u3).trans s5
        have d5 := s5 _ _ d4
        have il : isLeft Ds st j = !(firstD D st).isEmpty := by
          unfold isLeft
          rw [hD]
        have em : ((firstD D st).map V.str).isEmpty = (firstD D st).isEmpty := by cases firstD D st <;> rfl
        refine ⟨!(firstD D st).isEmpty, .inr (.inl ⟨_, .inl (.inl htw), by rw [em]⟩), ?_⟩
        rw [List.range_succ, List.filter_append]
        cases e3 : (firstD D st).isEmpty with
        | true =>
          have z : [j].filter (isLeft Ds st) = [] := List.filter_cons_of_neg (by rw [il, e3]; simp)
          rw [z, List.append_nil]
          exact iteF ⟨s35, d5⟩
        | false =>
          have z : [j].filter (isLeft Ds st) = [j] := List.filter_cons_of_pos (by rw [il, e3]; rfl)
          have lf : ((List.range j).filter (isLeft Ds st)).length ≤ 4 := by
            have := List.length_filter_le (isLeft Ds st) (List.range j)
            rw [List.length_range] at this
            omega
          refine iteT ⟨_, rfl, _, d5, by rw [List.length_map, sizeLine_eq]; omega, same_put s35 nDL, ?_⟩
          rw [upd_same, z, List.map_append]
          rfl
      · rintro G3 ⟨s3, d3⟩
        rw [← lD] at d3
        exact ⟨DL, _, rfl, .inl ⟨SqL.of d3, fun tw ntw => qy tw _ ((s1.trans s3).trans (same_new ntw _)) upd_same⟩⟩
end
end K51
set_option Elab.async false
set_option linter.all false
set_option maxRecDepth 100000
set_option maxHeartbeats 4000000
/-! dict(pairs), the keys tuples. -/
namespace LG
open PySem PySem.Spec PyProof.Rows L2
def mergeT (xs ps : List (List L2.Key × V)) : List (List L2.Key × V) := ps.foldl (fun acc p => putK acc p.1 p.2) xs
theorem KT_merge {H : Hp} {ps : List (List L2.Key × V)} {qs : List (List L2.Key × Addr × Value)} (h : KT H ps qs) : ∀ {kvs : List (List L2.Key × V)} {xs : List (List L2.Key × Addr × Value)}, KT H kvs xs → KT H (mergeT kvs ps) (storedAllH xs qs) := by
  induction h with
  | nil => exact fun r => r
  | @cons p q ps qs hq t ih =>
    intro kvs xs r
    obtain ⟨k, b, u⟩ := q
    obtain ⟨e, hb, ry⟩ := hq
    have e : p.1 = k := e
    have := ih (r.put p.1 (b := b) (y := p.2) (u := u) hb ry)
    rw [e] at this
    show KT H (mergeT (putK kvs p.1 p.2) ps) (storedAllH (storedH xs k b u) qs)
    rw [e]
    exact this
section
variable {X : Cx}
theorem pairsT_of {pins : List (Addr × Obj)} {σ : L2.St} {H : Hp} {s : Shared} (I : Inv X pins σ H s) : ∀ {ps : List Addr} {kvs : List (List L2.Key × V)}, Paired (fun (p : Addr) (kv : List L2.Key × V) => ∃ b, SqT X.K H p [.ref b, kv.2] ∧ H b = some (.tup (kv.1.map kV))) ps kvs →
    ∃ qs : List (List L2.Key × Addr × Value), KT H kvs qs ∧ qs.length = ps.length ∧ ∀ (j : Nat) (q : List L2.Key × Addr × Value), qs[j]? = some q → ∃ p : Addr, ps[j]? = some p ∧ IsTup s.heap p #[.ref q.2.1, q.2.2]
  | _, _, .nil => ⟨[], .nil, rfl, fun j q e => by simp at e⟩
  | _, _, .cons (a := p) (b := kv) ⟨b, h, hb⟩ t => by
    obtain ⟨qs, r, hl, hp⟩ := pairsT_of I t
    obtain ⟨its, rv, ht, _⟩ := I.tuple h
    obtain ⟨u, y, ei, ru, ry⟩ := vals2 rv
    subst ei
    have eu : u = Value.ref b := ru
    subst eu
    refine ⟨(kv.1, b, y) :: qs, .cons ⟨rfl, hb, ry⟩ r, by rw [List.length_cons, List.length_cons, hl], fun j q e => ?_⟩
    cases j with
    | zero =>
      have e' : (kv.1, b, y) = q := Option.some.inj e
      subst e'
      exact ⟨p, rfl, ht⟩
    | succ j =>
      obtain ⟨p', e1, e2⟩ := hp j q (by simpa using e)
      exact ⟨p', by simpa using e1, e2⟩
/-- dict(xs) of a list of pairs (a tuple of ints and texts, a value): later pairs win, the place is the first one's -/
theorem call_dictT (hcalm : X.calm = true) (hu : X.A.units + 64 < cLine) : CallR X (.type "dict") (fun xs H Q => ∃ (a : Addr) (ps : List Addr) (kvs : List (List L2.Key × V)), xs = [.ref a] ∧ SqL X.K H a (ps.map V.ref) ∧ Paired (fun (p : Addr) (kv : List L2.Key × V) => ∃ b, SqT X.K H p [.ref b, kv.2] ∧ H b = some (.tup (kv.1.map kV))) ps kvs ∧
    ∀ p, H p = none → Q (.ref p) (upd H p (.dT (mergeT [] kvs)))) := by
  intro pins s σ H xs us Q I r q
  obtain ⟨a, ps, kvs, ex, hq, hp, q⟩ := q
  subst ex
  obtain ⟨u, eu, rx⟩ := vals1 r
  subst eu
  cases rx
  obtain ⟨its, rv, pl, hz⟩ := I.list hq
  have ei := refs_at rv
  subst ei
  rw [List.length_map] at hz
  obtain ⟨qs, rel, hl, hpr⟩ := pairsT_of I hp
  obtain ⟨o, n, ho, hc, hd, hdat⟩ := pl
  have keys : ∀ h' : Heap, (∀ b o, s.heap.get? b = some o → h'.get? b = some o) → ∀ {l : List (List L2.Key × V)} {m : List (List L2.Key × Addr × Value)}, KT H l m → ∀ x ∈ m, (tupleKind (mixKind X.prog X.w)).is h' x.1 x.2.1 := by
    intro h' k l m r
    induction r with
    | nil => intro x hx; exact nomatch hx
    | @cons p q ps qs hq t ih =>
      intro x hx
      rcases List.mem_cons.mp hx with e | hx
      · subst e
        exact key_of (I.hok.kept k) (by rw [← hq.1]; exact hq.2.1)
      · exact ih x hx
  refine PySem.call_dict_pairsH (knd := tupleKind (mixKind X.prog X.w)) (ps := qs) (PairArg.list a (ps.map Value.ref).toArray (fun j => ps.getD j 0) (qs.map fun q => (.ref q.2.1, q.2.2))) (I.ok.hd hcalm) ?_ ?_ ?_ ?_ ?_ fun h' tk hd' k => ?_
  · show X.A.in1.in1.units < cLine
    have : X.A.in1.in1.units = X.A.units + 2 := rfl
    omega
  · refine ⟨⟨o, n, ho, hc, hd, hdat⟩, by simp [hl], fun j key v e => ?_⟩
    rw [List.getElem?_map] at e
    cases eq_ : qs[j]? with
    | none => rw [eq_] at e; cases e
    | some q0 =>
      rw [eq_] at e
      obtain ⟨rfl, rfl⟩ := Prod.mk.inj (Option.some.inj e)
      obtain ⟨p, e1, e2⟩ := hpr j q0 eq_
      have eg : ps.getD j 0 = p := by rw [List.getD_eq_getElem?_getD, e1]; rfl
      refine ⟨?_, .inl ?_⟩
      · show (ps.map Value.ref).toArray[j]? = some (Value.ref (ps.getD j 0))
        rw [eg]
        simp [e1]
      · show s.heap.IsTuple (ps.getD j 0) _
        rw [eg]
        exact e2
  · refine ⟨by simp, fun i key v e => ?_⟩
    have e : (qs.map fun q => (Value.ref q.2.1, q.2.2))[i]? = some (key, v) := e
    rw [List.getElem?_map] at e
    cases eq_ : qs[i]? with
    | none => rw [eq_] at e; cases e
    | some q0 =>
      rw [eq_] at e
      obtain ⟨rfl, rfl⟩ := Prod.mk.inj (Option.some.inj e)
      exact ⟨_, _, rfl, rfl⟩
  · intro h' k x hx
    exact keys h' (fun b o e => k b o (Nat.ne_of_lt (Heap.lt_size e)) (by simp) e) rel x hx
  · rw [List.length_map, hl]
    exact hz
  · have hm : (s.heap.objs.size == sysModules) = false := beq_eq_false_iff_ne.mpr (Nat.ne_of_gt I.big)
    have nS : H s.heap.objs.size = none := I.hok.fresh (Nat.le_refl _)
    have rel2 : KT H (mergeT [] kvs) (storedAllH [] qs) := KT_merge rel .nil
    have hlen : (mergeT [] kvs).length ≤ sizeLine := by
      have h1 := rel2.length
      have h2 := storedAllH_length qs []
      simp only [List.length_nil, Nat.zero_add] at h2
      omega
    obtain ⟨o', es, ep, h1, h2, h3, h4, h5, h6⟩ := hd'
    refine ⟨.ref s.heap.objs.size, upd H s.heap.objs.size (.dT (mergeT [] kvs)), I.laid (t' := tk) (fun b u e => k b u (by simp) e) (Nat.le_refl _) (show ObjOk X.prog X.w _ _ _ (.dT (mergeT [] kvs)) from ⟨hlen, hm, storedAllH [] qs, rel2.keeps fun b ys e => by rw [upd_ne (ne_of_none e nS)]; exact e, o', es, ep, h1, h2, h3, h4, h6⟩), rfl, q _ nS⟩
end
end LG
set_option Elab.async false
set_option linter.all false
set_option maxRecDepth 100000
set_option maxHeartbeats 4000000
/-! list(d.items()), the keys tuples. -/
namespace LG
open PySem PySem.Spec PyProof.Rows L2
/-- the pairs tracked at their addresses -/
def putP : Hp → List Addr → List (Addr × V) → Hp
  | H, a :: as, p :: ps => putP (upd H a (.tup [.ref p.1, p.2])) as ps
  | H, _, _ => H
theorem putP_off {b : Addr} : ∀ (as : List Addr) (ps : List (Addr × V)) (H : Hp), b ∉ as → putP H as ps b = H b
  | [], _, _, _ => rfl
  | _ :: _, [], _, _ => rfl
  | a :: as, p :: ps, H, h => by
    show putP (upd H a (.tup [.ref p.1, p.2])) as ps b = H b
    rw [putP_off as ps _ (fun z => h (List.mem_cons_of_mem _ z)), upd_ne (fun z => h (by rw [z]; exact List.mem_cons_self))]
theorem putP_at : ∀ (as : List Addr) (ps : List (Addr × V)) (H : Hp), as.length = ps.length → as.Nodup → Paired (fun (t : Addr) (p : Addr × V) => putP H as ps t = some (.tup [.ref p.1, p.2])) as ps
  | [], [], _, _, _ => .nil
  | [], _ :: _, _, h, _ => by cases h
  | _ :: _, [], _, h, _ => by cases h
  | a :: as, p :: ps, H, h, hn => by
    have hn' := List.nodup_cons.mp hn
    have ih := putP_at as ps (upd H a (.tup [.ref p.1, p.2])) (Nat.succ.inj h) hn'.2
    refine .cons ?_ ih
    show putP (upd H a (.tup [.ref p.1, p.2])) as ps a = some (.tup [.ref p.1, p.2])
    rw [putP_off as ps _ hn'.1, upd_same]
theorem kt_prs {H : Hp} {kvs : List (List L2.Key × V)} {xs : List (List L2.Key × Addr × Value)} (h : KT H kvs xs) : ∃ ps : List (Addr × V), ps.length = xs.length ∧ Paired (fun (p : Addr × V) (kv : List L2.Key × V) => p.2 = kv.2 ∧ H p.1 = some (.tup (kv.1.map kV))) ps kvs ∧
    ∀ (j : Nat) (p : Addr × V), ps[j]? = some p → ∃ x : List L2.Key × Addr × Value, xs[j]? = some x ∧ x.2.1 = p.1 ∧ RelV p.2 x.2.2 := by
  induction h with
  | nil => exact ⟨[], rfl, .nil, fun j p e => by simp at e⟩
  | @cons kv x kvs xs hq t ih =>
    obtain ⟨ps, h1, h2, h3⟩ := ih
    obtain ⟨e1, e2, e3⟩ := hq
    refine ⟨(x.2.1, kv.2) :: ps, by rw [List.length_cons, List.length_cons, h1], .cons ⟨rfl, e2⟩ h2, fun j p e => ?_⟩
    cases j with
    | zero =>
      have e' : (x.2.1, kv.2) = p := Option.some.inj e
      subst e'
      exact ⟨x, rfl, rfl, e3⟩
    | succ j =>
      obtain ⟨y, g1, g2⟩ := h3 j p (by simpa using e)
      exact ⟨y, by simpa using g1, g2⟩
theorem paired_map {α β γ : Type} {F : α → β → Prop} {G : β → γ → Prop} {K : α → γ → Prop} (k : ∀ a b c, F a b → G b c → K a c) : ∀ {as : List α} {bs : List β} {cs : List γ}, Paired F as bs → Paired G bs cs → Paired K as cs
  | _, _, _, .nil, .nil => .nil
  | _, _, _, .cons h1 t1, .cons h2 t2 => .cons (k _ _ _ h1 h2) (paired_map k t1 t2)
section
variable {X : Cx} {pins : List (Addr × Obj)} {σ : L2.St} {H : Hp} {s : Shared}
theorem itemsT_laid {h' : Heap} {tk : Nat} {ps : List (Addr × V)} {es : Array DictEntry} {acc : Array Value} {c : Nat} {as : List Addr} (I : Inv X pins σ H s) (hz : ps.length ≤ sizeLine) (hps : ps.length = es.size) (hp : ∀ (j : Nat) (p : Addr × V), ps[j]? = some p → ∃ e : DictEntry, es[j]? = some e ∧ e.key = .ref p.1 ∧ RelV p.2 e.val)
    (hk : ∀ b o, s.heap.get? b = some o → h'.get? b = some o) (hS : h'.get? s.heap.objs.size = some { cls := .type "list", dict := none, data := .seq acc c, slots := #[] }) (hl : as.length = es.size) (hG : PySem.W.DilG es s.heap.objs.size h' as) (hacc : acc.toList = as.map Value.ref) :
    ∃ H' : Hp, (∀ b o, H b = some o → H' b = some o) ∧ H s.heap.objs.size = none ∧ (∀ t ∈ as, H t = none) ∧ s.heap.objs.size ∉ as ∧ H' s.heap.objs.size = some (.lst (as.map V.ref)) ∧ Paired (fun (t : Addr) (p : Addr × V) => H' t = some (.tup [.ref p.1, p.2])) as ps ∧ Inv X pins σ H' { s with heap := h', toks := tk } := by
  have hSn : s.heap.objs.size ∉ as := fun z => Nat.lt_irrefl _ (hG.above _ z)
  have nd : as.Nodup := List.Pairwise.imp (fun {a b} (h : a < b) => Nat.ne_of_lt h) hG.rise
  have new : ∀ t ∈ as, H t = none := fun t ht => I.hok.fresh (Nat.le_of_lt (hG.above t ht))
  have newS : H s.heap.objs.size = none := I.hok.fresh (Nat.le_refl _)
  have atP := putP_at as ps (upd H s.heap.objs.size (.lst (as.map V.ref))) (by omega) nd
  have off : ∀ b, b ∉ as → b ≠ s.heap.objs.size → putP (upd H s.heap.objs.size (.lst (as.map V.ref))) as ps b = H b := fun b h1 h2 => by rw [putP_off as ps _ h1, upd_ne h2]
  have low : ∀ b o, s.heap.get? b = some o → b ∉ as ∧ b ≠ s.heap.objs.size := fun b o e => ⟨fun z => absurd (Heap.lt_size e) (Nat.not_lt.mpr (Nat.le_of_lt (hG.above b z))), Nat.ne_of_lt (Heap.lt_size e)⟩
  have kp : ∀ b u, H b = some u → (putP (upd H s.heap.objs.size (.lst (as.map V.ref))) as ps) b = some u := fun b u e => by
    rw [off b (fun z => by rw [new b z] at e; cases e) (fun z => by rw [z, newS] at e; cases e)]
    exact e
  have eS : putP (upd H s.heap.objs.size (.lst (as.map V.ref))) as ps s.heap.objs.size = some (.lst (as.map V.ref)) := by rw [putP_off as ps _ hSn, upd_same]
  refine ⟨putP (upd H s.heap.objs.size (.lst (as.map V.ref))) as ps, kp, newS, new, hSn, eS, atP, ?_⟩
  refine I.call' (ch := []) rfl ⟨fun b o q _ _ _ => hk b o q, fun b o q _ _ _ => ⟨o.slots, hk b o q⟩, fun b o q n _ => ?_, fun b o q _ => ⟨o, hk b o q⟩, fun b xs q => kp b _ q, fun b o u q => kp b _ q, fun b ps q => ⟨#[], by rw [kp b _ q]; simp⟩⟩ (fun b u q => ?_) I.bare fun b z => by simp at z
  · obtain ⟨z1, z2⟩ := low b o q
    rw [off b z1 z2]
    exact n
  · by_cases hb : b ∈ as
    · obtain ⟨j, pk, e1, e2, e3⟩ := LiI.paired_ix atP hb
      rw [e3] at q
      cases q
      obtain ⟨hj, f3⟩ := hG.pairs j b e1
      obtain ⟨en, g1, g2, g3⟩ := hp j pk e2
      have ge : es[j] = en := by
        rw [Array.getElem?_eq_getElem hj] at g1
        exact Option.some.inj g1
      rw [ge] at f3
      exact ⟨by show 2 ≤ sizeLine; decide, [en.key, en.val], .cons g2 (.cons g3 .nil), ⟨_, f3, rfl, _, rfl⟩⟩
    · by_cases hb2 : b = s.heap.objs.size
      · rw [hb2] at q ⊢
        rw [eS] at q
        cases q
        refine ⟨by rw [List.length_map]; omega, acc.toList, c, by rw [hacc]; exact LiI.vals_refs as, ?_⟩
        rw [Array.toArray_toList]
        exact hS
      · rw [off b hb hb2] at q
        exact (I.hok b u q).stay (fun d v _ y => hk d v y) (fun d y => kp d _ y) fun d xs y => kp d _ y
theorem dt_both {d : Addr} {kvs : List (List L2.Key × V)} (I : Inv X pins σ H s) (h : H d = some (.dT kvs)) : kvs.length ≤ sizeLine ∧ (d == sysModules) = false ∧ ∃ (es : Array DictEntry) (ep : Nat) (ps : List (Addr × V)), s.heap.DictRaw d es ep ∧ ps.length = es.size ∧ ps.length = kvs.length ∧
    Paired (fun (p : Addr × V) (kv : List L2.Key × V) => p.2 = kv.2 ∧ H p.1 = some (.tup (kv.1.map kV))) ps kvs ∧ ∀ (j : Nat) (p : Addr × V), ps[j]? = some p → ∃ e : DictEntry, es[j]? = some e ∧ e.key = .ref p.1 ∧ RelV p.2 e.val := by
  obtain ⟨z, hs, xs, pr, o', es, ep, ho, hx, hdt, he, _⟩ := I.hok d _ h
  obtain ⟨ps, h1, h2, h3⟩ := kt_prs pr
  have l1 : es.size = xs.length := size_of_entries he
  have l2 : kvs.length = xs.length := Paired.length pr
  refine ⟨z, hs, es, ep, ps, ⟨o', ho, hx, hdt⟩, by omega, by omega, h2, fun j p e => ?_⟩
  obtain ⟨x, g1, g2, g3⟩ := h3 j p e
  have q := entry_at he j
  rw [g1] at q
  exact ⟨_, q, by show Value.ref x.2.1 = _; rw [g2], g3⟩
def tListItemsT (te : TE) : TE := fun σ H Q => te σ H fun x H1 => ∃ (d : Addr) (kvs : List (List L2.Key × V)), x = .ref d ∧ H1 d = some (.dT kvs) ∧
  ∀ (H' : Hp) (p : Addr) (ts : List Addr), (∀ b o, H1 b = some o → H' b = some o) → H1 p = none → (∀ t ∈ ts, H1 t = none) → p ∉ ts → H' p = some (.lst (ts.map V.ref)) →
    Paired (fun (t : Addr) (q : List L2.Key × V) => ∃ b, H' t = some (.tup [.ref b, q.2]) ∧ H' b = some (.tup (q.1.map kV))) ts kvs → Q (.ref p) H'
/-- list(e.items()) -/
theorem pe_listItemsT {e : Expr} {te : TE} {p apos cpos pos : Pos} (hc : X.calm = true) (he : PE X e te) (hg : Gl X "list") (hm : X.mg "list" = none) (hv : bootBuiltins "list" = some (.type "list")) (hbase : attributeBase e "items" X.env (eval e X.env) = eval e X.env := by rfl) (hline : (apos.endLine == cpos.line) = true := by rfl)
    (hs : starEach [.Call (.Attribute e "items" apos) [] [] cpos] X.env = (false, eval (.Call (.Attribute e "items" apos) [] [] cpos) X.env) :: starEach [] X.env := by rfl) :
    PE X (.Call (.Name "list" p) [.Call (.Attribute e "items" apos) [] [] cpos] [] pos) (tListItemsT te) := by
  refine ⟨fun pins s σ H Q I hq => ?_⟩
  refine wpAny_Call_Name_kw (ld_blt I hg hm hv ?_)
  refine PyProof.Rows.callWith_type1 ?_ hs rfl
  rw [hs]
  show wpAny _ _ (spliced ((false, eval (.Call (.Attribute e "items" apos) [] [] cpos) X.env) :: backTo pos (starEach [] X.env))) _ _ s
  refine Calls.spliced_cons ?_
  refine wpAny_Call_method (T := "dict") (id := "dict.items") hbase rfl hline F.plainAttrs_dict F.slot_dict_items F.type_dict_items (thn (he.run pins s σ H _ I hq) fun u s1 ⟨x, H1, I1, rx, d, kvs, ex, hd, q⟩ => ?_)
  subst ex
  have eu : u = Value.ref d := rx
  subst eu
  obtain ⟨hz, hs0, es, ep, ps, raw, l1, l2, pr, hp⟩ := dt_both I1 hd
  have there : ∃ ob, s1.heap.get? d = some ob ∧ ob.ExactDict := by
    obtain ⟨ob, h1, h2, _⟩ := raw
    exact ⟨ob, h1, h2⟩
  obtain ⟨ob, hob, hex⟩ := there
  have I2 : Inv X pins σ H1 { s1 with heap := s1.heap.push { cls := .type "dict_items", data := .fields #[.ref d] } } := I1.kept (t' := s1.toks) fun b ob q => Heap.get?_push_of_some _ q
  have raw2 : (s1.heap.push { cls := .type "dict_items", data := .fields #[.ref d] }).DictRaw d es ep := by
    obtain ⟨ob, h1, h2⟩ := raw
    exact ⟨ob, Heap.get?_push_of_some _ h1, h2⟩
  refine ⟨⟨ob, hob, hex.1⟩, fun a ea => ⟨ob, by cases ea; exact hob, hex.2.1⟩, ?_⟩
  show wpAny _ _ (callWith cpos (.builtin "dict.items") [.ref d] [] []) _ X.xe s1
  refine method_meetsIn F.slot_dict_items F.entry_dict_items rfl (PySem.evalArgs_none ⟨rfl, ⟨ob, hob, hex.1⟩, F.args_dict_items_1 _, _, meets_dict_items_raw d hs0, ⟨es, ep, raw⟩, ?_⟩)
  refine Calls.spliced_nil ?_
  refine PySem.W.dil_call (es := es) (ep := ep) (d := d) (I1.ok.hd hc) ⟨_, Heap.get?_push_size _ rfl, rfl, rfl⟩ raw2 (by omega) fun h' tk acc c as hk hS hl hG hacc => ?_
  obtain ⟨H', k1, k2, k3, k4, k5, k6, J⟩ := itemsT_laid (tk := tk) I2 (by omega) l1 hp hk hS hl hG hacc
  exact ⟨.ref _, H', J, rfl, q H' _ as k1 k2 k3 k4 k5 (paired_map (fun t p kv a b => ⟨p.1, by rw [← b.1]; exact a, k1 _ _ b.2⟩) k6 pr)⟩
end
end LG
set_option Elab.async false
set_option linter.all false
set_option maxRecDepth 100000
set_option maxHeartbeats 16000000
namespace LG
open PySem L2
theorem GR.keys {K : PySem.W.Frag} {H : Hp} {kvs : List (List Key × V)} {g : Goals} (h : GR K H kvs g) : kvs.map (·.1) = g.map fun e => kT e.1 := by
  induction h with
  | nil => rfl
  | cons _ _ ih => rw [List.map_cons, List.map_cons, ih]
theorem GR.put {K : PySem.W.Frag} {H : Hp} {kvs : List (List Key × V)} {g : Goals} {k0 f0 : Str × Str} {t : Addr} (h : GR K H kvs g) (hk : k0 ∈ g.map (·.1)) (a : SqT K H t [.str f0.1, .str f0.2]) : GR K H (putK kvs (kT k0) (.ref t)) (g.map fun e => if e.1 = k0 then (k0, f0) else e) := by
  have any : (kvs.any fun kv => decide (kv.1 = kT k0)) = true := by
    rw [List.any_eq_true]
    obtain ⟨e, he, e1⟩ := List.mem_map.mp hk
    have : kT k0 ∈ kvs.map (·.1) := by
      rw [h.keys]
      exact List.mem_map.mpr ⟨e, he, by rw [e1]⟩
    obtain ⟨kv, hkv, e2⟩ := List.mem_map.mp this
    exact ⟨kv, hkv, decide_eq_true e2⟩
  unfold putK
  rw [if_pos any]
  clear any hk
  induction h with
  | nil => exact .nil
  | @cons k x t' kvs g b _ ih =>
    rw [List.map_cons, List.map_cons]
    by_cases e : k = k0
    · subst e
      rw [if_pos rfl, if_pos rfl]
      exact .cons a ih
    · rw [if_neg (fun z => e (kT_inj.mp z)), if_neg e]
      exact .cons b ih
/-- all but these places stay -/
def Off (L : List Addr) (H H' : Hp) : Prop := ∀ b o, H b = some o → b ∉ L → H' b = some o
theorem GR.off {K : PySem.W.Frag} {L : List Addr} {H H' : Hp} {kvs : List (List Key × V)} {g : Goals} (hL : ∀ e ∈ L, ∀ xs, H e ≠ some (.tup xs) ∧ ∀ ob, H e ≠ some (.frz ob (.tup xs))) (e : Off L H H') (h : GR K H kvs g) : GR K H' kvs g := by
  induction h with
  | nil => exact .nil
  | cons a _ ih =>
    refine .cons ?_ ih
    rcases a with (q | ⟨ob, q⟩) | q
    · exact .inl (.inl (e _ _ q fun m => (hL _ m _).1 q))
    · exact .inl (.inr ⟨ob, e _ _ q fun m => (hL _ m _).2 ob q⟩)
    · exact .inr q
theorem no_tup {H : Hp} {r : Addr} {kvs : List (List Key × V)} (h : H r = some (.dT kvs)) : ∀ e ∈ [r], ∀ xs, H e ≠ some (.tup xs) ∧ ∀ ob, H e ≠ some (.frz ob (.tup xs)) := by
  intro e he xs
  rw [List.mem_singleton.mp he, h]
  exact ⟨(fun z => nomatch z), fun ob z => nomatch z⟩
theorem idx_str {ns : List Str} (nd : ns.Nodup) {x : Str} (h : x ∈ ns) : ∃ j, j < ns.length ∧ ns[j]? = some x ∧ ∀ (m : Nat) (z : V), m < j → (ns.map V.str)[m]? = some z → eqV z (.str x) = false := by
  obtain ⟨j, hj⟩ := List.getElem?_of_mem h
  refine ⟨j, (List.getElem?_eq_some_iff.mp hj).1, hj, fun m z hm hz => ?_⟩
  rw [List.getElem?_map] at hz
  cases e : ns[m]? with
  | none => rw [e] at hz; cases hz
  | some y =>
    rw [e] at hz
    cases hz
    show (y == x) = false
    obtain ⟨a1, a2⟩ := List.getElem?_eq_some_iff.mp e
    obtain ⟨b1, b2⟩ := List.getElem?_eq_some_iff.mp hj
    have ne : y ≠ x := fun z => by
      rw [← a2, ← b2] at z
      have := (List.getElem_inj nd).mp z
      omega
    simpa using ne
end LG
set_option Elab.async false
set_option linter.all false
set_option maxRecDepth 100000
set_option maxHeartbeats 16000000
/-! A version of an own device: some rows otherwise. -/
namespace LG
open PySem L2
theorem merge_new : ∀ (kvs acc : List (List Key × V)), ((acc ++ kvs).map (·.1)).Nodup → mergeT acc kvs = acc ++ kvs
  | [], acc, _ => by rw [List.append_nil]; rfl
  | p :: r, acc, nd => by
    have e : putK acc p.1 p.2 = acc ++ [p] := by
      unfold putK
      rw [if_neg]
      rw [List.any_eq_true]
      rintro ⟨kv, hkv, e⟩
      rw [List.map_append, List.map_cons] at nd
      exact (List.nodup_append.mp nd).2.2 kv.1 (List.mem_map.mpr ⟨kv, hkv, rfl⟩) p.1 List.mem_cons_self (of_decide_eq_true e)
    show mergeT (putK acc p.1 p.2) r = _
    rw [e, merge_new r (acc ++ [p]) (by rw [List.append_assoc]; exact nd), List.append_assoc]
    rfl
theorem GR.merged {K : PySem.W.Frag} {H : Hp} {kvs : List (List Key × V)} {g : Goals} (h : GR K H kvs g) (nd : (g.map (·.1)).Nodup) : mergeT [] kvs = kvs := by
  have := merge_new kvs [] (by
    rw [List.nil_append, h.keys]
    unfold List.Nodup at nd ⊢
    rw [List.pairwise_map] at nd ⊢
    exact nd.imp fun ne z => ne (kT_inj.mp z))
  rw [this, List.nil_append]
def turG (g : Goals) (k0 f0 : Str × Str) : Goals := g.map fun e => if e.1 = k0 then (k0, f0) else e
theorem turG_keys (g : Goals) (k0 f0 : Str × Str) : (turG g k0 f0).map (·.1) = g.map (·.1) := by
  unfold turG
  rw [List.map_map]
  refine List.map_congr_left fun e _ => ?_
  show (if e.1 = k0 then (k0, f0) else e).1 = e.1
  by_cases z : e.1 = k0
  · rw [if_pos z, z]
  · rw [if_neg z]
end LG
namespace K51
open PySem L2 LG
section
variable {P : Program} {w : World} {K : PySem.W.Frag} {mg : Str → Option Value} {base : Heap} {fI C : Addr}
def spLike (K : PySem.W.Frag) : Sp := fun vs H Q _ => ∃ (p o : Addr) (b : Nat) (D : Dev), vs = [.ref p, .ref o] ∧ PotAt H p b ∧ b ≤ 70000 ∧ OwnAt K (mk p H) o D ∧ Drawn D ∧
  ∀ (o2 : Addr) (D2 : Dev) (H' : Hp), But p H H' → (∃ B, PotAt H' p B ∧ B ≤ b + 60) → Drawn D2 → sameD D D2 = true → OwnAt K (mk p H') o2 D2 → Q (.ref o2) H'
abbrev nLk : List Str := ["_law_pot_here", "_law_device_here", "_law_found", "_law_many", "_law_key"]
theorem scLk : FnScope nLk ["_law_pot_here", "_law_device_here"] (defScope sLike) := ⟨rfl, rfl, rfl, by decide +kernel, rfl, by decide +kernel, by decide +kernel⟩
/-- how many rows: all, or none to two -/
def tMany (K : PySem.W.Frag) : TE := fun σ H Q => ∃ (p o r : Addr) (b n : Nat) (kvs : List (List Key × V)), σ[0]? = some (some (.ref p)) ∧ σ[1]? = some (some (.ref o)) ∧ (∀ G, But p H G → DGet G o (.str "rows") (some (.ref r))) ∧ (∀ G, But p H G → G r = some (.dT kvs)) ∧ kvs.length ≤ 12 ∧ PotAt H p b ∧ b ≤ 90000 ∧
  ∀ (m : Nat) (H' : Hp), But p H H' → (∃ B, PotAt H' p B ∧ B ≤ b + 2) → Q (.int (m : Nat)) H'
theorem ite_any {c : Bool} {A B : Prop} (a : A) (b : B) : if c = true then A else B := by
  cases c
  · exact b
  · exact a
theorem ok_like {f g1 g2 g3 : Addr} {fd gd1 gd2 gd3 : FuncData} (F : Fun K "_law_like" "_law_like" sLike f fd) (T : Bltn mg) (mD : mg "dict" = none)
    (GT : FnOk P w K mg base CX0 1 g1 gd1 ["_law_pot_here", "_law_upto"] spTake) (mT : mg "_law_take" = some (.ref g1)) (kT_ : PySem.W.keepIn K (.ref g1) = true) (bT : Binds K gd1 ["_law_pot_here", "_law_upto"] [])
    (GO : FnOk P w K mg base CX0 2 g2 gd2 ["_law_pot_here", "_law_some_here"] (spOf K)) (mO : mg "_law_of" = some (.ref g2)) (kO : PySem.W.keepIn K (.ref g2) = true) (bO : Binds K gd2 ["_law_pot_here", "_law_some_here"] [])
    (GS : FnOk P w K mg base CX0 2 g3 gd3 ["_law_pot_here", "_law_pool", "_law_many"] (spSome K)) (mS : mg "_law_some" = some (.ref g3)) (kS : PySem.W.keepIn K (.ref g3) = true) (bS : Binds K gd3 ["_law_pot_here", "_law_pool", "_law_many"] []) :
    FnOk P w K mg base CX0 3 f fd ["_law_pot_here", "_law_device_here"] (spLike K) := by
  refine F.ok scLk (fun vs H Q E h => ?_) (fun cdv A0 outer st H vs Q E hr h => ?_)
  · obtain ⟨p, o, b, D, rfl, _⟩ := h
    rfl
  obtain ⟨p, o, b, D, rfl, hp, hb, hO, dr, q⟩ := h
  have hu := hu_of hr
  have r1 : Room 1 _ := hr.mono (by decide)
  refine' ⟨_, pss_cons ?cp (pss_cons ?rows (pss_cons ?many (pss_cons (ps_for PassesOwn.never rfl (pi_list ?keys) (pg_name (i := 4) scLk.nd rfl (Or.inl rfl)) (pss_one ?put)) (pss_one (ps_ret (pv 2)))))), ?main⟩
  case cp => exact ps_set (i := 2) scLk.nd rfl (Or.inl rfl) (pe_callTy (call_dictP rfl) rfl mD (by decide +kernel) (pa_cons (LiI.pe_listItems rfl (pv 1) rfl T.list (by decide +kernel)) pa_nil))
  case rows => exact ps_dput hu (pv 2) pe_str (pe_callTy (call_dictT rfl hr.units) rfl mD (by decide +kernel) (pa_cons (pe_listItemsT rfl (pe_dget hu (pv 1) pe_str (fun _ _ => rfl)) rfl T.list (by decide +kernel)) pa_nil)) rfl
  case many =>
    refine' ps_set (i := 3) scLk.nd rfl (Or.inl rfl) (pe_imp (t' := tMany K) (pe_ifExp (pt_cmpR op_eq (pe_call GT r1 rfl mT kT_ bT .nil pass0 (pa_cons (pv 0) (pa_cons pe_int pa_nil))) pe_int (nomark _)) (pe_callB call_len_dT rfl T.len PySem.boot_len (pa_cons (pe_dget hu (pv 1) pe_str (fun _ _ => rfl)) pa_nil))
      (pe_call GO hr rfl mO kO bO .nil pass0 (pa_cons (pv 0) (pa_cons (pe_lst (pa_cons pe_int (pa_cons pe_int (pa_cons pe_int (pa_cons pe_int pa_nil))))) pa_nil)))) ?_)
    rintro σ H Q ⟨p, o, r, b, n, kvs, e0, e1, hg, hr0, l12, hp, hb, k⟩
    refine ⟨_, e0, p, 3, b, rfl, hp, by omega, by decide, by decide, fun y H1 y0 y3 but pot => ⟨rfl, _, rfl, ite_any ?_ ?_⟩⟩
    · exact ⟨_, e1, o, _, rfl, hg _ but, r, kvs, rfl, hr0 _ but, k kvs.length H1 but ⟨_, pot, by omega⟩⟩
    · refine ⟨_, e0, (by show 4 ≤ sizeLine; decide), fun l nl => ?_⟩
      have u1 := same_new nl (.lst [.int 0, .int 1, .int 1, .int 2])
      refine ⟨p, l, _, b + 1, rfl, pot.same u1, by omega, SqL.of upd_same, by decide, by decide, fun z => pot.there (by rw [← z]; exact nl), fun x H2 hx but2 pot2 => ?_⟩
      obtain ⟨m, rfl⟩ : ∃ m : Nat, x = .int (m : Nat) := by
        simp only [List.mem_cons, List.not_mem_nil, or_false] at hx
        rcases hx with rfl | rfl | rfl | rfl
        · exact ⟨0, rfl⟩
        · exact ⟨1, rfl⟩
        · exact ⟨1, rfl⟩
        · exact ⟨2, rfl⟩
      exact k m H2 ((but.trans (But.of u1)).trans but2) ⟨_, pot2, by omega⟩
  case keys =>
    exact pe_call GS hr rfl mS kS bS .nil pass0 (pa_cons (pv 0) (pa_cons (pe_callTy (call_list_dT rfl) rfl T.list (by decide +kernel) (pa_cons (pe_dget hu (pv 1) pe_str (fun _ _ => rfl)) pa_nil)) (pa_cons (pe_callB (call_min2 rfl) rfl T.min (by decide +kernel) (pa_cons (pv 3) (pa_cons (pe_callB call_len_dT rfl T.len PySem.boot_len (pa_cons (pe_dget hu (pv 1) pe_str (fun _ _ => rfl)) pa_nil)) pa_nil))) pa_nil)))
  case put =>
    exact ps_dput hu (pe_dget hu (pv 2) pe_str (fun _ _ => rfl)) (pv 4) (pe_tup (pa_cons (pe_call GO hr rfl mO kO bO .nil pass0 (pa_cons (pv 0) (pa_cons (pe_dget hu (pv 1) pe_str (fun _ _ => rfl)) pa_nil))) (pa_cons (pe_call GO hr rfl mO kO bO .nil pass0 (pa_cons (pv 0) (pa_cons (pe_dget hu (pv 1) pe_str (fun _ _ => rfl)) pa_nil))) pa_nil))) rfl
  case main =>
    obtain ⟨c, a, s, r, kvs, h1, h2, h3, h4, h5, h6⟩ := hO.ex
    obtain ⟨npo, h1⟩ := mk_some h1
    obtain ⟨npc, h2⟩ := mk_some h2
    obtain ⟨npa, h3⟩ := mk_some h3
    obtain ⟨nps, h4⟩ := mk_some h4
    obtain ⟨npr, h5⟩ := mk_some h5
    have h6 : GR K H kvs D.goals := h6.same (mk_self p H)
    have c1 := dr.c1
    have a1 := dr.a1
    have s1 := dr.s1
    have sz := sizeLine_eq
    have kNd : (D.goals.map (·.1)).Nodup := by
      rw [dr.keys]
      exact prod_nodup dr.sn dr.cn
    have g12 : D.goals.length ≤ 12 := by
      have e := congrArg List.length dr.keys
      rw [List.length_map, prod_len] at e
      have := Nat.mul_le_mul s1.2 c1.2
      omega
    have lkv := h6.len
    have dK := fun (x : Str) (G : Hp) (e : G o = some (.dK [(.inr ("calls" : Str), .ref c), (.inr ("answers" : Str), .ref a), (.inr ("states" : Str), .ref s), (.inr ("rows" : Str), .ref r)])) => DGet.k (k := Sum.inr x) e
    -- the device's dict, copied
    refine ⟨_, rfl, o, _, rfl, h1, fun H1 pl ts e1 _ _ _ hpl prs => ?_⟩
    have t1 : Same H H1 := e1
    refine ⟨pl, ts, _, rfl, SqL.of hpl, PySem.Paired.mono (fun _ _ e => .inl (.inl e)) prs, fun fo nfo => ?_⟩
    have em : mergeK [] [((.inr ("calls" : Str) : Key), V.ref c), (.inr ("answers" : Str), .ref a), (.inr ("states" : Str), .ref s), (.inr ("rows" : Str), .ref r)] = [((.inr ("calls" : Str) : Key), V.ref c), (.inr ("answers" : Str), .ref a), (.inr ("states" : Str), .ref s), (.inr ("rows" : Str), .ref r)] := by rfl
    rw [em]
    have u1 := same_new nfo (.dK [((.inr ("calls" : Str) : Key), V.ref c), (.inr ("answers" : Str), .ref a), (.inr ("states" : Str), .ref s), (.inr ("rows" : Str), .ref r)])
    have hfo : (upd H1 fo (.dK [((.inr ("calls" : Str) : Key), V.ref c), (.inr ("answers" : Str), .ref a), (.inr ("states" : Str), .ref s), (.inr ("rows" : Str), .ref r)])) fo = some (.dK [((.inr ("calls" : Str) : Key), V.ref c), (.inr ("answers" : Str), .ref a), (.inr ("states" : Str), .ref s), (.inr ("rows" : Str), .ref r)]) := upd_same
    have nfoH : H fo = none := t1.free nfo
    have t2 := t1.trans u1
    show _
    generalize upd H1 fo (.dK [((.inr ("calls" : Str) : Key), V.ref c), (.inr ("answers" : Str), .ref a), (.inr ("states" : Str), .ref s), (.inr ("rows" : Str), .ref r)]) = H2 at u1 hfo t2 ⊢
    clear u1 hpl prs e1 t1 nfo
    -- its rows, copied
    refine ⟨_, rfl, o, _, rfl, dK "rows" H2 (t2 _ _ h1), r, kvs, rfl, t2 _ _ h5, fun H3 pl2 ts2 e3 _ _ _ hpl2 prs2 => ?_⟩
    have t3 : Same H2 H3 := e3
    have prs3 : PySem.Paired (fun (t : Addr) (kv : List Key × V) => ∃ b, SqT K H3 t [.ref b, kv.2] ∧ H3 b = some (.tup (kv.1.map L2.kV))) ts2 kvs := PySem.Paired.mono (fun _ _ ⟨b, e1, e2⟩ => ⟨b, .inl (.inl e1), e2⟩) prs2
    refine ⟨pl2, ts2, kvs, rfl, SqL.of hpl2, prs3, fun rr nrr0 => ?_⟩
    rw [h6.merged kNd]
    have u4 := same_new nrr0 (.dT kvs)
    have hrr : (upd H3 rr (.dT kvs)) rr = some (.dT kvs) := upd_same
    have nrrH : H rr = none := (t2.trans t3).free nrr0
    have t4 := t2.trans (t3.trans u4)
    have hfo4 := u4 _ _ (t3 _ _ hfo)
    show _
    generalize upd H3 rr (.dT kvs) = H4 at u4 hrr t4 hfo4 ⊢
    have rrfo : rr ≠ fo := fun z => by rw [z, hfo4] at hrr; cases hrr
    have rrp : rr ≠ p := fun z => hp.there (by rw [← z]; exact nrrH)
    have fop : fo ≠ p := fun z => hp.there (by rw [← z]; exact nfoH)
    clear u4 t3 e3 hpl2 prs2 prs3 nrr0 hfo t2
    refine ⟨_, rfl, fo, _, rfl, DPut.k (k := (Sum.inr ("rows" : Str) : Key)) hfo4 (by show 4 < sizeLine; decide), ?_⟩
    have ep : putK [((.inr ("calls" : Str) : Key), V.ref c), (.inr ("answers" : Str), .ref a), (.inr ("states" : Str), .ref s), (.inr ("rows" : Str), .ref r)] (.inr ("rows" : Str)) (.ref rr) = [((.inr ("calls" : Str) : Key), V.ref c), (.inr ("answers" : Str), .ref a), (.inr ("states" : Str), .ref s), (.inr ("rows" : Str), .ref rr)] := by rfl
    rw [ep]
    have hfo5 : (upd H4 fo (.dK [((.inr ("calls" : Str) : Key), V.ref c), (.inr ("answers" : Str), .ref a), (.inr ("states" : Str), .ref s), (.inr ("rows" : Str), .ref rr)])) fo = some (.dK [((.inr ("calls" : Str) : Key), V.ref c), (.inr ("answers" : Str), .ref a), (.inr ("states" : Str), .ref s), (.inr ("rows" : Str), .ref rr)]) := upd_same
    have hrr5 : (upd H4 fo (.dK [((.inr ("calls" : Str) : Key), V.ref c), (.inr ("answers" : Str), .ref a), (.inr ("states" : Str), .ref s), (.inr ("rows" : Str), .ref rr)])) rr = some (.dT kvs) := by
      rw [upd_ne rrfo]
      exact hrr
    have t5 : Same H (upd H4 fo (.dK [((.inr ("calls" : Str) : Key), V.ref c), (.inr ("answers" : Str), .ref a), (.inr ("states" : Str), .ref s), (.inr ("rows" : Str), .ref rr)])) := same_put t4 nfoH
    show _
    generalize upd H4 fo (.dK [((.inr ("calls" : Str) : Key), V.ref c), (.inr ("answers" : Str), .ref a), (.inr ("states" : Str), .ref s), (.inr ("rows" : Str), .ref rr)]) = H5 at hfo5 hrr5 t5 ⊢
    clear hfo4 hrr t4
    -- how many
    refine ⟨p, o, r, b, 0, kvs, rfl, rfl, fun G bG => dK "rows" G (bG _ _ (t5 _ _ h1) npo), fun G bG => bG _ _ (t5 _ _ h5) npr, by omega, hp.same t5, by omega, fun m H6 b6 ⟨B6, p6, hB6⟩ => ?_⟩
    have b6' : But p H H6 := (But.of t5).trans b6
    -- their keys
    refine ⟨_, rfl, _, rfl, o, _, rfl, dK "rows" H6 (b6' _ _ h1 npo), r, kvs, rfl, .inl (b6' _ _ h5 npr), fun l bs nl hk => ?_⟩
    have u7 := same_new nl (.lst (bs.map V.ref))
    have hl : (upd H6 l (.lst (bs.map V.ref))) l = some (.lst (bs.map V.ref)) := upd_same
    have b7' := b6'.trans (But.of (p := p) u7)
    have p7 := p6.same u7
    have nlp : l ≠ p := fun z => p6.there (by rw [← z]; exact nl)
    have kr := (refs_of (h6.butp b6' hp) hk).same u7
    have hfo7 := u7 _ _ (b6 _ _ hfo5 fop)
    have hrr7 := u7 _ _ (b6 _ _ hrr5 rrp)
    show _
    generalize upd H6 l (.lst (bs.map V.ref)) = H7 at u7 hl b7' p7 kr hfo7 hrr7 ⊢
    have lb := kr.len
    rw [List.length_map, List.length_map] at lb
    refine ⟨_, rfl, _, rfl, o, _, rfl, dK "rows" H7 (b7' _ _ h1 npo), r, kvs, rfl, b7' _ _ h5 npr, _, _, rfl, ?_⟩
    have hm : ∃ n : Nat, (if (((kvs.length : Nat) : Int)) < (m : Int) then ((kvs.length : Nat) : Int) else (m : Int)) = (n : Int) ∧ n ≤ kvs.length := by
      by_cases c : (((kvs.length : Nat) : Int)) < (m : Int)
      · exact ⟨kvs.length, if_pos c, Nat.le_refl _⟩
      · exact ⟨m, if_neg c, by omega⟩
    obtain ⟨n, en, hn⟩ := hm
    rw [en]
    refine ⟨p, l, n, B6, bs.map V.ref, rfl, p7, by omega, SqL.of hl, nlp, by rw [List.length_map]; omega, by rw [List.length_map]; omega, fun ky ys H8 b8 p8 nky nkyp hky lys hpm => ?_⟩
    have b78 := b7'.trans b8
    have kin : ∀ y ∈ ys, ∃ k q, y = .ref q ∧ k ∈ D.goals.map (·.1) ∧ H8 q = some (.tup ((kT k).map kV)) := fun y hy => by
      obtain ⟨zs, pm⟩ := hpm
      have my := pm.mem_iff.mp (List.mem_append_right zs hy)
      obtain ⟨i, hi⟩ := List.getElem?_of_mem my
      obtain ⟨q, k, e, hk, hq⟩ := kr.get hi
      exact ⟨k, q, e, List.mem_of_getElem? hk, b8 _ _ hq fun z => by
        rw [z] at hq
        obtain ⟨_, _, _, e2, _⟩ := p7
        rw [e2] at hq
        cases hq⟩
    refine ⟨ky, rfl, ⟨_, SqL.of hky⟩, ?_⟩
    have hfo8 := b8 _ _ hfo7 fop
    have hrr8 := b8 _ _ hrr7 rrp
    have gr8 : GR K H8 kvs D.goals := h6.butp b78 hp
    have vD : ∀ e ∈ D.goals, e.2.1 ∈ D.answers ∧ e.2.2 ∈ D.states := dr.vals
    have rrky : ky ≠ rr := fun z => by rw [z, hrr7] at nky; cases nky
    have nr : ∀ {b0 : Addr}, b0 ≠ p → b0 ≠ rr → b0 ∉ [p, rr] := fun n1 n2 m => by
      rcases List.mem_cons.mp m with z | z
      · exact n1 z
      · exact n2 (List.mem_singleton.mp z)
    have rro : rr ≠ o := fun z => by rw [z, h1] at nrrH; cases nrrH
    have rrc : rr ≠ c := fun z => by rw [z, h2] at nrrH; cases nrrH
    have rra : rr ≠ a := fun z => by rw [z, h3] at nrrH; cases nrrH
    have rrs : rr ≠ s := fun z => by rw [z, h4] at nrrH; cases nrrH
    refine for_it walk_list (fun j σ F => ∃ (v4 : Option V) (kv : List (List Key × V)) (g : Goals), σ = [some (.ref p), some (.ref o), some (.ref fo), some (.int (m : Nat)), v4] ∧ Off [p, rr] H8 F ∧ PotAt F p (B6 + n + 2 * j) ∧ F rr = some (.dT kv) ∧ GR K F kv g ∧ g.map (·.1) = D.goals.map (·.1) ∧ ∀ e ∈ g, e.2.1 ∈ D.answers ∧ e.2.2 ∈ D.states)
      ⟨_, kvs, D.goals, rfl, fun _ _ e _ => e, p8, hrr8, gr8, rfl, vD⟩ (fun j σ F _ ⟨_, _, _, _, oF, _⟩ => SqL.of (oF _ _ hky (nr nkyp rrky))) ?_ ?_
    · rintro j y σ F F' hj ⟨v4, kv, g, rfl, oF, ptF, hF, grF, kF, vF⟩ ⟨rfl, hy⟩
      have hj12 : j < 12 := by omega
      obtain ⟨⟨sn, cn⟩, qk, rfl, hk, hqk⟩ := kin y (List.mem_of_getElem? hy)
      have fo1 := oF _ _ (b78 _ _ h1 npo) (nr npo rro.symm)
      have fa := oF _ _ (b78 _ _ h3 npa) (nr npa rra.symm)
      have fs := oF _ _ (b78 _ _ h4 nps) (nr nps rrs.symm)
      have ff := oF _ _ hfo8 (nr fop rrfo.symm)
      have qkp : qk ≠ p := fun z => by
        rw [z] at hqk
        obtain ⟨_, _, _, e2, _⟩ := p8
        rw [e2] at hqk
        cases hqk
      have fq := oF _ _ hqk (nr qkp fun z => by rw [z, hrr8] at hqk; cases hqk)
      refine ⟨_, rfl, _, rfl, o, _, rfl, dK "answers" F' fo1, p, a, D.answers.map V.str, _, rfl, ptF, by omega, SqL.of fa, by rw [List.length_map]; omega, by rw [List.length_map]; omega, npa, fun av F1 hav b1 pt1 => ?_⟩
      obtain ⟨an, han, rfl⟩ := List.mem_map.mp hav
      refine ⟨_, rfl, _, rfl, o, _, rfl, dK "states" F1 (b1 _ _ fo1 npo), p, s, D.states.map V.str, _, rfl, pt1, by omega, SqL.of (b1 _ _ fs nps), by rw [List.length_map]; omega, by rw [List.length_map]; omega, nps, fun gv F2 hgv b2 pt2 => ?_⟩
      obtain ⟨gn, hgn, rfl⟩ := List.mem_map.mp hgv
      have b12 := b1.trans b2
      refine ⟨(by show 2 ≤ sizeLine; decide), fun tv ntv => ?_⟩
      have u3 := same_new ntv (.tup [V.str an, .str gn])
      have htv : (upd F2 tv (.tup [V.str an, .str gn])) tv = some (.tup [V.str an, .str gn]) := upd_same
      have b13 : But p F' (upd F2 tv (.tup [V.str an, .str gn])) := b12.trans (But.of u3)
      have pt3 := pt2.same u3
      show _
      generalize upd F2 tv (.tup [V.str an, .str gn]) = F3 at htv b13 pt3 ⊢
      have gr3 : GR K F3 kv g := grF.butp b13 ptF
      have hF3 := b13 _ _ hF rrp
      have lg := gr3.len
      have lg2 := congrArg List.length kF
      rw [List.length_map, List.length_map] at lg2
      have hk2 : (sn, cn) ∈ g.map (·.1) := by
        rw [kF]
        exact hk
      refine ⟨_, rfl, fo, _, rfl, DGet.k (k := (Sum.inr ("rows" : Str) : Key)) (b13 _ _ ff fop), _, rfl, rr, _, rfl, DPut.t hF3 (b13 _ _ fq qkp) (by rw [lg, sizeLine_eq]; omega), ?_⟩
      refine ⟨_, putK kv (kT (sn, cn)) (.ref tv), turG g (sn, cn) (an, gn), rfl, fun b0 u e n0 => ?_, ?_, upd_same, GR.upd hF3 (gr3.put hk2 (.inl (.inl htv))), by rw [turG_keys]; exact kF, fun e he => ?_⟩
      · have n1 : b0 ≠ p := fun z => n0 (by rw [z]; exact List.mem_cons_self)
        have n2 : b0 ≠ rr := fun z => n0 (by rw [z]; exact List.mem_cons_of_mem _ List.mem_cons_self)
        rw [upd_ne n2]
        exact b13 _ _ (oF _ _ e n0) n1
      · exact (PotAt.upd pt3 rrp).mono (by omega)
      · obtain ⟨e0, he0, rfl⟩ := List.mem_map.mp he
        by_cases z : e0.1 = (sn, cn)
        · rw [if_pos z]
          exact ⟨han, hgn⟩
        · rw [if_neg z]
          exact vF e0 he0
    · rintro σ F ⟨v4, kv, g, rfl, oF, ptF, hF, grF, kF, vF⟩
      have f2 := oF _ _ (b78 _ _ h2 npc) (nr npc rrc.symm)
      have f3 := oF _ _ (b78 _ _ h3 npa) (nr npa rra.symm)
      have f4 := oF _ _ (b78 _ _ h4 nps) (nr nps rrs.symm)
      have ff := oF _ _ hfo8 (nr fop rrfo.symm)
      have bHF : But p H F := fun b0 u e n0 => oF _ _ (b78 _ _ e n0) (nr n0 fun z => by rw [z, nrrH] at e; cases e)
      refine ⟨_, rfl, q fo ⟨D.calls, D.answers, D.states, g⟩ F bHF ⟨_, ptF, by omega⟩ ⟨dr.cn, dr.an, dr.sn, dr.c1, dr.a1, dr.s1, dr.cw, dr.aw, dr.sw, by show g.map (·.1) = prodK D.states D.calls; rw [kF, dr.keys], vF⟩ (by unfold sameD; simp) ⟨⟨c, a, s, rr, kv, mk_of fop ff, mk_of npc f2, mk_of npa f3, mk_of nps f4, mk_of rrp hF, grF.mk ptF⟩⟩⟩
end
end K51
set_option Elab.async false
set_option linter.all false
set_option maxRecDepth 100000
set_option maxHeartbeats 16000000
/-! A device of other calls or answers. -/
namespace LG
open PySem L2
def farD (D : Dev) : Dev := ⟨D.calls.take 1, D.answers.reverse, ["i"], [(("i", D.calls.headD Str.empty), (D.answers.headD Str.empty, "i"))]⟩
theorem far_drawn {D : Dev} (d : Drawn D) : Drawn (farD D) := by
  have c1 := d.c1
  have a1 := d.a1
  obtain ⟨c, cr, ec⟩ : ∃ y l, D.calls = y :: l := List.exists_cons_of_length_pos (by omega)
  obtain ⟨a, ar, ea⟩ : ∃ y l, D.answers = y :: l := List.exists_cons_of_length_pos (by omega)
  have et : D.calls.take 1 = [c] := by rw [ec]; rfl
  have hc : D.calls.headD Str.empty = c := by rw [ec]; rfl
  have ha : D.answers.headD Str.empty = a := by rw [ea]; rfl
  unfold farD
  rw [et, hc, ha]
  refine ⟨List.nodup_cons.mpr ⟨by simp, List.nodup_nil⟩, (List.reverse_perm D.answers).nodup_iff.mpr d.an, List.nodup_cons.mpr ⟨by simp, List.nodup_nil⟩, ⟨Nat.le_refl 1, by show 1 ≤ 3; decide⟩, ?_, ⟨Nat.le_refl 1, by show 1 ≤ 4; decide⟩, fun x hx => ?_, fun x hx => d.aw x (List.mem_reverse.mp hx), fun x hx => ?_, rfl, fun e he => ?_⟩
  · show 2 ≤ D.answers.reverse.length ∧ D.answers.reverse.length ≤ 3
    rw [List.length_reverse]
    exact a1
  · rw [List.mem_singleton.mp hx]
    exact d.cw c (by rw [ec]; exact List.mem_cons_self)
  · rw [List.mem_singleton.mp hx]
    decide +kernel
  · rw [List.mem_singleton.mp he]
    exact ⟨List.mem_reverse.mpr (by rw [ea]; exact List.mem_cons_self), List.mem_cons_self⟩
theorem far_not {D : Dev} (d : Drawn D) : sameD D (farD D) = false := by
  have a1 := d.a1
  unfold sameD
  rw [Bool.and_eq_false_iff]
  refine .inr (decide_eq_false fun e => ?_)
  have e : D.answers = D.answers.reverse := e
  obtain ⟨a, ar, ea⟩ : ∃ y l, D.answers = y :: l := List.exists_cons_of_length_pos (by omega)
  obtain ⟨b, br, eb⟩ : ∃ y l, ar = y :: l := List.exists_cons_of_length_pos (by rw [ea, List.length_cons] at a1; omega)
  have nd := d.an
  subst eb
  rw [ea] at e nd
  have l1 : (a :: b :: br).getLast (by simp) = a := by
    have h1 : (a :: b :: br).getLast? = (a :: b :: br).reverse.head? := List.getLast?_eq_head?_reverse
    rw [← e] at h1
    rw [List.getLast?_eq_some_getLast (by simp)] at h1
    exact Option.some.inj h1
  have l2 : (a :: b :: br).getLast (by simp) ∈ b :: br := by
    rw [List.getLast_cons (by simp)]
    exact List.getLast_mem _
  rw [l1] at l2
  exact (List.nodup_cons.mp nd).1 l2
end LG
namespace K51
open PySem L2 LG
section
variable {P : Program} {w : World} {K : PySem.W.Frag} {mg : Str → Option Value} {base : Heap} {fI C : Addr}
def spOther (K : PySem.W.Frag) (C : Addr) : Sp := fun vs H Q _ => ∃ (o : Addr) (D : Dev), vs = [.ref o] ∧ OwnL K H o D ∧ Drawn D ∧ ∀ (x : Addr) (G : Hp), Same H G → DevM K G x C (farD D) → Q (.ref x) G
theorem scOt : FnScope ["_law_device_here", "_law_rows"] ["_law_device_here"] (defScope sOther) := ⟨rfl, rfl, rfl, by decide +kernel, rfl, by decide +kernel, by decide +kernel⟩
theorem ok_other {f g2 C CB : Addr} {fd gd2 : FuncData} (F : Fun K "_law_other" "_law_other" sOther f fd) (T : Bltn mg) (DC : DevCl K mg C)
    (GI : FnOk P w K mg base (L2.CX P w) 4 g2 gd2 ["self", "text"] (spDInit K C CB)) (MI : Mk K C g2) (bI : L2.Binds K gd2 ["self", "text"] []) :
    FnOk P w K mg base CX0 6 f fd ["_law_device_here"] (spOther K C) := by
  refine F.ok scOt (fun vs H Q E h => ?_) (fun cdv A0 outer st H vs Q E hr h => ?_)
  · obtain ⟨o, D, rfl, _⟩ := h
    rfl
  obtain ⟨o, D, rfl, hO, dr, q⟩ := h
  have hu := hu_of hr
  have r4 : Room 4 _ := hr.mono (by decide)
  refine' ⟨_, pss_cons ?rows (pss_one (ps_ret ?mk)), ?main⟩
  case rows =>
    exact ps_set (i := 1) scOt.nd rfl (Or.inl rfl) (pe_lst (pa_cons (pe_op op_add_str pe_str (pe_join pe_str (pe_slice sl_list (pe_dget hu (pv 0) pe_str (fun _ _ => rfl)) po_none (po_some pe_int)))) (pa_cons (pe_op op_add_str pe_str (pe_join pe_str (pe_revL (pe_dget hu (pv 0) pe_str (fun _ _ => rfl))))) (pa_cons pe_str pa_nil))))
  case mk =>
    exact pe_make MI GI hr rfl DC.mg bI .nil passF (pa_cons (pe_join pe_str (pe_op op_cat (pv 1) (pe_lst (pa_cons (pe_join pe_str (pe_lst (pa_cons pe_str (pa_cons pe_str (pa_cons (pe_ix ix_list (pe_dget hu (pv 0) pe_str (fun _ _ => rfl)) pe_int (fun _ _ => rfl)) (pa_cons (pe_ix ix_list (pe_dget hu (pv 0) pe_str (fun _ _ => rfl)) pe_int (fun _ _ => rfl)) (pa_cons pe_str pa_nil))))))) pa_nil)))) pa_nil)
  obtain ⟨c, a, s, r, g, h1, h2, h3, h4, h5, h6⟩ := hO
  have fd_ := far_drawn dr
  obtain ⟨lc, la, ls⟩ := fd_.lens
  have c1 := dr.c1
  have a1 := dr.a1
  obtain ⟨cl, cr, ec⟩ : ∃ y l, D.calls = y :: l := List.exists_cons_of_length_pos (by omega)
  obtain ⟨an, ar, ea⟩ : ∃ y l, D.answers = y :: l := List.exists_cons_of_length_pos (by omega)
  have jc := join_le1 sp1_1 lc
  have ja := join_le1 sp1_1 la
  have sc := sum_le lc
  have sa := sum_le la
  have fc1 := fd_.c1
  have fa1 := fd_.a1
  have dK := fun (x : Str) (G : Hp) (e : G o = some (.dK [(.inr ("calls" : Str), .ref c), (.inr ("answers" : Str), .ref a), (.inr ("states" : Str), .ref s), (.inr ("rows" : Str), .ref r)])) => DGet.k (k := Sum.inr x) e
  have sz := sizeLine_eq
  have n1 : sp1.length = 1 := sp1_1
  refine ⟨⟨_, rfl⟩, _, rfl, o, _, rfl, dK "calls" H h1, 1, rfl, c, _, rfl, SqL.of h2, fun pc npc => ?_⟩
  have u1 := same_new npc (.lst (cutV (D.calls.map V.str) none (some 1)))
  have hpc : (upd H pc (.lst (cutV (D.calls.map V.str) none (some 1)))) pc = some (.lst ((farD D).calls.map V.str)) := by
    rw [upd_same]
    have := take_whole (xs := D.calls.map V.str) (j := 1)
    show some (HO.lst (cutV (D.calls.map V.str) none (some ((1 : Nat) : Int)))) = _
    rw [this, ← List.map_take]
    rfl
  show _
  generalize upd H pc (.lst (cutV (D.calls.map V.str) none (some 1))) = H1 at u1 hpc ⊢
  refine ⟨sp1, pc, (farD D).calls, rfl, rfl, .inl (SqL.of hpc), by rw [n1]; omega, _, _, rfl, rfl, ?_, ⟨_, rfl⟩, _, rfl, o, _, rfl, dK "answers" H1 (u1 _ _ h1), a, _, rfl, SqL.of (u1 _ _ h3), fun pa npa => ?_⟩
  · have e1 : ("calls " : Str).length = 6 := by decide +kernel
    rw [e1, sz]
    omega
  have u2 := same_new npa (.lst (D.answers.map V.str).reverse)
  have hpa : (upd H1 pa (.lst (D.answers.map V.str).reverse)) pa = some (.lst ((farD D).answers.map V.str)) := by
    rw [upd_same, ← List.map_reverse]
    rfl
  show _
  generalize upd H1 pa (.lst (D.answers.map V.str).reverse) = H2 at u2 hpa ⊢
  have t2 := u1.trans u2
  refine ⟨sp1, pa, (farD D).answers, rfl, rfl, .inl (SqL.of hpa), by rw [n1]; omega, _, _, rfl, rfl, ?_, (by show 3 ≤ sizeLine; decide), fun rw_ nr => ?_⟩
  · have e1 : ("answers " : Str).length = 8 := by decide +kernel
    rw [e1, sz]
    omega
  have u3 := same_new nr (.lst [.str (("calls " : Str) ++ Txt.join sp1 (farD D).calls), .str (("answers " : Str) ++ Txt.join sp1 (farD D).answers), .str "states i"])
  have hr1 : (upd H2 rw_ (.lst [.str (("calls " : Str) ++ Txt.join sp1 (farD D).calls), .str (("answers " : Str) ++ Txt.join sp1 (farD D).answers), .str "states i"])) rw_ = some (.lst ((headsOf (farD D)).map V.str)) := upd_same
  show _
  generalize upd H2 rw_ (.lst [.str (("calls " : Str) ++ Txt.join sp1 (farD D).calls), .str (("answers " : Str) ++ Txt.join sp1 (farD D).answers), .str "states i"]) = H3 at u3 hr1 ⊢
  have t3 := t2.trans u3
  have r0 : rowX (farD D) ("i", cl) = (an, ("i" : Str)) := by
    unfold rowX farD
    rw [ec, ea]
    show (List.lookup (("i" : Str), cl) [((("i" : Str), cl), (an, ("i" : Str)))]).getD _ = _
    simp [List.lookup]
  have mk0 : (("i" : Str), cl) ∈ (farD D).goals.map (·.1) := by
    unfold farD
    rw [ec]
    exact List.mem_cons_self
  have eR : rowOf (farD D) ("i", cl) = Txt.join sp1 ["row", "i", cl, an, "i"] := by
    unfold rowOf
    rw [r0]
  have pk : prodK (farD D).states (farD D).calls = [(("i" : Str), cl)] := by
    unfold farD
    rw [ec]
    rfl
  have rl := fd_.row_len mk0
  have lrs : (((["row", "i", cl, an, "i"] : List Str)).map (·.length)).sum ≤ 5 * 8 := by
    have := sum_le rl.2
    rw [r0] at this
    exact this
  refine ⟨⟨_, rfl⟩, _, rfl, ⟨_, rfl⟩, _, rfl, o, _, rfl, dK "calls" H3 (t3 _ _ h1), c, _, 0, _, rfl, rfl, SqL.of (t3 _ _ h2), atI_nat (j := 0) (by rw [ec]; rfl), _, rfl, o, _, rfl, dK "answers" H3 (t3 _ _ h1), a, _, 0, _, rfl, rfl, SqL.of (t3 _ _ h3), atI_nat (j := 0) (by rw [ea]; rfl), (by show 5 ≤ sizeLine; decide), fun l1 nq1 => ?_⟩
  have u4 := same_new nq1 (.lst [V.str "row", .str "i", .str cl, .str an, .str "i"])
  have hl1 : (upd H3 l1 (.lst [V.str "row", .str "i", .str cl, .str an, .str "i"])) l1 = some (.lst ((["row", "i", cl, an, "i"] : List Str).map V.str)) := upd_same
  show _
  generalize upd H3 l1 (.lst [V.str "row", .str "i", .str cl, .str an, .str "i"]) = H4 at u4 hl1 ⊢
  have t4 := t3.trans u4
  have r5 : (["row", "i", cl, an, "i"] : List Str).length = 5 := rfl
  refine ⟨sp1, l1, _, rfl, rfl, .inl (SqL.of hl1), by rw [n1]; omega, (by show 1 ≤ sizeLine; decide), fun l2 nl2 => ?_⟩
  have u5 := same_new nl2 (.lst [V.str (Txt.join sp1 ["row", "i", cl, an, "i"])])
  have hl2 : (upd H4 l2 (.lst [V.str (Txt.join sp1 ["row", "i", cl, an, "i"])])) l2 = some (.lst [V.str (Txt.join sp1 ["row", "i", cl, an, "i"])]) := upd_same
  show _
  generalize upd H4 l2 (.lst [V.str (Txt.join sp1 ["row", "i", cl, an, "i"])]) = H5 at u5 hl2 ⊢
  have t5 := t4.trans u5
  refine ⟨rw_, l2, _, _, rfl, rfl, u5 _ _ (u4 _ _ hr1), hl2, (by show 3 + 1 ≤ sizeLine; decide), fun l3 nl3 => ?_⟩
  have eL : linesOf (farD D) (prodK (farD D).states (farD D).calls) = headsOf (farD D) ++ [Txt.join sp1 ["row", "i", cl, an, "i"]] := by
    rw [pk]
    unfold LG.linesOf
    show headsOf (farD D) ++ [rowOf (farD D) ("i", cl)] = _
    rw [eR]
  have u6 := same_new nl3 (.lst ((headsOf (farD D)).map V.str ++ [V.str (Txt.join sp1 ["row", "i", cl, an, "i"])]))
  have hl3 : (upd H5 l3 (.lst ((headsOf (farD D)).map V.str ++ [V.str (Txt.join sp1 ["row", "i", cl, an, "i"])]))) l3 = some (.lst ((linesOf (farD D) (prodK (farD D).states (farD D).calls)).map V.str)) := by
    rw [upd_same, eL, List.map_append]
    rfl
  show _
  generalize upd H5 l3 (.lst ((headsOf (farD D)).map V.str ++ [V.str (Txt.join sp1 ["row", "i", cl, an, "i"])])) = H6 at u6 hl3 ⊢
  have t6 := t5.trans u6
  have pm : (prodK (farD D).states (farD D).calls).Perm ((farD D).goals.map (·.1)) := by rw [fd_.keys]
  have mem : ∀ k ∈ prodK (farD D).states (farD D).calls, k ∈ (farD D).goals.map (·.1) := fun k hk => pm.mem_iff.mp hk
  have len12 : (prodK (farD D).states (farD D).calls).length ≤ 12 := by
    rw [prod_len]
    exact Nat.mul_le_mul fd_.s1.2 fd_.c1.2
  have tl := fd_.text_len mem len12
  have ll := sum_le (fd_.lines_len mem)
  have ln : (linesOf (farD D) (prodK (farD D).states (farD D).calls)).length = 4 := by
    rw [eL]
    rfl
  rw [ln] at ll
  have n2 : nl1.length = 1 := nl1_1
  refine ⟨_, l3, _, rfl, rfl, .inl (SqL.of hl3), by rw [show (Str.ofString "\n").length = 1 from n2, ln]; omega, ?_⟩
  refine fun x dx nx ndx nex => ⟨x, dx, .str (textOf (farD D) (prodK (farD D).states (farD D).calls)), rfl, upd_same, .inl ⟨_, rfl⟩, (fun T' e => ?_), (fun T' D' e hpa G but dev => ⟨rfl, ?_⟩), fun n hn => ?_⟩
  · cases e
    exact tl
  rotate_left
  · exfalso
    have e : parse (textOf (farD D) (prodK (farD D).states (farD D).calls)) = .inl n := hn
    rw [fd_.read pm] at e
    cases e
  cases e
  rw [fd_.read pm] at hpa
  cases hpa
  exact q x G (t6.trans (made nx ndx but)) dev
end
end K51
set_option Elab.async false
set_option linter.all false
set_option maxRecDepth 100000
set_option maxHeartbeats 16000000
/-! Values that are no devices to be looked at together. -/
namespace LG
open PySem L2 LamX
theorem SqText {K : PySem.W.Frag} {H H' : Hp} {t : Addr} {zs : List V} (e : ExtN H H') (h : SqT K H t zs) : SqT K H' t zs := same_tup (mt_self H') (same_tup (mt_ext e) (SqT.mt h))
theorem DevM.ext {K : PySem.W.Frag} {H H' : Hp} {x C : Addr} {D : Dev} (e : ExtN H H') (h : DevM K H x C D) : DevM K H' x C D := DevAt.ext e h
/-- beside a device in a tuple: no device of the same words -/
inductive BadI (K : PySem.W.Frag) (C : Addr) (H : Hp) (D0 : Dev) : V → Prop
  | dev {b : Addr} {E : Dev} : Drawn E → DevM K H b C E → sameD D0 E = false → BadI K C H D0 (.ref b)
  | non : BadI K C H D0 .non
  | str (z : Str) : BadI K C H D0 (.str z)
  | tup {b : Addr} {xs : List V} : SqT K H b xs → BadI K C H D0 (.ref b)
inductive BadS (K : PySem.W.Frag) (C : Addr) (H : Hp) : V → Prop
  | data {n : Nat} {v : V} : Gx K n H v → BadS K C H v
  | lst {a : Addr} {xs : List V} : SqL K H a xs → BadS K C H (.ref a)
  | dev {a : Addr} {D : Dev} : Drawn D → DevM K H a C D → BadS K C H (.ref a)
  | few {t : Addr} {xs : List V} : SqT K H t xs → xs.length ≤ 1000 → ¬ (2 ≤ xs.length ∧ xs.length ≤ 4) → BadS K C H (.ref t)
  | two {t a : Addr} {y : V} {D0 : Dev} : SqT K H t [.ref a, y] → Drawn D0 → DevM K H a C D0 → BadI K C H D0 y → BadS K C H (.ref t)
theorem BadI.ext {K : PySem.W.Frag} {C : Addr} {H H' : Hp} {D0 : Dev} {v : V} (e : ExtN H H') (h : BadI K C H D0 v) : BadI K C H' D0 v := by
  cases h with
  | dev a b c => exact .dev a (b.ext e) c
  | non => exact .non
  | str z => exact .str z
  | tup h => exact .tup (SqText e h)
theorem BadS.ext {K : PySem.W.Frag} {C : Addr} {H H' : Hp} {v : V} (e : ExtN H H') (h : BadS K C H v) : BadS K C H' v := by
  cases h with
  | data g => exact .data (g.ext e)
  | lst h => exact .lst (SqLext e h)
  | dev a b => exact .dev a (b.ext e)
  | few a b c => exact .few (SqText e a) b c
  | two a b c d => exact .two (SqText e a) b (c.ext e) (d.ext e)
theorem BadS.same {K : PySem.W.Frag} {C : Addr} {H H' : Hp} {v : V} (e : Same H H') (h : BadS K C H v) : BadS K C H' v := h.ext (ExtN.of e)
/-- what the class must tell of it -/
structure DevNot (K : PySem.W.Frag) (C : Addr) : Prop where
  tys : ∀ T ∈ tyNames, PySem.W.kitOne K (.type T) (.ref C) = some false
  tup : PySem.W.kitOne K (.ref C) (.type "tuple") = some false
theorem dp_not {K : PySem.W.Frag} {C : Addr} {H : Hp} {v : V} {d : PyData} (N : DevNot K C) (h : Dp K H v d) : ∃ ty, TyX K H v ty ∧ PySem.W.kitOne K ty (.ref C) = some false := by
  obtain ⟨T, ty, e⟩ := ty_of h
  refine ⟨_, ty, N.tys T ?_⟩
  rw [e]
  cases d <;> simp [tyNames]
theorem all_none {K : PySem.W.Frag} {C : Addr} {H : Hp} (N : DevNot K C) : ∀ {xs : List V} {ds : List PyData}, DpAll K H xs ds → ∀ G, Same H G → PySem.Paired (ItemO K C G) xs (xs.map fun _ => none)
  | _, _, .nil, _, _ => .nil
  | _, _, .cons a r, G, s => .cons (dp_not N (Dp_same s _ _ a)) (all_none N r G s)
theorem BadI.item {K : PySem.W.Frag} {C : Addr} {H : Hp} {D0 : Dev} {v : V} (N : DevNot K C) (h : BadI K C H D0 v) : ∃ o, (∀ G, Same H G → ItemO K C G v o) ∧ okO D0 o = false := by
  cases h with
  | dev a b c => exact ⟨some _, fun G s => ⟨_, rfl, a, b.same s⟩, c⟩
  | non => exact ⟨none, fun G s => ⟨_, .base .non, N.tys _ (by simp [tyNames])⟩, rfl⟩
  | str z => exact ⟨none, fun G s => ⟨_, .base (.str z), N.tys _ (by simp [tyNames])⟩, rfl⟩
  | tup h => exact ⟨none, fun G s => ⟨_, tup_ty (same_tup s h), N.tys _ (by simp [tyNames])⟩, rfl⟩
theorem lst_dx {K : PySem.W.Frag} {H : Hp} {a : Addr} {xs : List V} (h : SqL K H a xs) : ∃ ty, TyX K H (.ref a) ty ∧ PySem.W.kitOne K ty (.type "tuple") = some false := by
  rcases h with (h | ⟨o, h⟩) | ⟨o, its, n, h, c, _⟩
  · exact ⟨_, .base (.lst h), kit_notup _ (by simp [tyNames]) (by simp)⟩
  · exact ⟨_, .base (.frz h), kit_notup _ (by simp [tyNames]) (by simp)⟩
  · exact ⟨_, .kList h c, kit_notup _ (by simp [tyNames]) (by simp)⟩
end LG
namespace K51
open PySem L2 LG LamX
theorem small_tup {n : Nat} {ds : List PyData} (h : small n (.tuple ds) = true) : ds.length ≤ 25 := by
  cases n with
  | zero => simp [small] at h
  | succ n =>
    simp only [small, Bool.and_eq_true, decide_eq_true_eq] at h
    exact h.1
theorem bad_devs {K : PySem.W.Frag} {C : Addr} {mg : Str → Option Value} {H : Hp} {v : V} (DC : DevCl K mg C) (IS : DevIs K C) (N : DevNot K C) (h : BadS K C H v) : BadDevs K C H v := by
  cases h with
  | data g =>
    obtain ⟨d, hd, sd⟩ := g
    by_cases no : ∀ xs, d ≠ .tuple xs
    · exact .inl (hd.notup no)
    · have : ∃ xs, d = .tuple xs := Classical.byContradiction fun z => no fun xs e => z ⟨xs, e⟩
      obtain ⟨ds, rfl⟩ := this
      cases hd with
      | flat hd =>
        cases hd with
        | tup ht al =>
          have ln := dpAll_len al
          have l25 : ds.length ≤ 25 := small_tup sd
          by_cases c : 2 ≤ ds.length ∧ ds.length ≤ 4
          · refine .inr (.inr ⟨_, _, _, ⟨[], [], [], []⟩, rfl, ht, by omega, by omega, all_none N al, .inl fun o ho => ?_, ?_⟩)
            · obtain ⟨_, _, e⟩ := List.mem_map.mp ho
              exact e.symm
            · refine List.all_eq_false.mpr ⟨none, ?_, by simp [okO]⟩
              rename_i xs
              cases xs with
              | nil => rw [List.length_nil] at ln; omega
              | cons x r => exact List.mem_cons_self
          · exact .inr (.inl ⟨_, _, rfl, ht, by omega, by rw [ln]; exact c⟩)
  | lst h => exact .inl (lst_dx h)
  | dev a b => exact .inl ⟨_, dev_ty DC IS b, N.tup⟩
  | few a b c => exact .inr (.inl ⟨_, _, rfl, a, b, c⟩)
  | two a b c d =>
    obtain ⟨o, io, no⟩ := d.item N
    refine .inr (.inr ⟨_, _, [some _, o], _, rfl, a, Nat.le_refl 2, (by show 2 ≤ 4; decide), fun G s => .cons ⟨_, rfl, b, c.same s⟩ (.cons (io G s) .nil), .inr rfl, ?_⟩)
    rw [List.all_cons, List.all_cons, no]
    simp
/-- a value beside itself -/
theorem bad_self {K : PySem.W.Frag} {C : Addr} {mg : Str → Option Value} {H : Hp} {v : V} {Q : VK} (DC : DevCl K mg C) (IS : DevIs K C) (h : BadS K C H v) (q : Q (.bl false) H) : (rNe v v H Q ∨ rNeSeq K v v H Q ∨ rNeDS v v H Q) ∨ rOwnEq K C (spDEq K C) true v v H Q := by
  cases h with
  | data g =>
    obtain ⟨d, hd, _⟩ := g
    exact .inl (dx_self hd q)
  | lst h => exact .inl (.inr (.inl ⟨_, _, rfl, rfl, .inl h, q⟩))
  | dev a b =>
    obtain ⟨dx, c, aa, s, g, hx, _⟩ := id b
    refine .inr ⟨_, dx, _, _, rfl, hx, dev_ty DC IS b, by simp [PySem.W.notFirst], _, _, _, _, rfl, b, .inl ⟨_, _, _, rfl, b, _, rfl, ?_⟩⟩
    simpa using q
  | few a b c => exact .inl (.inr (.inl ⟨_, _, rfl, rfl, .inr a, q⟩))
  | two a b c d => exact .inl (.inr (.inl ⟨_, _, rfl, rfl, .inr a, q⟩))
end K51
set_option Elab.async false
set_option linter.all false
set_option maxRecDepth 100000
set_option maxHeartbeats 16000000
/-! The law's values near to devices to be looked at together. -/
namespace K51
open PySem L2 LG LamX
section
variable {P : Program} {w : World} {K : PySem.W.Frag} {mg : Str → Option Value} {base : Heap} {fI C : Addr}
def spBadMany (K : PySem.W.Frag) (C : Addr) : Sp := fun vs H Q _ => ∃ (p tH far a b : Nat) (xs : List V) (D0 : Dev), vs = [.ref p, .ref tH, .ref far] ∧ PotAt H p b ∧ b ≤ 80000 ∧ SqT K (mk p H) tH xs ∧ 2 ≤ xs.length ∧ xs.length ≤ 4 ∧ xs[0]? = some (.ref a) ∧ Drawn D0 ∧ DevM K (mk p H) a C D0 ∧ DevM K (mk p H) far C (farD D0) ∧
  ∀ (l : Addr) (ys : List V) (H' : Hp), But p H H' → PotAt H' p (b + 1) → l ≠ p → H' l = some (.lst ys) → ys.length = 11 → (∀ y ∈ ys, BadS K C (mk p H') y) → Q (.ref l) H'
abbrev nBm : List Str := ["_law_pot_here", "_law_heres", "_law_far", "_law_one", "_law_found"]
theorem scBm : FnScope nBm ["_law_pot_here", "_law_heres", "_law_far"] (defScope sBadMany) := ⟨rfl, rfl, rfl, by decide +kernel, rfl, by decide +kernel, by decide +kernel⟩
theorem flat_rep {xs : List V} : ∀ n : Nat, (List.replicate n xs).flatten.length = n * xs.length
  | 0 => by simp
  | n + 1 => by
    rw [List.replicate_succ, List.flatten_cons, List.length_append, flat_rep n, Nat.succ_mul]
    omega
theorem ok_badmany {f g : Addr} {fd gd : FuncData} (F : Fun K "_law_bad_many" "_law_bad_many" sBadMany f fd) (T : Bltn mg) (DC : DevCl K mg C)
    (GO : FnOk P w K mg base CX0 3 g gd ["_law_pot_here"] (spOdd K)) (mO : mg "_law_odd" = some (.ref g)) (kO : PySem.W.keepIn K (.ref g) = true) (bO : Binds K gd ["_law_pot_here"] []) :
    FnOk P w K mg base CX0 4 f fd ["_law_pot_here", "_law_heres", "_law_far"] (spBadMany K C) := by
  refine F.ok scBm (fun vs H Q E h => ?_) (fun cdv A0 outer st H vs Q E hr h => ?_)
  · obtain ⟨p, tH, far, a, b, xs, D0, rfl, _⟩ := h
    rfl
  obtain ⟨p, tH, far, a, b, xs, D0, rfl, hp, hb, hH, l2, l4, x0, dr, hA, hF, q⟩ := h
  refine' ⟨_, pss_cons (ps_set (i := 3) scBm.nd rfl (Or.inl rfl) (pe_ix ix_tup (pv 1) pe_int (fun _ _ => rfl))) (pss_cons ?found (pss_one (ps_ret ?re))), ?main⟩
  case found =>
    exact ps_set (i := 4) scBm.nd rfl (Or.inl rfl) (pe_lst (pa_cons (pe_slice sl_tup (pv 1) po_none (po_some pe_int)) (pa_cons (pe_op op_repT (pv 1) pe_int) (pa_cons (pe_callTy call_list_of rfl T.list (by decide +kernel) (pa_cons (pv 1) pa_nil))
      (pa_cons (pe_tup (pa_cons (pv 3) (pa_cons (pv 2) pa_nil))) (pa_cons (pe_tup (pa_cons (pv 3) (pa_cons pe_non pa_nil))) (pa_cons (pe_tup (pa_cons (pv 3) (pa_cons (pe_fld (pv 3) rfl) pa_nil))) (pa_cons pe_non (pa_cons (pv 3) (pa_cons (pe_tup pa_nil) (pa_cons (pe_tup (pa_cons (pv 3) (pa_cons (pe_tup (pa_cons (pv 3) pa_nil)) pa_nil))) pa_nil)))))))))))
  case re =>
    exact pe_op op_cat (pv 4) (pe_lst (pa_cons (pe_call GO hr rfl mO kO bO .nil pass0 (pa_cons (pv 0) pa_nil)) pa_nil))
  case main =>
    have self := mk_self p H
    have hH' := same_tup self hH
    have hp0 := hp.there
    refine ⟨_, rfl, tH, xs, 0, _, rfl, rfl, hH', atI_nat (j := 0) x0, ?_⟩
    refine ⟨_, rfl, 1, rfl, tH, xs, rfl, hH', ?_, fun t1 n1 => ?_⟩
    · rintro ⟨_, e⟩
      unfold HT.sIx at e
      simp only at e
      rw [if_neg (by decide)] at e
      have : (1 : Int).toNat = 1 := rfl
      omega
    have b1 : BadS K C (mk p (upd H t1 (.tup (cutV xs none (some 1))))) (.ref t1) := .few (.inl (.inl (mk_new hp0 n1))) (Nat.le_trans (cutV_length _ _ _) (by omega)) (by
      have : cutV xs none (some ((1 : Nat) : Int)) = xs.take 1 := take_whole
      have e : cutV xs none (some 1) = xs.take 1 := this
      rw [e, List.length_take]
      omega)
    have u1 := same_new n1 (.tup (cutV xs none (some 1)))
    show _
    generalize upd H t1 (.tup (cutV xs none (some 1))) = H1 at u1 b1 ⊢
    refine ⟨_, rfl, tH, 5, xs, rfl, rfl, same_tup u1 hH', (by intro z; rw [z] at l2; cases l2), by decide, by decide, by omega, fun t2 n2 => ?_⟩
    have hp1 := Same.there u1 hp0
    have b2 : BadS K C (mk p (upd H1 t2 (.tup (List.replicate (5 : Int).toNat xs).flatten))) (.ref t2) := .few (.inl (.inl (mk_new hp1 n2))) (by rw [flat_rep]; show 5 * _ ≤ _; omega) (by
      rw [flat_rep]
      show ¬ (2 ≤ 5 * _ ∧ 5 * _ ≤ 4)
      omega)
    have u2 := same_new n2 (.tup (List.replicate (5 : Int).toNat xs).flatten)
    show _
    generalize upd H1 t2 (.tup (List.replicate (5 : Int).toNat xs).flatten) = H2 at u2 b2 ⊢
    have s2 := u1.trans u2
    have hp2 := Same.there s2 hp0
    have b1 := b1.same (mk_up u2)
    refine ⟨_, rfl, tH, xs, rfl, .inr (same_tup s2 hH'), fun t3 n3 => ?_⟩
    have b3 : BadS K C (mk p (upd H2 t3 (.lst xs))) (.ref t3) := .lst (SqL.of (mk_new hp2 n3))
    have u3 := same_new n3 (.lst xs)
    show _
    generalize upd H2 t3 (.lst xs) = H3 at u3 b3 ⊢
    have s3 := s2.trans u3
    have hp3 := Same.there s3 hp0
    have b1 := b1.same (mk_up u3)
    have b2 := b2.same (mk_up u3)
    refine ⟨_, rfl, _, rfl, (by show 2 ≤ sizeLine; decide), fun t4 n4 => ?_⟩
    have u4 := same_new n4 (.tup [V.ref a, .ref far])
    have hm4 : Same (mk p H) (mk p (upd H3 t4 (.tup [V.ref a, .ref far]))) := mk_up (s3.trans u4)
    have b4 : BadS K C (mk p (upd H3 t4 (.tup [V.ref a, .ref far]))) (.ref t4) := .two (.inl (.inl (mk_new hp3 n4))) dr (hA.same hm4) (.dev (far_drawn dr) (hF.same hm4) (far_not dr))
    clear hm4
    show _
    generalize upd H3 t4 (.tup [V.ref a, .ref far]) = H4 at u4 b4 ⊢
    have s4 := s3.trans u4
    have hp4 := Same.there s4 hp0
    have b1 := b1.same (mk_up u4)
    have b2 := b2.same (mk_up u4)
    have b3 := b3.same (mk_up u4)
    refine ⟨_, rfl, (by show 2 ≤ sizeLine; decide), fun t5 n5 => ?_⟩
    have u5 := same_new n5 (.tup [V.ref a, .non])
    have hm5 : Same (mk p H) (mk p (upd H4 t5 (.tup [V.ref a, .non]))) := mk_up (s4.trans u5)
    have b5 : BadS K C (mk p (upd H4 t5 (.tup [V.ref a, .non]))) (.ref t5) := .two (.inl (.inl (mk_new hp4 n5))) dr (hA.same hm5) .non
    clear hm5
    show _
    generalize upd H4 t5 (.tup [V.ref a, .non]) = H5 at u5 b5 ⊢
    have s5 := s4.trans u5
    have hp5 := Same.there s5 hp0
    have b1 := b1.same (mk_up u5)
    have b2 := b2.same (mk_up u5)
    have b3 := b3.same (mk_up u5)
    have b4 := b4.same (mk_up u5)
    obtain ⟨dx, c0, a0, s0, gg, hx, _⟩ := id hA
    have hx := s5 _ _ (self _ _ hx)
    refine ⟨_, rfl, _, rfl, a, C, dx, _, _, rfl, hx, DC.cl, DC.nt, rfl, (by show 2 ≤ sizeLine; decide), fun t6 n6 => ?_⟩
    have u6 := same_new n6 (.tup [V.ref a, .str (textOf D0 (prodK D0.states D0.calls))])
    have hm6 : Same (mk p H) (mk p (upd H5 t6 (.tup [V.ref a, .str (textOf D0 (prodK D0.states D0.calls))]))) := mk_up (s5.trans u6)
    have b6 : BadS K C (mk p (upd H5 t6 (.tup [V.ref a, .str (textOf D0 (prodK D0.states D0.calls))]))) (.ref t6) := .two (.inl (.inl (mk_new hp5 n6))) dr (hA.same hm6) (.str _)
    clear hm6
    show _
    generalize upd H5 t6 (.tup [V.ref a, .str (textOf D0 (prodK D0.states D0.calls))]) = H6 at u6 b6 ⊢
    have s6 := s5.trans u6
    have hp6 := Same.there s6 hp0
    refine ⟨_, rfl, (by show 0 ≤ sizeLine; decide), fun t7 n7 => ?_⟩
    have u7 := same_new n7 (.tup [])
    have b7 : BadS K C (mk p (upd H6 t7 (.tup []))) (.ref t7) := .few (.inl (.inl (mk_new hp6 n7))) (by simp) (by simp)
    show _
    generalize upd H6 t7 (.tup []) = H7 at u7 b7 ⊢
    have s7 := s6.trans u7
    have hp7 := Same.there s7 hp0
    refine ⟨_, rfl, _, rfl, (by show 1 ≤ sizeLine; decide), fun t8 n8 => ⟨(by show 2 ≤ sizeLine; decide), fun t9 n9 => ?_⟩⟩
    have u8 := same_new n8 (.tup [V.ref a])
    have h8 : mk p (upd H7 t8 (.tup [V.ref a])) t8 = some (.tup [V.ref a]) := mk_new hp7 n8
    have hp8 := Same.there u8 hp7
    have u9 := same_new n9 (.tup [V.ref a, .ref t8])
    have hm9 : Same (mk p H) (mk p (upd (upd H7 t8 (.tup [V.ref a])) t9 (.tup [V.ref a, .ref t8]))) := mk_up (s7.trans (u8.trans u9))
    have b9 : BadS K C (mk p (upd (upd H7 t8 (.tup [V.ref a])) t9 (.tup [V.ref a, .ref t8]))) (.ref t9) := .two (.inl (.inl (mk_new hp8 n9))) dr (hA.same hm9) (.tup (.inl (.inl (mk_up u9 _ _ h8))))
    have u79 := u8.trans u9
    clear hm9 u8 u9 h8
    show _
    generalize upd (upd H7 t8 (.tup [V.ref a])) t9 (.tup [V.ref a, .ref t8]) = H9 at u79 b9 ⊢
    have s9 := s7.trans u79
    have hp9 := Same.there s9 hp0
    have b59 := u6.trans (u7.trans u79)
    have all9 : ∀ y ∈ [V.ref t1, .ref t2, .ref t3, .ref t4, .ref t5, .ref t6, .non, .ref a, .ref t7, .ref t9], BadS K C (mk p H9) y := by
      intro y hy
      simp only [List.mem_cons, List.not_mem_nil, or_false] at hy
      rcases hy with rfl | rfl | rfl | rfl | rfl | rfl | rfl | rfl | rfl | rfl
      · exact b1.same (mk_up b59)
      · exact b2.same (mk_up b59)
      · exact b3.same (mk_up b59)
      · exact b4.same (mk_up b59)
      · exact b5.same (mk_up b59)
      · exact b6.same (mk_up (u7.trans u79))
      · exact .data (n := 0) ⟨.none, .flat .non, rfl⟩
      · exact .dev dr (hA.same (mk_up s9))
      · exact b7.same (mk_up u79)
      · exact b9
    refine ⟨(by show 10 ≤ sizeLine; decide), fun lf nlf => ?_⟩
    generalize hzs : [V.ref t1, .ref t2, .ref t3, .ref t4, .ref t5, .ref t6, .non, .ref a, .ref t7, .ref t9] = zs at all9 ⊢
    have lz : zs.length = 10 := by rw [← hzs]; rfl
    clear hzs
    have u10 := same_new nlf (.lst zs)
    have hlf : (upd H9 lf (.lst zs)) lf = some (.lst zs) := upd_same
    have nlfp : lf ≠ p := new_ne hp9 nlf
    have p10 := (hp.same s9).same u10
    have all10 : ∀ y ∈ zs, BadS K C (mk p (upd H9 lf (.lst zs))) y := fun y hy => (all9 y hy).same (mk_up u10)
    have s10 := s9.trans u10
    show _
    generalize upd H9 lf (.lst zs) = H10 at hlf p10 all10 s10 ⊢
    refine ⟨_, rfl, _, rfl, p, b, rfl, p10, by omega, fun x H11 b11 p11 gx => ⟨(by show 1 ≤ sizeLine; decide), fun l2_ nl2 => ?_⟩⟩
    have g11 := BadS.data (C := C) (gx.same (mn_mk p10.there))
    have hlf11 := b11 _ _ hlf nlfp
    have u12 := same_new nl2 (.lst [x])
    have hl2 : (upd H11 l2_ (.lst [x])) l2_ = some (.lst [x]) := upd_same
    have all12 : ∀ y ∈ zs ++ [x], BadS K C (mk p (upd H11 l2_ (.lst [x]))) y := fun y hy => by
      rcases List.mem_append.mp hy with hy | hy
      · exact ((all10 y hy).same (mk_but b11)).same (mk_up u12)
      · rw [List.mem_singleton.mp hy]
        exact g11.same (mk_up u12)
    have p12 := p11.same u12
    have b12 : But p H (upd H11 l2_ (.lst [x])) := ((But.of s10).trans b11).trans (But.of u12)
    have hlf12 := u12 _ _ hlf11
    show _
    generalize upd H11 l2_ (.lst [x]) = H12 at hl2 all12 p12 b12 hlf12 ⊢
    refine ⟨lf, l2_, zs, [x], rfl, rfl, hlf12, hl2, by rw [lz]; show 10 + 1 ≤ sizeLine; decide, fun l3 nl3 => ?_⟩
    have u13 := same_new nl3 (.lst (zs ++ [x]))
    exact q l3 _ _ (b12.trans (But.of u13)) (p12.same u13) (new_ne p12.there nl3) upd_same (by rw [List.length_append, lz]; rfl) fun y hy => (all12 y hy).same (mk_up u13)
end
end K51
set_option Elab.async false
set_option linter.all false
set_option maxRecDepth 100000
set_option maxHeartbeats 16000000
/-! What the law's questions ask. -/
namespace K51
open PySem L2 LG LamX
section
variable {P : Program} {w : World} {K : PySem.W.Frag} {mg : Str → Option Value} {base : Heap} {fI B C CD CL : Addr}
def spIsRef (K : PySem.W.Frag) (CL : Addr) : Sp := fun vs H Q _ => ∃ (cv v : V), vs = [.bl true, cv, v] ∧ Caught H CL cv v ∧ Gx K 3 H v ∧ Q (.bl true) H
abbrev nIf : List Str := ["_law_kinds", "_law_caught", "_law_value"]
theorem scIf : FnScope nIf nIf (defScope sIsRef) := ⟨rfl, rfl, rfl, by decide +kernel, rfl, by decide +kernel, by decide +kernel⟩
theorem eq_self {a : V} : decide (a = a) = true := by simp
theorem ok_isref {f : Addr} {fd : FuncData} (F : Fun K "_law_is_refused" "_law_is_refused" sIsRef f fd) (T : Bltn mg) (ES : EQl K mg fI B "BadLog" CL) : GnOk P w K mg base 1 f fd nIf (spIsRef K CL) := by
  refine gn_of F scIf (fun vs H Q E h => ?_) (fun cdv A0 outer s H vs Q hG hr h => ?_)
  · obtain ⟨cv, v, rfl, _⟩ := h
    rfl
  obtain ⟨cv, v, rfl, hc, gv, q⟩ := h
  refine ⟨_, pss_one (ps_ret (pe_and (pv 0) (pe_one (pe_cmpR op_eq (pe_callB (call_repr hG hr.units) rfl T.repr (by decide +kernel) (pa_cons (pe_errq (pv 1)) pa_nil)) (pe_callB (call_repr hG hr.units) rfl T.repr (by decide +kernel) (pa_cons (pv 2) pa_nil)) (nomark _))))), ?_⟩
  obtain ⟨a, d, rfl, er⟩ := hc
  obtain ⟨dv, hdv, sdv⟩ := gv
  refine ⟨_, rfl, _, rfl, iteT ⟨_, rfl, a, CL, d, _, _, rfl, ES.ec.er, ES.ec.no, er, vf_get _, _, dv, 3, rfl, hdv, by decide, sdv, signs3, _, rfl, _, dv, 3, rfl, hdv, by decide, sdv, signs3, rfl, ?_⟩⟩
  rw [eq_self]
  exact q
end
end K51
set_option Elab.async false
set_option linter.all false
set_option maxRecDepth 100000
set_option maxHeartbeats 16000000
/-! Law k51's versions, and which of them are left. -/
namespace LG
open PySem L2 LamX
def VerIt (K : PySem.W.Frag) (H : Hp) (v : V) (D : Dev) : Prop := ∃ a, v = .ref a ∧ Drawn D ∧ OwnAt K H a D
theorem VerIt.ext {K : PySem.W.Frag} {H H' : Hp} {v : V} {D : Dev} (e : ExtN H H') (h : VerIt K H v D) : VerIt K H' v D := by
  obtain ⟨a, h1, h2, h3⟩ := h
  exact ⟨a, h1, h2, h3.ext e⟩
theorem DevIt.ext {K : PySem.W.Frag} {C : Addr} {H H' : Hp} {v : V} {D : Dev} (e : ExtN H H') (h : DevIt K C H v D) : DevIt K C H' v D := by
  obtain ⟨a, h1, h2, h3⟩ := h
  exact ⟨a, h1, h2, h3.ext e⟩
structure Wd (K : PySem.W.Frag) (C : Addr) (M : Hp) (o tv th : Addr) (D0 : Dev) (Ds : List Dev) (ovs xs : List V) : Prop where
  own : OwnAt K M o D0
  tv : SqL K M tv ovs
  vs : PySem.Paired (VerIt K M) ovs Ds
  th : SqT K M th xs
  hs : PySem.Paired (DevIt K C M) xs Ds
theorem Wd.ext {K : PySem.W.Frag} {C : Addr} {M M' : Hp} {o tv th : Addr} {D0 : Dev} {Ds : List Dev} {ovs xs : List V} (e : ExtN M M') (h : Wd K C M o tv th D0 Ds ovs xs) : Wd K C M' o tv th D0 Ds ovs xs :=
  ⟨h.own.ext e, SqLext e h.tv, PySem.Paired.mono (fun _ _ q => q.ext e) h.vs, SqText e h.th, PySem.Paired.mono (fun _ _ q => q.ext e) h.hs⟩
structure Vs (D0 : Dev) (Ds : List Dev) : Prop where
  d0 : Drawn D0
  f0 : Ds[0]? = some D0
  sm : ∀ D ∈ Ds, sameD D0 D = true
  l2 : 2 ≤ Ds.length
  l4 : Ds.length ≤ 4
theorem Wd.good {K : PySem.W.Frag} {C : Addr} {M H : Hp} {o tv th : Addr} {D0 : Dev} {Ds : List Dev} {ovs xs : List V} (v : Vs D0 Ds) (h : Wd K C M o tv th D0 Ds ovs xs) (s : Same M H) : GoodDevs K C H (.ref th) D0 Ds := by
  have ln := paired_len h.hs
  have := v.l2
  have := v.l4
  exact ⟨th, xs, rfl, same_tup s h.th, by omega, by omega, fun G sG => PySem.Paired.mono (fun _ _ ⟨a, h1, h2, h3⟩ => ⟨a, h1, h2, h3.same (s.trans sG)⟩) h.hs, v.f0, v.sm⟩
theorem steps_le (D : Dev) (s : Str) (st : List (Str × Str)) : stepsR D s st ≤ st.length := by
  have := steps_take D st s st.length
  rw [List.take_length] at this
  omega
theorem left_most {D : Dev} {st : List (Str × Str)} {m : Nat} (h : IsMost D st m) : (firstD D st).isEmpty = decide (m < st.length) := by
  obtain ⟨⟨s, hs, e⟩, le⟩ := h
  have := steps_le D s st
  by_cases c : m < st.length
  · rw [decide_eq_true c]
    have : firstD D st = [] := List.filter_eq_nil_iff.mpr fun x hx z => by
      have z := of_decide_eq_true z
      have := le x hx
      omega
    rw [this]
    rfl
  · rw [decide_eq_false c]
    have : s ∈ firstD D st := List.mem_filter.mpr ⟨hs, decide_eq_true (by omega)⟩
    cases h2 : firstD D st with
    | nil =>
      rw [h2] at this
      cases this
    | cons a r => rfl
theorem isLeft_most {Ds : List Dev} {D : Dev} {st : List (Str × Str)} {m i : Nat} (hi : Ds[i]? = some D) (h : IsMost D st m) : isLeft Ds st i = !decide (m < st.length) := by
  unfold isLeft
  rw [hi]
  show (!(firstD D st).isEmpty) = _
  rw [left_most h]
theorem ints_dx {K : PySem.W.Frag} {H : Hp} {a : Addr} {ns : List Nat} (h : H a = some (.tup (ns.map fun n => V.int (n : Nat)))) : Dx K H (.ref a) (.tuple (ns.map fun n => PyData.int (n : Nat))) := by
  refine .flat (.tup (.inl (.inl h)) ?_)
  clear h
  induction ns with
  | nil => exact .nil
  | cons n r ih => exact .cons (.int _) ih
theorem ints_small {ns : List Nat} (h : ∀ n ∈ ns, n ≤ 4) (l : ns.length ≤ 25) : small 1 (.tuple (ns.map fun n => PyData.int (n : Nat))) = true := by
  have h2 : smalls 0 (ns.map fun n => PyData.int (n : Nat)) = true := by
    clear l
    induction ns with
    | nil => simp only [List.map_nil, smalls]
    | cons n r ih =>
      have := h n List.mem_cons_self
      simp only [List.map_cons, smalls, small, Bool.and_eq_true, decide_eq_true_eq]
      exact ⟨by omega, ih fun x hx => h x (List.mem_cons_of_mem _ hx)⟩
  simp only [small, h2, List.length_map, Bool.and_true]
  exact decide_eq_true l
theorem leftN_le {Ds : List Dev} {st : List (Str × Str)} (l4 : Ds.length ≤ 4) : (∀ n ∈ leftN Ds st, n ≤ 4) ∧ (leftN Ds st).length ≤ 25 := by
  refine ⟨fun n hn => ?_, ?_⟩
  · have := List.mem_range.mp (List.mem_filter.mp hn).1
    omega
  · have := List.length_filter_le (isLeft Ds st) (List.range Ds.length)
    rw [List.length_range] at this
    unfold leftN
    omega
theorem SqT.updl {K : PySem.W.Frag} {H : Hp} {a t : Addr} {ys xs : List V} {o : HO} (h : H a = some (.lst ys)) (q : SqT K H t xs) : SqT K (upd H a o) t xs := by
  rcases q with (q | ⟨ob, q⟩) | q
  · exact .inl (.inl (by rw [upd_ne (fun z => by rw [z, h] at q; cases q)]; exact q))
  · exact .inl (.inr ⟨ob, by rw [upd_ne (fun z => by rw [z, h] at q; cases q)]; exact q⟩)
  · exact .inr q
theorem GR.updl {K : PySem.W.Frag} {H : Hp} {kvs : List (List Key × V)} {g : Goals} {a : Addr} {o : HO} {ys : List V} (h : H a = some (.lst ys)) (q : GR K H kvs g) : GR K (L2.upd H a o) kvs g := by
  induction q with
  | nil => exact .nil
  | cons a _ ih => exact .cons (SqT.updl h a) ih
theorem DevM.updl {K : PySem.W.Frag} {H : Hp} {a x C : Addr} {D : Dev} {ys : List V} {o : HO} (h : H a = some (.lst ys)) (q : DevM K H x C D) : DevM K (upd H a o) x C D := by
  obtain ⟨dx, c, aa, s, g, h1, h2, h3, h4, kvs, h5, h6⟩ := q
  refine ⟨dx, c, aa, s, g, by rw [upd_ne (fun z => by rw [z, h] at h1; cases h1)]; exact h1, SqT.updl h h2, SqT.updl h h3, SqT.updl h h4, kvs, ?_, GR.updl h h6⟩
  rcases h5 with q | ⟨ob, q⟩
  · exact .inl (by rw [upd_ne (fun z => by rw [z, h] at q; cases q)]; exact q)
  · exact .inr ⟨ob, by rw [upd_ne (fun z => by rw [z, h] at q; cases q)]; exact q⟩
def Refs (ys : List V) : Prop := ∀ v ∈ ys, ∃ a, v = .ref a
theorem Refs.no {ys : List V} (r : Refs ys) {zs : List Str} (n : 1 ≤ zs.length) : ys ≠ zs.map V.str := fun e => by
  cases zs with
  | nil => cases n
  | cons z zs =>
    obtain ⟨a, e2⟩ := r (.str z) (by rw [e]; exact List.mem_cons_self)
    cases e2
theorem OwnAt.updl {K : PySem.W.Frag} {H : Hp} {a x : Addr} {D : Dev} {ys : List V} {o : HO} (d : Drawn D) (h : H a = some (.lst ys)) (r : Refs ys) (q : OwnAt K H x D) : OwnAt K (upd H a o) x D := by
  obtain ⟨c, aa, s, g, kvs, h1, h2, h3, h4, h5, h6⟩ := q.ex
  have off : ∀ {b : Addr} {zs : List Str}, 1 ≤ zs.length → H b = some (.lst (zs.map V.str)) → upd H a o b = some (.lst (zs.map V.str)) := fun {b zs} n e => by
    rw [upd_ne (fun z => by
      rw [z, h] at e
      injection e with e
      injection e with e
      exact r.no n e)]
    exact e
  exact ⟨⟨c, aa, s, g, kvs, by rw [upd_ne (fun z => by rw [z, h] at h1; cases h1)]; exact h1, off d.c1.1 h2, off (by have := d.a1; omega) h3, off d.s1.1 h4, by rw [upd_ne (fun z => by rw [z, h] at h5; cases h5)]; exact h5, GR.updl h h6⟩⟩
theorem mk_upd {p a : Addr} {H : Hp} {o : HO} (ne : a ≠ p) : mk p (upd H a o) = upd (mk p H) a o := by
  funext b
  by_cases e : b = a
  · rw [e, upd_same]
    exact mk_of ne upd_same
  · rw [upd_ne e]
    unfold mk
    by_cases z : b = p
    · rw [if_pos z, if_pos z]
    · rw [if_neg z, if_neg z, upd_ne e]
theorem same_refl {D : Dev} : sameD D D = true := by
  unfold sameD
  simp
theorem paired_app {α β : Type} {R : α → β → Prop} : ∀ {as cs : List α} {bs ds : List β}, PySem.Paired R as bs → PySem.Paired R cs ds → PySem.Paired R (as ++ cs) (bs ++ ds)
  | _, _, _, _, .nil, r => r
  | _, _, _, _, .cons a t, r => .cons a (paired_app t r)
theorem VerIt.updl {K : PySem.W.Frag} {H : Hp} {a : Addr} {v : V} {D : Dev} {ys : List V} {o : HO} (h : H a = some (.lst ys)) (r : Refs ys) (q : VerIt K H v D) : VerIt K (upd H a o) v D := by
  obtain ⟨x, e, d, hO⟩ := q
  exact ⟨x, e, d, hO.updl d h r⟩
theorem DevIt.updl {K : PySem.W.Frag} {C : Addr} {H : Hp} {a : Addr} {v : V} {D : Dev} {ys : List V} {o : HO} (h : H a = some (.lst ys)) (q : DevIt K C H v D) : DevIt K C (upd H a o) v D := by
  obtain ⟨x, e, d, hD⟩ := q
  exact ⟨x, e, d, hD.updl h⟩
theorem Refs.snoc {ys : List V} {a : Addr} (r : Refs ys) : Refs (ys ++ [.ref a]) := fun v hv => by
  rcases List.mem_append.mp hv with h | h
  · exact r v h
  · exact ⟨a, List.mem_singleton.mp h⟩
end LG
namespace K51
open PySem L2 LG LamX
section
variable {P : Program} {w : World} {K : PySem.W.Frag} {mg : Str → Option Value} {base : Heap} {fI B C CD CL : Addr}
abbrev qRt : Str := "_law_right" ++ ".<locals>." ++ "<lambda>"
abbrev tTab (P1 : Addr) : List (Addr × Str) := [(P1, qRt)]
def spRight (P1 : Addr) : Sp := fun vs H Q _ => ∃ (p : Addr) (b : Nat), vs = [.ref p] ∧ Tabs (tTab P1) H ∧ PotAt H p b ∧ b ≤ 20000 ∧ ∀ H', Tabs (tTab P1) H' → BtR p H H' → (∃ B, PotAt H' p B ∧ B ≤ b + 2000) → Q (.bl true) H'
abbrev nRt : List Str := ["_law_pot_here", "_law_own", "_law_versions", "_law_heres", "_law_log_here", "_law_most", "_law_due", "_law_value", "_law_caught", "_law_late", "_law_error", "_law_lap", "_law_one", "_law_at"]
theorem scRt : FnScope nRt ["_law_pot_here"] (defScope sRight) := ⟨rfl, rfl, rfl, by decide +kernel, rfl, by decide +kernel, by decide +kernel⟩
structure KitR (P : Program) (w : World) (K : PySem.W.Frag) (mg : Str → Option Value) (base : Heap) (fI C CD CL B : Addr) : Prop where
  of_ : ∃ g gd, FnOk P w K mg base CX0 2 g gd ["_law_pot_here", "_law_some_here"] (spOf K) ∧ mg "_law_of" = some (.ref g) ∧ PySem.W.keepIn K (.ref g) = true ∧ L2.Binds K gd ["_law_pot_here", "_law_some_here"] []
  take : ∃ g gd, FnOk P w K mg base CX0 1 g gd ["_law_pot_here", "_law_upto"] spTake ∧ mg "_law_take" = some (.ref g) ∧ PySem.W.keepIn K (.ref g) = true ∧ L2.Binds K gd ["_law_pot_here", "_law_upto"] []
  dvc : ∃ g gd, FnOk P w K mg base CX0 4 g gd ["_law_pot_here", "_law_many", "_law_sizes_here"] (spDevice K) ∧ mg "_law_device" = some (.ref g) ∧ PySem.W.keepIn K (.ref g) = true ∧ L2.Binds K gd ["_law_pot_here", "_law_many", "_law_sizes_here"] []
  sizes : ∃ g gd, FnOk P w K mg base CX0 3 g gd ["_law_pot_here"] (spSizes K) ∧ mg "_law_sizes" = some (.ref g) ∧ PySem.W.keepIn K (.ref g) = true ∧ L2.Binds K gd ["_law_pot_here"] []
  like : ∃ g gd, FnOk P w K mg base CX0 3 g gd ["_law_pot_here", "_law_device_here"] (spLike K) ∧ mg "_law_like" = some (.ref g) ∧ PySem.W.keepIn K (.ref g) = true ∧ L2.Binds K gd ["_law_pot_here", "_law_device_here"] []
  made : ∃ g gd, FnOk P w K mg base CX0 6 g gd ["_law_device_here"] (spMade K C) ∧ mg "_law_here" = some (.ref g) ∧ PySem.W.keepIn K (.ref g) = true ∧ L2.Binds K gd ["_law_device_here"] []
  log : ∃ g gd, FnOk P w K mg base CX0 4 g gd ["_law_pot_here", "_law_device_here", "_law_most"] (spLog K) ∧ mg "_law_log" = some (.ref g) ∧ PySem.W.keepIn K (.ref g) = true ∧ L2.Binds K gd ["_law_pot_here", "_law_device_here", "_law_most"] []
  along : ∃ g gd, FnOk P w K mg base CX0 1 g gd ["_law_device_here", "_law_log_here"] (spAlong K) ∧ mg "_law_along" = some (.ref g) ∧ PySem.W.keepIn K (.ref g) = true ∧ L2.Binds K gd ["_law_device_here", "_law_log_here"] []
  left : ∃ g gd, FnOk P w K mg base (L2.CX P w) 7 g gd ["devices", "log"] (spLeft K C CD CL) ∧ mg "left" = some (.ref g) ∧ PySem.W.keepIn K (.ref g) = true ∧ L2.Binds K gd ["devices", "log"] []
  other : ∃ g gd, FnOk P w K mg base CX0 6 g gd ["_law_device_here"] (spOther K C) ∧ mg "_law_other" = some (.ref g) ∧ PySem.W.keepIn K (.ref g) = true ∧ L2.Binds K gd ["_law_device_here"] []
  bad : ∃ g gd, FnOk P w K mg base CX0 4 g gd ["_law_pot_here", "_law_heres", "_law_far"] (spBadMany K C) ∧ mg "_law_bad_many" = some (.ref g) ∧ PySem.W.keepIn K (.ref g) = true ∧ L2.Binds K gd ["_law_pot_here", "_law_heres", "_law_far"] []
  logs : ∃ g gd, FnOk P w K mg base CX0 8 g gd ["_law_pot_here", "_law_device_here", "_law_log_here"] (spLogs K) ∧ mg "_law_logs_near" = some (.ref g) ∧ PySem.W.keepIn K (.ref g) = true ∧ L2.Binds K gd ["_law_pot_here", "_law_device_here", "_law_log_here"] []
  isl : ∃ g gd, FnOk P w K mg base CX0 1 g gd ["_law_device_here", "_law_value"] (spIsLog K) ∧ mg "_law_is_log" = some (.ref g) ∧ PySem.W.keepIn K (.ref g) = true ∧ L2.Binds K gd ["_law_device_here", "_law_value"] []
  ref : ∃ g gd, GnOk P w K mg base 1 g gd nIf (spIsRef K CL) ∧ mg "_law_is_refused" = some (.ref g) ∧ PySem.W.keepIn K (.ref g) = true ∧ L2.Binds K gd nIf []
  told : ∃ (g : Addr) (kV dc pm cd ct oc : Value) (an od : Option Addr) (sl : Array (Option Value)), mg "_law_told" = some (.ref g) ∧ PySem.W.keepIn K (.ref g) = true ∧ K.lookup g = some ⟨oc, od, .func (PySem.W.fnOf "_law_told" "_law_told" (defArgs sTold) (defBody sTold) (defScope sTold) .none kV dc pm an cd ct), sl⟩ ∧
    PySem.W.codeIn K cd "_law_told" = true ∧ L2.Binds K (PySem.W.fnOf "_law_told" "_law_told" (defArgs sTold) (defBody sTold) (defScope sTold) .none kV dc pm an cd ct) ["_law_look"] []
  deq : ∃ g gd, FnOk P w K mg base CX0 1 g gd ["self", "other"] (spDEq K C) ∧ PySem.W.findIn K (.ref C) "__eq__" = some (some (.ref g)) ∧ PySem.W.isFn K (.ref g) = true ∧ L2.Binds K gd ["self", "other"] []
  ne : PySem.W.findIn K (.ref C) "__ne__" = some (some (.builtin "object.__ne__"))
  ob : PySem.W.mroIn K C (.type "object") = some true
  box : mg "BoxError" = some (.ref B)
  es : EQl K mg fI B "BadLog" CL
  ed : EQl K mg fI B "BadDevices" CD
  dev : DevCl K mg C
  is_ : DevIs K C
  no : DevNot K C
  dsc : ClsD K
def rIsNo : R2 := fun x y H Q => y = .non ∧ Q (.bl (decide (x = .non))) H
/-! ### what the questions ask -/
def tBa (K : PySem.W.Frag) (C CD : Addr) (T : List (Addr × Str)) (l : Bool) : TE := fun σ H Q => ∃ (v lg : V), σ[7]? = some (some v) ∧ (l = true → σ[4]? = some (some lg)) ∧ Tabs T H ∧ BadS K C H v ∧ ∀ cv G, ExtN H G → Tabs T G → Caught G CD cv v → Q cv G
def tLo (K : PySem.W.Frag) (C CL : Addr) (T : List (Addr × Str)) : TE := fun σ H Q => ∃ (v : V) (o tv th : Addr) (d : PyData) (D0 : Dev) (Ds : List Dev) (ovs xs : List V), σ[3]? = some (some (.ref th)) ∧ σ[7]? = some (some v) ∧ Tabs T H ∧ Wd K C H o tv th D0 Ds ovs xs ∧ Vs D0 Ds ∧ Dx K H v d ∧
  ∀ cv G, ExtN H G → Tabs T G → Looked G CL (isLogD D0.calls D0.answers d) v cv → Q cv G
def tEr (K : PySem.W.Frag) (C CD : Addr) : TT := fun σ H Q => ∃ (cv v : V), σ[10]? = some (some cv) ∧ σ[7]? = some (some v) ∧ Caught H CD cv v ∧ BadS K C H v ∧ Q false H
def tOne (K : PySem.W.Frag) (CL : Addr) : TT := fun σ H Q => ∃ (cv v : V) (d : PyData) (o : Addr) (D : Dev), σ[8]? = some (some cv) ∧ σ[7]? = some (some v) ∧ σ[1]? = some (some (.ref o)) ∧ OwnL K H o D ∧ Dx K H v d ∧ Looked H CL (isLogD D.calls D.answers d) v cv ∧ ∀ G, Same H G → Q false G
def tTwo (K : PySem.W.Frag) (CL : Addr) : TT := fun σ H Q => ∃ (cv v : V) (b : Bool), σ[8]? = some (some cv) ∧ σ[7]? = some (some v) ∧ Looked H CL b v cv ∧ Gx K 3 H v ∧ Q false H
theorem ok_right {f c P1 : Addr} {oc kV doc pm ct : Value} {od an : Option Addr} {osl : Array (Option Value)} (T : Bltn mg) (Z : KitR P w K mg base fI C CD CL B)
    (lk : K.lookup f = some ⟨oc, od, .func (PySem.W.fnOf "_law_right" "_law_right" (defArgs sRight) (defBody sRight) (defScope sRight) .none kV doc pm an (.ref c) ct), osl⟩) (hcd : PySem.W.codeIn K (.ref c) "_law_right" = true) (TB : TabB base mg c P1) :
    GnOk P w K mg base 10 f (PySem.W.fnOf "_law_right" "_law_right" (defArgs sRight) (defBody sRight) (defScope sRight) .none kV doc pm an (.ref c) ct) ["_law_pot_here"] (spRight P1) := by
  obtain ⟨gf, gfd, GF, mF, kF, bF⟩ := Z.of_
  obtain ⟨gt_, gtd_, GT, mT_, kTk, bT_⟩ := Z.take
  obtain ⟨gd_, gdd_, GD, mD, kD, bD⟩ := Z.dvc
  obtain ⟨gz, gzd, GZ, mZ, kZ, bZ⟩ := Z.sizes
  obtain ⟨gk, gkd, GK, mK, kK, bK⟩ := Z.like
  obtain ⟨gm, gmd, GM, mM, kM, bM⟩ := Z.made
  obtain ⟨gl, gld, GL, mL, kL, bL⟩ := Z.log
  obtain ⟨gg, ggd, GG, mG, kG, bG⟩ := Z.along
  obtain ⟨ge, ged, GE, mE, kE, bE⟩ := Z.left
  obtain ⟨go, god, GO, mO, kO, bO⟩ := Z.other
  obtain ⟨gb, gbd, GB, mB, kB, bB⟩ := Z.bad
  obtain ⟨gn, gnd, GN, mN, kN, bN⟩ := Z.logs
  obtain ⟨gi, gid, GI, mI, kI, bI⟩ := Z.isl
  obtain ⟨gr, grd, GR_, mR, kR, bR⟩ := Z.ref
  obtain ⟨gt, kVt, dct, pmt, cdt, ctt, oct, ant, odt, slt, mT, kT_, lT, cT, bT⟩ := Z.told
  obtain ⟨gq, gqd, GQ, fQ, nQ, bQ⟩ := Z.deq
  refine gn_ofL lk hcd scRt (fun vs H Q E h => ?_) (fun A0 outer s H vs Q hG hr h => ?_)
  · obtain ⟨p, b, rfl, _⟩ := h
    rfl
  obtain ⟨p, b, rfl, hT, hp, hb, q⟩ := h
  have r9 : Room 9 _ := hr
  have r8 : Room 8 _ := hr.mono (by decide)
  have r7 : Room 7 _ := hr.mono (by decide)
  have r6 : Room 6 _ := hr.mono (by decide)
  have r4 : Room 4 _ := hr.mono (by decide)
  have r3 : Room 3 _ := hr.mono (by decide)
  have r2 : Room 2 _ := hr.mono (by decide)
  have r1 : Room 1 _ := hr.mono (by decide)
  have hu := hu_of hr
  have hmT : ((P1, qRt) : Addr × Str) ∈ tTab P1 := List.mem_cons_self
  have huT : ∀ q ∈ tTab P1, q.1 = P1 → q.2 = qRt := by
    intro q hq e
    rw [List.mem_singleton.mp hq]
  refine' ⟨_, pss_cons ?own (pss_cons ?vers (pss_cons ?heres (pss_cons (ps_for PassesOwn.never rfl (pi_tup ?ms) (pg_name (i := 5) scRt.nd rfl (Or.inl rfl)) (pss_cons ?log (pss_cons ?due (pss_one ?if1))))
    (pss_cons (ps_for PassesOwn.never rfl (pi_list ?bads) (pg_name (i := 7) scRt.nd rfl (Or.inr rfl)) (pss_cons (ps_set (i := 8) scRt.nd rfl (Or.inl rfl) ?c1) (pss_cons (ps_set (i := 9) scRt.nd rfl (Or.inl rfl) ?c2) (pss_one (ps_for PassesOwn.never rfl (pi_tup ?ers) (pg_name (i := 10) scRt.nd rfl (Or.inl rfl)) (pss_one (ps_if ?er (pss_one (ps_ret pe_bl)) pss_nil)))))))
    (pss_cons (ps_for PassesOwn.never rfl (pi_list ?nears) (pg_name (i := 7) scRt.nd rfl (Or.inr rfl)) (pss_cons (ps_set (i := 8) scRt.nd rfl (Or.inl rfl) ?c3) (pss_cons (ps_if ?if2 (pss_one (ps_ret pe_bl)) pss_nil) (pss_one (ps_if ?if3 (pss_one (ps_ret pe_bl)) pss_nil)))))
    (pss_one (ps_ret pe_bl))))))), ?main⟩
  case own =>
    exact ps_set (i := 1) scRt.nd rfl (Or.inr rfl) (pe_call GD r4 rfl mD kD bD .nil pass0 (pa_cons (pv 0) (pa_cons (pe_op op_add pe_int (pe_call GT r1 rfl mT_ kTk bT_ .nil pass0 (pa_cons (pv 0) (pa_cons pe_int pa_nil)))) (pa_cons (pe_call GZ r3 rfl mZ kZ bZ .nil pass0 (pa_cons (pv 0) pa_nil)) pa_nil))))
  case vers =>
    exact ps_set (i := 2) scRt.nd rfl (Or.inl rfl) (pe_op op_cat (pe_lst (pa_cons (pv 1) pa_nil)) (pe_lc (te := tCall (spLike K) [] E0 (tCons (tVar 0) (tCons (tVar 1) tNil))) (own := [("_law_lap", 11)]) (g := gName 11) (tt := tYes) rfl scRt.nd (pi_range1 rfl T.range (pa_cons (pe_op op_add pe_int (pe_call GT r1 rfl mT_ kTk bT_ .nil pass0 (pa_cons (pv 0) (pa_cons pe_int pa_nil)))) pa_nil))
      (blkOk_by (own := [("_law_lap", 11)]) (N := nRt) (sc := defScope sRight) (by decide +kernel)) (fun _ _ _ _ _ => pg_name (i := 11) scRt.nd rfl (Or.inl rfl)) (fun _ _ _ _ _ => pts_nil)
      (fun _ _ _ _ _ => by exact pe_call GK r3 rfl mK kK bK .nil pass0 (pa_cons (pv 0) (pa_cons (pv 1) pa_nil)))))
  case heres =>
    exact ps_asg (pe_tup (pa_cons (pe_callTy call_tuple_of rfl T.tuple (by decide +kernel) (pa_cons (pe_lc (te := tCall (spMade K C) [] E0 (tCons (tVar 12) tNil)) (own := [("_law_one", 12)]) (g := gName 12) (tt := tYes) rfl scRt.nd (pi_list (pv 2))
      (blkOk_by (own := [("_law_one", 12)]) (N := nRt) (sc := defScope sRight) (by decide +kernel)) (fun _ _ _ _ _ => pg_name (i := 12) scRt.nd rfl (Or.inl rfl)) (fun _ _ _ _ _ => pts_nil)
      (fun _ _ _ _ _ => by exact pe_call GM r6 rfl mM kM bM .nil pass0 (pa_cons (pv 12) pa_nil))) pa_nil)) (pa_cons (pe_tup pa_nil) pa_nil))) (pg_tup rfl (pgs_cons (pg_name (i := 3) scRt.nd rfl (Or.inr rfl)) (pgs_cons (pg_name (i := 4) scRt.nd rfl (Or.inr rfl)) pgs_nil)))
  case ms =>
    exact pe_tup (pa_cons pe_int (pa_cons pe_int (pa_cons (pe_call GF r2 rfl mF kF bF .nil pass0 (pa_cons (pv 0) (pa_cons (pe_lst (pa_cons pe_int (pa_cons pe_int pa_nil))) pa_nil))) pa_nil)))
  case log =>
    exact ps_set (i := 4) scRt.nd rfl (Or.inr rfl) (pe_call GL r4 rfl mL kL bL .nil pass0 (pa_cons (pv 0) (pa_cons (pe_call GF r2 rfl mF kF bF .nil pass0 (pa_cons (pv 0) (pa_cons (pv 2) pa_nil))) (pa_cons (pv 5) pa_nil))))
  case due =>
    exact ps_set (i := 6) scRt.nd rfl (Or.inl rfl) (pe_callTy call_tuple_of rfl T.tuple (by decide +kernel) (pa_cons (pe_lc (te := tVar 13) (tt := tTest (tOp rIsNo (tOp (rIxT K) (tCall (spAlong K) [] E0 (tCons (tVar 12) (tCons (tVar 4) tNil))) (tC (.int 2))) (tC .non))) (own := [("_law_at", 13), ("_law_one", 12)]) (g := gTup K 2 (gCons (gName 13) (gCons (gName 12) gNil))) rfl scRt.nd (pi_enum rfl T.enumerate (pa_cons (pv 2) pa_nil))
      (blkOk_by (own := [("_law_at", 13), ("_law_one", 12)]) (N := nRt) (sc := defScope sRight) (by decide +kernel)) (fun _ _ _ _ _ => by exact pg_tup rfl (pgs_cons (pg_name (i := 13) scRt.nd rfl (Or.inl rfl)) (pgs_cons (pg_name (i := 12) scRt.nd rfl (Or.inl rfl)) pgs_nil)))
      (fun _ _ _ _ _ => by exact pts_one (pt_cmpR op_isN (pe_ix ix_tup (pe_call GG r1 rfl mG kG bG .nil pass0 (pa_cons (pv 12) (pa_cons (pv 4) pa_nil))) pe_int (fun _ _ => rfl)) pe_non (by rfl)))
      (fun _ _ _ _ _ => by exact pv 13)) pa_nil))
  case if1 =>
    exact ps_if (pt_cmpR op_ne (pe_callB (call_repr hG hr.units) rfl T.repr (by decide +kernel) (pa_cons (pe_call GE r7 rfl mE kE bE .nil passF (pa_cons (pv 3) (pa_cons (pv 4) pa_nil))) pa_nil)) (pe_callB (call_repr hG hr.units) rfl T.repr (by decide +kernel) (pa_cons (pv 6) pa_nil)) (nomark _)) (pss_one (ps_ret pe_bl)) pss_nil
  case bads =>
    exact pe_call GB r4 rfl mB kB bB .nil pass0 (pa_cons (pv 0) (pa_cons (pv 3) (pa_cons (pe_call GO r6 rfl mO kO bO .nil pass0 (pa_cons (pv 1) pa_nil)) pa_nil)))
  case ers => exact pe_tup (pa_cons (pv 8) (pa_cons (pv 9) pa_nil))
  case nears => exact pe_call GN r8 rfl mN kN bN .nil pass0 (pa_cons (pv 0) (pa_cons (pv 1) (pa_cons (pv 4) pa_nil)))
  case c1 =>
    refine' pe_imp (t' := tBa K C CD (tTab P1) true) (pe_ix ix_tup (pe_lam2 (T := tTab P1) (TT := TTk K B) (t := fun E => tCall (spLeft K C CD CL) [] E (tCons (tVar 7) (tCons (tVar 4) tNil))) (k := 7) (Ng := nT) (P := P1) rfl mT kT_ lT cT bT scTold rfl (Or.inl rfl) (told_gives Z.box) TB rfl hmT
      huT r9 (lamS_by (by show lamSB (defScope sRight) _ = true; decide +kernel)) (by rfl) (fun _ _ _ _ _ => rfl)
      (fun A outer s H E f c' hr4 => by exact pe_call GE hr4 (by rfl) mE kE bE .nil (by exact passes_call (takes_of (E := E) rfl rfl rfl rfl) (fun _ _ _ _ h => h)) (pa_cons (pv 7) (pa_cons (pv 4) pa_nil)))) pe_int (fun _ _ => rfl)) ?_
    rintro σ H Q ⟨v, lg, e7, e4, hT, bv, k⟩
    refine told_gen (fun C' y => C' = CD ∧ y = v) False (fun C' y h => by rw [h.1]; exact Z.ed.box) hT (fun G E R eG er rt => ?_) (fun C' y u p G hb eG tG cG hp => ?_) (fun u p G z _ _ _ => z.elim)
    · exact ⟨_, e7, _, e4 rfl, v, lg, rfl, .inl ⟨bad_devs Z.dev Z.is_ Z.no (bv.ext eG), fun d G2 s2 nd => er CD v d G2 ⟨rfl, rfl⟩ s2 nd⟩⟩
    · obtain ⟨hC, hy⟩ := hb
      subst hC
      subst hy
      exact ⟨p, _, 0, _, rfl, rfl, .inl (.inl hp), rfl, k u G eG tG cG⟩
  case c2 =>
    refine' pe_imp (t' := tBa K C CD (tTab P1) false) (pe_ix ix_tup (pe_lam2 (T := tTab P1) (TT := TTk K B) (t := fun E => tCall (spLeft K C CD CL) [] E (tCons (tVar 7) (tCons (tC .non) tNil))) (k := 7) (Ng := nT) (P := P1) rfl mT kT_ lT cT bT scTold rfl (Or.inl rfl) (told_gives Z.box) TB rfl hmT
      huT r9 (lamS_by (by show lamSB (defScope sRight) _ = true; decide +kernel)) (by rfl) (fun _ _ _ _ _ => rfl)
      (fun A outer s H E f c' hr4 => by exact pe_call GE hr4 (by rfl) mE kE bE .nil (by exact passes_call (takes_of (E := E) rfl rfl rfl rfl) (fun _ _ _ _ h => h)) (pa_cons (pv 7) (pa_cons pe_non pa_nil)))) pe_int (fun _ _ => rfl)) ?_
    rintro σ H Q ⟨v, lg, e7, e4, hT, bv, k⟩
    refine told_gen (fun C' y => C' = CD ∧ y = v) False (fun C' y h => by rw [h.1]; exact Z.ed.box) hT (fun G E R eG er rt => ?_) (fun C' y u p G hb eG tG cG hp => ?_) (fun u p G z _ _ _ => z.elim)
    · exact ⟨_, e7, v, .non, rfl, .inl ⟨bad_devs Z.dev Z.is_ Z.no (bv.ext eG), fun d G2 s2 nd => er CD v d G2 ⟨rfl, rfl⟩ s2 nd⟩⟩
    · obtain ⟨hC, hy⟩ := hb
      subst hC
      subst hy
      exact ⟨p, _, 0, _, rfl, rfl, .inl (.inl hp), rfl, k u G eG tG cG⟩
  case c3 =>
    refine' pe_imp (t' := tLo K C CL (tTab P1)) (pe_ix ix_tup (pe_lam2 (T := tTab P1) (TT := TTk K B) (t := fun E => tCall (spLeft K C CD CL) [] E (tCons (tVar 3) (tCons (tVar 7) tNil))) (k := 7) (Ng := nT) (P := P1) rfl mT kT_ lT cT bT scTold rfl (Or.inl rfl) (told_gives Z.box) TB rfl hmT
      huT r9 (lamS_by (by show lamSB (defScope sRight) _ = true; decide +kernel)) (by rfl) (fun _ _ _ _ _ => rfl)
      (fun A outer s H E f c' hr4 => by exact pe_call GE hr4 (by rfl) mE kE bE .nil (by exact passes_call (takes_of (E := E) rfl rfl rfl rfl) (fun _ _ _ _ h => h)) (pa_cons (pv 3) (pa_cons (pv 7) pa_nil)))) pe_int (fun _ _ => rfl)) ?_
    rintro σ H Q ⟨v, o, tv, th, d, D0, Ds, ovs, xs, e3, e7, hT, wd, vs, hd, k⟩
    refine told_gen (fun C' y => isLogD D0.calls D0.answers d = false ∧ C' = CL ∧ y = v) (isLogD D0.calls D0.answers d = true) (fun C' y h => by rw [h.2.1]; exact Z.es.box) hT (fun G E R eG er rt => ?_) (fun C' y u p G hb eG tG cG hp => ?_) (fun u p G z eG tG hp => ?_)
    · exact ⟨_, e3, _, e7, .ref th, v, rfl, .inr ⟨D0, Ds, d, (wd.ext eG).good vs (Same.refl G), hd.ext eG, fun z a G2 s2 na => er CL v a G2 ⟨z, rfl, rfl⟩ s2 na, fun st e l m tw G2 s2 htw => rt (by rw [e]; exact isLog_of l m) _ _ s2⟩⟩
    · obtain ⟨h1, hC, hy⟩ := hb
      subst hC
      subst hy
      exact ⟨p, _, 0, _, rfl, rfl, .inl (.inl hp), rfl, k u G eG tG (.inl ⟨h1, cG⟩)⟩
    · exact ⟨p, _, 0, _, rfl, rfl, .inl (.inl hp), rfl, k .non G eG tG (.inr ⟨z, rfl⟩)⟩
  case er =>
    refine' pt_imp (t' := tEr K C CD) (PW.pt (pw_or (pt_not (pt_val (pe_callB (call_isErrQ Z.dsc) rfl T.isinstance (by decide +kernel) (pa_cons (pv 10) (pa_cons (pe_glob (v := .ref CD) rfl Z.ed.ec.mg rfl) pa_nil)))))
          (pw_or1 (pt_cmpR (op_or2 (op_or2 op_ne (op_or2 (op_neSeq hr.units0) (op_neDS hr.units0))) (op_ownNe fQ nQ Z.ne Z.ob GQ bQ r2)) (pe_errq (pv 10)) (pv 7) (by rfl))))) ?_
    rintro σ H Q ⟨cv, v, e10, e7, hc, bv, k⟩
    obtain ⟨a, d, rfl, er⟩ := hc
    exact ⟨_, e10, a, CD, d, _, _, _, true, rfl, .own CD, Z.ed.ec.er, er, kit_self, _, rfl, iteF ⟨_, e10, a, CD, d, _, _, rfl, Z.ed.ec.er, Z.ed.ec.no, er, vf_get _, _, e7, bad_self Z.dev Z.is_ bv ⟨_, rfl, k⟩⟩⟩
  case if2 =>
    refine' pt_imp (t' := tOne K CL) (pt_cmpR op_ne (pe_call GI r1 rfl mI kI bI .nil pass0 (pa_cons (pv 1) (pa_cons (pv 7) pa_nil))) (pe_cmpR op_isN (pv 8) pe_non (by rfl)) (nomark _)) ?_
    rintro σ H Q ⟨cv, v, d, o, D, e6, e4, e1, hO, hd, lk_, k⟩
    refine ⟨_, e1, _, e4, o, v, d, D, rfl, hO, hd, fun G sG => ⟨_, e6, rfl, rfl, _, rfl, ?_⟩⟩
    rcases lk_ with ⟨e, a, dd, rfl, _⟩ | ⟨e, rfl⟩
    · rw [e]
      exact k G sG
    · rw [e]
      exact k G sG
  case if3 =>
    refine' pt_imp (t' := tTwo K CL) (PW.pt (pw_and (pt_cmpR op_notN (pv 8) pe_non (nomark _)) (pw_and1 (pt_not (pt_val (pe_gcall GR_ hG r1 rfl mR kR bR (pa_cons (pe_callB (call_isErrQ Z.dsc) rfl T.isinstance (by decide +kernel) (pa_cons (pv 8) (pa_cons (pe_glob (v := .ref CL) rfl Z.es.ec.mg rfl) pa_nil))) (pa_cons (pv 8) (pa_cons (pv 7) pa_nil))))))))) ?_
    rintro σ H Q ⟨cv, v, b, e8, e7, lk_, gv, k⟩
    rcases lk_ with ⟨e, a, d, rfl, er⟩ | ⟨e, rfl⟩
    · refine ⟨_, e8, rfl, _, rfl, iteT ?_⟩
      exact ⟨_, e8, a, CL, d, _, _, _, true, rfl, .own CL, Z.es.ec.er, er, kit_self, _, e8, _, e7, .ref a, v, rfl, ⟨a, d, rfl, er⟩, gv, _, rfl, k⟩
    · exact ⟨_, e8, rfl, _, rfl, iteF k⟩
  case main =>
    refine ⟨_, rfl, _, rfl, p, 4, b, rfl, hp, by omega, by decide, by decide, fun k H1 k0 k4 b1 p1 => ?_⟩
    obtain ⟨k', rfl⟩ := Int.eq_ofNat_of_zero_le k0
    refine ⟨_, _, rfl, rfl, _, rfl, p, b + 1, rfl, p1, by omega, fun z n1 n2 H2 b2 p2 hz a1 a3 c2 c3 => ?_⟩
    refine ⟨p, z, 1 + k', n1, n2, b + 1 + 1, rfl, p2, by omega, by omega, by omega, hz, a1, a3, c2, c3, fun o D0 H3 b3 p3 dr lD hO => ?_⟩
    have bH3 : But p H H3 := (b1.trans b2).trans b3
    clear b1 b2 b3 p1 p2 hz
    -- the versions
    refine ⟨_, rfl, (by show 1 ≤ sizeLine; decide), fun l0 nl0 => ?_⟩
    have u4 := same_new nl0 (.lst [V.ref o])
    have hl0 : (upd H3 l0 (.lst [V.ref o])) l0 = some (.lst [V.ref o]) := upd_same
    have l0p : l0 ≠ p := new_ne p3.there nl0
    show _
    generalize upd H3 l0 (.lst [V.ref o]) = H4 at u4 hl0 ⊢
    have p4 := p3.same u4
    have hO4 := hO.same (mk_up u4)
    refine ⟨_, rfl, p, 3, b + 702, rfl, p4.mono (by omega), by omega, by decide, by decide, fun k2 H5 k20 k23 b5 p5 => ?_⟩
    obtain ⟨n3, rfl⟩ := Int.eq_ofNat_of_zero_le k20
    refine ⟨_, _, rfl, rfl, ?_⟩
    refine ⟨_, rfl, by omega, by omega, fun DL nDL => ?_⟩
    have ej : (1 + (n3 : Int)).toNat = n3 + 1 := by omega
    rw [ej]
    have nDLp : DL ≠ p := new_ne p5.there nDL
    have u5 := same_new nDL (.lst [])
    have hO5 : OwnAt K (mk p H5) o D0 := hO4.same (mk_but b5)
    have hl5 := b5 _ _ hl0 l0p
    have bH5 : But p H H5 := (bH3.trans (But.of u4)).trans b5
    refine lc_it (walk_range (lo := 0) (n := n3 + 1)) (D := DL) (g := gName 11) (tt := tYes) (te := tCall (spLike K) [] E0 (tCons (tVar 0) (tCons (tVar 1) tNil))) (vs := [11])
      (fun j G => ∃ (ovs : List V) (Es : List Dev) (B : Nat), But p H5 G ∧ PotAt G p B ∧ B ≤ b + 703 + 60 * j ∧ G DL = some (.lst ovs) ∧ Es.length = j ∧ Refs ovs ∧ PySem.Paired (VerIt K (mk p G)) ovs Es ∧ ∀ E ∈ Es, sameD D0 E = true)
      ⟨[], [], b + 703, But.of u5, (p5.same u5).mono (by omega), by omega, upd_same, rfl, (fun _ h => nomatch h), .nil, (fun _ h => nomatch h)⟩ (fun _ _ _ _ => trivial) ?_ ?_
    · rintro j y G6 G7 hj ⟨ovs, Es, B, b6, p6, hB, d6, lE, rf, pr, sm⟩ ⟨rfl, rfl⟩
      refine ⟨rfl, ?_⟩
      refine ⟨_, rfl, _, rfl, p, o, B, D0, rfl, p6, by omega, hO5.same (mk_but b6), dr, fun o2 D2 H8 b8 ⟨B8, p8, hB8⟩ dr2 sm2 hO2 => ?_⟩
      have d8 := b8 _ _ d6 nDLp
      have lo := paired_len pr
      have m8 : mk p H8 DL = some (.lst ovs) := mk_of nDLp d8
      refine ⟨ovs, d8, by rw [lo, lE, sizeLine_eq]; omega, ovs ++ [.ref o2], Es ++ [D2], B8, (fun c u e n => ?_), PotAt.upd p8 nDLp, by omega, upd_same, by rw [List.length_append, lE]; rfl, rf.snoc, ?_, fun E hE => ?_⟩
      · rw [upd_ne (ne_of_none e nDL)]
        exact b8 _ _ (b6 _ _ e n) n
      · rw [mk_upd nDLp]
        exact paired_app (PySem.Paired.mono (fun v E h => ((h.ext (ExtN.of (mk_but b8))).updl m8 rf)) pr) (.cons ⟨o2, rfl, dr2, hO2.updl dr2 m8 rf⟩ .nil)
      · rcases List.mem_append.mp hE with h | h
        · exact sm E h
        · rw [List.mem_singleton.mp h]
          exact sm2
    rintro G6 ⟨ovs0, Es, B, b6, p6, hB, d6, lE, rf, pr, sm⟩
    have lo := paired_len pr
    have hO6 := hO5.same (mk_but b6)
    refine ⟨l0, DL, [.ref o], ovs0, rfl, rfl, b6 _ _ hl5 l0p, d6, by rw [lo, lE, sizeLine_eq]; show 1 + (n3 + 1) ≤ _; omega, fun tv ntv => ?_⟩
    have u7 := same_new ntv (.lst ([V.ref o] ++ ovs0))
    have htv : (upd G6 tv (.lst ([V.ref o] ++ ovs0))) tv = some (.lst ([V.ref o] ++ ovs0)) := upd_same
    have vr : PySem.Paired (VerIt K (mk p (upd G6 tv (.lst ([V.ref o] ++ ovs0))))) ([V.ref o] ++ ovs0) (D0 :: Es) := .cons ⟨o, rfl, dr, hO6.same (mk_up u7)⟩ (PySem.Paired.mono (fun v E h => h.ext (ExtN.of (mk_up u7))) pr)
    have VS : Vs D0 (D0 :: Es) := ⟨dr, rfl, fun E hE => by
      rcases List.mem_cons.mp hE with rfl | h
      · exact same_refl
      · exact sm E h, by rw [List.length_cons, lE]; omega, by rw [List.length_cons, lE]; omega⟩
    have p7 := p6.same u7
    have hO7 := hO6.same (mk_up u7)
    have bH7 : But p H (upd G6 tv (.lst ([V.ref o] ++ ovs0))) := (bH5.trans b6).trans (But.of u7)
    have tvp : tv ≠ p := new_ne p6.there ntv
    have hB7 : B ≤ b + 703 + 60 * 3 := by omega
    clear hB
    show _
    generalize upd G6 tv (.lst ([V.ref o] ++ ovs0)) = G7 at htv vr p7 hO7 bH7 ⊢
    clear u7 b6 p6 d6 pr hO6 hO5 hl5 u5 bH5 nDL p5 hO4 p4 hl0 hO bH3 u4
    generalize [V.ref o] ++ ovs0 = ovs at htv vr
    generalize D0 :: Es = Ds at vr VS
    clear sm lE lo rf
    -- the package's devices
    refine ⟨_, rfl, tv, rfl, ⟨_, SqL.of htv⟩, fun D2 nD2 => ?_⟩
    refine lc_it walk_list (D := D2) (g := gName 12) (tt := tYes) (te := tCall (spMade K C) [] E0 (tCons (tVar 12) tNil)) (vs := [12]) (fun j G => Same G7 G ∧ ∃ xs, G D2 = some (.lst xs) ∧ PySem.Paired (DevIt K C G) xs (Ds.take j)) ⟨same_new nD2 _, [], upd_same, by rw [List.take_zero]; exact .nil⟩ (fun j G _ h => SqL.of (h.1 _ _ htv)) ?_ ?_
    · rintro j y G8 G9 hj ⟨s8, xs, d8, pr8⟩ ⟨rfl, hy⟩
      obtain ⟨D, hD, a, rfl, drD, hOD⟩ := paired_ix vr hy
      refine ⟨rfl, _, rfl, a, D, rfl, ((hOD.same (mk_up s8)).same (mk_self p _)).l drD, drD, fun x G10 s10 dev => ?_⟩
      have d10 := s10 _ _ d8
      have l8 := paired_len pr8
      have l4 := VS.l4
      refine ⟨xs, d10, by rw [l8, List.length_take, sizeLine_eq]; omega, same_put (s8.trans s10) nD2, xs ++ [.ref x], upd_same, ?_⟩
      rw [List.take_add_one, hD]
      exact paired_app (PySem.Paired.mono (fun v E h => (h.ext (ExtN.of s10)).updl d10) pr8) (.cons ⟨x, rfl, drD, DevM.updl d10 dev⟩ .nil)
    rintro G8 ⟨s8, xs, d8, pr8⟩
    have lv := paired_len vr
    rw [lv, List.take_length] at pr8
    refine ⟨D2, xs, rfl, .inl ⟨SqL.of d8, fun th nth => ?_⟩⟩
    have u9 := same_new nth (.tup xs)
    have hth : (upd G8 th (.tup xs)) th = some (.tup xs) := upd_same
    show _
    generalize upd G8 th (.tup xs) = G9 at u9 hth ⊢
    have s9 := s8.trans u9
    refine ⟨(by show 0 ≤ sizeLine; decide), fun t0 nt0 => ⟨(by show 2 ≤ sizeLine; decide), fun tt ntt => ⟨tt, _, rfl, .inl (.inl upd_same), rfl, _, _, rfl, _, _, rfl, rfl, ?_⟩⟩⟩
    have u10 := same_new nt0 (.tup [])
    have u11 := same_new ntt (.tup [V.ref th, .ref t0])
    have h011 : (upd (upd G9 t0 (.tup [])) tt (.tup [V.ref th, .ref t0])) t0 = some (.tup []) := u11 _ _ upd_same
    have s11 := u10.trans u11
    have t0p : t0 ≠ p := new_ne (Same.there s9 p7.there) nt0
    have thp : th ≠ p := new_ne (Same.there s8 p7.there) nth
    show _
    generalize upd (upd G9 t0 (.tup [])) tt (.tup [V.ref th, .ref t0]) = G at s11 h011 ⊢
    have s7 := s9.trans s11
    have pG := p7.same s7
    have WD : Wd K C (mk p G) o tv th D0 Ds ovs xs := ⟨hO7.same (mk_up s7), SqL.of (mk_of tvp (s7 _ _ htv)), PySem.Paired.mono (fun v E h => h.ext (ExtN.of (mk_up s7))) vr, .inl (.inl (mk_of thp (s11 _ _ hth))),
      PySem.Paired.mono (fun v E ⟨a, e, d, h⟩ => ⟨a, e, d, dev_mk pG (h.same (u9.trans s11))⟩) pr8⟩
    have bG : But p H G := bH7.trans (But.of s7)
    have hTG : Tabs (tTab P1) G := Tabs.but bG hp hT
    have lx : xs.length = Ds.length := paired_len WD.hs
    clear s7 s11 u10 u11 u9 s9 s8 hth d8 pr8 vr htv hO7 p7 bH7
    -- the logs
    refine ⟨_, rfl, (by show 2 ≤ sizeLine; decide), fun l nl => ?_⟩
    have u1 := same_new nl (.lst [.int 6, .int 24])
    have nlp : l ≠ p := new_ne pG.there nl
    refine ⟨p, l, [.int 6, .int 24], B, rfl, pG.same u1, by omega, SqL.of upd_same, by decide, by decide, nlp, fun x0 G1 hx b1 p1 => ?_⟩
    obtain ⟨m0, rfl, hm0⟩ : ∃ m0 : Nat, x0 = .int m0 ∧ m0 ≤ 24 := by
      simp only [List.mem_cons, List.not_mem_nil, or_false] at hx
      rcases hx with rfl | rfl
      · exact ⟨6, rfl, by decide⟩
      · exact ⟨24, rfl, by decide⟩
    refine ⟨(by show 3 ≤ sizeLine; decide), fun tm ntm => ⟨tm, rfl, ⟨_, .inl (.inl upd_same)⟩, ?_⟩⟩
    have u2 := same_new ntm (.tup [.int 1, .int 3, .int m0])
    have htm : (upd G1 tm (.tup [.int 1, .int 3, .int m0])) tm = some (.tup [.int 1, .int 3, .int m0]) := upd_same
    have ntmp : tm ≠ p := new_ne p1.there ntm
    have bt2 : But p G (upd G1 tm (.tup [.int 1, .int 3, .int m0])) := ((But.of u1).trans b1).trans (But.of u2)
    have p2 := p1.same u2
    show _
    generalize upd G1 tm (.tup [.int 1, .int 3, .int m0]) = G2 at htm bt2 p2 ⊢
    clear u2 u1 b1 p1 hx nl ntm
    have W2 := WD.ext (ExtN.of (mk_but bt2))
    have h02 := bt2 _ _ h011 t0p
    have l2_ := VS.l2
    have l4_ := VS.l4
    have lov : ovs.length = Ds.length := paired_len W2.vs
    refine for_it walk_tup (fun i σ F => ∃ (t : Addr) (st : List (Str × Str)) (v5 v6 : Option V) (B' : Nat), σ = [some (.ref p), some (.ref o), some (.ref tv), some (.ref th), some (.ref t), v5, v6, none, none, none, none, none, none, none] ∧ But p G2 F ∧ PotAt F p B' ∧ B' ≤ B + 1 + 41 * i ∧
      LogAt K (mk p F) t st ∧ st.length ≤ 24 ∧ ∀ k ∈ st, k.1 ∈ D0.calls ∧ k.2 ∈ D0.answers) ⟨t0, [], _, _, B + 1, rfl, (fun _ _ h _ => h), p2, by omega, ⟨[], .inl (.inl (mk_of t0p h02)), .nil⟩, by decide, fun _ h => nomatch h⟩
      (fun i σ F _ ⟨_, _, _, _, _, _, bF, _⟩ => .inl (.inl (bF _ _ htm ntmp))) ?_ ?_
    · rintro i y σ F F' hi ⟨t, st, v5, v6, B', rfl, bF, pF, hB', hL, l24, ms⟩ ⟨rfl, hy⟩
      have hi3 : i < 3 := hi
      obtain ⟨n, rfl, hn⟩ : ∃ n : Nat, y = .int n ∧ n ≤ 24 := by
        have := List.mem_of_getElem? hy
        simp only [List.mem_cons, List.not_mem_nil, or_false] at this
        rcases this with rfl | rfl | rfl
        · exact ⟨1, rfl, by decide⟩
        · exact ⟨3, rfl, by decide⟩
        · exact ⟨m0, rfl, hm0⟩
      clear hL l24 ms hy
      have WF := W2.ext (ExtN.of (mk_but bF))
      refine ⟨_, rfl, _, rfl, _, rfl, p, tv, ovs, B', rfl, pF, by omega, SqLext (ExtN.of (mk_self p F')) WF.tv, by omega, by omega, tvp, fun x H1 hx b1 p1 => ?_⟩
      obtain ⟨jx, hjx⟩ := List.getElem?_of_mem hx
      obtain ⟨D, hD, a, rfl, drD, hOD⟩ := paired_ix WF.vs hjx
      obtain ⟨ec, ea⟩ := same_of (VS.sm D (List.mem_of_getElem? hD))
      refine ⟨_, rfl, p, a, n, B' + 1, D, rfl, p1, by omega, hn, hOD.same (mk_but b1), drD, fun t1 st1 H2 b2 p2 hL1 l1 ms1 => ?_⟩
      have b72 := (bF.trans b1).trans b2
      have l24 : st1.length ≤ 24 := by omega
      have WH := W2.ext (ExtN.of (mk_but b72))
      have ms0 : ∀ k ∈ st1, k.1 ∈ D0.calls ∧ k.2 ∈ D0.answers := fun k hk => by
        rw [ec, ea]
        exact ms1 k hk
      clear hOD hD hjx hx WF
      -- who can have told it
      refine ⟨_, rfl, tv, ovs, rfl, SqLext (ExtN.of (mk_self p H2)) WH.tv, fun D3 nD3 => ?_⟩
      refine lc_it walk_enum (D := D3) (g := gTup K 2 (gCons (gName 13) (gCons (gName 12) gNil))) (tt := tTest (tOp rIsNo (tOp (rIxT K) (tCall (spAlong K) [] E0 (tCons (tVar 12) (tCons (tVar 4) tNil))) (tC (.int 2))) (tC .non))) (te := tVar 13) (vs := [13, 12])
        (fun j G => Same H2 G ∧ G D3 = some (.lst (((List.range j).filter (isLeft Ds st1)).map fun n => V.int (n : Nat)))) ⟨same_new nD3 _, upd_same⟩ (fun j G _ h => SqLext (ExtN.of ((mk_self p H2).trans h.1)) WH.tv) ?_ ?_
      · rintro j y G3 G4 hj ⟨s3, d3⟩ ⟨T2, x1, x2, rfl, nT2, rfl, ex1, ex2⟩
        cases ex1
        have ex2 : ovs[j]? = some x2 := ex2
        have u3 := same_new nT2 (.tup [.int (j : Nat), x2])
        have s4 := s3.trans u3
        have d4 := u3 _ _ d3
        obtain ⟨Dj, hDj, aj, rfl, drj, hOj⟩ := paired_ix WH.vs ex2
        obtain ⟨ecj, eaj⟩ := same_of (VS.sm Dj (List.mem_of_getElem? hDj))
        obtain ⟨mm, hm⟩ := IsMost.ex drj st1
        refine ⟨T2, _, rfl, .inl (.inl upd_same), rfl, _, _, rfl, _, _, rfl, rfl, rfl, ?_⟩
        refine ⟨_, rfl, _, rfl, aj, t1, Dj, st1, mm, rfl, ((hOj.same (mk_self p H2)).same s4).l drj, drj, (hL1.same (mk_self p H2)).same s4, l24, fun k hk => by rw [← ecj, ← eaj]; exact ms0 k hk, hm, fun tq tb te G5 s5 hq hb he => ?_⟩
        have s35 := s4.trans s5
        have d5 := s5 _ _ d4
        have il := isLeft_most hDj hm
        refine ⟨tq, _, 2, _, rfl, rfl, .inl (.inl hq), rfl, rfl, _, rfl, ?_⟩
        have ev : decide (lostV mm st1.length = V.non) = isLeft Ds st1 j := by
          rw [il]
          unfold lostV
          by_cases c : mm < st1.length
          · rw [if_pos c, decide_eq_true c]
            simp
          · rw [if_neg c, decide_eq_false c]
            simp
        rw [ev, List.range_succ, List.filter_append]
        cases e3 : isLeft Ds st1 j with
        | false =>
          have z : [j].filter (isLeft Ds st1) = [] := List.filter_cons_of_neg (by rw [e3]; simp)
          rw [z, List.append_nil]
          exact iteF ⟨s35, d5⟩
        | true =>
          have z : [j].filter (isLeft Ds st1) = [j] := List.filter_cons_of_pos e3
          have lf : ((List.range j).filter (isLeft Ds st1)).length ≤ 4 := by
            have := List.length_filter_le (isLeft Ds st1) (List.range j)
            rw [List.length_range] at this
            omega
          refine iteT ⟨_, rfl, _, d5, by rw [List.length_map, sizeLine_eq]; omega, same_put s35 nD3, ?_⟩
          rw [upd_same, z, List.map_append]
          rfl
      rintro G3 ⟨s3, d3⟩
      rw [lov] at d3
      have d3 : G3 D3 = some (.lst ((leftN Ds st1).map fun n => V.int (n : Nat))) := d3
      refine ⟨D3, _, rfl, .inl ⟨SqL.of d3, fun tw ntw => ?_⟩⟩
      have u4 := same_new ntw (.tup ((leftN Ds st1).map fun n => V.int (n : Nat)))
      have htw : (upd G3 tw (.tup ((leftN Ds st1).map fun n => V.int (n : Nat)))) tw = some (.tup ((leftN Ds st1).map fun n => V.int (n : Nat))) := upd_same
      show _
      generalize upd G3 tw (.tup ((leftN Ds st1).map fun n => V.int (n : Nat))) = G4 at u4 htw ⊢
      have s24 := s3.trans u4
      obtain ⟨xs1, tx1, dx1⟩ := id hL1
      have good := WH.good VS ((mk_self p H2).trans s24)
      have big := small_le (show 1 ≤ 3 by decide) (ints_small (leftN_le (st := st1) l4_).1 (leftN_le (st := st1) l4_).2)
      refine ⟨_, rfl, _, rfl, .ref th, .ref t1, rfl, .inr ⟨D0, Ds, .tuple (st1.map pairD), good, .flat (.tup (same_tup ((mk_self p H2).trans s24) tx1) (dpAll_same ((mk_self p H2).trans s24) dx1)), fun z => ?_, fun st' e1 e2 e3 tw2 G5 s5 htw2 => ?_⟩⟩
      · rw [isLog_of l24 ms0] at z
        cases z
      injection e1 with e1
      obtain rfl := pairs_inj e1
      refine ⟨_, _, 3, rfl, ints_dx htw2, by decide, big, signs3, _, rfl, _, _, 3, rfl, ints_dx (s5 _ _ htw), by decide, big, signs3, rfl, _, rfl, iteN ne_self ?_⟩
      exact ⟨t1, st1, _, _, B' + 1 + 40, rfl, b72.trans (But.of (s24.trans s5)), p2.same (s24.trans s5), by omega, hL1.same (mk_up (s24.trans s5)), l24, ms0⟩
    rintro σ F ⟨t, st, v5, v6, B', rfl, bF, pF, hB', hL, l24, ms⟩
    have hB' : B' ≤ B + 1 + 41 * 3 := hB'
    have WF := W2.ext (ExtN.of (mk_but bF))
    have bHF : But p H F := (bG.trans bt2).trans bF
    have hTF : Tabs (tTab P1) F := Tabs.but bHF hp hT
    clear W2 WD h02 h011 bt2 p2 htm bF pG bG hTG
    -- what is no row of devices
    have lx2 : 2 ≤ xs.length := by omega
    obtain ⟨x0, hx0⟩ : ∃ x0, xs[0]? = some x0 := ⟨_, List.getElem?_eq_getElem (by omega)⟩
    obtain ⟨D00, hD00, a0, rfl, dr0, dev0⟩ := paired_ix WF.hs hx0
    rw [VS.f0] at hD00
    obtain rfl := Option.some.inj hD00
    refine ⟨_, rfl, _, rfl, _, rfl, o, D0, rfl, (WF.own.same (mk_self p F)).l dr0, dr0, fun far F1 s1 devF => ?_⟩
    have p1 := pF.same s1
    have W1 := WF.ext (ExtN.of (mk_up s1))
    refine ⟨p, th, far, a0, B', xs, D0, rfl, p1, by omega, W1.th, lx2, by omega, hx0, dr0, dev0.same (mk_up s1), dev_mk p1 devF, fun l4 ys G4 b4 p4 nlp4 hl4 lys bads => ⟨l4, rfl, ⟨_, SqL.of hl4⟩, ?_⟩⟩
    have W4 := W1.ext (ExtN.of (mk_but b4))
    have b04 : But p H G4 := (bHF.trans (But.of s1)).trans b4
    have t4 : Tabs (tTab P1) G4 := Tabs.but b04 hp hT
    have bad4 : ∀ y ∈ ys, BadS K C G4 y := fun y hy => (bads y hy).same (mk_self p G4)
    have L4 : LogAt K (mk p G4) t st := (hL.same (mk_up s1)).same (mk_but b4)
    clear bads W1 p1 devF dev0 WF pF hL bHF hTF
    refine for_it walk_list (fun i σ F => ∃ (x7 x8 x9 x10 : Option V), σ = [some (.ref p), some (.ref o), some (.ref tv), some (.ref th), some (.ref t), v5, v6, x7, x8, x9, x10, none, none, none] ∧ ExtN G4 F ∧ Tabs (tTab P1) F) ⟨_, _, _, _, rfl, ExtN.refl _, t4⟩ (fun i σ F _ ⟨_, _, _, _, _, e, _⟩ => SqL.of (e _ _ hl4 (fun ps z => by cases z))) ?_ ?_
    · rintro i v σ F F' hi ⟨x7, x8, x9, x10, rfl, eF, tF⟩ ⟨rfl, hv⟩
      have bv := (bad4 v (List.mem_of_getElem? hv)).ext eF
      refine ⟨v, .ref t, rfl, fun _ => rfl, tF, bv, fun cv G5 e5 t5 c5 => ?_⟩
      have bv5 := bv.ext e5
      refine ⟨v, .non, rfl, (fun z => nomatch z), t5, bv5, fun cw G6 e6 t6 c6 => ?_⟩
      have bv6 := bv5.ext e6
      have c56 := c5.ext e6
      have eAll := (eF.trans e5).trans e6
      refine ⟨_, rfl, _, rfl, (by show 2 ≤ sizeLine; decide), fun te nte => ⟨te, rfl, ⟨_, .inl (.inl upd_same)⟩, ?_⟩⟩
      have u7 := same_new nte (.tup [cv, cw])
      have hte : (upd G6 te (.tup [cv, cw])) te = some (.tup [cv, cw]) := upd_same
      have e7 := eAll.trans (ExtN.of u7)
      have t7 := t6.ext u7
      have bv7 := bv6.same u7
      have cv7 := c56.ext (ExtN.of u7)
      have cw7 := c6.ext (ExtN.of u7)
      show _
      generalize upd G6 te (.tup [cv, cw]) = G7 at hte e7 t7 bv7 cv7 cw7 ⊢
      refine for_it walk_tup (fun j σ G => ∃ (x10 : Option V), σ = [some (.ref p), some (.ref o), some (.ref tv), some (.ref th), some (.ref t), v5, v6, some v, some cv, some cw, x10, none, none, none] ∧ G = G7) ⟨_, rfl, rfl⟩ (fun j σ G _ ⟨_, _, e⟩ => by rw [e]; exact .inl (.inl hte)) ?_ ?_
      · rintro j y σ G G' hj ⟨x10', rfl, rfl⟩ ⟨rfl, hy⟩
        have cy : Caught G' CD y v := by
          have := List.mem_of_getElem? hy
          simp only [List.mem_cons, List.not_mem_nil, or_false] at this
          rcases this with rfl | rfl
          · exact cv7
          · exact cw7
        exact ⟨y, v, rfl, rfl, cy, bv7, iteF ⟨_, rfl, rfl⟩⟩
      · rintro σ G ⟨x10', rfl, rfl⟩
        exact ⟨_, _, _, _, rfl, e7, t7⟩
    rintro σ F ⟨x7, x8, x9, x10, rfl, eF, tF⟩
    -- values near to logs
    have p5 := p4.ext eF
    have eM := btr_ext (BtR.ex (p := p) eF)
    have W5 := W4.ext eM
    have L5 : LogAt K (mk p F) t st := by
      obtain ⟨zs, h1, h2⟩ := L4
      exact ⟨zs, SqText eM h1, dpAll_same (mt_self _) (dpAll_same (mt_ext eM) (DpAll_mt _ _ h2))⟩
    have bt5 : BtR p H F := (BtR.of b04).trans (BtR.ex eF)
    clear bad4 W4 L4 p4 b04 t4 eF
    refine ⟨_, rfl, _, rfl, _, rfl, p, o, t, B' + 1, D0, st, rfl, p5, by omega, W5.own.l dr0, dr0, L5, l24, ms, fun l6 zs G6 b6 p6 nlp6 hl6 lzs gzs => ⟨l6, rfl, ⟨_, SqL.of hl6⟩, ?_⟩⟩
    have W6 := (W5.ext (ExtN.of (mk_but b6))).ext (ExtN.of (mk_self p G6))
    have t6 : Tabs (tTab P1) G6 := Tabs.but b6 p5 tF
    have v6_ : ∀ v ∈ zs, Gx K 3 G6 v := fun v hv => (gzs v hv).same (mk_self p G6)
    have bt6 : BtR p H G6 := bt5.trans (BtR.of b6)
    clear W5 L5 p5 eM tF gzs b6
    refine for_it walk_list (fun i σ F => ∃ (x7 x8 : Option V), σ = [some (.ref p), some (.ref o), some (.ref tv), some (.ref th), some (.ref t), v5, v6, x7, x8, x9, x10, none, none, none] ∧ ExtN G6 F ∧ Tabs (tTab P1) F) ⟨_, _, rfl, ExtN.refl _, t6⟩ (fun i σ F _ ⟨_, _, _, e, _⟩ => SqL.of (e _ _ hl6 (fun ps z => by cases z))) ?_ ?_
    · rintro i v σ F1 F2 hi ⟨x7, x8, rfl, eF, tF⟩ ⟨rfl, hv⟩
      have gv := (v6_ v (List.mem_of_getElem? hv)).ext eF
      obtain ⟨d, hd, sd⟩ := id gv
      refine ⟨v, o, tv, th, d, D0, Ds, ovs, xs, rfl, rfl, tF, W6.ext eF, VS, hd, fun cv G7 e7 t7 lk7 => ?_⟩
      have e67 := eF.trans e7
      refine ⟨cv, v, d, o, D0, rfl, rfl, rfl, (W6.ext e67).own.l dr0, hd.ext e7, lk7, fun G8 s8 => iteF ?_⟩
      exact ⟨cv, v, _, rfl, rfl, lk7.ext (ExtN.of s8), (gv.ext e7).same s8, iteF ⟨_, _, rfl, e67.trans (ExtN.of s8), t7.ext s8⟩⟩
    · rintro σ F1 ⟨x7, x8, rfl, eF, tF⟩
      exact q F1 tF (bt6.trans (BtR.ex eF)) ⟨_, p6.ext eF, by omega⟩
end
end K51
set_option Elab.async false
set_option linter.all false
set_option maxRecDepth 100000
set_option maxHeartbeats 8000000
/-! Law k51 itself. -/
namespace K51
open PySem L2 LG LamX
section
variable {P : Program} {w : World} {K : PySem.W.Frag} {mg : Str → Option Value} {base : Heap}
def spLaw (K : PySem.W.Frag) (P1 : Addr) : Sp := fun vs H Q _ => ∃ (a : Addr) (ns : List Int), vs = [.ref a] ∧ SqL K H a (ns.map V.int) ∧ ns.length ≤ 63 ∧ Tabs (tTab P1) H ∧ ∀ H', Q (.bl true) H'
abbrev nLw : List Str := ["_law_script", "_law_place", "_law_pot_here", "_law_lap"]
theorem scLaw : FnScope nLw ["_law_script"] (defScope sLaw) := ⟨rfl, rfl, rfl, by decide +kernel, rfl, by decide +kernel, by decide +kernel⟩
theorem ok_law {f gr gp gc P1 : Addr} {fd grd gpd gcd : FuncData} (F : Fun K "law" "law" sLaw f fd) (T : Bltn mg)
    (GR_ : GnOk P w K mg base 10 gr grd ["_law_pot_here"] (spRight P1)) (mR : mg "_law_right" = some (.ref gr)) (kR : PySem.W.keepIn K (.ref gr) = true) (bR : Binds K grd ["_law_pot_here"] [])
    (GP : FnOk P w K mg base CX0 1 gp gpd ["_law_script", "_law_place"] (spPot K)) (mP : mg "_law_pot" = some (.ref gp)) (kP : PySem.W.keepIn K (.ref gp) = true) (bP : Binds K gpd ["_law_script", "_law_place"] [])
    (GC : FnOk P w K mg base CX0 1 gc gcd ["_law_script", "_law_most"] (spCells K)) (mC : mg "_law_cells" = some (.ref gc)) (kC : PySem.W.keepIn K (.ref gc) = true) (bC : Binds K gcd ["_law_script", "_law_most"] []) :
    GnOk P w K mg base 11 f fd ["_law_script"] (spLaw K P1) := by
  refine gn_of F scLaw (fun vs H Q E h => ?_) (fun cdv A0 outer s H vs Q hG hr h => ?_)
  · obtain ⟨a, ns, rfl, _⟩ := h
    rfl
  obtain ⟨a, ns, rfl, hS, h63, hT, q⟩ := h
  have r1 : Room 1 _ := hr.mono (by decide)
  refine' ⟨_, pss_cons (ps_for PassesOwn.never rfl (pi_list (pe_call GC r1 rfl mC kC bC .nil pass0 (pa_cons (pv 0) (pa_cons pe_int pa_nil)))) (pg_name (i := 1) scLaw.nd rfl (Or.inl rfl))
      (pss_cons (ps_set (i := 2) scLaw.nd rfl (Or.inr rfl) (pe_call GP r1 rfl mP kP bP .nil pass0 (pa_cons (pv 0) (pa_cons (pv 1) pa_nil))))
      (pss_one (ps_if (pt_not (pt_val (pe_callB (cr_all rfl) rfl T.all (by decide +kernel) (pa_cons (pe_lc (te := fun σ H Q => tCons (tVar 2) tNil σ H fun vs H1 => spRight P1 vs H1 Q E0) (own := [("_law_lap", 3)]) (g := gName 3) (tt := tYes) rfl scLaw.nd (pi_range1 rfl T.range (pa_cons pe_int pa_nil))
        (blkOk_by (own := [("_law_lap", 3)]) (N := nLw) (sc := defScope sLaw) (by decide +kernel)) (fun _ _ _ _ _ => pg_name (i := 3) scLaw.nd rfl (Or.inl rfl)) (fun _ _ _ _ _ => pts_nil)
        (fun _ _ _ _ _ => by exact pe_gcall GR_ hG hr rfl mR kR bR (pa_cons (pv 2) pa_nil))) pa_nil)))) (pss_one (ps_ret pe_bl)) pss_nil))))
    (pss_one (ps_ret pe_bl)), ?main⟩
  case main =>
    refine ⟨_, rfl, a, ns, 5, rfl, hS, h63, by decide, by decide, fun lp n H1 s1 nlp n1 n63 hlp => ⟨lp, rfl, ⟨_, SqL.of hlp⟩, ?_⟩⟩
    refine for_it walk_list (fun i σ G => ∃ x1 x2 x3, σ = [some (.ref a), x1, x2, x3] ∧ ExtN H1 G ∧ Tabs (tTab P1) G) ⟨_, _, _, rfl, ExtN.refl _, Tabs.ext hT s1⟩ (fun i σ G _ ⟨_, _, _, _, e, _⟩ => SqL.of (e _ _ hlp (fun ps z => by cases z))) ?_ ?_
    · rintro i y σ G4 G5 hi ⟨x1, x2, x3, rfl, e4, t4⟩ ⟨rfl, hy⟩
      rw [List.length_map, List.length_range] at hi
      have ey : y = V.int (i : Nat) := by
        rw [List.getElem?_map, List.getElem?_range hi] at hy
        exact (Option.some.inj hy).symm
      subst ey
      refine ⟨_, rfl, _, rfl, a, ns, (i : Nat), rfl, SqLext e4 (s1.seq hS), h63, by omega, by omega, fun pp G2 s2 npp pot => ?_⟩
      refine ⟨2, rfl, by decide, by decide, fun D nD => ?_⟩
      have nD5 : G5 D = none := s2.free nD
      have npD : D ≠ pp := fun z => by
        obtain ⟨own, sm, k, e, _⟩ := pot
        rw [z, e] at nD
        cases nD
      refine lc_it (walk_range (lo := 0) (n := 2)) (D := D) (g := gName 3) (tt := tYes) (te := fun σ H Q => tCons (tVar 2) tNil σ H fun vs H1 => spRight P1 vs H1 Q E0) (vs := [3])
        (fun j G => ∃ B, ExtN G5 G ∧ Tabs (tTab P1) G ∧ PotAt G pp B ∧ B ≤ j * 2000 ∧ G D = some (.lst ((List.replicate j true).map V.bl)))
        ⟨0, ExtN.of (s2.trans (same_new nD _)), Tabs.ext (Tabs.ext t4 s2) (same_new nD _), pot.same (same_new nD _), by omega, upd_same⟩ (fun _ _ _ _ => trivial) ?_ ?_
      · rintro j y G6 G7 hj ⟨B, e6, t6, p6, hB, d6⟩ ⟨rfl, rfl⟩
        refine ⟨rfl, ?_⟩
        refine ⟨_, rfl, pp, B, rfl, t6, p6, by omega, fun G8 t8 b8 ⟨B2, p8, hB2⟩ => ?_⟩
        have d8 := b8 _ _ d6 npD (fun ps z => by cases z)
        refine ⟨_, d8, by rw [List.length_map, List.length_replicate, sizeLine_eq]; omega, B2, fun c o hc ht => ?_, tabs_upd d8 t8, ?_, by omega, ?_⟩
        · rw [upd_ne (fun z => by rw [z, nD5] at hc; cases hc)]
          exact b8 c o (e6 _ _ hc ht) (fun z => by rw [z, npp] at hc; cases hc) ht
        · obtain ⟨own, sm, k, e, r⟩ := p8
          exact ⟨own, sm, k, by rw [upd_ne npD.symm]; exact e, r⟩
        · rw [upd_same, List.replicate_succ', List.map_append]
          rfl
      · rintro G6 ⟨B, e6, t6, p6, hB, d6⟩
        refine ⟨D, _, rfl, SqL.of d6, ?_⟩
        rw [all_tr]
        exact ⟨_, rfl, iteF ⟨_, _, _, rfl, e4.trans e6, t6⟩⟩
    · rintro σ G ⟨x1, x2, x3, rfl, _, _⟩
      exact q G
end
end K51
set_option Elab.async false
set_option linter.all false
set_option maxRecDepth 100000
set_option maxHeartbeats 4000000
namespace LG
open PySem PySem.Spec PyProof.Rows L2 LamX
theorem g_walkU {l : PySem.W.OpenLaw} {k : Nat} {q : Program} {loose : List Str} {XP : (Str → Option Value) → Heap → Prop} {YP : World → Heap → Prop} {d : DefRec} {K : Params → PySem.W.Frag} {x : Str}
    (most : l.most = some 63) (nodef : d.params.defaults = []) (hr : Room k callerA) (inK : ∀ (w : World) (h : Heap), YP w h → (K w.params).In h)
    (F : ∀ (w : World) (mg mb : Str → Option Value) (fa : Addr) (h : Heap) (mean : ExcName → Option Value), YP w h → PyProof.Rows.Top q (PySem.W.looseW q loose) mean mg mb h → (K w.params).In h → h.Ns mainGlobals mg → mg d.name = some (.ref fa) → GLawAt l w (K w.params) k x mg fa h) :
    PySem.W.WalkO q loose XP YP l.row.toRowW d [] (fun f vs => PySem.call f vs) := by
  refine Att.attach_call most nodef fun w s₀ s₁ mg mb fa o pm cd doc a vs ns G Y ho hd hcd hmg hobj hints hlen hg => ?_
  have KX := inK w _ Y
  obtain ⟨fd, cs, sp, hT, nT, C, hb, hsp, hF⟩ := F w mg mb fa _ _ Y G.T KX G.T.g hmg
  exact g_lawT KX G.T.g G.T.b G.T.builtins G.T.nolimit hg hT nT C G.T.bmain hobj hints (Nat.le_trans hlen (by decide)) hr hF hb fun H hH hS => hsp H a ns hlen hH hS
def errsB (K : PySem.W.Frag) (fI B : Addr) (Cs : List Addr) : Bool :=
  (Cs.all fun C => errB K C (.ref B :: PySem.HandSPX.veTail)) && ((Cs.all fun C => decide (PySem.W.findIn K (.ref C) "__init__" = some (some (.ref fI))) && (decide (PySem.W.findIn K (.ref C) "value" = some none) && decide (PySem.W.exmOne K (.ref C) (.ref B) = some true))) &&
  (decide (PySem.W.specialIn K (.builtin "object.__class__") "__get__" = some (some (.builtin "getset_descriptor.__get__"))) && (decide (PySem.W.takesIn K (.builtin "object.__class__") = some true) && decide (PySem.W.typeIn K (.ref fI) = some (.type "function")))))
structure ErrsF (K : PySem.W.Frag) (fI B : Addr) (Cs : List Addr) : Prop where
  each : ∀ C ∈ Cs, errB K C (.ref B :: PySem.HandSPX.veTail) = true
  ini : ∀ C ∈ Cs, PySem.W.findIn K (.ref C) "__init__" = some (some (.ref fI))
  val : ∀ C ∈ Cs, PySem.W.findIn K (.ref C) "value" = some none
  box : ∀ C ∈ Cs, PySem.W.exmOne K (.ref C) (.ref B) = some true
  dsc : ClsD K
  fn : PySem.W.typeIn K (.ref fI) = some (.type "function")
theorem errsB_ok {K : PySem.W.Frag} {fI B : Addr} {Cs : List Addr} (h : errsB K fI B Cs = true) : ErrsF K fI B Cs := by
  unfold errsB at h
  simp only [Bool.and_eq_true] at h
  obtain ⟨h2, h3, h7, h8, h9⟩ := h
  have h3' := List.all_eq_true.mp h3
  refine ⟨fun C hC => List.all_eq_true.mp h2 C hC, fun C hC => ?_, fun C hC => ?_, fun C hC => ?_, ⟨of_decide_eq_true h7, of_decide_eq_true h8⟩, of_decide_eq_true h9⟩
  · have := h3' C hC
    simp only [Bool.and_eq_true] at this
    exact of_decide_eq_true this.1
  · have := h3' C hC
    simp only [Bool.and_eq_true] at this
    exact of_decide_eq_true this.2.1
  · have := h3' C hC
    simp only [Bool.and_eq_true] at this
    exact of_decide_eq_true this.2.2
end LG
namespace K51
open PySem L2 LG LamX
def devB (K : PySem.W.Frag) (C : Addr) : Bool :=
  PySem.W.plainGet K C Str.empty && (PySem.W.hasDictIn K C && (PySem.W.plainOver K C && (decide (PySem.W.findIn K (.ref C) "__setattr__" = some (some (.builtin "object.__setattr__"))) &&
  (decide (PySem.W.findIn K (.ref C) "text" = some none) && (decide (PySem.W.findIn K (.ref C) "calls" = some none) && (decide (PySem.W.findIn K (.ref C) "answers" = some none) && (decide (PySem.W.findIn K (.ref C) "states" = some none) && (decide (PySem.W.findIn K (.ref C) "_goals" = some none) &&
  (decide (PySem.W.findIn K (.ref C) "__class__" = some (some (.builtin "object.__class__"))) && (decide (PySem.W.specialIn K (.builtin "object.__class__") "__get__" = some (some (.builtin "getset_descriptor.__get__"))) && (decide (PySem.W.takesIn K (.builtin "object.__class__") = some true) && (decide (PySem.W.mroIn K C (.type "object") = some true) &&
  (PySem.W.makesIn K C && (PySem.W.keepIn K (.ref C) && (decide (PySem.W.findIn K (.ref C) "__ne__" = some (some (.builtin "object.__ne__"))) && (tyNames.all fun T => decide (PySem.W.kitOne K (.type T) (.ref C) = some false) && PySem.W.notFirst K C (.type T)))))))))))))))))
theorem devB_ok {K : PySem.W.Frag} {C : Addr} (h : devB K C = true) : (∀ mg : Str → Option Value, mg "Device" = some (.ref C) → DevCl K mg C) ∧ DevIs K C ∧ PySem.W.makesIn K C = true ∧ PySem.W.keepIn K (.ref C) = true ∧ PySem.W.findIn K (.ref C) "__ne__" = some (some (.builtin "object.__ne__")) ∧
    ∀ T ∈ tyNames, PySem.W.kitOne K (.type T) (.ref C) = some false ∧ PySem.W.notFirst K C (.type T) = true := by
  unfold devB at h
  simp only [Bool.and_eq_true, decide_eq_true_eq] at h
  obtain ⟨h1, h2, h3, h4, t1, t2, t3, t4, t5, k1, k2, k3, k4, m1, m2, m3, m4⟩ := h
  refine ⟨fun mg hm => ⟨hm, ⟨h1, h2, h3, h4⟩, t1, t2, t3, t4, t5⟩, ⟨k1, k2, k3, k4⟩, m1, m2, m3, fun T hT => ?_⟩
  have := List.all_eq_true.mp m4 T hT
  simp only [Bool.and_eq_true, decide_eq_true_eq] at this
  exact this
section
variable {P : Program} {w : World} {K : PySem.W.Frag} {mg : Str → Option Value} {base : Heap}
theorem scInit : FnScope ["self", "value"] ["self", "value"] (defScope sInit) := ⟨rfl, rfl, rfl, by decide +kernel, rfl, by decide +kernel, by decide +kernel⟩
theorem ok_init {f : Addr} {fd : FuncData} (F : Fun K "__init__" "BoxError.__init__" sInit f fd) : FnOk P w K mg base CX0 1 f fd ["self", "value"] (spInit K) := by
  refine F.ok scInit (fun vs H Q E h => ?_) (fun cdv A outer s H vs Q E hr h => ?_)
  · obtain ⟨a, C, v, rfl, _⟩ := h
    rfl
  obtain ⟨a, C, v, rfl, T, no, ha, q⟩ := h
  refine ⟨_, pss_one (ps_ost (pv 0) (pv 1)), ?_⟩
  exact ⟨_, rfl, _, rfl, a, C, rfl, T, no, .inl ⟨ha, fun d nd ne => q d nd ne⟩⟩
end
end K51
set_option Elab.async false
set_option linter.all false
set_option maxRecDepth 100000
set_option maxHeartbeats 8000000
namespace K51
open PySem L2 LG LamX
theorem all_mk {l : PySem.W.OpenLaw} {w : World} {K : PySem.W.Frag} {h : Heap} {mg : Str → Option Value} {fa B C CB CS CC CL CD hA a0 a1 a2  cRt P1 fIsName fNamesIn fReadHeads fAmong fReadGoals fIsLine fIsPair fIsRow fRefLog fSteps fFirst fSameW fRefDev fLeft fPot fTake fOf fSome fAny fWays fLPart fLeast fDvc fText fCells fTold fOdd fBent fSizes fAWalk fRun fMade fLog fAlong fIsLog fLogs fLike fOther fBad fIsRef fRight fLaw fInit fDInit fDHas fDAsk fDRow fDEq : Addr}
    {odIsName anIsName odNamesIn anNamesIn odReadHeads anReadHeads odAmong anAmong odReadGoals anReadGoals odIsLine anIsLine odIsPair anIsPair odIsRow anIsRow odRefLog anRefLog odSteps anSteps odFirst anFirst odSameW anSameW odRefDev anRefDev odLeft anLeft odPot anPot odTake anTake odOf anOf odSome anSome odAny anAny odWays anWays odLPart anLPart odLeast anLeast odDvc anDvc odText anText odCells anCells odTold anTold odOdd anOdd odBent anBent odSizes anSizes odAWalk anAWalk odRun anRun odMade anMade odLog anLog odAlong anAlong odIsLog anIsLog odLogs anLogs odLike anLike odOther anOther odBad anBad odIsRef anIsRef odRight anRight odLaw anLaw odInit anInit odDInit anDInit odDHas anDHas odDAsk anDAsk odDRow anDRow odDEq anDEq dH dH0 dH1 dH2 dKRight : Option Addr} {slIsName slNamesIn slReadHeads slAmong slReadGoals slIsLine slIsPair slIsRow slRefLog slSteps slFirst slSameW slRefDev slLeft slPot slTake slOf slSome slAny slWays slLPart slLeast slDvc slText slCells slTold slOdd slBent slSizes slAWalk slRun slMade slLog slAlong slIsLog slLogs slLike slOther slBad slIsRef slRight slLaw slInit slDInit slDHas slDAsk slDRow slDEq slH slH0 slH1 slH2 slKRight : Array (Option Value)} {ocIsName kVIsName dcIsName pmIsName cdIsName ctIsName ocNamesIn kVNamesIn dcNamesIn pmNamesIn cdNamesIn ctNamesIn ocReadHeads kVReadHeads dcReadHeads pmReadHeads cdReadHeads ctReadHeads ocAmong kVAmong dcAmong pmAmong cdAmong ctAmong ocReadGoals kVReadGoals dcReadGoals pmReadGoals cdReadGoals ctReadGoals ocIsLine kVIsLine dcIsLine pmIsLine cdIsLine ctIsLine ocIsPair kVIsPair dcIsPair pmIsPair cdIsPair ctIsPair ocIsRow kVIsRow dcIsRow pmIsRow cdIsRow ctIsRow ocRefLog kVRefLog dcRefLog pmRefLog cdRefLog ctRefLog ocSteps kVSteps dcSteps pmSteps cdSteps ctSteps ocFirst kVFirst dcFirst pmFirst cdFirst ctFirst ocSameW kVSameW dcSameW pmSameW cdSameW ctSameW ocRefDev kVRefDev dcRefDev pmRefDev cdRefDev ctRefDev ocLeft kVLeft dcLeft pmLeft cdLeft ctLeft ocPot kVPot dcPot pmPot cdPot ctPot ocTake kVTake dcTake pmTake cdTake ctTake ocOf kVOf dcOf pmOf cdOf ctOf ocSome kVSome dcSome pmSome cdSome ctSome ocAny kVAny dcAny pmAny cdAny ctAny ocWays kVWays dcWays pmWays cdWays ctWays ocLPart kVLPart dcLPart pmLPart cdLPart ctLPart ocLeast kVLeast dcLeast pmLeast cdLeast ctLeast ocDvc kVDvc dcDvc pmDvc cdDvc ctDvc ocText kVText dcText pmText cdText ctText ocCells kVCells dcCells pmCells cdCells ctCells ocTold kVTold dcTold pmTold cdTold ctTold ocOdd kVOdd dcOdd pmOdd cdOdd ctOdd ocBent kVBent dcBent pmBent cdBent ctBent ocSizes kVSizes dcSizes pmSizes cdSizes ctSizes ocAWalk kVAWalk dcAWalk pmAWalk cdAWalk ctAWalk ocRun kVRun dcRun pmRun cdRun ctRun ocMade kVMade dcMade pmMade cdMade ctMade ocLog kVLog dcLog pmLog cdLog ctLog ocAlong kVAlong dcAlong pmAlong cdAlong ctAlong ocIsLog kVIsLog dcIsLog pmIsLog cdIsLog ctIsLog ocLogs kVLogs dcLogs pmLogs cdLogs ctLogs ocLike kVLike dcLike pmLike cdLike ctLike ocOther kVOther dcOther pmOther cdOther ctOther ocBad kVBad dcBad pmBad cdBad ctBad ocIsRef kVIsRef dcIsRef pmIsRef cdIsRef ctIsRef ocLaw kVLaw dcLaw pmLaw cdLaw ctLaw ocInit kVInit dcInit pmInit cdInit ctInit ocDInit kVDInit dcDInit pmDInit cdDInit ctDInit ocDHas kVDHas dcDHas pmDHas cdDHas ctDHas ocDAsk kVDAsk dcDAsk pmDAsk cdDAsk ctDAsk ocDRow kVDRow dcDRow pmDRow cdDRow ctDRow ocDEq kVDEq dcDEq pmDEq cdDEq ctDEq ocRight kVRight dcRight pmRight ctRight : Value} {vKRight : Array Value} {nH nH0 nH1 nH2 : Nat} {tL tF tM tMD tw0 tw1 tw2 tx0 tx1 tx2 ty0 ty1 ty2 : Tok} (X : K.In h) (G : h.Ns mainGlobals mg) (hfa : mg "law" = some (.ref fa))
    (tab1 : PySem.W.tabIn K "_law_right" = some (cRt, P1) → PySem.W.CodeHd h cRt P1 ∧ h.get? P1 = some (PySem.W.tabObj #[]))
    (aB : PySem.W.nsIn K mainGlobals "BoxError" = some (some (.ref B)))
    (eCB : PySem.W.nsIn K mainGlobals "BadDevice" = some (some (.ref CB)))
    (eCS : PySem.W.nsIn K mainGlobals "NoState" = some (some (.ref CS)))
    (eCC : PySem.W.nsIn K mainGlobals "NoCall" = some (some (.ref CC)))
    (eCL : PySem.W.nsIn K mainGlobals "BadLog" = some (some (.ref CL)))
    (eCD : PySem.W.nsIn K mainGlobals "BadDevices" = some (some (.ref CD)))
    (aC : PySem.W.nsIn K mainGlobals "Device" = some (some (.ref C)))
    (aInit : PySem.W.findIn K (.ref B) "__init__" = some (some (.ref fInit)))
    (lInit : K.lookup fInit = some ⟨ocInit, odInit, .func (PySem.W.fnOf "__init__" "BoxError.__init__" (defArgs sInit) (defBody sInit) (defScope sInit) .none kVInit dcInit pmInit anInit cdInit ctInit), slInit⟩)
    (cInit : PySem.W.codeIn K cdInit "BoxError.__init__" = true)
    (kInit : PySem.W.keepIn K (.ref fInit) = true)
    (nInit : PySem.W.isFn K (.ref fInit) = true)
    (aDInit : PySem.W.findIn K (.ref C) "__init__" = some (some (.ref fDInit)))
    (lDInit : K.lookup fDInit = some ⟨ocDInit, odDInit, .func (PySem.W.fnOf "__init__" "Device.__init__" (defArgs sDInit) (defBody sDInit) (defScope sDInit) .none kVDInit dcDInit pmDInit anDInit cdDInit ctDInit), slDInit⟩)
    (cDInit : PySem.W.codeIn K cdDInit "Device.__init__" = true)
    (kDInit : PySem.W.keepIn K (.ref fDInit) = true)
    (nDInit : PySem.W.isFn K (.ref fDInit) = true)
    (aDHas : PySem.W.findIn K (.ref C) "__contains__" = some (some (.ref fDHas)))
    (lDHas : K.lookup fDHas = some ⟨ocDHas, odDHas, .func (PySem.W.fnOf "__contains__" "Device.__contains__" (defArgs sDContains) (defBody sDContains) (defScope sDContains) .none kVDHas dcDHas pmDHas anDHas cdDHas ctDHas), slDHas⟩)
    (cDHas : PySem.W.codeIn K cdDHas "Device.__contains__" = true)
    (kDHas : PySem.W.keepIn K (.ref fDHas) = true)
    (nDHas : PySem.W.isFn K (.ref fDHas) = true)
    (aDAsk : PySem.W.findIn K (.ref C) "_ask_for_row" = some (some (.ref fDAsk)))
    (lDAsk : K.lookup fDAsk = some ⟨ocDAsk, odDAsk, .func (PySem.W.fnOf "_ask_for_row" "Device._ask_for_row" (defArgs sDAsk) (defBody sDAsk) (defScope sDAsk) .none kVDAsk dcDAsk pmDAsk anDAsk cdDAsk ctDAsk), slDAsk⟩)
    (cDAsk : PySem.W.codeIn K cdDAsk "Device._ask_for_row" = true)
    (kDAsk : PySem.W.keepIn K (.ref fDAsk) = true)
    (nDAsk : PySem.W.isFn K (.ref fDAsk) = true)
    (aDRow : PySem.W.findIn K (.ref C) "row" = some (some (.ref fDRow)))
    (lDRow : K.lookup fDRow = some ⟨ocDRow, odDRow, .func (PySem.W.fnOf "row" "Device.row" (defArgs sDRow) (defBody sDRow) (defScope sDRow) .none kVDRow dcDRow pmDRow anDRow cdDRow ctDRow), slDRow⟩)
    (cDRow : PySem.W.codeIn K cdDRow "Device.row" = true)
    (kDRow : PySem.W.keepIn K (.ref fDRow) = true)
    (nDRow : PySem.W.isFn K (.ref fDRow) = true)
    (aDEq : PySem.W.findIn K (.ref C) "__eq__" = some (some (.ref fDEq)))
    (lDEq : K.lookup fDEq = some ⟨ocDEq, odDEq, .func (PySem.W.fnOf "__eq__" "Device.__eq__" (defArgs sDEq) (defBody sDEq) (defScope sDEq) .none kVDEq dcDEq pmDEq anDEq cdDEq ctDEq), slDEq⟩)
    (cDEq : PySem.W.codeIn K cdDEq "Device.__eq__" = true)
    (kDEq : PySem.W.keepIn K (.ref fDEq) = true)
    (nDEq : PySem.W.isFn K (.ref fDEq) = true)
    (aIsName : PySem.W.nsIn K mainGlobals "is_name" = some (some (.ref fIsName)))
    (lIsName : K.lookup fIsName = some ⟨ocIsName, odIsName, .func (PySem.W.fnOf "is_name" "is_name" (defArgs sIsName) (defBody sIsName) (defScope sIsName) .none kVIsName dcIsName pmIsName anIsName cdIsName ctIsName), slIsName⟩)
    (cIsName : PySem.W.codeIn K cdIsName "is_name" = true)
    (kIsName : PySem.W.keepIn K (.ref fIsName) = true)
    (aNamesIn : PySem.W.nsIn K mainGlobals "names_in" = some (some (.ref fNamesIn)))
    (lNamesIn : K.lookup fNamesIn = some ⟨ocNamesIn, odNamesIn, .func (PySem.W.fnOf "names_in" "names_in" (defArgs sNamesIn) (defBody sNamesIn) (defScope sNamesIn) .none kVNamesIn dcNamesIn pmNamesIn anNamesIn cdNamesIn ctNamesIn), slNamesIn⟩)
    (cNamesIn : PySem.W.codeIn K cdNamesIn "names_in" = true)
    (kNamesIn : PySem.W.keepIn K (.ref fNamesIn) = true)
    (aReadHeads : PySem.W.nsIn K mainGlobals "read_heads" = some (some (.ref fReadHeads)))
    (lReadHeads : K.lookup fReadHeads = some ⟨ocReadHeads, odReadHeads, .func (PySem.W.fnOf "read_heads" "read_heads" (defArgs sReadHeads) (defBody sReadHeads) (defScope sReadHeads) .none kVReadHeads dcReadHeads pmReadHeads anReadHeads cdReadHeads ctReadHeads), slReadHeads⟩)
    (cReadHeads : PySem.W.codeIn K cdReadHeads "read_heads" = true)
    (kReadHeads : PySem.W.keepIn K (.ref fReadHeads) = true)
    (aAmong : PySem.W.nsIn K mainGlobals "is_among" = some (some (.ref fAmong)))
    (lAmong : K.lookup fAmong = some ⟨ocAmong, odAmong, .func (PySem.W.fnOf "is_among" "is_among" (defArgs sIsAmong) (defBody sIsAmong) (defScope sIsAmong) .none kVAmong dcAmong pmAmong anAmong cdAmong ctAmong), slAmong⟩)
    (cAmong : PySem.W.codeIn K cdAmong "is_among" = true)
    (kAmong : PySem.W.keepIn K (.ref fAmong) = true)
    (aReadGoals : PySem.W.nsIn K mainGlobals "read_goals" = some (some (.ref fReadGoals)))
    (lReadGoals : K.lookup fReadGoals = some ⟨ocReadGoals, odReadGoals, .func (PySem.W.fnOf "read_goals" "read_goals" (defArgs sReadGoals) (defBody sReadGoals) (defScope sReadGoals) .none kVReadGoals dcReadGoals pmReadGoals anReadGoals cdReadGoals ctReadGoals), slReadGoals⟩)
    (cReadGoals : PySem.W.codeIn K cdReadGoals "read_goals" = true)
    (kReadGoals : PySem.W.keepIn K (.ref fReadGoals) = true)
    (aIsLine : PySem.W.nsIn K mainGlobals "is_line_of_row" = some (some (.ref fIsLine)))
    (lIsLine : K.lookup fIsLine = some ⟨ocIsLine, odIsLine, .func (PySem.W.fnOf "is_line_of_row" "is_line_of_row" (defArgs sIsLine) (defBody sIsLine) (defScope sIsLine) .none kVIsLine dcIsLine pmIsLine anIsLine cdIsLine ctIsLine), slIsLine⟩)
    (cIsLine : PySem.W.codeIn K cdIsLine "is_line_of_row" = true)
    (kIsLine : PySem.W.keepIn K (.ref fIsLine) = true)
    (aIsPair : PySem.W.nsIn K mainGlobals "is_pair" = some (some (.ref fIsPair)))
    (lIsPair : K.lookup fIsPair = some ⟨ocIsPair, odIsPair, .func (PySem.W.fnOf "is_pair" "is_pair" (defArgs sIsPair) (defBody sIsPair) (defScope sIsPair) .none kVIsPair dcIsPair pmIsPair anIsPair cdIsPair ctIsPair), slIsPair⟩)
    (cIsPair : PySem.W.codeIn K cdIsPair "is_pair" = true)
    (kIsPair : PySem.W.keepIn K (.ref fIsPair) = true)
    (aIsRow : PySem.W.nsIn K mainGlobals "is_row" = some (some (.ref fIsRow)))
    (lIsRow : K.lookup fIsRow = some ⟨ocIsRow, odIsRow, .func (PySem.W.fnOf "is_row" "is_row" (defArgs sIsRow) (defBody sIsRow) (defScope sIsRow) .none kVIsRow dcIsRow pmIsRow anIsRow cdIsRow ctIsRow), slIsRow⟩)
    (cIsRow : PySem.W.codeIn K cdIsRow "is_row" = true)
    (kIsRow : PySem.W.keepIn K (.ref fIsRow) = true)
    (aRefLog : PySem.W.nsIn K mainGlobals "refuse_log" = some (some (.ref fRefLog)))
    (lRefLog : K.lookup fRefLog = some ⟨ocRefLog, odRefLog, .func (PySem.W.fnOf "refuse_log" "refuse_log" (defArgs sRefLog) (defBody sRefLog) (defScope sRefLog) .none kVRefLog dcRefLog pmRefLog anRefLog cdRefLog ctRefLog), slRefLog⟩)
    (cRefLog : PySem.W.codeIn K cdRefLog "refuse_log" = true)
    (kRefLog : PySem.W.keepIn K (.ref fRefLog) = true)
    (aSteps : PySem.W.nsIn K mainGlobals "steps_right" = some (some (.ref fSteps)))
    (lSteps : K.lookup fSteps = some ⟨ocSteps, odSteps, .func (PySem.W.fnOf "steps_right" "steps_right" (defArgs sSteps) (defBody sSteps) (defScope sSteps) .none kVSteps dcSteps pmSteps anSteps cdSteps ctSteps), slSteps⟩)
    (cSteps : PySem.W.codeIn K cdSteps "steps_right" = true)
    (kSteps : PySem.W.keepIn K (.ref fSteps) = true)
    (aFirst : PySem.W.nsIn K mainGlobals "first" = some (some (.ref fFirst)))
    (lFirst : K.lookup fFirst = some ⟨ocFirst, odFirst, .func (PySem.W.fnOf "first" "first" (defArgs sFirst) (defBody sFirst) (defScope sFirst) .none kVFirst dcFirst pmFirst anFirst cdFirst ctFirst), slFirst⟩)
    (cFirst : PySem.W.codeIn K cdFirst "first" = true)
    (kFirst : PySem.W.keepIn K (.ref fFirst) = true)
    (aSameW : PySem.W.nsIn K mainGlobals "same_words" = some (some (.ref fSameW)))
    (lSameW : K.lookup fSameW = some ⟨ocSameW, odSameW, .func (PySem.W.fnOf "same_words" "same_words" (defArgs sSameWords) (defBody sSameWords) (defScope sSameWords) .none kVSameW dcSameW pmSameW anSameW cdSameW ctSameW), slSameW⟩)
    (cSameW : PySem.W.codeIn K cdSameW "same_words" = true)
    (kSameW : PySem.W.keepIn K (.ref fSameW) = true)
    (aRefDev : PySem.W.nsIn K mainGlobals "refuse_devices" = some (some (.ref fRefDev)))
    (lRefDev : K.lookup fRefDev = some ⟨ocRefDev, odRefDev, .func (PySem.W.fnOf "refuse_devices" "refuse_devices" (defArgs sRefDev) (defBody sRefDev) (defScope sRefDev) .none kVRefDev dcRefDev pmRefDev anRefDev cdRefDev ctRefDev), slRefDev⟩)
    (cRefDev : PySem.W.codeIn K cdRefDev "refuse_devices" = true)
    (kRefDev : PySem.W.keepIn K (.ref fRefDev) = true)
    (aLeft : PySem.W.nsIn K mainGlobals "left" = some (some (.ref fLeft)))
    (lLeft : K.lookup fLeft = some ⟨ocLeft, odLeft, .func (PySem.W.fnOf "left" "left" (defArgs sLeft) (defBody sLeft) (defScope sLeft) .none kVLeft dcLeft pmLeft anLeft cdLeft ctLeft), slLeft⟩)
    (cLeft : PySem.W.codeIn K cdLeft "left" = true)
    (kLeft : PySem.W.keepIn K (.ref fLeft) = true)
    (aPot : PySem.W.nsIn K mainGlobals "_law_pot" = some (some (.ref fPot)))
    (lPot : K.lookup fPot = some ⟨ocPot, odPot, .func (PySem.W.fnOf "_law_pot" "_law_pot" (defArgs sPot) (defBody sPot) (defScope sPot) .none kVPot dcPot pmPot anPot cdPot ctPot), slPot⟩)
    (cPot : PySem.W.codeIn K cdPot "_law_pot" = true)
    (kPot : PySem.W.keepIn K (.ref fPot) = true)
    (aTake : PySem.W.nsIn K mainGlobals "_law_take" = some (some (.ref fTake)))
    (lTake : K.lookup fTake = some ⟨ocTake, odTake, .func (PySem.W.fnOf "_law_take" "_law_take" (defArgs sTake) (defBody sTake) (defScope sTake) .none kVTake dcTake pmTake anTake cdTake ctTake), slTake⟩)
    (cTake : PySem.W.codeIn K cdTake "_law_take" = true)
    (kTake : PySem.W.keepIn K (.ref fTake) = true)
    (aOf : PySem.W.nsIn K mainGlobals "_law_of" = some (some (.ref fOf)))
    (lOf : K.lookup fOf = some ⟨ocOf, odOf, .func (PySem.W.fnOf "_law_of" "_law_of" (defArgs sOf) (defBody sOf) (defScope sOf) .none kVOf dcOf pmOf anOf cdOf ctOf), slOf⟩)
    (cOf : PySem.W.codeIn K cdOf "_law_of" = true)
    (kOf : PySem.W.keepIn K (.ref fOf) = true)
    (aSome : PySem.W.nsIn K mainGlobals "_law_some" = some (some (.ref fSome)))
    (lSome : K.lookup fSome = some ⟨ocSome, odSome, .func (PySem.W.fnOf "_law_some" "_law_some" (defArgs sSome) (defBody sSome) (defScope sSome) .none kVSome dcSome pmSome anSome cdSome ctSome), slSome⟩)
    (cSome : PySem.W.codeIn K cdSome "_law_some" = true)
    (kSome : PySem.W.keepIn K (.ref fSome) = true)
    (aAny : PySem.W.nsIn K mainGlobals "_law_any_device" = some (some (.ref fAny)))
    (lAny : K.lookup fAny = some ⟨ocAny, odAny, .func (PySem.W.fnOf "_law_any_device" "_law_any_device" (defArgs sAny) (defBody sAny) (defScope sAny) .none kVAny dcAny pmAny anAny cdAny ctAny), slAny⟩)
    (cAny : PySem.W.codeIn K cdAny "_law_any_device" = true)
    (kAny : PySem.W.keepIn K (.ref fAny) = true)
    (aWays : PySem.W.nsIn K mainGlobals "_law_ways" = some (some (.ref fWays)))
    (lWays : K.lookup fWays = some ⟨ocWays, odWays, .func (PySem.W.fnOf "_law_ways" "_law_ways" (defArgs sWays) (defBody sWays) (defScope sWays) .none kVWays dcWays pmWays anWays cdWays ctWays), slWays⟩)
    (cWays : PySem.W.codeIn K cdWays "_law_ways" = true)
    (kWays : PySem.W.keepIn K (.ref fWays) = true)
    (aLPart : PySem.W.nsIn K mainGlobals "_law_parting" = some (some (.ref fLPart)))
    (lLPart : K.lookup fLPart = some ⟨ocLPart, odLPart, .func (PySem.W.fnOf "_law_parting" "_law_parting" (defArgs sLParting) (defBody sLParting) (defScope sLParting) .none kVLPart dcLPart pmLPart anLPart cdLPart ctLPart), slLPart⟩)
    (cLPart : PySem.W.codeIn K cdLPart "_law_parting" = true)
    (kLPart : PySem.W.keepIn K (.ref fLPart) = true)
    (aLeast : PySem.W.nsIn K mainGlobals "_law_is_least" = some (some (.ref fLeast)))
    (lLeast : K.lookup fLeast = some ⟨ocLeast, odLeast, .func (PySem.W.fnOf "_law_is_least" "_law_is_least" (defArgs sIsLeast) (defBody sIsLeast) (defScope sIsLeast) .none kVLeast dcLeast pmLeast anLeast cdLeast ctLeast), slLeast⟩)
    (cLeast : PySem.W.codeIn K cdLeast "_law_is_least" = true)
    (kLeast : PySem.W.keepIn K (.ref fLeast) = true)
    (aDvc : PySem.W.nsIn K mainGlobals "_law_device" = some (some (.ref fDvc)))
    (lDvc : K.lookup fDvc = some ⟨ocDvc, odDvc, .func (PySem.W.fnOf "_law_device" "_law_device" (defArgs sDevice) (defBody sDevice) (defScope sDevice) .none kVDvc dcDvc pmDvc anDvc cdDvc ctDvc), slDvc⟩)
    (cDvc : PySem.W.codeIn K cdDvc "_law_device" = true)
    (kDvc : PySem.W.keepIn K (.ref fDvc) = true)
    (aText : PySem.W.nsIn K mainGlobals "_law_text" = some (some (.ref fText)))
    (lText : K.lookup fText = some ⟨ocText, odText, .func (PySem.W.fnOf "_law_text" "_law_text" (defArgs sText) (defBody sText) (defScope sText) .none kVText dcText pmText anText cdText ctText), slText⟩)
    (cText : PySem.W.codeIn K cdText "_law_text" = true)
    (kText : PySem.W.keepIn K (.ref fText) = true)
    (aCells : PySem.W.nsIn K mainGlobals "_law_cells" = some (some (.ref fCells)))
    (lCells : K.lookup fCells = some ⟨ocCells, odCells, .func (PySem.W.fnOf "_law_cells" "_law_cells" (defArgs sCells) (defBody sCells) (defScope sCells) .none kVCells dcCells pmCells anCells cdCells ctCells), slCells⟩)
    (cCells : PySem.W.codeIn K cdCells "_law_cells" = true)
    (kCells : PySem.W.keepIn K (.ref fCells) = true)
    (aTold : PySem.W.nsIn K mainGlobals "_law_told" = some (some (.ref fTold)))
    (lTold : K.lookup fTold = some ⟨ocTold, odTold, .func (PySem.W.fnOf "_law_told" "_law_told" (defArgs sTold) (defBody sTold) (defScope sTold) .none kVTold dcTold pmTold anTold cdTold ctTold), slTold⟩)
    (cTold : PySem.W.codeIn K cdTold "_law_told" = true)
    (kTold : PySem.W.keepIn K (.ref fTold) = true)
    (aOdd : PySem.W.nsIn K mainGlobals "_law_odd" = some (some (.ref fOdd)))
    (lOdd : K.lookup fOdd = some ⟨ocOdd, odOdd, .func (PySem.W.fnOf "_law_odd" "_law_odd" (defArgs sOdd) (defBody sOdd) (defScope sOdd) .none kVOdd dcOdd pmOdd anOdd cdOdd ctOdd), slOdd⟩)
    (cOdd : PySem.W.codeIn K cdOdd "_law_odd" = true)
    (kOdd : PySem.W.keepIn K (.ref fOdd) = true)
    (aBent : PySem.W.nsIn K mainGlobals "_law_bent" = some (some (.ref fBent)))
    (lBent : K.lookup fBent = some ⟨ocBent, odBent, .func (PySem.W.fnOf "_law_bent" "_law_bent" (defArgs sBent) (defBody sBent) (defScope sBent) .none kVBent dcBent pmBent anBent cdBent ctBent), slBent⟩)
    (cBent : PySem.W.codeIn K cdBent "_law_bent" = true)
    (kBent : PySem.W.keepIn K (.ref fBent) = true)
    (aSizes : PySem.W.nsIn K mainGlobals "_law_sizes" = some (some (.ref fSizes)))
    (lSizes : K.lookup fSizes = some ⟨ocSizes, odSizes, .func (PySem.W.fnOf "_law_sizes" "_law_sizes" (defArgs sSizes) (defBody sSizes) (defScope sSizes) .none kVSizes dcSizes pmSizes anSizes cdSizes ctSizes), slSizes⟩)
    (cSizes : PySem.W.codeIn K cdSizes "_law_sizes" = true)
    (kSizes : PySem.W.keepIn K (.ref fSizes) = true)
    (aAWalk : PySem.W.nsIn K mainGlobals "_law_a_walk" = some (some (.ref fAWalk)))
    (lAWalk : K.lookup fAWalk = some ⟨ocAWalk, odAWalk, .func (PySem.W.fnOf "_law_a_walk" "_law_a_walk" (defArgs sAWalk) (defBody sAWalk) (defScope sAWalk) .none kVAWalk dcAWalk pmAWalk anAWalk cdAWalk ctAWalk), slAWalk⟩)
    (cAWalk : PySem.W.codeIn K cdAWalk "_law_a_walk" = true)
    (kAWalk : PySem.W.keepIn K (.ref fAWalk) = true)
    (aRun : PySem.W.nsIn K mainGlobals "_law_run" = some (some (.ref fRun)))
    (lRun : K.lookup fRun = some ⟨ocRun, odRun, .func (PySem.W.fnOf "_law_run" "_law_run" (defArgs sRun) (defBody sRun) (defScope sRun) .none kVRun dcRun pmRun anRun cdRun ctRun), slRun⟩)
    (cRun : PySem.W.codeIn K cdRun "_law_run" = true)
    (kRun : PySem.W.keepIn K (.ref fRun) = true)
    (aMade : PySem.W.nsIn K mainGlobals "_law_here" = some (some (.ref fMade)))
    (lMade : K.lookup fMade = some ⟨ocMade, odMade, .func (PySem.W.fnOf "_law_here" "_law_here" (defArgs sMade) (defBody sMade) (defScope sMade) .none kVMade dcMade pmMade anMade cdMade ctMade), slMade⟩)
    (cMade : PySem.W.codeIn K cdMade "_law_here" = true)
    (kMade : PySem.W.keepIn K (.ref fMade) = true)
    (aLog : PySem.W.nsIn K mainGlobals "_law_log" = some (some (.ref fLog)))
    (lLog : K.lookup fLog = some ⟨ocLog, odLog, .func (PySem.W.fnOf "_law_log" "_law_log" (defArgs sLog) (defBody sLog) (defScope sLog) .none kVLog dcLog pmLog anLog cdLog ctLog), slLog⟩)
    (cLog : PySem.W.codeIn K cdLog "_law_log" = true)
    (kLog : PySem.W.keepIn K (.ref fLog) = true)
    (aAlong : PySem.W.nsIn K mainGlobals "_law_along" = some (some (.ref fAlong)))
    (lAlong : K.lookup fAlong = some ⟨ocAlong, odAlong, .func (PySem.W.fnOf "_law_along" "_law_along" (defArgs sAlong) (defBody sAlong) (defScope sAlong) .none kVAlong dcAlong pmAlong anAlong cdAlong ctAlong), slAlong⟩)
    (cAlong : PySem.W.codeIn K cdAlong "_law_along" = true)
    (kAlong : PySem.W.keepIn K (.ref fAlong) = true)
    (aIsLog : PySem.W.nsIn K mainGlobals "_law_is_log" = some (some (.ref fIsLog)))
    (lIsLog : K.lookup fIsLog = some ⟨ocIsLog, odIsLog, .func (PySem.W.fnOf "_law_is_log" "_law_is_log" (defArgs sIsLog) (defBody sIsLog) (defScope sIsLog) .none kVIsLog dcIsLog pmIsLog anIsLog cdIsLog ctIsLog), slIsLog⟩)
    (cIsLog : PySem.W.codeIn K cdIsLog "_law_is_log" = true)
    (kIsLog : PySem.W.keepIn K (.ref fIsLog) = true)
    (aLogs : PySem.W.nsIn K mainGlobals "_law_logs_near" = some (some (.ref fLogs)))
    (lLogs : K.lookup fLogs = some ⟨ocLogs, odLogs, .func (PySem.W.fnOf "_law_logs_near" "_law_logs_near" (defArgs sLogs) (defBody sLogs) (defScope sLogs) .none kVLogs dcLogs pmLogs anLogs cdLogs ctLogs), slLogs⟩)
    (cLogs : PySem.W.codeIn K cdLogs "_law_logs_near" = true)
    (kLogs : PySem.W.keepIn K (.ref fLogs) = true)
    (aLike : PySem.W.nsIn K mainGlobals "_law_like" = some (some (.ref fLike)))
    (lLike : K.lookup fLike = some ⟨ocLike, odLike, .func (PySem.W.fnOf "_law_like" "_law_like" (defArgs sLike) (defBody sLike) (defScope sLike) .none kVLike dcLike pmLike anLike cdLike ctLike), slLike⟩)
    (cLike : PySem.W.codeIn K cdLike "_law_like" = true)
    (kLike : PySem.W.keepIn K (.ref fLike) = true)
    (aOther : PySem.W.nsIn K mainGlobals "_law_other" = some (some (.ref fOther)))
    (lOther : K.lookup fOther = some ⟨ocOther, odOther, .func (PySem.W.fnOf "_law_other" "_law_other" (defArgs sOther) (defBody sOther) (defScope sOther) .none kVOther dcOther pmOther anOther cdOther ctOther), slOther⟩)
    (cOther : PySem.W.codeIn K cdOther "_law_other" = true)
    (kOther : PySem.W.keepIn K (.ref fOther) = true)
    (aBad : PySem.W.nsIn K mainGlobals "_law_bad_many" = some (some (.ref fBad)))
    (lBad : K.lookup fBad = some ⟨ocBad, odBad, .func (PySem.W.fnOf "_law_bad_many" "_law_bad_many" (defArgs sBadMany) (defBody sBadMany) (defScope sBadMany) .none kVBad dcBad pmBad anBad cdBad ctBad), slBad⟩)
    (cBad : PySem.W.codeIn K cdBad "_law_bad_many" = true)
    (kBad : PySem.W.keepIn K (.ref fBad) = true)
    (aIsRef : PySem.W.nsIn K mainGlobals "_law_is_refused" = some (some (.ref fIsRef)))
    (lIsRef : K.lookup fIsRef = some ⟨ocIsRef, odIsRef, .func (PySem.W.fnOf "_law_is_refused" "_law_is_refused" (defArgs sIsRef) (defBody sIsRef) (defScope sIsRef) .none kVIsRef dcIsRef pmIsRef anIsRef cdIsRef ctIsRef), slIsRef⟩)
    (cIsRef : PySem.W.codeIn K cdIsRef "_law_is_refused" = true)
    (kIsRef : PySem.W.keepIn K (.ref fIsRef) = true)
    (aRight : PySem.W.nsIn K mainGlobals "_law_right" = some (some (.ref fRight)))
    (lRight : K.lookup fRight = some ⟨ocRight, odRight, .func (PySem.W.fnOf "_law_right" "_law_right" (defArgs sRight) (defBody sRight) (defScope sRight) .none kVRight dcRight pmRight anRight (.ref cRt) ctRight), slRight⟩)
    (cRight : PySem.W.codeIn K (.ref cRt) "_law_right" = true)
    (kRight : PySem.W.keepIn K (.ref fRight) = true)
    (aLaw : PySem.W.nsIn K mainGlobals "law" = some (some (.ref fLaw)))
    (lLaw : K.lookup fLaw = some ⟨ocLaw, odLaw, .func (PySem.W.fnOf "law" "law" (defArgs sLaw) (defBody sLaw) (defScope sLaw) .none kVLaw dcLaw pmLaw anLaw cdLaw ctLaw), slLaw⟩)
    (cLaw : PySem.W.codeIn K cdLaw "law" = true)
    (kLaw : PySem.W.keepIn K (.ref fLaw) = true)
    (z0 : PySem.W.nsIn K mainGlobals "len" = some none)
    (z1 : PySem.W.nsIn K mainGlobals "sum" = some none)
    (z2 : PySem.W.nsIn K mainGlobals "int" = some none)
    (z3 : PySem.W.nsIn K mainGlobals "abs" = some none)
    (z4 : PySem.W.nsIn K mainGlobals "list" = some none)
    (z5 : PySem.W.nsIn K mainGlobals "range" = some none)
    (z6 : PySem.W.nsIn K mainGlobals "max" = some none)
    (z7 : PySem.W.nsIn K mainGlobals "min" = some none)
    (z8 : PySem.W.nsIn K mainGlobals "isinstance" = some none)
    (z9 : PySem.W.nsIn K mainGlobals "tuple" = some none)
    (z10 : PySem.W.nsIn K mainGlobals "bool" = some none)
    (z11 : PySem.W.nsIn K mainGlobals "str" = some none)
    (z12 : PySem.W.nsIn K mainGlobals "enumerate" = some none)
    (z13 : PySem.W.nsIn K mainGlobals "repr" = some none)
    (z14 : PySem.W.nsIn K mainGlobals "all" = some none)
    (z15 : PySem.W.nsIn K mainGlobals "ValueError" = some none)
    (z16 : PySem.W.nsIn K mainGlobals "set" = some none)
    (z17 : PySem.W.nsIn K mainGlobals "dict" = some none)
    (z18 : PySem.W.nsIn K mainGlobals "zip" = some none)
    (aL : PySem.W.nsIn K mainGlobals "LETTERS" = some (some (.str LET tL)))
    (aF : PySem.W.nsIn K mainGlobals "FIGURES" = some (some (.str FIG tF)))
    (aM : PySem.W.nsIn K mainGlobals "MOST_STEPS" = some (some (.int 24 tM)))
    (aMD : PySem.W.nsIn K mainGlobals "MOST_DEVICES" = some (some (.int 4 tMD)))
    (aH : PySem.W.nsIn K mainGlobals "HEADS" = some (some (.ref hA)))
    (h0 : K.lookup hA = some ⟨.type "tuple", dH, .seq #[.ref a0, .ref a1, .ref a2] nH, slH⟩)
    (h1 : K.lookup a0 = some ⟨.type "tuple", dH0, .seq #[.str "calls" tw0, .int 1 tx0, .int 3 ty0] nH0, slH0⟩)
    (h2 : K.lookup a1 = some ⟨.type "tuple", dH1, .seq #[.str "answers" tw1, .int 2 tx1, .int 3 ty1] nH1, slH1⟩)
    (h3 : K.lookup a2 = some ⟨.type "tuple", dH2, .seq #[.str "states" tw2, .int 1 tx2, .int 4 ty2] nH2, slH2⟩)
    (KcRt : K.lookup cRt = some ⟨.type "code", dKRight, .fields vKRight, slKRight⟩)
    (hP1 : vKRight[11]? = some (Value.ref P1))
    (nP1 : K.lookup P1 = none)
    (tb1 : PySem.W.tabIn K "_law_right" = some (cRt, P1))
    (eb : errsB K fInit B [CB, CS, CC, CL, CD] = true)
    (db : devB K C = true)
    (kt : decide (PySem.W.kitOne K (.ref C) (.type "tuple") = some false) = true) :
    GLawAt l w K 11 "_law_script" mg fa h := by
  have e := hfa.symm.trans (PySem.W.mg_of X G aLaw)
  cases e
  have T : Bltn mg := ⟨PySem.W.mg_none_of X G z0, PySem.W.mg_none_of X G z1, PySem.W.mg_none_of X G z2, PySem.W.mg_none_of X G z3, PySem.W.mg_none_of X G z4, PySem.W.mg_none_of X G z5, PySem.W.mg_none_of X G z6, PySem.W.mg_none_of X G z7, PySem.W.mg_none_of X G z8, PySem.W.mg_none_of X G z9, PySem.W.mg_none_of X G z10, PySem.W.mg_none_of X G z11, PySem.W.mg_none_of X G z12, PySem.W.mg_none_of X G z13, PySem.W.mg_none_of X G z14, PySem.W.mg_none_of X G z15, PySem.W.mg_none_of X G z16⟩
  have mDict := PySem.W.mg_none_of X G z17
  have FInit := fun_mk (st := sInit) lInit cInit kInit
  have FDInit := fun_mk (st := sDInit) lDInit cDInit kDInit
  have FDHas := fun_mk (st := sDContains) lDHas cDHas kDHas
  have FDAsk := fun_mk (st := sDAsk) lDAsk cDAsk kDAsk
  have FDRow := fun_mk (st := sDRow) lDRow cDRow kDRow
  have FDEq := fun_mk (st := sDEq) lDEq cDEq kDEq
  have FIsName := fun_mk (st := sIsName) lIsName cIsName kIsName
  have FNamesIn := fun_mk (st := sNamesIn) lNamesIn cNamesIn kNamesIn
  have FReadHeads := fun_mk (st := sReadHeads) lReadHeads cReadHeads kReadHeads
  have FAmong := fun_mk (st := sIsAmong) lAmong cAmong kAmong
  have FReadGoals := fun_mk (st := sReadGoals) lReadGoals cReadGoals kReadGoals
  have FIsLine := fun_mk (st := sIsLine) lIsLine cIsLine kIsLine
  have FIsPair := fun_mk (st := sIsPair) lIsPair cIsPair kIsPair
  have FIsRow := fun_mk (st := sIsRow) lIsRow cIsRow kIsRow
  have FRefLog := fun_mk (st := sRefLog) lRefLog cRefLog kRefLog
  have FSteps := fun_mk (st := sSteps) lSteps cSteps kSteps
  have FFirst := fun_mk (st := sFirst) lFirst cFirst kFirst
  have FSameW := fun_mk (st := sSameWords) lSameW cSameW kSameW
  have FRefDev := fun_mk (st := sRefDev) lRefDev cRefDev kRefDev
  have FLeft := fun_mk (st := sLeft) lLeft cLeft kLeft
  have FPot := fun_mk (st := sPot) lPot cPot kPot
  have FTake := fun_mk (st := sTake) lTake cTake kTake
  have FOf := fun_mk (st := sOf) lOf cOf kOf
  have FSome := fun_mk (st := sSome) lSome cSome kSome
  have FAny := fun_mk (st := sAny) lAny cAny kAny
  have FWays := fun_mk (st := sWays) lWays cWays kWays
  have FLPart := fun_mk (st := sLParting) lLPart cLPart kLPart
  have FLeast := fun_mk (st := sIsLeast) lLeast cLeast kLeast
  have FDvc := fun_mk (st := sDevice) lDvc cDvc kDvc
  have FText := fun_mk (st := sText) lText cText kText
  have FCells := fun_mk (st := sCells) lCells cCells kCells
  have FTold := fun_mk (st := sTold) lTold cTold kTold
  have FOdd := fun_mk (st := sOdd) lOdd cOdd kOdd
  have FBent := fun_mk (st := sBent) lBent cBent kBent
  have FSizes := fun_mk (st := sSizes) lSizes cSizes kSizes
  have FAWalk := fun_mk (st := sAWalk) lAWalk cAWalk kAWalk
  have FRun := fun_mk (st := sRun) lRun cRun kRun
  have FMade := fun_mk (st := sMade) lMade cMade kMade
  have FLog := fun_mk (st := sLog) lLog cLog kLog
  have FAlong := fun_mk (st := sAlong) lAlong cAlong kAlong
  have FIsLog := fun_mk (st := sIsLog) lIsLog cIsLog kIsLog
  have FLogs := fun_mk (st := sLogs) lLogs cLogs kLogs
  have FLike := fun_mk (st := sLike) lLike cLike kLike
  have FOther := fun_mk (st := sOther) lOther cOther kOther
  have FBad := fun_mk (st := sBadMany) lBad cBad kBad
  have FIsRef := fun_mk (st := sIsRef) lIsRef cIsRef kIsRef
  have FLaw := fun_mk (st := sLaw) lLaw cLaw kLaw
  have bInit := FInit.binds (ps := ["self", "value"]) fun _ _ _ _ _ _ us hl => match us, hl with | [_, _], _ => rfl
  have bDInit := FDInit.binds (ps := ["self", "text"]) fun _ _ _ _ _ _ us hl => match us, hl with | [_, _], _ => rfl
  have bDHas := FDHas.binds (ps := ["self", "value"]) fun _ _ _ _ _ _ us hl => match us, hl with | [_, _], _ => rfl
  have bDAsk := FDAsk.binds (ps := ["self", "state", "call"]) fun _ _ _ _ _ _ us hl => match us, hl with | [_, _, _], _ => rfl
  have bDRow := FDRow.binds (ps := ["self", "state", "call"]) fun _ _ _ _ _ _ us hl => match us, hl with | [_, _, _], _ => rfl
  have bDEq := FDEq.binds (ps := ["self", "other"]) fun _ _ _ _ _ _ us hl => match us, hl with | [_, _], _ => rfl
  have bIsName := FIsName.binds (ps := ["word"]) fun _ _ _ _ _ _ us hl => match us, hl with | [_], _ => rfl
  have bNamesIn := FNamesIn.binds (ps := ["line", "head", "fewest", "most"]) fun _ _ _ _ _ _ us hl => match us, hl with | [_, _, _, _], _ => rfl
  have bReadHeads := FReadHeads.binds (ps := ["lines", "heads"]) fun _ _ _ _ _ _ us hl => match us, hl with | [_, _], _ => rfl
  have bAmong := FAmong.binds (ps := ["value", "names"]) fun _ _ _ _ _ _ us hl => match us, hl with | [_, _], _ => rfl
  have bReadGoals := FReadGoals.binds (ps := ["lines", "calls", "answers", "states"]) fun _ _ _ _ _ _ us hl => match us, hl with | [_, _, _, _], _ => rfl
  have bIsLine := FIsLine.binds (ps := ["words", "calls", "answers", "states"]) fun _ _ _ _ _ _ us hl => match us, hl with | [_, _, _, _], _ => rfl
  have bIsPair := FIsPair.binds (ps := ["value", "calls", "answers"]) fun _ _ _ _ _ _ us hl => match us, hl with | [_, _, _], _ => rfl
  have bIsRow := FIsRow.binds (ps := ["value", "calls", "answers", "fewest", "most"]) fun _ _ _ _ _ _ us hl => match us, hl with | [_, _, _, _, _], _ => rfl
  have bRefLog := FRefLog.binds (ps := ["log", "device"]) fun _ _ _ _ _ _ us hl => match us, hl with | [_, _], _ => rfl
  have bSteps := FSteps.binds (ps := ["device", "state", "log"]) fun _ _ _ _ _ _ us hl => match us, hl with | [_, _, _], _ => rfl
  have bFirst := FFirst.binds (ps := ["device", "log"]) fun _ _ _ _ _ _ us hl => match us, hl with | [_, _], _ => rfl
  have bSameW := FSameW.binds (ps := ["one", "other"]) fun _ _ _ _ _ _ us hl => match us, hl with | [_, _], _ => rfl
  have bRefDev := FRefDev.binds (ps := ["devices"]) fun _ _ _ _ _ _ us hl => match us, hl with | [_], _ => rfl
  have bLeft := FLeft.binds (ps := ["devices", "log"]) fun _ _ _ _ _ _ us hl => match us, hl with | [_, _], _ => rfl
  have bPot := FPot.binds (ps := ["_law_script", "_law_place"]) fun _ _ _ _ _ _ us hl => match us, hl with | [_, _], _ => rfl
  have bTake := FTake.binds (ps := ["_law_pot_here", "_law_upto"]) fun _ _ _ _ _ _ us hl => match us, hl with | [_, _], _ => rfl
  have bOf := FOf.binds (ps := ["_law_pot_here", "_law_some_here"]) fun _ _ _ _ _ _ us hl => match us, hl with | [_, _], _ => rfl
  have bSome := FSome.binds (ps := ["_law_pot_here", "_law_pool", "_law_many"]) fun _ _ _ _ _ _ us hl => match us, hl with | [_, _, _], _ => rfl
  have bAny := FAny.binds (ps := ["_law_pot_here", "_law_many", "_law_sizes_here"]) fun _ _ _ _ _ _ us hl => match us, hl with | [_, _, _], _ => rfl
  have bWays := FWays.binds (ps := ["_law_device_here"]) fun _ _ _ _ _ _ us hl => match us, hl with | [_], _ => rfl
  have bLPart := FLPart.binds (ps := ["_law_device_here", "_law_one", "_law_other_here"]) fun _ _ _ _ _ _ us hl => match us, hl with | [_, _, _], _ => rfl
  have bLeast := FLeast.binds (ps := ["_law_device_here"]) fun _ _ _ _ _ _ us hl => match us, hl with | [_], _ => rfl
  have bDvc := FDvc.binds (ps := ["_law_pot_here", "_law_many", "_law_sizes_here"]) fun _ _ _ _ _ _ us hl => match us, hl with | [_, _, _], _ => rfl
  have bText := FText.binds (ps := ["_law_device_here"]) fun _ _ _ _ _ _ us hl => match us, hl with | [_], _ => rfl
  have bCells := FCells.binds (ps := ["_law_script", "_law_most"]) fun _ _ _ _ _ _ us hl => match us, hl with | [_, _], _ => rfl
  have bTold := FTold.binds (ps := ["_law_look"]) fun _ _ _ _ _ _ us hl => match us, hl with | [_], _ => rfl
  have bOdd := FOdd.binds (ps := ["_law_pot_here"]) fun _ _ _ _ _ _ us hl => match us, hl with | [_], _ => rfl
  have bBent := FBent.binds (ps := ["_law_pot_here", "_law_value"]) fun _ _ _ _ _ _ us hl => match us, hl with | [_, _], _ => rfl
  have bSizes := FSizes.binds (ps := ["_law_pot_here"]) fun _ _ _ _ _ _ us hl => match us, hl with | [_], _ => rfl
  have bAWalk := FAWalk.binds (ps := ["_law_pot_here", "_law_calls", "_law_most"]) fun _ _ _ _ _ _ us hl => match us, hl with | [_, _, _], _ => rfl
  have bRun := FRun.binds (ps := ["_law_device_here", "_law_state", "_law_walk"]) fun _ _ _ _ _ _ us hl => match us, hl with | [_, _, _], _ => rfl
  have bMade := FMade.binds (ps := ["_law_device_here"]) fun _ _ _ _ _ _ us hl => match us, hl with | [_], _ => rfl
  have bLog := FLog.binds (ps := ["_law_pot_here", "_law_device_here", "_law_most"]) fun _ _ _ _ _ _ us hl => match us, hl with | [_, _, _], _ => rfl
  have bAlong := FAlong.binds (ps := ["_law_device_here", "_law_log_here"]) fun _ _ _ _ _ _ us hl => match us, hl with | [_, _], _ => rfl
  have bIsLog := FIsLog.binds (ps := ["_law_device_here", "_law_value"]) fun _ _ _ _ _ _ us hl => match us, hl with | [_, _], _ => rfl
  have bLogs := FLogs.binds (ps := ["_law_pot_here", "_law_device_here", "_law_log_here"]) fun _ _ _ _ _ _ us hl => match us, hl with | [_, _, _], _ => rfl
  have bLike := FLike.binds (ps := ["_law_pot_here", "_law_device_here"]) fun _ _ _ _ _ _ us hl => match us, hl with | [_, _], _ => rfl
  have bOther := FOther.binds (ps := ["_law_device_here"]) fun _ _ _ _ _ _ us hl => match us, hl with | [_], _ => rfl
  have bBad := FBad.binds (ps := ["_law_pot_here", "_law_heres", "_law_far"]) fun _ _ _ _ _ _ us hl => match us, hl with | [_, _, _], _ => rfl
  have bIsRef := FIsRef.binds (ps := ["_law_kinds", "_law_caught", "_law_value"]) fun _ _ _ _ _ _ us hl => match us, hl with | [_, _, _], _ => rfl
  have bRight := (fun_mk (st := sRight) lRight cRight kRight).binds (ps := ["_law_pot_here"]) fun _ _ _ _ _ _ us hl => match us, hl with | [_], _ => rfl
  have bLaw := FLaw.binds (ps := ["_law_script"]) fun _ _ _ _ _ _ us hl => match us, hl with | [_], _ => rfl
  obtain ⟨t11, t12⟩ := tab1 tb1
  have A := errsB_ok eb
  have DD := devB_ok db
  have cl : ∀ {Ce : Addr} {x : Str}, Ce ∈ [CB, CS, CC, CL, CD] → mg x = some (.ref Ce) → EQl K mg fInit B x Ce := fun hC hx => ⟨⟨hx, errB_ok (A.each _ hC), A.ini _ hC, A.val _ hC⟩, A.box _ hC⟩
  have qCB := cl (x := "BadDevice") (by simp) (PySem.W.mg_of X G eCB)
  have qCS := cl (x := "NoState") (by simp) (PySem.W.mg_of X G eCS)
  have qCC := cl (x := "NoCall") (by simp) (PySem.W.mg_of X G eCC)
  have qCL := cl (x := "BadLog") (by simp) (PySem.W.mg_of X G eCL)
  have qCD := cl (x := "BadDevices") (by simp) (PySem.W.mg_of X G eCD)
  have DC : DevCl K mg C := DD.1 mg (PySem.W.mg_of X G aC)
  have HA : HeadsAt K hA := ⟨a0, a1, a2, fun H => .inr ⟨_, _, _, h0, rfl, rfl, (by show 3 ≤ sizeLine; decide), .cons rfl (.cons rfl (.cons rfl .nil))⟩, fun H => .inr ⟨_, _, _, h1, rfl, rfl, (by show 3 ≤ sizeLine; decide), .cons ⟨_, rfl⟩ (.cons ⟨_, rfl⟩ (.cons ⟨_, rfl⟩ .nil))⟩,
    fun H => .inr ⟨_, _, _, h2, rfl, rfl, (by show 3 ≤ sizeLine; decide), .cons ⟨_, rfl⟩ (.cons ⟨_, rfl⟩ (.cons ⟨_, rfl⟩ .nil))⟩, fun H => .inr ⟨_, _, _, h3, rfl, rfl, (by show 3 ≤ sizeLine; decide), .cons ⟨_, rfl⟩ (.cons ⟨_, rfl⟩ (.cons ⟨_, rfl⟩ .nil))⟩⟩
  have allT : ∀ {R : Addr × Addr → Prop}, R (cRt, P1) → ∀ p ∈ [(cRt, P1)], R p := fun r0 p hp => by
    rw [List.mem_singleton.mp hp]
    exact r0
  have i1 : (cRt, P1) ∈ [(cRt, P1)] := List.mem_cons_self
  refine ⟨PySem.W.fnOf "law" "law" (defArgs sLaw) (defBody sLaw) (defScope sLaw) .none kVLaw dcLaw pmLaw anLaw cdLaw ctLaw, [(cRt, P1)], spLaw K P1, allT t12, allT nP1, allT t11, fun s v => .of_eq rfl, ?_, ?_⟩
  · intro H a ns hl hH hS
    refine ⟨a, ns, rfl, hS, hl, fun q hq => ?_, fun _ => rfl⟩
    rw [List.mem_singleton.mp hq]
    exact ⟨#[], hH (cRt, P1) i1, trivial, fun pos cv hc => by cases hc⟩
  intro base inK gl hT
  have TB1 : TabB base mg cRt P1 := hT (cRt, P1) i1
  have II : Ini l.prog w K mg base fInit := ⟨⟨_, ok_init FInit, bInit⟩, A.fn⟩
  have IS : DevIs K C := DD.2.1
  have NO : DevNot K C := ⟨fun T' hT' => (DD.2.2.2.2.2 T' hT').1, of_decide_eq_true kt⟩
  have GName := ok_name (P := l.prog) (w := w) (base := base) FIsName T ⟨⟨_, PySem.W.mg_of X G aL⟩, ⟨_, PySem.W.mg_of X G aF⟩⟩
  have GNames := ok_names FNamesIn T GName (PySem.W.mg_of X G aIsName) kIsName bIsName
  have GHeads := ok_heads FReadHeads T GNames (PySem.W.mg_of X G aNamesIn) kNamesIn bNamesIn
  have GAmong := ok_among (P := l.prog) (w := w) (base := base) FAmong T
  have GLine := ok_line (P := l.prog) (w := w) (base := base) FIsLine T
  have GGoals := ok_goals FReadGoals T (PySem.W.mg_of X G aH) HA II qCB.ec GLine (PySem.W.mg_of X G aIsLine) kIsLine bIsLine
  have GDInit := ok_dinit FDInit T (PySem.W.mg_of X G aH) HA II qCB.ec DC GHeads (PySem.W.mg_of X G aReadHeads) kReadHeads bReadHeads GGoals (PySem.W.mg_of X G aReadGoals) kReadGoals bReadGoals
  have GHas := ok_has FDHas DC GAmong (PySem.W.mg_of X G aAmong) kAmong bAmong
  have GAsk := ok_ask FDAsk DC II qCS.ec qCC.ec GAmong (PySem.W.mg_of X G aAmong) kAmong bAmong GHas aDHas nDHas bDHas
  have GDRow := ok_row FDRow DC GAsk ⟨aDAsk, nDAsk, kDAsk⟩ bDAsk
  have GDEq := ok_eq (P := l.prog) (w := w) (base := base) FDEq T DC IS
  have MI : Mk K C fDInit := ⟨DD.2.2.1, aDInit, nDInit, DD.2.2.2.1⟩
  have GIsPair := ok_ispair FIsPair T GAmong (PySem.W.mg_of X G aAmong) kAmong bAmong
  have GIsRow := ok_isrow FIsRow T GIsPair (PySem.W.mg_of X G aIsPair) kIsPair bIsPair
  have GRefLog := ok_reflog FRefLog DC II qCL.ec (PySem.W.mg_of X G aM) GIsRow (PySem.W.mg_of X G aIsRow) kIsRow bIsRow
  have GSteps := ok_steps FSteps T DC GDRow ⟨aDRow, nDRow, kDRow⟩ bDRow
  have GFirst := ok_first FFirst T DC GRefLog (PySem.W.mg_of X G aRefLog) kRefLog bRefLog GSteps (PySem.W.mg_of X G aSteps) kSteps bSteps
  have GSameW := ok_samew (P := l.prog) (w := w) (base := base) FSameW DC
  have GRefDev := ok_refdev FRefDev T DC IS II qCD.ec (PySem.W.mg_of X G aMD) GSameW (PySem.W.mg_of X G aSameW) kSameW bSameW
  have GLeft := ok_left FLeft T GRefDev (PySem.W.mg_of X G aRefDev) kRefDev bRefDev GFirst (PySem.W.mg_of X G aFirst) kFirst bFirst
  have GTake := ok_take (P := l.prog) (w := w) (base := base) FTake T
  have GOf := ok_of FOf T GTake (PySem.W.mg_of X G aTake) kTake bTake
  have GSome := ok_some FSome T GTake (PySem.W.mg_of X G aTake) kTake bTake
  have GAny := ok_any FAny GSome (PySem.W.mg_of X G aSome) kSome bSome GOf (PySem.W.mg_of X G aOf) kOf bOf
  have GWays := ok_ways (P := l.prog) (w := w) (base := base) FWays T
  have GLPart := ok_lparting (P := l.prog) (w := w) (base := base) FLPart T
  have GLeast := ok_isleast FLeast T GWays (PySem.W.mg_of X G aWays) kWays bWays GLPart (PySem.W.mg_of X G aLPart) kLPart bLPart
  have GDvc := ok_device FDvc T GAny (PySem.W.mg_of X G aAny) kAny bAny GLeast (PySem.W.mg_of X G aLeast) kLeast bLeast GTake (PySem.W.mg_of X G aTake) kTake bTake
  have GText := ok_text (P := l.prog) (w := w) (base := base) FText T
  have GOdd := ok_odd FOdd GOf (PySem.W.mg_of X G aOf) kOf bOf
  have GSizes := ok_sizes FSizes GOf (PySem.W.mg_of X G aOf) kOf bOf
  have GAWalk := ok_awalk FAWalk T GTake (PySem.W.mg_of X G aTake) kTake bTake GOf (PySem.W.mg_of X G aOf) kOf bOf
  have GRun := ok_run (P := l.prog) (w := w) (base := base) FRun T
  have GMade := ok_made FMade DC GText (PySem.W.mg_of X G aText) kText bText GDInit MI bDInit
  have ZL_ : KitL l.prog w K mg base := ⟨⟨_, _, GTake, PySem.W.mg_of X G aTake, kTake, bTake⟩, ⟨_, _, GOf, PySem.W.mg_of X G aOf, kOf, bOf⟩, ⟨_, _, GAWalk, PySem.W.mg_of X G aAWalk, kAWalk, bAWalk⟩, ⟨_, _, GRun, PySem.W.mg_of X G aRun, kRun, bRun⟩, PySem.W.mg_none_of X G z18⟩
  have GLog := ok_log FLog T ZL_
  have GAlong := ok_along (P := l.prog) (w := w) (base := base) FAlong T
  have GIsLog := ok_islog (P := l.prog) (w := w) (base := base) FIsLog T
  have BB : Bent l.prog w K mg base := ⟨⟨_, _, GTake, PySem.W.mg_of X G aTake, kTake, bTake⟩, ⟨_, _, GOf, PySem.W.mg_of X G aOf, kOf, bOf⟩⟩
  have GBent := ok_bent (m := 2) FBent T BB (ok_bent (m := 1) FBent T BB (ok_bent (m := 0) FBent T BB no_bent (PySem.W.mg_of X G aBent) bBent) (PySem.W.mg_of X G aBent) bBent) (PySem.W.mg_of X G aBent) bBent
  have GLogs := ok_logs FLogs T GBent (PySem.W.mg_of X G aBent) kBent bBent GOdd (PySem.W.mg_of X G aOdd) kOdd bOdd
  have GLike := ok_like FLike T mDict GTake (PySem.W.mg_of X G aTake) kTake bTake GOf (PySem.W.mg_of X G aOf) kOf bOf GSome (PySem.W.mg_of X G aSome) kSome bSome
  have GOther := ok_other FOther T DC GDInit MI bDInit
  have GBad := ok_badmany FBad T DC GOdd (PySem.W.mg_of X G aOdd) kOdd bOdd
  have GIsRef := ok_isref (P := l.prog) (w := w) (base := base) FIsRef T qCL
  have ZR : KitR l.prog w K mg base fInit C CD CL B := ⟨⟨_, _, GOf, PySem.W.mg_of X G aOf, kOf, bOf⟩, ⟨_, _, GTake, PySem.W.mg_of X G aTake, kTake, bTake⟩, ⟨_, _, GDvc, PySem.W.mg_of X G aDvc, kDvc, bDvc⟩, ⟨_, _, GSizes, PySem.W.mg_of X G aSizes, kSizes, bSizes⟩, ⟨_, _, GLike, PySem.W.mg_of X G aLike, kLike, bLike⟩, ⟨_, _, GMade, PySem.W.mg_of X G aMade, kMade, bMade⟩, ⟨_, _, GLog, PySem.W.mg_of X G aLog, kLog, bLog⟩, ⟨_, _, GAlong, PySem.W.mg_of X G aAlong, kAlong, bAlong⟩, ⟨_, _, GLeft, PySem.W.mg_of X G aLeft, kLeft, bLeft⟩, ⟨_, _, GOther, PySem.W.mg_of X G aOther, kOther, bOther⟩, ⟨_, _, GBad, PySem.W.mg_of X G aBad, kBad, bBad⟩, ⟨_, _, GLogs, PySem.W.mg_of X G aLogs, kLogs, bLogs⟩, ⟨_, _, GIsLog, PySem.W.mg_of X G aIsLog, kIsLog, bIsLog⟩, ⟨_, _, GIsRef, PySem.W.mg_of X G aIsRef, kIsRef, bIsRef⟩, ⟨_, _, _, _, _, _, _, _, _, _, PySem.W.mg_of X G aTold, kTold, lTold, cTold, bTold⟩, ⟨_, _, GDEq, aDEq, nDEq, bDEq⟩, DD.2.2.2.2.1, IS.cm, PySem.W.mg_of X G aB, qCL, qCD, DC, IS, NO, A.dsc⟩
  have GR := ok_right (P := l.prog) (w := w) (base := base) T ZR lRight cRight TB1
  exact ok_law FLaw T GR (PySem.W.mg_of X G aRight) kRight bRight (ok_pot FPot T) (PySem.W.mg_of X G aPot) kPot bPot (ok_cells FCells T) (PySem.W.mg_of X G aCells) kCells bCells
end K51
open PySem PySem.W PyProof.Rows
set_option Elab.async false
set_option maxRecDepth 100000 in
set_option maxHeartbeats 0 in
theorem PySem.Challenge.cw_toldboxes_k51_whole_which_versions_are_l_holds : PySem.Challenge.rw_toldboxes_k51_whole_which_versions_are_l.Holds := by
  w_on; o_law; k_head; (case hw => w_witness2)
  k_fill
  refine LG.g_walkU (l := PySem.Challenge.rw_toldboxes_k51_whole_which_versions_are_l) (k := 11) (x := "_law_script") rfl rfl ⟨rfl, by decide, by decide⟩ (fun w h Y => PySem.W.km_in_of Y) ?F
  case F =>
    intro w mg mb fa h mean Y Tp KX G hmg
    refine' K51.all_mk KX G hmg (fun tb => PySem.W.tab_of Tp KX rfl tb) ?aB ?eCB ?eCS ?eCC ?eCL ?eCD ?aC ?aInit ?lInit ?cInit ?kInit ?nInit ?aDInit ?lDInit ?cDInit ?kDInit ?nDInit ?aDHas ?lDHas ?cDHas ?kDHas ?nDHas ?aDAsk ?lDAsk ?cDAsk ?kDAsk ?nDAsk ?aDRow ?lDRow ?cDRow ?kDRow ?nDRow ?aDEq ?lDEq ?cDEq ?kDEq ?nDEq ?aIsName ?lIsName ?cIsName ?kIsName ?aNamesIn ?lNamesIn ?cNamesIn ?kNamesIn ?aReadHeads ?lReadHeads ?cReadHeads ?kReadHeads ?aAmong ?lAmong ?cAmong ?kAmong ?aReadGoals ?lReadGoals ?cReadGoals ?kReadGoals ?aIsLine ?lIsLine ?cIsLine ?kIsLine ?aIsPair ?lIsPair ?cIsPair ?kIsPair ?aIsRow ?lIsRow ?cIsRow ?kIsRow ?aRefLog ?lRefLog ?cRefLog ?kRefLog ?aSteps ?lSteps ?cSteps ?kSteps ?aFirst ?lFirst ?cFirst ?kFirst ?aSameW ?lSameW ?cSameW ?kSameW ?aRefDev ?lRefDev ?cRefDev ?kRefDev ?aLeft ?lLeft ?cLeft ?kLeft ?aPot ?lPot ?cPot ?kPot ?aTake ?lTake ?cTake ?kTake ?aOf ?lOf ?cOf ?kOf ?aSome ?lSome ?cSome ?kSome ?aAny ?lAny ?cAny ?kAny ?aWays ?lWays ?cWays ?kWays ?aLPart ?lLPart ?cLPart ?kLPart ?aLeast ?lLeast ?cLeast ?kLeast ?aDvc ?lDvc ?cDvc ?kDvc ?aText ?lText ?cText ?kText ?aCells ?lCells ?cCells ?kCells ?aTold ?lTold ?cTold ?kTold ?aOdd ?lOdd ?cOdd ?kOdd ?aBent ?lBent ?cBent ?kBent ?aSizes ?lSizes ?cSizes ?kSizes ?aAWalk ?lAWalk ?cAWalk ?kAWalk ?aRun ?lRun ?cRun ?kRun ?aMade ?lMade ?cMade ?kMade ?aLog ?lLog ?cLog ?kLog ?aAlong ?lAlong ?cAlong ?kAlong ?aIsLog ?lIsLog ?cIsLog ?kIsLog ?aLogs ?lLogs ?cLogs ?kLogs ?aLike ?lLike ?cLike ?kLike ?aOther ?lOther ?cOther ?kOther ?aBad ?lBad ?cBad ?kBad ?aIsRef ?lIsRef ?cIsRef ?kIsRef ?aRight ?lRight ?cRight ?kRight ?aLaw ?lLaw ?cLaw ?kLaw ?z0 ?z1 ?z2 ?z3 ?z4 ?z5 ?z6 ?z7 ?z8 ?z9 ?z10 ?z11 ?z12 ?z13 ?z14 ?z15 ?z16 ?z17 ?z18 ?aL ?aF ?aM ?aMD ?aH ?h0 ?h1 ?h2 ?h3 ?KcRt ?hP1 ?nP1 ?tb1 ?eb ?db ?kt
    (case aB => k_is)
    (case eCB => k_is)
    (case eCS => k_is)
    (case eCC => k_is)
    (case eCL => k_is)
    (case eCD => k_is)
    (case aC => k_is)
    (case aInit => k_is)
    (case lInit => k_is)
    (case cInit => k_is)
    (case kInit => k_is)
    (case nInit => k_is)
    (case aDInit => k_is)
    (case lDInit => k_is)
    (case cDInit => k_is)
    (case kDInit => k_is)
    (case nDInit => k_is)
    (case aDHas => k_is)
    (case lDHas => k_is)
    (case cDHas => k_is)
    (case kDHas => k_is)
    (case nDHas => k_is)
    (case aDAsk => k_is)
    (case lDAsk => k_is)
    (case cDAsk => k_is)
    (case kDAsk => k_is)
    (case nDAsk => k_is)
    (case aDRow => k_is)
    (case lDRow => k_is)
    (case cDRow => k_is)
    (case kDRow => k_is)
    (case nDRow => k_is)
    (case aDEq => k_is)
    (case lDEq => k_is)
    (case cDEq => k_is)
    (case kDEq => k_is)
    (case nDEq => k_is)
    (case aIsName => k_is)
    (case lIsName => k_is)
    (case cIsName => k_is)
    (case kIsName => k_is)
    (case aNamesIn => k_is)
    (case lNamesIn => k_is)
    (case cNamesIn => k_is)
    (case kNamesIn => k_is)
    (case aReadHeads => k_is)
    (case lReadHeads => k_is)
    (case cReadHeads => k_is)
    (case kReadHeads => k_is)
    (case aAmong => k_is)
    (case lAmong => k_is)
    (case cAmong => k_is)
    (case kAmong => k_is)
    (case aReadGoals => k_is)
    (case lReadGoals => k_is)
    (case cReadGoals => k_is)
    (case kReadGoals => k_is)
    (case aIsLine => k_is)
    (case lIsLine => k_is)
    (case cIsLine => k_is)
    (case kIsLine => k_is)
    (case aIsPair => k_is)
    (case lIsPair => k_is)
    (case cIsPair => k_is)
    (case kIsPair => k_is)
    (case aIsRow => k_is)
    (case lIsRow => k_is)
    (case cIsRow => k_is)
    (case kIsRow => k_is)
    (case aRefLog => k_is)
    (case lRefLog => k_is)
    (case cRefLog => k_is)
    (case kRefLog => k_is)
    (case aSteps => k_is)
    (case lSteps => k_is)
    (case cSteps => k_is)
    (case kSteps => k_is)
    (case aFirst => k_is)
    (case lFirst => k_is)
    (case cFirst => k_is)
    (case kFirst => k_is)
    (case aSameW => k_is)
    (case lSameW => k_is)
    (case cSameW => k_is)
    (case kSameW => k_is)
    (case aRefDev => k_is)
    (case lRefDev => k_is)
    (case cRefDev => k_is)
    (case kRefDev => k_is)
    (case aLeft => k_is)
    (case lLeft => k_is)
    (case cLeft => k_is)
    (case kLeft => k_is)
    (case aPot => k_is)
    (case lPot => k_is)
    (case cPot => k_is)
    (case kPot => k_is)
    (case aTake => k_is)
    (case lTake => k_is)
    (case cTake => k_is)
    (case kTake => k_is)
    (case aOf => k_is)
    (case lOf => k_is)
    (case cOf => k_is)
    (case kOf => k_is)
    (case aSome => k_is)
    (case lSome => k_is)
    (case cSome => k_is)
    (case kSome => k_is)
    (case aAny => k_is)
    (case lAny => k_is)
    (case cAny => k_is)
    (case kAny => k_is)
    (case aWays => k_is)
    (case lWays => k_is)
    (case cWays => k_is)
    (case kWays => k_is)
    (case aLPart => k_is)
    (case lLPart => k_is)
    (case cLPart => k_is)
    (case kLPart => k_is)
    (case aLeast => k_is)
    (case lLeast => k_is)
    (case cLeast => k_is)
    (case kLeast => k_is)
    (case aDvc => k_is)
    (case lDvc => k_is)
    (case cDvc => k_is)
    (case kDvc => k_is)
    (case aText => k_is)
    (case lText => k_is)
    (case cText => k_is)
    (case kText => k_is)
    (case aCells => k_is)
    (case lCells => k_is)
    (case cCells => k_is)
    (case kCells => k_is)
    (case aTold => k_is)
    (case lTold => k_is)
    (case cTold => k_is)
    (case kTold => k_is)
    (case aOdd => k_is)
    (case lOdd => k_is)
    (case cOdd => k_is)
    (case kOdd => k_is)
    (case aBent => k_is)
    (case lBent => k_is)
    (case cBent => k_is)
    (case kBent => k_is)
    (case aSizes => k_is)
    (case lSizes => k_is)
    (case cSizes => k_is)
    (case kSizes => k_is)
    (case aAWalk => k_is)
    (case lAWalk => k_is)
    (case cAWalk => k_is)
    (case kAWalk => k_is)
    (case aRun => k_is)
    (case lRun => k_is)
    (case cRun => k_is)
    (case kRun => k_is)
    (case aMade => k_is)
    (case lMade => k_is)
    (case cMade => k_is)
    (case kMade => k_is)
    (case aLog => k_is)
    (case lLog => k_is)
    (case cLog => k_is)
    (case kLog => k_is)
    (case aAlong => k_is)
    (case lAlong => k_is)
    (case cAlong => k_is)
    (case kAlong => k_is)
    (case aIsLog => k_is)
    (case lIsLog => k_is)
    (case cIsLog => k_is)
    (case kIsLog => k_is)
    (case aLogs => k_is)
    (case lLogs => k_is)
    (case cLogs => k_is)
    (case kLogs => k_is)
    (case aLike => k_is)
    (case lLike => k_is)
    (case cLike => k_is)
    (case kLike => k_is)
    (case aOther => k_is)
    (case lOther => k_is)
    (case cOther => k_is)
    (case kOther => k_is)
    (case aBad => k_is)
    (case lBad => k_is)
    (case cBad => k_is)
    (case kBad => k_is)
    (case aIsRef => k_is)
    (case lIsRef => k_is)
    (case cIsRef => k_is)
    (case kIsRef => k_is)
    (case aRight => k_is)
    (case lRight => k_is)
    (case cRight => k_is)
    (case kRight => k_is)
    (case aLaw => k_is)
    (case lLaw => k_is)
    (case cLaw => k_is)
    (case kLaw => k_is)
    (case z0 => k_is)
    (case z1 => k_is)
    (case z2 => k_is)
    (case z3 => k_is)
    (case z4 => k_is)
    (case z5 => k_is)
    (case z6 => k_is)
    (case z7 => k_is)
    (case z8 => k_is)
    (case z9 => k_is)
    (case z10 => k_is)
    (case z11 => k_is)
    (case z12 => k_is)
    (case z13 => k_is)
    (case z14 => k_is)
    (case z15 => k_is)
    (case z16 => k_is)
    (case z17 => k_is)
    (case z18 => k_is)
    (case aL => k_is)
    (case aF => k_is)
    (case aM => k_is)
    (case aMD => k_is)
    (case aH => k_is)
    (case h0 => k_is)
    (case h1 => k_is)
    (case h2 => k_is)
    (case h3 => k_is)
    (case KcRt => k_is)
    (case hP1 => exact rfl)
    (case nP1 => kernel_rfl)
    (case tb1 => kernel_rfl)
    (case eb => kernel_rfl)
    (case db => kernel_rfl)
    (case kt => kernel_rfl)
