import PyProof.Rows.All
import Wide.All
import OpenK.AllK
import Wide.FinOn
import HandS.Base
import HandS.Call
import HandS.List
import HandS.Ends
import HandS.Wide
import HandS.Iter
import HandS.Conv
import HandS.ForMost
import HandS.ForExc
import HandS.SortInts
import HandS.SortKw
import HandS.SetFor
import HandS.Style
import HandS.Codes
import HandS.Strs
import HandS.Walk
import HandS.IsInst
import HandS.NoneIn
import HandS.Deep
import HandS.More
import HandS.Text
import HandS.StrMore
import HandS.FStr
import PySem.Challenge.RW_sortstretches_k50_texts_of_scripts_shown
set_option maxHeartbeats 20000000
set_option Elab.async false
set_option linter.all false
set_option maxRecDepth 100000
namespace Xk
open PySem PySem.Spec PyProof.Rows L2

/-- a def's promise where no list is being written out around the call -/
structure FnG (P : Program) (w : World) (K : PySem.W.Frag) (mg : Str → Option Value) (B : Heap) (CX : CXT) (n : Nat) (g : Addr) (fd : FuncData) (ps : List Str) (sp : Sp) : Prop where
  cnt : ∀ vs H Q E, sp vs H Q E → vs.length = ps.length
  go : ∀ (A : Around) (ou : List Env) (t : Shared) (H : Hp) (ar : Args) (us : List Value) (vs : List V) (Q : VK) (E : XK),
    A.guards = some [] → Room n A → Env0 P w K mg B A ou t H → BindsTo t fd ar (ps.zip us) → Vals vs us → sp vs H Q E →
      codeAny (model P w) A (.call (.ref g) ar) (CR CX ou P w H t Q E) t

theorem FnG.of {P : Program} {w : World} {K : PySem.W.Frag} {mg : Str → Option Value} {B : Heap} {CX : CXT} {n : Nat} {g : Addr} {fd : FuncData} {ps : List Str} {sp : Sp}
    (F : FnOk P w K mg B CX n g fd ps sp) : FnG P w K mg B CX n g fd ps sp :=
  ⟨F.len, fun A ou t H ar us vs Q E _ room env bi rv hs => F.run A ou t H ar us vs Q E room env bi rv hs⟩

section
variable {X : Cx} {CX : CXT} {n : Nat} {g : Addr} {fd : FuncData} {ps ks : List Str} {sp : Sp} {dvs : List V} {ds : List Value} {E : XK} {x : Str} {p pos : Pos} {e : Expr} {es : List Expr} {kws : List Keyword} {t tk : TA}

theorem endG {pins : List (Addr × Obj)} {σ : L2.St} {H : Hp} {s s' : Shared} {Q : VK} {r : Result} (pas : Passes CX X E) (I : Inv X pins σ H s)
    (z : CR CX X.stack X.prog X.w H s Q E r s') :
    (match r with | .ok (.ret u) => EP X pins σ Q u s' | .ok _ => False | .error er => X.xe er s') := by
  match r, z with
  | .error er, z => exact pas pins σ H s er s' I z
  | .ok (.ret u), z => exact I.after z
  | .ok .next, z => exact z.elim
  | .ok .brk, z => exact z.elim
  | .ok .cont, z => exact z.elim

theorem goG {pins : List (Addr × Obj)} {σ : L2.St} {H : Hp} {s : Shared} {Q : VK} {us : List Value} {vs : List V} (F : FnG X.prog X.w X.K X.mg X.base CX n g fd ps sp)
    (hG : X.A.guards = some []) (room : Room n X.A) (bi : Binds X.K fd ps ds) (dv : Vals dvs ds) (pas : Passes CX X E) (I : Inv X pins σ H s) (rv : Vals vs us) (z : sp (vs ++ dvs) H Q E) :
    wpAny (model X.prog X.w) X.A (PySem.call (.ref g) us) (EP X pins σ Q) X.xe s := by
  have rv2 := rv.append dv
  have hlen : (us ++ ds).length = ps.length := rv2.length ▸ F.cnt _ _ _ _ z
  exact wpAny_call (codeAny_mono (F.go X.A X.stack s H ⟨us, []⟩ _ _ Q E hG room I.env0 (bi s us I.kIn hlen) rv2 z) fun r s' y => by
    have := endG pas I y
    revert this
    cases r with
    | error _ => exact id
    | ok fl => cases fl <;> exact id)

theorem pe_callG (F : FnG X.prog X.w X.K X.mg X.base CX n g fd ps sp) (hG : X.A.guards = some []) (room : Room n X.A) (gx : Gl X x) (at' : X.mg x = some (.ref g)) (kp : PySem.W.keepIn X.K (.ref g) = true)
    (bi : Binds X.K fd ps ds) (dv : Vals dvs ds) (pas : Passes CX X E) (ha : PA X (e :: es) t) (hdb : (x == ("__debug__" : Str)) = false := by decide)
    (he : starEach (e :: es) X.env = (false, eval e X.env) :: starEach es X.env := by rfl) (hpl : (backTo pos (starEach es X.env)).any (·.1) = false := by rfl) : PE X (.Call (.Name x p) (e :: es) [] pos) (tCall sp dvs E t) :=
  ⟨fun pins s σ H Q I z => wpAny_Call_Name_kw (ld_glob I gx at'
    (PySem.W.callWith_K (h₀ := X.base) I.ok.mod.kin kp (thn (ha.run pos pins s σ H _ I z) fun us s1 ⟨vs, H1, I1, r, q⟩ => ⟨I1.kIn, goG F hG room bi dv pas I1 r q⟩) he hpl) hdb)⟩

variable {ff : List Value → List Value → List Value} {fV : List V → List V → List V}
theorem goGK {pins : List (Addr × Obj)} {σ : L2.St} {H : Hp} {s : Shared} {Q : VK} {us ws : List Value} {vs zs : List V} (F : FnG X.prog X.w X.K X.mg X.base CX n g fd ps sp)
    (hG : X.A.guards = some []) (room : Room n X.A) (bi : KBinds X.K fd ps ks ff fV) (pas : Passes CX X E) (I : Inv X pins σ H s) (rv : Vals vs us) (rw' : Vals zs ws) (z : sp (fV vs zs) H Q E) :
    wpAny (model X.prog X.w) X.A (PySem.call (.ref g) us (ks.zip ws)) (EP X pins σ Q) X.xe s := by
  have rv2 := bi.rel rv rw'
  have hlen : (ff us ws).length = ps.length := rv2.length ▸ F.cnt _ _ _ _ z
  exact wpAny_call (codeAny_mono (F.go X.A X.stack s H ⟨us, ks.zip ws⟩ _ _ Q E hG room I.env0 (bi.to s us ws I.kIn hlen) rv2 z) fun r s' y => by
    have := endG pas I y
    revert this
    cases r with
    | error _ => exact id
    | ok fl => cases fl <;> exact id)

/-- f(e, .., k = v, ..) -/
theorem pe_callKG (F : FnG X.prog X.w X.K X.mg X.base CX n g fd ps sp) (hG : X.A.guards = some []) (room : Room n X.A) (gx : Gl X x) (at' : X.mg x = some (.ref g)) (kp : PySem.W.keepIn X.K (.ref g) = true)
    (bi : KBinds X.K fd ps ks ff fV) (pas : Passes CX X E) (ha : PA X (e :: es) t) (hkw : PK X kws tk) (hdb : (x == ("__debug__" : Str)) = false := by decide)
    (all' : (backToKw pos (keywordEach kws X.env)).all (·.1.isSome) = true := by rfl) (nms : (backToKw pos (keywordEach kws X.env)).filterMap (·.1) = ks := by rfl)
    (he : starEach (e :: es) X.env = (false, eval e X.env) :: starEach es X.env := by rfl)
    (hpl : ((backTo pos (starEach (e :: es) X.env)).any (·.1) || (backToKw pos (keywordEach kws X.env)).any (·.1.isNone)) = false := by rfl) :
    PE X (.Call (.Name x p) (e :: es) kws pos) (tCallK sp fV E t tk) := by
  subst nms
  exact ⟨fun pins s σ H Q I z => wpAny_Call_Name_kw (ld_glob I gx at'
    (PySem.W.callWith_KW (h₀ := X.base) I.ok.mod.kin kp all' (thn (ha.run pos pins s σ H _ I z) fun us s1 ⟨vs, H1, I1, r, q⟩ =>
      thn (hkw.run pos pins s1 σ H1 _ I1 q) fun ws s2 ⟨zs, H2, I2, rz, q2⟩ => ⟨I2.kIn, goGK F hG room bi pas I2 r rz q2⟩) hpl he) hdb)⟩
/-- f(k = v, ..) -/
theorem pe_callKG0 (F : FnG X.prog X.w X.K X.mg X.base CX n g fd ps sp) (hG : X.A.guards = some []) (room : Room n X.A) (gx : Gl X x) (at' : X.mg x = some (.ref g)) (kp : PySem.W.keepIn X.K (.ref g) = true)
    (bi : KBinds X.K fd ps ks ff fV) (pas : Passes CX X E) (hkw : PK X kws tk) (hdb : (x == ("__debug__" : Str)) = false := by decide)
    (all' : (backToKw pos (keywordEach kws X.env)).all (·.1.isSome) = true := by rfl) (nms : (backToKw pos (keywordEach kws X.env)).filterMap (·.1) = ks := by rfl)
    (hpl : ((backTo pos (starEach [] X.env)).any (·.1) || (backToKw pos (keywordEach kws X.env)).any (·.1.isNone)) = false := by rfl) :
    PE X (.Call (.Name x p) [] kws pos) (tCallK sp fV E tNil tk) := by
  subst nms
  exact ⟨fun pins s σ H Q I z => wpAny_Call_Name_kw (ld_glob I gx at'
    (PySem.W.callWith_KW0 (h₀ := X.base) I.ok.mod.kin kp all' (thn (hkw.run pos pins s σ H _ I z) fun ws s2 ⟨zs, H2, I2, rz, q2⟩ => ⟨I2.kIn, goGK F hG room bi pas I2 .nil rz q2⟩) hpl) hdb)⟩
end

/-- a def of the text by its body, the guards known -/
theorem fnG_of {P : Program} {w : World} {K : PySem.W.Frag} {mg : Str → Option Value} {B : Heap} {CX : CXT} {n : Nat} {g : Addr} {nm qual : Str} {pars : Arguments} {bd : List Stmt} {sc : Scope} {dV kV doc pm cdv ct oc : Value} {an od : Option Addr}
    {osl : Array (Option Value)} {N ps : List Str} {sp : Sp} (lk : K.lookup g = some ⟨oc, od, .func (PySem.W.fnOf nm qual pars bd sc dV kV doc pm an cdv ct), osl⟩) (hcd : PySem.W.codeIn K cdv qual = true) (S : FnScope N ps sc)
    (cnt : ∀ vs H Q E, sp vs H Q E → vs.length = ps.length)
    (body : ∀ (A : Around) (ou : List Env) (t : Shared) (H : Hp) (vs : List V) (Q : VK) (E : XK), A.guards = some [] → Room n (A.deeper (envOfC qual sc t.heap.objs.size g cdv)) → sp vs H Q E →
      ∃ r, PSs (cxOf CX P w K mg B N qual sc g cdv A ou t H E) bd r ∧ r { nx := fun _ H' => Q .non H', rt := Q } (L2.start N vs) H) :
    FnG P w K mg B CX (n + 1) g (PySem.W.fnOf nm qual pars bd sc dV kV doc pm an cdv ct) ps sp where
  cnt := cnt
  go A ou t H ar us vs Q E hG room env bi rv z := by
    have kin := env.mod.kin.keeps fun b o e => (env.bs b o e).1
    have lim := env.mod.nolimit.keeps fun b o e => (env.bs b o e).1
    have kinds : ∀ y ∈ ps.zip us, sc.names.lookup y.1 = some .local ∨ (sc.names.lookup y.1 = some .cell ∧ ((cellsFrom (t.heap.objs.size + 1) sc.names []).lookup y.1).isSome = true) := fun y hy =>
      (S.par y.1 (List.of_mem_zip (a := y.1) (b := y.2) hy).1).imp id fun q => ⟨q, PySem.W.cellsFrom_some _ _ _ (.inl q)⟩
    refine codeAny_call_function room.depth (kin _ _ lk) rfl S.co S.gen rfl (PySem.W.codeRec_of kin hcd) (bi _ _ _ _ (wpAny_newFunctionEnv_cells S.kind kinds fun env' he t1 x => ?_))
    subst he
    obtain ⟨r, hr, hq⟩ := body A ou t H vs Q E hG (room.deeper _) z
    refine ⟨lim.keeps x.toInCall.keep, codeAny_func (wpAny_mono (hr.run [] t1 (L2.start N vs) H _ (inv_start S room.hd env (cnt _ _ _ _ z) rv x) hq) (fun fl t' y => ?_) fun e t' y => y)⟩
    match fl, y with
    | .ret u, ⟨v, σ', H', J, ru, q⟩ => exact ⟨v, H', J.os, J.bare, J.base, J.hok, ru, q⟩
    | .next, ⟨σ', H', J, q⟩ => exact ⟨V.non, H', J.os, J.bare, J.base, J.hok, rfl, q⟩
    | .brk, ⟨_, _, _, q⟩ => exact q.elim
    | .cont, ⟨_, _, _, q⟩ => exact q.elim

/-- the law's call at the claim's caller, over an abstract heap that tracks the script at most -/
theorem lawG0 {P : Program} {w : World} {K : PySem.W.Frag} {mg mb : Str → Option Value} {CX : CXT} {n : Nat} {fa a : Addr} {fd : FuncData} {x : Str} {sp : Sp} {t : Shared} {vs : List Value} {H : Hp}
    (kin : K.In t.heap) (hm : t.heap.Ns mainGlobals mg) (hb : t.heap.Ns builtinsNs mb) (hbb : ∀ y : Str, y ≠ "__name__" → mb y = bootBuiltins y) (lim : t.heap.NoLimit) (gens : t.gens = #[])
    (ha : t.heap.get? a = some { cls := .type "list", data := .seq vs.toArray }) (room : Room n callerA)
    (F : ∀ B : Heap, K.In B → B.Ns mainGlobals mg → FnG P w K mg B CX n fa fd [x] sp) (bi : ∀ (s : Shared) (u : Value), BindsTo s fd ⟨[u], []⟩ [(x, u)])
    (z : sp [.ref a] H (fun v _ => v = .bl true) fun _ _ _ => False) (noX : ∀ H e s', CX [] H t (fun _ _ _ => False) e s' → False)
    (only : Only H) (hok : HOk P w H t.heap) (hA : ∀ b, H b ≠ none → b = a) (hK : H a ≠ none → K.lookup a = none) :
    codeAny (model P w) callerA (.call (.ref fa) ⟨[.ref a], []⟩) (fun r s' => r = .ok (.ret (.bool true)) ∧ OldK t.heap s'.heap ∧ s'.os = t.os ∧ AllBare s'.gens) t := by
  have free : ∀ {b : Addr}, b ≠ a → H b = none := fun {b} hne => Classical.byContradiction fun q => hne (hA b q)
  have low : ∀ {b : Addr} {o : Obj}, t.heap.get? b = some o → H b = none → (hidT t.heap H).get? b = some o := fun e q => hidT_get e q
  have dict : ∀ {b : Addr} {o : Obj} {es : Array DictEntry} {ep : Nat}, t.heap.get? b = some o → o.data = .dict es ep → H b = none := fun {b o es ep} e d => free fun q => by
    subst q
    rw [ha] at e
    cases e
    exact nomatch (show Data.seq vs.toArray _ = Data.dict es ep from d)
  have ns : ∀ {b : Addr} {m : Str → Option Value}, t.heap.Ns b m → (hidT t.heap H).Ns b m := fun ⟨o, es, ep, e, d, r⟩ => ⟨o, es, ep, low e (dict e d), d, r⟩
  have kb : K.In (hidT t.heap H) := fun b o e => low (kin b o e) (by
    by_cases q : b = a
    · subst q
      exact Classical.byContradiction fun y => by rw [hK y] at e; cases e
    · exact free q)
  obtain ⟨mc, l1, l2⟩ := lim
  have env : Env0 P w K mg (hidT t.heap H) callerA [] t H :=
    { frames := rfl, mod := ⟨kb, ns hm, ⟨mb, ns hb, hbb⟩, ⟨mc, ns l1, l2⟩⟩, bs := fun b o e => of_hidT e, bsz := Nat.le_of_eq (hidT_size _ _), funs := trivial,
      frf := fun b q => absurd (show b ∈ ([] : List Addr) from q) (by simp), hok := hok, bare := .of_eq gens }
  refine codeAny_mono ((F _ kb (ns hm)).go callerA [] t H ⟨[.ref a], []⟩ [.ref a] [.ref a] _ _ rfl room env (bi t (.ref a)) (.cons rfl .nil) z) fun r s' y => ?_
  match r, y with
  | .error e, y => exact (noX H e s' y).elim
  | .ok (.ret u), ⟨v, H', os, bare, un, hok', ru, q⟩ =>
    cases (show v = .bl true from q)
    cases (show u = Value.bool true from ru)
    refine ⟨rfl, OldK.of_keep fun b o e => ?_, os, bare⟩
    match hq : H b with
    | none => exact un.keep b o e hq (by intro q; exact absurd (show b ∈ ([] : List Addr) from q) (by simp)) (by simp)
    | some u =>
      rcases only b with q | ⟨ob, xs, q⟩
      · rw [hq] at q; cases q
      · obtain ⟨e1, _⟩ := hok b _ q
        obtain ⟨e2, _⟩ := hok' b _ (un.frzs b ob _ q)
        rw [e] at e1; cases e1
        exact e2

theorem lawG {P : Program} {w : World} {K : PySem.W.Frag} {mg mb : Str → Option Value} {CX : CXT} {n : Nat} {fa a : Addr} {fd : FuncData} {x : Str} {sp : Sp} {t : Shared} {vs : List Value} {ns : List Int}
    (kin : K.In t.heap) (hm : t.heap.Ns mainGlobals mg) (hb : t.heap.Ns builtinsNs mb) (hbb : ∀ y : Str, y ≠ "__name__" → mb y = bootBuiltins y) (lim : t.heap.NoLimit) (gens : t.gens = #[])
    (ha : t.heap.get? a = some { cls := .type "list", data := .seq vs.toArray }) (hi : IntsAre vs ns) (hl : ns.length ≤ sizeLine) (room : Room n callerA)
    (F : ∀ B : Heap, K.In B → B.Ns mainGlobals mg → FnG P w K mg B CX n fa fd [x] sp) (bi : ∀ (s : Shared) (u : Value), BindsTo s fd ⟨[u], []⟩ [(x, u)])
    (z : ∀ H : Hp, Only H → SqL K H a (ns.map V.int) → sp [.ref a] H (fun v _ => v = .bl true) fun _ _ _ => False) (noX : ∀ H e s', CX [] H t (fun _ _ _ => False) e s' → False) :
    codeAny (model P w) callerA (.call (.ref fa) ⟨[.ref a], []⟩) (fun r s' => r = .ok (.ret (.bool true)) ∧ OldK t.heap s'.heap ∧ s'.os = t.os ∧ AllBare s'.gens) t := by
  have rv := vals_ints hi
  match hk : K.lookup a with
  | some o =>
    have e := kin a o hk
    rw [ha] at e
    cases e
    have on : Only fun _ => none := fun _ => .inl rfl
    exact lawG0 kin hm hb hbb lim gens ha room F bi (z _ on (.inr ⟨_, vs.toArray, _, hk, rfl, rfl, rfl, by rw [List.size_toArray, hi.length]; exact hl, by simpa using rv⟩)) noX on
      (fun b u q => nomatch (show (none : Option HO) = some u from q)) (fun b q => absurd rfl q) fun q => absurd rfl q
  | none =>
    have at0 : ∀ {b : Addr}, b ≠ a → (if b = a then some (HO.frz { cls := .type "list", data := .seq vs.toArray } (.lst (ns.map V.int))) else none) = none := fun q => if_neg q
    have on : Only fun b => if b = a then some (HO.frz { cls := .type "list", data := .seq vs.toArray } (.lst (ns.map V.int))) else none := fun b => by
      by_cases q : b = a
      · exact .inr ⟨_, _, if_pos q⟩
      · exact .inl (if_neg q)
    refine lawG0 kin hm hb hbb lim gens ha room F bi (z _ on (.inl (.inr ⟨_, if_pos rfl⟩))) noX on (fun b u q => ?_) (fun b q => Classical.byContradiction fun y => q (if_neg y)) fun _ => hk
    by_cases y : b = a
    · subst y
      cases (if_pos rfl).symm.trans q
      exact ⟨ha, by rw [List.length_map]; exact hl, vs, _, rv, ha⟩
    · cases (at0 y).symm.trans q

/-- the goal that the head leaves, from the law's promise -/
theorem walkG {l : PySem.W.OpenLaw} {m n : Nat} {q : Program} {loose : List Str} {XP : (Str → Option Value) → Heap → Prop} {YP : World → Heap → Prop} {d : DefRec} {K : Params → PySem.W.Frag} {CX : CXT} {sp : PySem.W.Frag → Sp} {x : Str}
    (hn : l.most = some m) (hm : m ≤ sizeLine) (hdf : d.params.defaults = []) (room : Room n callerA) (hY : ∀ (w : World) (h : Heap), YP w h → (K w.params).In h)
    (F : ∀ (w : World) (mg : Str → Option Value) (fa : Addr) (h : Heap), (K w.params).In h → h.Ns mainGlobals mg → mg d.name = some (.ref fa) →
      ∃ fd : FuncData, (∀ (s : Shared) (u : Value), BindsTo s fd ⟨[u], []⟩ [(x, u)]) ∧
        ∀ B : Heap, (K w.params).In B → B.Ns mainGlobals mg → FnG l.prog w (K w.params) mg B CX n fa fd [x] (sp (K w.params)))
    (z : ∀ (K : PySem.W.Frag) (H : Hp) (a : Addr) (ns : List Int), ns.length ≤ m → Only H → SqL K H a (ns.map V.int) → sp K [.ref a] H (fun v _ => v = .bl true) fun _ _ _ => False)
    (noX : ∀ (H : Hp) (s : Shared) (e : Value) (s' : Shared), CX [] H s (fun _ _ _ => False) e s' → False) : PySem.W.WalkO q loose XP YP l.row.toRowW d [] (fun f vs => PySem.call f vs) :=
  Att.attach_call hn hdf fun w s0 s1 mg mb fa o pm cd doc a vs ns G Y ho hd hcd hmg hobj hints hlen hg =>
    have ⟨fd, hb, hF⟩ := F w mg fa _ (hY w _ Y) G.T.g hmg
    lawG (hY w _ Y) G.T.g G.T.b G.T.builtins G.T.nolimit hg hobj hints (Nat.le_trans hlen hm) room hF hb (fun H hO hS => z (K w.params) H a ns hlen hO hS) fun H e s' => noX H s1 e s'
end Xk

set_option Elab.async false
set_option linter.all false
set_option maxRecDepth 100000
namespace Xk
open PySem PySem.Spec PyProof.Rows L2

/-- ** with a whole exponent: base's bits times exponent within 2^27 -/
def CPowW (i j : Int) : Prop := 0 ≤ j ∧ (Builtin.Int.intBits i : Int) * j ≤ 2 ^ 27
section
variable {X : Cx}
theorem op_powW : OpR X (binaryOp .Pow) (rI CPowW fun i j => .int (i ^ j.toNat)) := opI fun _ _ _ _ _ _ _ hc q => pow_int hc.1 hc.2 q
end
theorem bits_le {i : Int} {n : Nat} (h : i.natAbs < 2 ^ n) : Builtin.Int.intBits i ≤ n := by
  unfold Builtin.Int.intBits
  split
  · omega
  · rename_i h0
    have h0' : i.natAbs ≠ 0 := by
      intro z
      apply h0
      simp [Int.natAbs_eq_zero.mp z]
    have := (Nat.log2_lt h0').mpr h
    omega
theorem powW {i : Int} {n : Nat} {j : Int} (h : i.natAbs < 2 ^ n) (h0 : 0 ≤ j) (hj : j ≤ 3) (hn : n ≤ 40000000) : CPowW i j := by
  refine ⟨h0, ?_⟩
  have h1 := bits_le h
  have : (Builtin.Int.intBits i : Int) * j ≤ 40000000 * 3 := by
    refine Int.mul_le_mul ?_ hj h0 (by omega)
    omega
  refine Int.le_trans this (by decide)

/-! ### xs[i] read for op= -/
section
variable {X : Cx}
theorem get_list : PGet X (rIxL X.K) := by
  intro pins s σ H o i ov iv Q I ro ri h
  obtain ⟨p, xs, k, z, rfl, rfl, hq, he, q⟩ := h
  cases ro
  obtain ⟨t, rfl⟩ := ri
  obtain ⟨its, r, pl, hz⟩ := I.list hq
  obtain ⟨j, h1, h2, h3, h4, h5⟩ := atI_get he
  obtain ⟨u, eu, ru⟩ := r.get h2
  have hl := r.length
  have hn := line63
  by_cases h0 : 0 ≤ k
  · have hj : k.toNat = j := by
      rw [seqIndex_of h0 h5] at h1
      exact Option.some.inj h1
    exact wpAny_getItem_list pl.isList h0 (by omega) (by rw [hj]; simpa using eu) ⟨z, H, I, ru, q⟩
  · have hj : (k + (its.toArray.size : Int)).toNat = j := by
      rw [seqIndex_neg (by omega) h4] at h1
      rw [List.size_toArray, ← hl]
      exact Option.some.inj h1
    exact wpAny_getItem_list_neg pl.isList (by omega) (by rw [List.size_toArray] <;> omega) (by omega) (by rw [hj]; simpa using eu) ⟨z, H, I, ru, q⟩
end

/-! ### xs[a:c] = ys -/
section
variable {X : Cx} {o : Expr} {lo hi : Option Expr} {to : TE} {tl th : TO} {p2 pos : Pos}
def gSlc (to : TE) (tl th : TO) : TG := fun v σ H Q => to σ H fun x H1 => tl σ H1 fun l H2 => th σ H2 fun u H3 =>
  ∃ (p b : Addr) (xs ys : List V) (a c : Int), x = .ref p ∧ v = .ref b ∧ l = some a ∧ u = some c ∧ H3 p = some (.lst xs) ∧ H3 b = some (.lst ys) ∧ p ≠ b ∧ 0 ≤ a ∧ a ≤ c ∧ c ≤ xs.length ∧ xs.length + ys.length ≤ sizeLine ∧
    Q σ (upd H3 p (.lst (xs.take a.toNat ++ ys ++ xs.drop c.toNat)))
theorem pg_slc (ho : PE X o to) (hl : PO X lo tl) (hu : PO X hi th) : PG X (.Subscript o (.Slice lo hi none p2) pos) (gSlc to tl th) := by
  refine ⟨fun pins s σ H v u Q I r z => ?_⟩
  rw [arm_assign_Subscript]
  refine wpAny_bind (wpAny_holding (thn (ho.run pins s σ H _ I z) fun ov s1 ⟨x, H1, I1, r1, q1⟩ => ?_))
  refine wpAny_bind (wpAny_holding (wpAny_Slice (thn (hl.run pins s1 σ H1 _ I1 q1) fun vl s2 ⟨l, H2, I2, pl, q2⟩ => thn (hu.run pins s2 σ H2 _ I2 q2) fun vu s3 ⟨c', H3, I3, pu, q3⟩ => ?_)))
  rw [evalPart_none]
  refine wpAny_pure ?_
  obtain ⟨p, b, xs, ys, a, c, rfl, rfl, rfl, rfl, hp, hb, hne, h0, hac, hc, hz, q⟩ := q3
  cases r1
  cases r
  cases pl with
  | int _ ta =>
    cases pu with
    | int _ tc =>
      have I4 : Inv X pins σ H3 { s3 with heap := s3.heap.push { cls := .type "slice", data := .fields #[.int a ta, .int c tc, .none] } } := I3.kept (t' := s3.toks) fun b ob q => Heap.get?_push_of_some _ q
      refine wpAny_bind (wpAny_standAt (wpAny_bind (wpAny_holding (set_slice I4 hp hb hne (Heap.IsSliceOf.new ..) ⟨ta, rfl⟩ ⟨tc, rfl⟩ h0 hac hc hz fun s' I5 => ?_))))
      exact wpAny_release ⟨σ, _, I5, q⟩
end

/-! ### repr of lists -/
section
variable {X : Cx}
mutual
theorem dp_nodict {K : PySem.W.Frag} {H : Hp} : ∀ (d : PyData) (v : V), Dp K H v d → d.hasDict = false
  | .none, _, _ => rfl
  | .bool _, _, _ => rfl
  | .int _, _, _ => rfl
  | .str _, _, _ => rfl
  | .list ds, _, h => by
    cases h with
    | lst _ a => exact dp_nodictAll ds _ a
  | .tuple ds, _, h => by
    cases h with
    | tup _ a => exact dp_nodictAll ds _ a
  | .dict _, _, h => by cases h
theorem dp_nodictAll {K : PySem.W.Frag} {H : Hp} : ∀ (ds : List PyData) (vs : List V), DpAll K H vs ds → PyData.hasDictAll ds = false
  | [], _, _ => rfl
  | d :: ds, _, h => by
    cases h with
    | cons a b =>
      show (d.hasDict || PyData.hasDictAll ds) = false
      rw [dp_nodict d _ a, dp_nodictAll ds _ b]
      rfl
end
def rReprD (K : PySem.W.Frag) : List V → Hp → VK → Prop := fun xs H Q => ∃ a d, xs = [.ref a] ∧ Dp K H (.ref a) d ∧ d.showable = true ∧ d.depth ≤ 60 ∧ d.shown.length ≤ sizeLine ∧ Q (.str d.shown) H
theorem call_reprD (hG : X.A.guards = some []) (hu : X.A.units + 64 < cLine) : CallR X (.builtin "repr") (rReprD X.K) := by
  intro pins s σ H xs us Q I r h
  obtain ⟨a, d, rfl, hd, hs, hdp, hz, q⟩ := h
  obtain ⟨u, rfl, rfl⟩ := vals1 r
  obtain ⟨as, rd⟩ := Dp.reads I d _ _ hd rfl
  exact repr_of_reads' rd hs (fun z => by rw [dp_nodict d _ hd] at z; cases z) hG (by omega) (fun b o e => e) (fun h' u tk k => ⟨.str d.shown, H, I.kept k, ⟨u, rfl⟩, q⟩) hz
end
end Xk

set_option Elab.async false
set_option linter.all false
set_option maxRecDepth 100000
namespace Xk
open PySem PySem.Spec PyProof.Rows L2
/-! ### list(range(a, b, c)) -/
def rg3V (i c : Int) (n : Nat) : List V := (List.range n).map fun k => V.int (i + (k : Nat) * c)
theorem rg3V_length (i c : Int) (n : Nat) : (rg3V i c n).length = n := by unfold rg3V; simp
theorem vals_rg3 {i c : Int} {n : Nat} {acc : Array Value} (h : ItemsOf (fun k v => ∃ t, v = .int (i + k * c) t) acc n) : Vals (rg3V i c n) acc.toList := by
  have e : acc.toList.length = n := by rw [Array.length_toList]; exact h.1
  unfold rg3V
  rw [← e]
  refine vals_of_get _ (fun k => V.int (i + (k : Nat) * c)) fun j u hu => ?_
  exact h.2 j u (by simpa using hu)
def tLst3 (ta : TA) : TE := fun σ H Q => ta σ H fun vs H1 => ∃ (i j c : Int) (n : Nat), vs = [.int i, .int j, .int c] ∧ RgC i j c n ∧ n ≤ 2 ^ 24 ∧ ∀ q, H1 q = none → Q (.ref q) (upd H1 q (.lst (rg3V i c n)))
section
variable {X : Cx} {a b c : Expr} {ta : TA} {p pos p1 pos1 : Pos}
theorem pe_listRg3 (calm : X.calm = true) (hl : Gl X "list") (ml : X.mg "list" = none) (hg : Gl X "range") (hm : X.mg "range" = none) (ha : PA X [a, b, c] ta)
    (hs : starEach [a, b, c] X.env = (false, eval a X.env) :: starEach [b, c] X.env := by rfl) (hpl : (backTo pos (starEach [b, c] X.env)).any (·.1) = false := by rfl)
    (na : starEach [Expr.Call (.Name "range" p) [a, b, c] [] pos] X.env = (false, eval (Expr.Call (.Name "range" p) [a, b, c] [] pos) X.env) :: starEach [] X.env := by rfl) :
    PE X (.Call (.Name "list" p1) [.Call (.Name "range" p) [a, b, c] [] pos] [] pos1) (tLst3 ta) := by
  refine ⟨fun pins s σ H Q I z => ?_⟩
  refine Call_ (ld_blt I hl ml boot_list (PyProof.Rows.callWith_type1 (args_cons (Call_ (ld_blt I hg hm boot_range (PyProof.Rows.callWith_type1 (thn (ha.run pos pins s σ H _ I z) fun us s1 ⟨vs, H1, I1, r1, q1⟩ => ?_) hs hpl))) na) na))
  obtain ⟨i, j, k, n, e, ⟨c0, c1, c2, c3⟩, hn, q⟩ := q1
  subst e
  cases r1 with
  | cons r rr =>
    cases rr with
    | cons r' rr =>
      cases rr with
      | cons r'' rr =>
        cases rr
        obtain ⟨t, rfl⟩ := r
        obtain ⟨t', rfl⟩ := r'
        obtain ⟨t'', rfl⟩ := r''
        refine call_range_3 c0 (args_nil ?_) (.inl (PyProof.noPylong_small c1))
        have I2 : Inv X pins σ H1 { s1 with heap := s1.heap.push { cls := .type "range", data := .fields #[.int i t, .int j t', .int k t''] }, toks := s1.toks } := I1.kept fun b o e => Heap.get?_push_of_some _ e
        refine call_list_range (n := n) (I2.ok.hd calm) (IsRange.new ..) c2 c3 hn fun h' tk acc c' hk e' hi => ?_
        refine ⟨.ref _, upd H1 _ (.lst (rg3V i k n)), I2.laid hk (Nat.le_refl _) (show ObjOk X.prog X.w _ _ _ (.lst (rg3V i k n)) from ⟨?_, acc.toList, c', vals_rg3 hi, ?_⟩), rfl, q _ (I2.hok.fresh (Nat.le_refl _))⟩
        · rw [rg3V_length]; exact hn
        · rw [Array.toArray_toList]; exact e'
end
end Xk

set_option Elab.async false
set_option linter.all false
set_option maxRecDepth 100000
namespace Xk
open PySem PySem.Spec PyProof.Rows L2

section
variable {P : Program} {w : World} {K : PySem.W.Frag} {mg : Str → Option Value} {base : Heap}
/-- a def by its body, the guards known, nothing raised -/
theorem okG {x qual : Str} {st : Stmt} {f : Addr} {fd : FuncData} {N ps : List Str} {k : Nat} {sp : Sp} (F : Fun K x qual st f fd) (S : FnScope N ps (defScope st)) (cnt : ∀ vs H Q E, sp vs H Q E → vs.length = ps.length)
    (body : ∀ (cdv : Value) (A : Around) (ou : List Env) (t : Shared) (H : Hp) (vs : List V) (Q : VK) (E : XK), A.guards = some [] → Room k (A.deeper (envOfC qual (defScope st) t.heap.objs.size f cdv)) → sp vs H Q E →
      ∃ r, PSs (cxOf CX0 P w K mg base N qual (defScope st) f cdv A ou t H E).nox (defBody st) r ∧ r ⟨fun _ H' => Q .non H', Q, fun _ _ => False, fun _ _ => False⟩ (L2.start N vs) H) : FnG P w K mg base CX0 (k + 1) f fd ps sp := by
  obtain ⟨oc, od, kV, doc, pm, an, cdv, ct, osl, rfl, lk, hcd⟩ := F.ex
  refine fnG_of lk hcd S cnt fun A ou t H vs Q E hG hr hsp => ?_
  obtain ⟨r, h, q⟩ := body cdv A ou t H vs Q E hG hr hsp
  exact ⟨r, h.nox, q⟩
end

/-! ### words -/
section
variable {X : Cx} {x : Str} {pos pos' : Pos} {e : Expr} {te : TE} {op : Operator} {ti : TIp}
theorem sset (i : Nat) (nd : X.N.Nodup) (he : PE X e te) (hi : X.N[i]? = some x := by rfl) (hx : Loc X.env.scope x := by first | exact Or.inl rfl | exact Or.inr rfl)
    (hs : swapsWith e (some (.Name x pos')) pos.line X.env = pure false := by rfl) (hf : X.fn x = true ∨ X.env.scope.names.lookup x = some .local := by first | exact Or.inl rfl | exact Or.inr rfl) : PS X (.Assign [.Name x pos'] e pos) (tAsg te (gName i)) := ps_set nd hi hx he hs hf
theorem gset (i : Nat) (nd : X.N.Nodup) (hi : X.N[i]? = some x := by rfl) (hx : Loc X.env.scope x := by first | exact Or.inl rfl | exact Or.inr rfl) (hf : X.fn x = true ∨ X.env.scope.names.lookup x = some .local := by first | exact Or.inl rfl | exact Or.inr rfl) : PG X (.Name x pos) (gName i) := pg_name nd hi hx hf
theorem saug (i : Nat) (nd : X.N.Nodup) (he : PE X e te) (ho : PIp X op ti) (hi : X.N[i]? = some x := by rfl) (hx : Loc X.env.scope x := by first | exact Or.inl rfl | exact Or.inr rfl) (hf : X.fn x = true ∨ X.env.scope.names.lookup x = some .local := by first | exact Or.inl rfl | exact Or.inr rfl) : PS X (.AugAssign (.Name x pos') op e pos) (tAug i te ti) := ps_aug nd hi hx he ho hf
end
/-! ### the rules that speak of the written part, the part given -/
section
variable {X : Cx} (K : PySem.W.Frag) {e a b l o : Expr} {es ts : List Expr} {te ta tb tl to : TE} {t : TA} {g : TGs} {pos cpos apos p p1 p2 p3 tpos : Pos} {tg : Expr} {T id : String} {name : Str}
theorem ix_listK (hK : X.K = K := by rfl) : IxR X (rIxL K) := hK ▸ ix_list
theorem ix_tupK (hK : X.K = K := by rfl) : IxR X (rIxT K) := hK ▸ ix_tup
theorem sl_listK (hK : X.K = K := by rfl) : SlR X (rSlL K) := hK ▸ sl_list
theorem sl_tupK (hK : X.K = K := by rfl) : SlR X (rSlT K) := hK ▸ sl_tup
def rLen (K : PySem.W.Frag) : List V → Hp → VK → Prop := fun xs H Q => ∃ p ys, xs = [.ref p] ∧ (SqL K H p ys ∨ SqT K H p ys) ∧ Q (.int ys.length) H
theorem lenK (hK : X.K = K := by rfl) : CallR X (.builtin "len") (rLen K) := hK ▸ call_len_seq
def rListOf (K : PySem.W.Frag) : List V → Hp → VK → Prop := fun xs H Q => ∃ p ys, xs = [.ref p] ∧ (SqL K H p ys ∨ SqT K H p ys) ∧ ∀ l, H l = none → Q (.ref l) (upd H l (.lst ys))
theorem listK (hK : X.K = K := by rfl) : CallR X (.type "list") (rListOf K) := hK ▸ call_list_of
def rTupOf (K : PySem.W.Frag) : List V → Hp → VK → Prop := fun xs H Q => ∃ p ys, xs = [.ref p] ∧ ((SqL K H p ys ∧ ∀ l, H l = none → Q (.ref l) (upd H l (.tup ys))) ∨ (SqT K H p ys ∧ Q (.ref p) H))
theorem tupleK (hK : X.K = K := by rfl) : CallR X (.type "tuple") (rTupOf K) := hK ▸ call_tuple_of
theorem sumK (hc : X.calm = true) (hK : X.K = K := by rfl) : CallR X (.builtin "sum") (rSum K) := hK ▸ cr_sum hc
theorem minK (hc : X.calm = true) (hK : X.K = K := by rfl) : CallR X (.builtin "min") (rMin K) := hK ▸ cr_min hc
theorem maxK (hc : X.calm = true) (hK : X.K = K := by rfl) : CallR X (.builtin "max") (rMax K) := hK ▸ cr_max hc
theorem allK (hc : X.calm = true) (hK : X.K = K := by rfl) : CallR X (.builtin "all") (rAll K) := hK ▸ cr_all hc
theorem anyK (hc : X.calm = true) (hK : X.K = K := by rfl) : CallR X (.builtin "any") (rAny K) := hK ▸ cr_any hc
theorem sortedK (hK : X.K = K := by rfl) : CallR X (.builtin "sorted") (rSortedI K) := hK ▸ cr_sortedI
theorem sortedRK (hK : X.K = K := by rfl) : CallRK X (.builtin "sorted") [Str.ofString "reverse"] (rSortedKw K true [.bl true]) := hK ▸ cr_sortedRev
theorem reprK (hG : X.A.guards = some []) (hu : X.A.units + 64 < cLine) (hK : X.K = K := by rfl) : CallR X (.builtin "repr") (rReprD K) := hK ▸ call_reprD hG hu
theorem eqDK (hu : X.A.units + 64 < cLine) (hK : X.K = K := by rfl) : OpR X (compareOp .Eq) (rEqD K) := hK ▸ op_eqD hu
theorem neDK (hu : X.A.units + 64 < cLine) (hK : X.K = K := by rfl) : OpR X (compareOp .NotEq) (rNeD K) := hK ▸ op_neD hu
theorem inK (hK : X.K = K := by rfl) : OpR X (compareOp .In) (rIn K false) := hK ▸ op_in_seq
theorem notInK (hK : X.K = K := by rfl) : OpR X (compareOp .NotIn) (rIn K true) := hK ▸ op_notIn_seq
theorem lcountK (hK : X.K = K := by rfl) : MtR X "list.count" (rCntI K) := hK ▸ mt_lcount
theorem lindexK (hK : X.K = K := by rfl) : MtR X "list.index" (rIndex K) := hK ▸ mt_index
theorem getK (hK : X.K = K := by rfl) : PGet X (rIxL K) := hK ▸ get_list
theorem pi_listK (h : PE X l tl) (hK : X.K = K := by rfl) : PI X tg l (iList K tl) := hK ▸ pi_list h
theorem pi_tupK (h : PE X l tl) (hK : X.K = K := by rfl) : PI X tg l (iTup K tl) := hK ▸ pi_tup h
theorem pi_enumK {elts : List Expr} {kk : Nat} (hg : Gl X "enumerate") (hm : X.mg "enumerate" = none) (ha : PA X [e] t) (hs : starEach [e] X.env = [(false, eval e X.env)] := by rfl) (hK : X.K = K := by rfl) :
    PI X (.Tuple elts kk tpos) (.Call (.Name "enumerate" p) [e] [] pos) (iEnum K t) := hK ▸ pi_enum hg hm ha hs
theorem pi_reversedK (hg : Gl X "reversed") (hm : X.mg "reversed" = none) (ha : PA X [e] t) (hs : starEach [e] X.env = [(false, eval e X.env)] := by rfl) (hK : X.K = K := by rfl) : PI X tg (.Call (.Name "reversed" p) [e] [] pos) (iRev K t) := hK ▸ pi_reversed hg hm ha hs
theorem pe_revLK {k : Nat} (he : PE X e te) (hK : X.K = K := by rfl) : PE X (.Subscript e (.Slice none none (some (.UnaryOp .USub (.Constant (.int 1) k p1) p2)) p3) pos) (tRevL K te) := hK ▸ pe_revL he
theorem pg_tupK {k : Nat} (n : Nat) (hc : X.calm = true) (h : PGs X es g) (hn : (assignEach es X.env).length = n := by rfl) (hst : (assignEach es X.env).findIdx? (·.1) = none := by rfl) (hK : X.K = K := by rfl) : PG X (.Tuple es k pos) (gTup K n g) := hK ▸ pg_tup hc h hn hst
theorem pi_zipK {e2 : Expr} {elts : List Expr} {kk : Nat} (hg : Gl X "zip") (hm : X.mg "zip" = none) (ha : PA X [e, e2] t)
    (hs : starEach [e, e2] X.env = (false, eval e X.env) :: starEach [e2] X.env := by rfl) (hpl : (backTo pos (starEach [e2] X.env)).any (·.1) = false := by rfl) (hK : X.K = K := by rfl) :
    PI X (.Tuple elts kk tpos) (.Call (.Name "zip" p) [e, e2] [] pos) (iZip K t) := hK ▸ pi_zip hg hm ha hs hpl
theorem pe_bmK {r : V → List V → Hp → VK → Prop} (pa : PlainAttrs T) (slot : Slot T name id) (hty : typeOf (.builtin id) = pure (.type "method_descriptor")) (hm : MtR X id r) (ho : PE X o to) (ha : PA X (e :: es) t)
    (hbase : attributeBase o name X.env (eval o X.env) = eval o X.env := by rfl)
    (hfew : ((backTo cpos (starEach (e :: es) X.env)).all (fun x => !x.1) && (backToKw cpos (keywordEach [] X.env)).all (fun x => x.1.isSome) && decide ((e :: es).length + ([] : List Keyword).length + (if ([] : List Keyword).isEmpty then 0 else 1) < 30)) = true := by rfl)
    (hline : (apos.endLine == cpos.line) = true := by rfl) (hs : starEach (e :: es) X.env = (false, eval e X.env) :: starEach es X.env := by rfl) (hplain : (backTo cpos (starEach es X.env)).any (·.1) = false := by rfl) (hK : X.K = K := by rfl) :
    PE X (.Call (.Attribute o name apos) (e :: es) [] cpos) (tBM K T r to t) := hK ▸ pe_bm pa slot hty hm ho ha hbase hfew hline hs hplain
theorem pe_bm0K {r : V → List V → Hp → VK → Prop} (pa : PlainAttrs T) (slot : Slot T name id) (hty : typeOf (.builtin id) = pure (.type "method_descriptor")) (hm : MtR X id r) (ho : PE X o to)
    (hbase : attributeBase o name X.env (eval o X.env) = eval o X.env := by rfl) (hline : (apos.endLine == cpos.line) = true := by rfl) (hK : X.K = K := by rfl) : PE X (.Call (.Attribute o name apos) [] [] cpos) (tBM0 K T r to) := hK ▸ pe_bm0 pa slot hty hm ho hbase hline
def tTruth (K : PySem.W.Frag) (ta : TE) : TT := fun σ H Q => ta σ H fun x H' => ∃ k, TruV K x H' k ∧ Q k H'
theorem pt_truthK (ha : PE X a ta) (he : ∀ whole, isTrue a X.env whole = (do let v ← whole; standAt a.pos; holding [v] (truthy v)) := by intro _; rfl) (hK : X.K = K := by rfl) : PT X a (tTruth K ta) := hK ▸ pt_truth ha he
end
end Xk

set_option Elab.async false
set_option linter.all false
set_option maxRecDepth 100000
namespace Xk
open PySem PySem.Spec PyProof.Rows L2

section
variable {K : PySem.W.Frag} {σ : L2.St} {H : Hp} {Q : VK} {R : List V → Hp → Prop} {ta tb te tc tv : TE} {tA : TA} {t u : TT} {v x y : V} {i j : Int} {Qb : Bool → Hp → Prop}
  {nx bk ct : L2.St → Hp → Prop} {rt : VK} {s1 s2 : TS} {g g1 : TG} {gs : TGs}
/-! ### expressions -/
theorem r_var {n : Nat} (h : σ[n]? = some (some v)) (q : Q v H) : tVar n σ H Q := ⟨v, h, q⟩
theorem r_c (q : Q v H) : tC v σ H Q := q
theorem r_op {r : R2} (h : ta σ H fun x H1 => tb σ H1 fun y H2 => r x y H2 Q) : tOp r ta tb σ H Q := h
theorem r_un {r : V → Hp → VK → Prop} (h : ta σ H fun x H1 => r x H1 Q) : tUn r ta σ H Q := h
theorem r_I0 {f : Int → Int → V} (q : Q (f i j) H) : rI0 f (.int i) (.int j) H Q := ⟨i, j, rfl, rfl, q⟩
theorem r_I {C : Int → Int → Prop} {f : Int → Int → V} (hc : C i j) (q : Q (f i j) H) : rI C f (.int i) (.int j) H Q := ⟨i, j, rfl, rfl, hc, q⟩
theorem r_U {f : Int → V} (q : Q (f i) H) : rU f (.int i) H Q := ⟨i, rfl, q⟩
theorem r_ixL {p : Addr} {xs : List V} (h : SqL K H p xs) (ha : atI xs i = some v) (q : Q v H) : rIxL K (.ref p) (.int i) H Q := ⟨p, xs, i, v, rfl, rfl, h, ha, q⟩
theorem r_ixT {p : Addr} {xs : List V} (h : SqT K H p xs) (ha : atI xs i = some v) (q : Q v H) : rIxT K (.ref p) (.int i) H Q := ⟨p, xs, i, v, rfl, rfl, h, ha, q⟩
theorem r_nil (q : R [] H) : tNil σ H R := q
theorem r_cons (h : ta σ H fun x H1 => tA σ H1 fun xs H2 => R (x :: xs) H2) : tCons ta tA σ H R := h
theorem r_lst (h : tA σ H fun xs H1 => xs.length ≤ sizeLine ∧ ∀ p, H1 p = none → Q (.ref p) (upd H1 p (.lst xs))) : tLst tA σ H Q := h
theorem r_tup (h : tA σ H fun xs H1 => xs.length ≤ sizeLine ∧ ∀ p, H1 p = none → Q (.ref p) (upd H1 p (.tup xs))) : tTup tA σ H Q := h
theorem r_call {sp : Sp} {dvs : List V} {E : XK} (h : tA σ H fun vs H1 => sp (vs ++ dvs) H1 Q E) : tCall sp dvs E tA σ H Q := h
theorem r_callK {sp : Sp} {gV : List V → List V → List V} {E : XK} {tk : TA} (h : tA σ H fun vs H1 => tk σ H1 fun zs H2 => sp (gV vs zs) H2 Q E) : tCallK sp gV E tA tk σ H Q := h
theorem r_cb {r : List V → Hp → VK → Prop} (h : tA σ H fun vs H1 => r vs H1 Q) : tCB r tA σ H Q := h
theorem r_ckw {r : List V → List V → Hp → VK → Prop} {tk : TA} (h : tA σ H fun vs H1 => tk σ H1 fun zs H2 => r vs zs H2 Q) : tCKw r tA tk σ H Q := h
theorem r_sl {r : V → Option Int → Option Int → Hp → VK → Prop} {tl th : TO} (h : te σ H fun x H1 => tl σ H1 fun l H2 => th σ H2 fun u H3 => r x l u H3 Q) : tSl r te tl th σ H Q := h
theorem r_part {Qo : Option Int → Hp → Prop} (h : te σ H fun x H1 => ∃ i, x = .int i ∧ Qo (some i) H1) : tPart te σ H Qo := h
theorem r_nopart {Qo : Option Int → Hp → Prop} (h : Qo none H) : tNoPart σ H Qo := h
theorem r_exi {Qo : Int → Prop} (h : Qo i) : ∃ j, V.int i = .int j ∧ Qo j := ⟨i, rfl, h⟩
theorem r_exb {b : Bool} {Qo : Bool → Prop} (h : Qo b) : ∃ j, V.bl b = .bl j ∧ Qo j := ⟨b, rfl, h⟩
theorem r_slL {p : Addr} {xs : List V} {lo hi : Option Int} (h : SqL K H p xs) (q : ∀ n, H n = none → Q (.ref n) (upd H n (.lst (cutV xs lo hi)))) : rSlL K (.ref p) lo hi H Q := ⟨p, xs, rfl, h, q⟩
theorem r_bm {T : String} {r : V → List V → Hp → VK → Prop} (h : te σ H fun x H1 => tyV K T x H1 ∧ tA σ H1 fun xs H2 => r x xs H2 Q) : tBM K T r te tA σ H Q := h
theorem r_bm0 {T : String} {r : V → List V → Hp → VK → Prop} (h : te σ H fun x H1 => tyV K T x H1 ∧ r x [] H1 Q) : tBM0 K T r te σ H Q := h
theorem ty_list {p : Addr} {xs : List V} (h : SqL K H p xs) : tyV K "list" (.ref p) H := .inl ⟨rfl, xs, h⟩
theorem r_append {p : Addr} {xs : List V} {y : V} (h : H p = some (.lst xs)) (hz : xs.length < sizeLine) (q : Q .non (upd H p (.lst (xs ++ [y])))) : rAppend (.ref p) [y] H Q := ⟨p, xs, y, rfl, rfl, h, hz, q⟩
theorem r_if {tif : TT} (h : tif σ H fun c H1 => if c = true then ta σ H1 Q else tb σ H1 Q) : tIf tif ta tb σ H Q := h
theorem r_andV (h : ta σ H fun x H1 => ∃ c, x = .bl c ∧ if c = true then tb σ H1 Q else Q (.bl false) H1) : tAndV ta tb σ H Q := h
theorem r_orV (h : ta σ H fun x H1 => ∃ c, x = .bl c ∧ if c = true then Q (.bl true) H1 else tb σ H1 Q) : tOrV ta tb σ H Q := h
theorem r_notV (h : ta σ H fun x H1 => ∃ c, x = .bl c ∧ Q (.bl (!c)) H1) : tNotV ta σ H Q := h
theorem r_eqI (q : Q (.bl (decide (i = j))) H) : rEq (.int i) (.int j) H Q := by
  refine ⟨rfl, ?_⟩
  have : decide (V.int i = V.int j) = decide (i = j) := by simp
  rw [this]
  exact q
theorem r_neI (q : Q (.bl (!decide (i = j))) H) : rNe (.int i) (.int j) H Q := by
  refine ⟨rfl, ?_⟩
  have : decide (V.int i = V.int j) = decide (i = j) := by simp
  rw [this]
  exact q
theorem r_eqS {a b : Str} (q : Q (.bl (decide (a = b))) H) : rEq (.str a) (.str b) H Q := by
  refine ⟨rfl, ?_⟩
  have : decide (V.str a = V.str b) = decide (a = b) := by simp
  rw [this]
  exact q
theorem r_neS {a b : Str} (q : Q (.bl (!decide (a = b))) H) : rNe (.str a) (.str b) H Q := by
  refine ⟨rfl, ?_⟩
  have : decide (V.str a = V.str b) = decide (a = b) := by simp
  rw [this]
  exact q
theorem r_len {p : Addr} {xs : List V} (h : SqL K H p xs) (q : Q (.int xs.length) H) : Xk.rLen K [.ref p] H Q := ⟨p, xs, rfl, .inl h, q⟩
theorem r_listOf {p : Addr} {xs : List V} (h : SqL K H p xs) (q : ∀ l, H l = none → Q (.ref l) (upd H l (.lst xs))) : rListOf K [.ref p] H Q := ⟨p, xs, rfl, .inl h, q⟩
theorem r_sum {p : Addr} {ns : List Int} (h : SqL K H p (ns.map V.int)) (q : Q (.int ns.sum) H) : rSum K [.ref p] H Q := ⟨p, ns, rfl, h, q⟩
theorem r_notT {A B : Prop} (h : B) : if (!true) = true then A else B := by simpa using h
theorem r_notF {A B : Prop} (h : A) : if (!false) = true then A else B := by simpa using h
/-! ### tests -/
theorem r_test (h : te σ H fun x H' => ∃ k, x = .bl k ∧ Qb k H') : tTest te σ H Qb := h
theorem r_tB (h : te σ H fun x H' => ∃ k, x = .bl k ∧ Qb k H') : tB te σ H Qb := h
theorem r_tand (h : t σ H fun c H1 => if c = true then u σ H1 Qb else Qb false H1) : tAnd t u σ H Qb := h
theorem r_tor (h : t σ H fun c H1 => if c = true then Qb true H1 else u σ H1 Qb) : tOr t u σ H Qb := h
theorem r_tnot (h : t σ H fun c H1 => Qb (!c) H1) : tNot t σ H Qb := h
theorem r_yes (h : Qb true H) : tYes σ H Qb := h
theorem r_dec {p : Prop} [Decidable p] {A B : Prop} (h1 : p → A) (h2 : ¬p → B) : if decide p = true then A else B := by
  by_cases h : p
  · rw [decide_eq_true h]; exact h1 h
  · rw [decide_eq_false h]; exact h2 h
theorem r_ndec {p : Prop} [Decidable p] {A B : Prop} (h1 : ¬p → A) (h2 : p → B) : if (!decide p) = true then A else B := by
  by_cases h : p
  · rw [decide_eq_true h]; exact h2 h
  · rw [decide_eq_false h]; exact h1 h
theorem r_itT {A B : Prop} (h : A) : if true = true then A else B := by rw [if_pos rfl]; exact h
theorem r_itF {A B : Prop} (h : B) : if false = true then A else B := by rw [if_neg Bool.false_ne_true]; exact h
/-! ### statements -/
theorem r_seq (h : s1 ⟨s2 ⟨nx, rt, bk, ct⟩, rt, bk, ct⟩ σ H) : tSeq s1 s2 ⟨nx, rt, bk, ct⟩ σ H := h
theorem r_cut {u : TS} (Mid : L2.St → Hp → Prop) (h : s1 ⟨Mid, rt, bk, ct⟩ σ H) (g : ∀ σ' H', Mid σ' H' → u ⟨nx, rt, bk, ct⟩ σ' H') : C8.tCut s1 u ⟨nx, rt, bk, ct⟩ σ H := ⟨Mid, h, g⟩
theorem r_next (h : nx σ H) : tNext ⟨nx, rt, bk, ct⟩ σ H := h
theorem r_asg (h : te σ H fun x H1 => g x σ H1 nx) : tAsg te g ⟨nx, rt, bk, ct⟩ σ H := h
theorem r_ret (h : te σ H rt) : tRet te ⟨nx, rt, bk, ct⟩ σ H := h
theorem r_drop (h : te σ H fun _ H1 => nx σ H1) : tDrop te ⟨nx, rt, bk, ct⟩ σ H := h
theorem r_ifS (h : t σ H fun b H1 => if b = true then s1 ⟨nx, rt, bk, ct⟩ σ H1 else s2 ⟨nx, rt, bk, ct⟩ σ H1) : tIfS t s1 s2 ⟨nx, rt, bk, ct⟩ σ H := h
theorem r_par {a b : Nat} (h : tA σ H fun vs H1 => ∃ v w, vs = [v, w] ∧ nx ((σ.set a (some v)).set b (some w)) H1) : tPar a b tA ⟨nx, rt, bk, ct⟩ σ H := h
theorem r_ex2 {f : V → V → Prop} (h : f x y) : ∃ v w, [x, y] = [v, w] ∧ f v w := ⟨x, y, rfl, h⟩
theorem r_brk (h : bk σ H) : tBreak ⟨nx, rt, bk, ct⟩ σ H := h
theorem r_cont (h : ct σ H) : tCont ⟨nx, rt, bk, ct⟩ σ H := h
theorem r_aug {n : Nat} {ti : TIp} (h : σ[n]? = some (some x)) (q : te σ H fun y H1 => ti x y H1 fun z H2 => nx (σ.set n (some z)) H2) : tAug n te ti ⟨nx, rt, bk, ct⟩ σ H := ⟨x, h, q⟩
theorem r_ipI {f : Int → Int → Int} (q : Q (.int (f i j)) H) : ipI f (.int i) (.int j) H Q := ⟨i, j, rfl, rfl, q⟩
theorem r_for {wi : TI} (h : wi σ H fun J H1 => ∃ W : Nat → Nat → L2.St → Hp → Prop, (∃ m, W 0 m σ H1) ∧ ∀ i m σ H, W i m σ H → (J.stop i H ∧ nx σ H) ∨ (J.go i H ∧ ∃ N : L2.St → Hp → Prop, (∀ σ' H', N σ' H' → ∃ m', m' < m ∧ W (i + 1) m' σ' H') ∧
    ∀ x H', J.yld i H x H' → g x σ H' fun σ2 H2 => s1 ⟨N, rt, nx, N⟩ σ2 H2)) : tFor wi g s1 ⟨nx, rt, bk, ct⟩ σ H := h
theorem r_augS {tget : V → V → Hp → VK → Prop} {ti : TIp} {ts : TSet} (h : ta σ H fun o H1 => tb σ H1 fun i H2 => tget o i H2 fun x H3 => te σ H3 fun y H4 => ti x y H4 fun z H5 => ts o i z H5 fun H6 => nx σ H6) : tAugS ta tb te tget ti ts ⟨nx, rt, bk, ct⟩ σ H := h
/-! ### targets -/
variable {Qs : L2.St → Hp → Prop}
theorem r_name {n : Nat} (q : Qs (σ.set n (some v)) H) : gName n v σ H Qs := q
theorem r_gtup {n : Nat} {p : Addr} {xs : List V} (h : SqT K H p xs) (hl : xs.length = n) (q : gs xs σ H Qs) : gTup K n gs (.ref p) σ H Qs := ⟨p, xs, rfl, h, hl, q⟩
theorem r_gcons {vs : List V} (q : g v σ H fun σ' H' => gs vs σ' H' Qs) : gCons g gs (v :: vs) σ H Qs := ⟨v, vs, rfl, q⟩
theorem r_gnil (q : Qs σ H) : gNil [] σ H Qs := ⟨rfl, q⟩
theorem r_gsub {ts : TSet} (h : te σ H fun o H1 => tv σ H1 fun i H2 => ts o i v H2 fun H3 => Qs σ H3) : gSub te tv ts v σ H Qs := h
theorem r_gslc {tl th : TO} (h : te σ H fun x H1 => tl σ H1 fun l H2 => th σ H2 fun u H3 => ∃ (p b : Addr) (xs ys : List V) (a c : Int), x = .ref p ∧ v = .ref b ∧ l = some a ∧ u = some c ∧ H3 p = some (.lst xs) ∧ H3 b = some (.lst ys) ∧ p ≠ b ∧ 0 ≤ a ∧ a ≤ c ∧ c ≤ xs.length ∧ xs.length + ys.length ≤ sizeLine ∧
    Qs σ (upd H3 p (.lst (xs.take a.toNat ++ ys ++ xs.drop c.toNat)))) : gSlc te tl th v σ H Qs := h
theorem r_setL {Qh : Hp → Prop} {p : Addr} {xs : List V} {n : Nat} (h : H p = some (.lst xs)) (hi : ixN xs.length i = some n) (q : Qh (upd H p (.lst (xs.set n v)))) : rSetL (.ref p) (.int i) v H Qh := ⟨p, xs, i, n, rfl, rfl, h, hi, q⟩
end
theorem szL {n : Nat} (h : Nat.ble n 16777216 = true) : n ≤ sizeLine := Nat.le_of_ble_eq_true h
theorem at_0 {x : V} {xs : List V} : atI (x :: xs) 0 = some x := at_of (j := 0) rfl rfl
theorem at_1 {x y : V} {xs : List V} : atI (x :: y :: xs) 1 = some y := at_of (j := 1) rfl rfl
theorem at_2 {x y z : V} {xs : List V} : atI (x :: y :: z :: xs) 2 = some z := at_of (j := 2) rfl rfl
theorem at_3 {x y z u : V} {xs : List V} : atI (x :: y :: z :: u :: xs) 3 = some u := at_of (j := 3) rfl rfl
theorem sq {K : PySem.W.Frag} {H : Hp} {p : Addr} {xs : List V} (h : H p = some (.lst xs)) : SqL K H p xs := .inl (.inl h)
theorem sqT {K : PySem.W.Frag} {H : Hp} {p : Addr} {xs : List V} (h : H p = some (.tup xs)) : SqT K H p xs := .inl (.inl h)

section
variable {w : World} {H : Hp} {σ : L2.St} {Q : VK} {te : TE} {tA : TA} {a : Addr} {k : Int} {S : Int → Bool} {n : Nat}
theorem r_set0 (q : ∀ p, H p = none → Q (.ref p) (upd H p (SetO w p (fun _ => false) 0))) : rSet0 w [] H Q := ⟨rfl, q⟩
theorem r_sin (h : H a = some (SetO w a S n)) (q : Q (.bl (S k)) H) : rSIn w (.int k) (.ref a) H Q := ⟨k, a, S, n, rfl, rfl, h, q⟩
theorem r_snotin (h : H a = some (SetO w a S n)) (q : Q (.bl (!S k)) H) : rSNotIn w (.int k) (.ref a) H Q := ⟨k, a, S, n, rfl, rfl, h, q⟩
theorem r_sadd0 (h : te σ H fun x H1 => (∃ a S n, x = V.ref a ∧ H1 a = some (SetO w a S n)) ∧ tA σ H1 fun xs H2 => rSAdd w x xs H2 Q) : tSAdd w te tA σ H Q := h
theorem r_sadd (h : H a = some (SetO w a S n)) (hn : n + 1 < 4096) (q : Q .non (upd H a (SetO w a (fun j => S j || decide (j = k)) (if S k = true then n else n + 1)))) : rSAdd w (.ref a) [.int k] H Q := ⟨a, k, S, n, rfl, rfl, h, hn, q⟩
end
/-! ### what a for walks -/
section
variable {K : PySem.W.Frag} {σ : L2.St} {H : Hp} {tA : TA} {te : TE} {R : L2.It → Hp → Prop}
theorem r_iEnum (h : tA σ H fun vs H1 => ∃ a xs, vs = [.ref a] ∧ SqL K H1 a xs ∧ R (Ite K a) H1) : iEnum K tA σ H R := h
theorem r_iList (h : te σ H fun x H1 => ∃ a, x = .ref a ∧ (∃ xs, SqL K H1 a xs) ∧ R (Itl K a) H1) : iList K te σ H R := h
theorem r_iTup (h : te σ H fun x H1 => ∃ a, x = .ref a ∧ (∃ xs, SqT K H1 a xs) ∧ R (Itt K a) H1) : iTup K te σ H R := h
theorem r_iRng1 (h : tA σ H fun vs H1 => ∃ j : Int, vs = [.int j] ∧ -(2 ^ 62) ≤ j ∧ j < 2 ^ 62 ∧ R (Itr 0 j.toNat) H1) : iRng1 tA σ H R := h
theorem r_iRng2 (h : tA σ H fun vs H1 => ∃ i j : Int, vs = [.int i, .int j] ∧ (-(2 ^ 62) ≤ i ∧ i < 2 ^ 62 ∧ -(2 ^ 62) ≤ j ∧ j < 2 ^ 62) ∧ R (Itr i (j - i).toNat) H1) : iRng2 tA σ H R := h
theorem r_iRng3 (h : tA σ H fun vs H1 => ∃ (i j c : Int) (n : Nat), vs = [.int i, .int j, .int c] ∧ RgC i j c n ∧ R (Itc i c n) H1) : iRng3 tA σ H R := h
theorem r_iZip (h : tA σ H fun vs H1 => ∃ a b xs ys, vs = [.ref a, .ref b] ∧ SqL K H1 a xs ∧ SqL K H1 b ys ∧ R (Itz K a b) H1) : iZip K tA σ H R := h
theorem r_lc {wi : TI} {g : TG} {tt : TT} {vs : List Nat} {Q : VK} (h : wi σ H fun J H1 => ∀ D, H1 D = none → ∃ W : Nat → Nat → Hp → Prop, (∃ m, W 0 m (upd H1 D (.lst []))) ∧ ∀ i m H, W i m H →
  (J.stop i H ∧ Q (.ref D) H) ∨ (J.go i H ∧ ∃ Nx : Hp → Prop, (∀ H', Nx H' → ∃ m', m' < m ∧ W (i + 1) m' H') ∧ ∀ x H', J.yld i H x H' → g x (wipe σ vs) H' fun σ2 H2 => wipe σ2 vs = wipe σ vs ∧ tt σ2 H2 fun b H3 =>
    if b = true then te σ2 H3 fun y H4 => ∃ acc, H4 D = some (.lst acc) ∧ acc.length < sizeLine ∧ Nx (upd H4 D (.lst (acc ++ [y]))) else Nx H3)) : tLc wi g tt te vs σ H Q := h
theorem r_lrg {tr : L2.St → Hp → (Int → Int → Hp → Prop) → Prop} {Q : VK} (h : tr σ H fun a b H1 => RgOk a b ∧ ∀ q, H1 q = none → Q (.ref q) (upd H1 q (.lst (rgV a b)))) : tLstRg tr σ H Q := h
theorem r_rg1 {Q : Int → Int → Hp → Prop} (h : te σ H fun x H1 => ∃ n, x = .int n ∧ Q 0 n H1) : tRg1 te σ H Q := h
theorem r_rg2 {tb : TE} {Q : Int → Int → Hp → Prop} (h : te σ H fun x H1 => tb σ H1 fun y H2 => ∃ i j, x = .int i ∧ y = .int j ∧ Q i j H2) : tRg2 te tb σ H Q := h
theorem r_l3 {Q : VK} (h : tA σ H fun vs H1 => ∃ (i j c : Int) (n : Nat), vs = [.int i, .int j, .int c] ∧ RgC i j c n ∧ n ≤ 2 ^ 24 ∧ ∀ q, H1 q = none → Q (.ref q) (upd H1 q (.lst (rg3V i c n)))) : tLst3 tA σ H Q := h
theorem r_revL {Q : VK} (h : te σ H fun x H1 => ∃ a xs, x = .ref a ∧ SqL K H1 a xs ∧ ∀ p, H1 p = none → Q (.ref p) (upd H1 p (.lst xs.reverse))) : tRevL K te σ H Q := h
theorem r_exr {a : Addr} {f : Addr → Prop} (h : f a) : ∃ b, V.ref a = .ref b ∧ f b := ⟨a, rfl, h⟩
end
section
variable {σ : L2.St} {H : Hp} {c : TT} {tb : TS} {nx bk ct : L2.St → Hp → Prop} {rt : VK}
theorem r_while (W : Nat → L2.St → Hp → Prop) (m : Nat) (h0 : W m σ H) (hs : ∀ m σ H, W m σ H → c σ H fun b H1 => if b = true then ∃ N : L2.St → Hp → Prop, (∀ σ' H', N σ' H' → ∃ m', m' < m ∧ W m' σ' H') ∧ tb ⟨N, rt, nx, N⟩ σ H1 else nx σ H1) : tWhile c tb ⟨nx, rt, bk, ct⟩ σ H :=
  ⟨W, ⟨m, h0⟩, hs⟩
theorem r_turn {W : Nat → L2.St → Hp → Prop} {m : Nat} (h : tb ⟨fun σ' H' => ∃ m', m' < m ∧ W m' σ' H', rt, nx, fun σ' H' => ∃ m', m' < m ∧ W m' σ' H'⟩ σ H) : ∃ N : L2.St → Hp → Prop, (∀ σ' H', N σ' H' → ∃ m', m' < m ∧ W m' σ' H') ∧ tb ⟨N, rt, nx, N⟩ σ H :=
  ⟨_, fun _ _ h => h, h⟩
theorem r_itD {p : Prop} [Decidable p] {A B : Prop} (hp : p) (h : A) : if decide p = true then A else B := by rw [decide_eq_true hp]; exact h
theorem r_itDF {p : Prop} [Decidable p] {A B : Prop} (hp : ¬p) (h : B) : if decide p = true then A else B := by rw [decide_eq_false hp]; exact h
theorem r_itN {p : Prop} [Decidable p] {A B : Prop} (hp : ¬p) (h : A) : if (!decide p) = true then A else B := by rw [decide_eq_false hp]; exact h
theorem r_itNF {p : Prop} [Decidable p] {A B : Prop} (hp : p) (h : B) : if (!decide p) = true then A else B := by rw [decide_eq_true hp]; exact h
theorem r_popAt {l : Addr} {xs : List V} {i : Int} {k : Nat} {y : V} {Q : VK} (h : H l = some (.lst xs)) (e : i = (k : Int)) (hk : xs[k]? = some y) (hz : k < 2 ^ 63) (q : Q y (upd H l (.lst (xs.eraseIdx k)))) : rPopAt (.ref l) [.int i] H Q := by
  subst e
  have hl : k < xs.length := (List.getElem?_eq_some_iff.mp hk).1
  exact ⟨l, xs, k, k, y, rfl, rfl, h, by omega, by omega, seqIndex_of (by omega) (by omega), hk, q⟩
end
/-! ### what stands in a heap -/
/-- all but r stands as it was -/
def Sx (r : Addr) (H H' : Hp) : Prop := ∀ b o, b ≠ r → H b = some o → H' b = some o
section
variable {H H' : Hp} {a b r : Addr} {o u : HO}
theorem upd_old (np : H a = none) (h : H b = some u) : upd H a o b = some u := (upd_ne (ne_of_none h np)).trans h
theorem upd_to (n : b ≠ a) (h : H b = some u) : upd H a o b = some u := (upd_ne n).trans h
theorem same_to (s : Same H H') (h : H b = some u) : H' b = some u := s b u h
theorem sx_to (s : Sx r H H') (n : b ≠ r) (h : H b = some u) : H' b = some u := s b u n h
theorem sx_of (s : Same H H') : Sx r H H' := fun b o _ h => s b o h
theorem same_new (np : H a = none) : Same H (upd H a o) := fun b u h => upd_old np h
theorem same_old {H0 : Hp} (s : Same H0 H) (n : H0 a = none) : Same H0 (upd H a o) := fun b u h => upd_to (ne_of_none h n) (s b u h)
theorem Sx.refl : Sx r H H := fun _ _ _ h => h
theorem Sx.trans {H1 : Hp} (s : Sx r H H1) (t : Sx r H1 H') : Sx r H H' := fun b o n h => t b o n (s b o n h)
theorem Sx.put : Sx r H (L2.upd H r o) := fun b u n h => upd_to n h
theorem Sx.new (np : H a = none) : Sx r H (L2.upd H a o) := fun b u _ h => upd_old np h
theorem Sx.old {H0 : Hp} (s : Sx r H0 H) (n : H0 a = none) : Sx r H0 (L2.upd H a o) := fun b u hb h => upd_to (ne_of_none h n) (s b u hb h)
theorem Sx.same {H1 : Hp} (s : Sx r H H1) (t : Same H1 H') : Sx r H H' := s.trans (sx_of t)
theorem Sx.free (s : Sx r H H') (hr : H' r = some u) (h : H' a = none) : H a = none := by
  cases q : H a with
  | none => rfl
  | some o =>
    by_cases e : a = r
    · subst e; rw [hr] at h; cases h
    · rw [s a o e q] at h; cases h
end
end Xk
/-- one step whose answer is known -/
local macro_rules | `(tactic| fail "one") => `(tactic| with_reducible first
  | refine Xk.r_c ?_ | refine Xk.r_op ?_ | refine Xk.r_un ?_ | refine Xk.r_I0 ?_ | refine Xk.r_U ?_ | refine Xk.r_nil ?_ | refine Xk.r_cons ?_ | refine Xk.r_lst ?_ | refine Xk.r_tup ?_
  | refine Xk.r_call ?_ | refine Xk.r_callK ?_ | refine Xk.r_cb ?_ | refine Xk.r_ckw ?_ | refine Xk.r_sl ?_ | refine Xk.r_part ?_ | refine Xk.r_nopart ?_ | refine Xk.r_exi ?_ | refine Xk.r_exb ?_ | refine Xk.r_bm ?_ | refine Xk.r_bm0 ?_
  | refine Xk.r_if ?_ | refine Xk.r_andV ?_ | refine Xk.r_orV ?_ | refine Xk.r_notV ?_ | refine Xk.r_eqI ?_ | refine Xk.r_neI ?_ | refine Xk.r_eqS ?_ | refine Xk.r_neS ?_
  | refine Xk.r_test ?_ | refine Xk.r_tB ?_ | refine Xk.r_tand ?_ | refine Xk.r_tor ?_ | refine Xk.r_tnot ?_ | refine Xk.r_yes ?_ | refine Xk.r_itT ?_ | refine Xk.r_itF ?_ | refine Xk.r_notT ?_ | refine Xk.r_notF ?_
  | refine Xk.r_seq ?_ | refine Xk.r_next ?_ | refine Xk.r_asg ?_ | refine Xk.r_ret ?_ | refine Xk.r_drop ?_ | refine Xk.r_ifS ?_ | refine Xk.r_par ?_ | refine Xk.r_ex2 ?_ | refine Xk.r_brk ?_ | refine Xk.r_cont ?_ | refine Xk.r_ipI ?_ | refine Xk.r_for ?_
  | refine Xk.r_augS ?_ | refine Xk.r_sadd0 ?_ | refine Xk.r_iEnum ?_ | refine Xk.r_iList ?_ | refine Xk.r_iTup ?_ | refine Xk.r_iRng1 ?_ | refine Xk.r_iRng2 ?_ | refine Xk.r_iRng3 ?_ | refine Xk.r_iZip ?_ | refine Xk.r_lc ?_ | refine Xk.r_lrg ?_ | refine Xk.r_rg1 ?_ | refine Xk.r_rg2 ?_ | refine Xk.r_l3 ?_ | refine Xk.r_revL ?_ | refine Xk.r_exr ?_
  | refine Xk.r_name ?_ | refine Xk.r_gcons ?_ | refine Xk.r_gnil ?_ | refine Xk.r_gsub ?_ | refine Xk.r_gslc ?_)
local macro_rules | `(tactic| fail "ne") => `(tactic| first | assumption | (apply Ne.symm; assumption) | (exact L2.ne_of_none (by assumption) (by assumption)) | (apply Ne.symm; exact L2.ne_of_none (by assumption) (by assumption)))
/-- what stands at an address -/
local macro_rules | `(tactic| fail "hp") => `(tactic| with_reducible first
  | assumption | exact L2.upd_same
  | ((refine' Xk.upd_old ?np ?_); (case np => assumption); fail "hp")
  | ((refine' Xk.same_to ?hs ?_); (case hs => assumption); fail "hp")
  | ((refine' Xk.sx_to ?hs ?hn ?_); (case hs => assumption); (case hn => fail "ne"); fail "hp")
  | ((refine' Xk.upd_to ?hn ?_); (case hn => fail "ne"); fail "hp"))
local macro_rules | `(tactic| fail "sq") => `(tactic| ((with_reducible show L2.SqL _ _ _ _); first | (with_reducible assumption) | exact Xk.sq (by fail "hp") | (with_reducible exact L2.Same.seq (by assumption) (by assumption))))
local macro_rules | `(tactic| fail "sd") => `(tactic| first | assumption | omega | decide)
local macro_rules | `(tactic| fail "at") => `(tactic| first
  | (with_reducible exact Xk.at_0) | (with_reducible exact Xk.at_1) | (with_reducible exact Xk.at_2) | (with_reducible exact Xk.at_3)
  | ((with_reducible show L2.atI (List.set (_ :: _) _ _) _ = _); exact rfl))
local macro_rules | `(tactic| fail "ix") => `(tactic| ((with_reducible show L2.ixN (List.length (_ :: _)) _ = _); exact rfl))
local macro_rules | `(tactic| fail "two") => `(tactic| first
  | ((with_reducible refine' Xk.r_var ?hv ?_); (case hv => exact rfl))
  | ((with_reducible refine' Xk.r_aug ?hv ?_); (case hv => exact rfl))
  | ((with_reducible refine' Xk.r_ixL ?hv ?hw ?_); (case hv => fail "sq"); (case hw => fail "at"))
  | ((with_reducible refine' Xk.r_setL ?hv ?hw ?_); (case hv => fail "hp"); (case hw => fail "ix"))
  | ((with_reducible refine' Xk.r_slL ?hv ?_); (case hv => fail "sq"))
  | ((with_reducible refine' Xk.r_gtup ?hv ?hw ?_); (case hv => exact Xk.sqT (by fail "hp")); (case hw => exact rfl))
  | ((with_reducible refine' ⟨Xk.ty_list (K := _) (xs := _) ?hv, ?_⟩); (case hv => fail "sq"))
  | ((with_reducible refine' Xk.r_append ?hv ?hw ?_); (case hv => fail "hp"); (case hw => fail "sd"))
  | ((with_reducible refine' Xk.r_I (C := fun _ j => 0 < j) ?hv ?_); (case hv => (first | omega | (show (0 : Int) < _; omega) | decide)))
  | ((with_reducible refine' Xk.r_len ?hv ?_); (case hv => fail "sq"))
  | ((with_reducible refine' Xk.r_listOf ?hv ?_); (case hv => fail "sq"))
  | ((with_reducible refine' Xk.r_I (C := Xk.CPowW) ?hv ?_); (case hv => exact ⟨by decide, by decide⟩))
  | (with_reducible refine ⟨Xk.szL (by with_unfolding_all rfl), ?_⟩)
  | ((with_reducible refine' ⟨_, _, rfl, ?hv, ?_⟩); (case hv => ((with_reducible show L2.SqL _ _ _ _); fail "sq")))
  | ((with_reducible refine' ⟨⟨_, ?hv⟩, ?_⟩); (case hv => fail "sq"))
  | (with_reducible refine Or.inl ⟨_, rfl, ?_⟩) | (with_reducible refine Or.inr ⟨_, rfl, ?_⟩)
  | (with_reducible refine ⟨_, _, rfl, rfl, ?_⟩) | (with_reducible refine ⟨_, rfl, ?_⟩) | (with_reducible refine ⟨_, _, rfl, ?_⟩))
local macro_rules | `(tactic| fail "g") => `(tactic| repeat (first | fail "one" | fail "two"))

set_option Elab.async false
set_option linter.all false
set_option maxRecDepth 100000
namespace Xk
open PySem PySem.Spec PyProof.Rows L2
/-! ### slices by numbers -/
theorem cut_from {xs : List V} {z : Int} {a : Nat} (h : z = (a : Int)) : cutV xs (some z) none = xs.drop a := by
  subst h
  unfold cutV
  rw [show HT.sIx xs.length 0 (some (a : Int)) = min a xs.length from HT.sIx_nat xs.length 0 a, HT.sIx_none]
  by_cases q : a ≤ xs.length
  · rw [Nat.min_eq_left q]; exact List.take_of_length_le (by rw [List.length_drop]; omega)
  · rw [Nat.min_eq_right (by omega), List.drop_of_length_le (by omega), List.drop_of_length_le (by omega)]; simp
theorem cut_to {xs : List V} {z : Int} {b : Nat} (h : z = (b : Int)) : cutV xs none (some z) = xs.take b := by
  subst h
  unfold cutV
  rw [show HT.sIx xs.length xs.length (some (b : Int)) = min b xs.length from HT.sIx_nat xs.length xs.length b, HT.sIx_none]
  show (xs.take (min b xs.length - 0)) = _
  rw [Nat.sub_zero]
  by_cases q : b ≤ xs.length
  · rw [Nat.min_eq_left q]
  · rw [Nat.min_eq_right (by omega), List.take_of_length_le (by omega), List.take_of_length_le (by omega)]
theorem cut_mid {xs : List V} {z y : Int} {a b : Nat} (h : z = (a : Int)) (g : y = (b : Int)) (hb : b ≤ xs.length) : cutV xs (some z) (some y) = (xs.drop a).take (b - a) := by
  subst h; subst g
  unfold cutV
  rw [show HT.sIx xs.length 0 (some (a : Int)) = min a xs.length from HT.sIx_nat xs.length 0 a, show HT.sIx xs.length xs.length (some (b : Int)) = min b xs.length from HT.sIx_nat xs.length xs.length b, Nat.min_eq_left hb]
  by_cases q : a ≤ xs.length
  · rw [Nat.min_eq_left q]
  · rw [Nat.min_eq_right (by omega), show b - xs.length = 0 by omega, show b - a = 0 by omega]; rfl
theorem map_drop' {α β : Type} (f : α → β) (l : List α) (n : Nat) : (l.map f).drop n = (l.drop n).map f := by simp
theorem at_map {ns : List Int} {z : Int} {j : Nat} (e : z = (j : Int)) (h : j < ns.length) : atI (ns.map V.int) z = some (.int ns[j]) :=
  at_of e (by simp [h])
theorem ix_of {n j : Nat} {z : Int} (e : z = (j : Int)) (h : j < n) : ixN n z = some j := by
  subst e; unfold ixN; rw [if_pos (by omega), if_pos (by omega)]; simp
theorem map_set' (ns : List Int) (j : Nat) (x : Int) : (ns.map V.int).set j (V.int x) = (ns.set j x).map V.int := by simp
theorem map_snoc (ns : List Int) (x : Int) : ns.map V.int ++ [V.int x] = (ns ++ [x]).map V.int := by simp
theorem size_lt {n : Nat} (h : n < 16777216) : n < sizeLine := h
theorem size_le {n : Nat} (h : n ≤ 16777216) : n ≤ sizeLine := h

/-! ### comprehensions whose turns leave what stood -/
section
variable {J : It} {n : Nat} {G : Hp → Prop} {Y : Nat → Hp → V → Hp → Prop}
theorem forI (w : Walk J n G Y) {g : TG} {tb : TS} {nx : L2.St → Hp → Prop} {rt : VK} {σ : L2.St} {H : Hp} (Pv : Nat → L2.St → Hp → Prop) (h0 : Pv 0 σ H) (hG : ∀ i σ H, i ≤ n → Pv i σ H → G H)
    (hs : ∀ i x σ H H', i < n → Pv i σ H → Y i H x H' → g x σ H' fun σ2 H2 => tb ⟨Pv (i + 1), rt, nx, Pv (i + 1)⟩ σ2 H2) (hd : ∀ σ H, Pv n σ H → nx σ H) :
    ∃ W : Nat → Nat → L2.St → Hp → Prop, (∃ m, W 0 m σ H) ∧ ∀ i m σ H, W i m σ H →
      (J.stop i H ∧ nx σ H) ∨ (J.go i H ∧ ∃ N : L2.St → Hp → Prop, (∀ σ' H', N σ' H' → ∃ m', m' < m ∧ W (i + 1) m' σ' H') ∧ ∀ x H', J.yld i H x H' → g x σ H' fun σ2 H2 => tb ⟨N, rt, nx, N⟩ σ2 H2) :=
  for_it (D := ⟨nx, rt, fun _ _ => False, fun _ _ => False⟩) w Pv h0 hG hs hd
theorem forA {xs : List V} (w : Walk J xs.length G (YAt xs)) {g : TG} {tb : TS} {nx : L2.St → Hp → Prop} {rt : VK} {σ : L2.St} {H : Hp} (Pv : Nat → L2.St → Hp → Prop) (h0 : Pv 0 σ H) (hG : ∀ i σ H, i ≤ xs.length → Pv i σ H → G H)
    (hs : ∀ i σ H (hi : i < xs.length), Pv i σ H → g xs[i] σ H fun σ2 H2 => tb ⟨Pv (i + 1), rt, nx, Pv (i + 1)⟩ σ2 H2) (hd : ∀ σ H, Pv xs.length σ H → nx σ H) :
    ∃ W : Nat → Nat → L2.St → Hp → Prop, (∃ m, W 0 m σ H) ∧ ∀ i m σ H, W i m σ H →
      (J.stop i H ∧ nx σ H) ∨ (J.go i H ∧ ∃ N : L2.St → Hp → Prop, (∀ σ' H', N σ' H' → ∃ m', m' < m ∧ W (i + 1) m' σ' H') ∧ ∀ x H', J.yld i H x H' → g x σ H' fun σ2 H2 => tb ⟨N, rt, nx, N⟩ σ2 H2) :=
  forI w Pv h0 hG (fun i x σ H H' hi p y => by
    obtain ⟨rfl, e⟩ := y
    rw [List.getElem?_eq_getElem hi] at e
    cases e
    exact hs i σ H' hi p) hd
theorem forAI {ns : List Int} (w : Walk J (ns.map V.int).length G (YAt (ns.map V.int))) {g : TG} {tb : TS} {nx : L2.St → Hp → Prop} {rt : VK} {σ : L2.St} {H : Hp} (Pv : Nat → L2.St → Hp → Prop) (h0 : Pv 0 σ H) (hG : ∀ i σ H, i ≤ (ns.map V.int).length → Pv i σ H → G H)
    (hs : ∀ i σ H (hi : i < ns.length), Pv i σ H → g (.int ns[i]) σ H fun σ2 H2 => tb ⟨Pv (i + 1), rt, nx, Pv (i + 1)⟩ σ2 H2) (hd : ∀ σ H, Pv (ns.map V.int).length σ H → nx σ H) :
    ∃ W : Nat → Nat → L2.St → Hp → Prop, (∃ m, W 0 m σ H) ∧ ∀ i m σ H, W i m σ H →
      (J.stop i H ∧ nx σ H) ∨ (J.go i H ∧ ∃ N : L2.St → Hp → Prop, (∀ σ' H', N σ' H' → ∃ m', m' < m ∧ W (i + 1) m' σ' H') ∧ ∀ x H', J.yld i H x H' → g x σ H' fun σ2 H2 => tb ⟨N, rt, nx, N⟩ σ2 H2) :=
  forI w Pv h0 hG (fun i x σ H H' hi p y => by
    obtain ⟨rfl, e⟩ := y
    have hi' : i < ns.length := by simpa using hi
    rw [List.getElem?_map, List.getElem?_eq_getElem hi'] at e
    cases e
    exact hs i σ H' hi' p) hd
theorem forF {f : Nat → V} (w : Walk J n G (YFn f)) {g : TG} {tb : TS} {nx : L2.St → Hp → Prop} {rt : VK} {σ : L2.St} {H : Hp} (Pv : Nat → L2.St → Hp → Prop) (h0 : Pv 0 σ H) (hG : ∀ i σ H, i ≤ n → Pv i σ H → G H)
    (hs : ∀ i σ H, i < n → Pv i σ H → g (f i) σ H fun σ2 H2 => tb ⟨Pv (i + 1), rt, nx, Pv (i + 1)⟩ σ2 H2) (hd : ∀ σ H, Pv n σ H → nx σ H) :
    ∃ W : Nat → Nat → L2.St → Hp → Prop, (∃ m, W 0 m σ H) ∧ ∀ i m σ H, W i m σ H →
      (J.stop i H ∧ nx σ H) ∨ (J.go i H ∧ ∃ N : L2.St → Hp → Prop, (∀ σ' H', N σ' H' → ∃ m', m' < m ∧ W (i + 1) m' σ' H') ∧ ∀ x H', J.yld i H x H' → g x σ H' fun σ2 H2 => tb ⟨N, rt, nx, N⟩ σ2 H2) :=
  forI w Pv h0 hG (fun i x σ H H' hi p y => by
    obtain ⟨rfl, rfl⟩ := y
    exact hs i σ H' hi p) hd
theorem forP {f1 f2 : Nat → Option V} (w : Walk J n G (YPair f1 f2)) {g : TG} {tb : TS} {nx : L2.St → Hp → Prop} {rt : VK} {σ : L2.St} {H : Hp} (Pv : Nat → L2.St → Hp → Prop) (h0 : Pv 0 σ H) (hG : ∀ i σ H, i ≤ n → Pv i σ H → G H)
    (hs : ∀ i σ H T x y, i < n → Pv i σ H → f1 i = some x → f2 i = some y → H T = none → g (.ref T) σ (upd H T (.tup [x, y])) fun σ2 H2 => tb ⟨Pv (i + 1), rt, nx, Pv (i + 1)⟩ σ2 H2) (hd : ∀ σ H, Pv n σ H → nx σ H) :
    ∃ W : Nat → Nat → L2.St → Hp → Prop, (∃ m, W 0 m σ H) ∧ ∀ i m σ H, W i m σ H →
      (J.stop i H ∧ nx σ H) ∨ (J.go i H ∧ ∃ N : L2.St → Hp → Prop, (∀ σ' H', N σ' H' → ∃ m', m' < m ∧ W (i + 1) m' σ' H') ∧ ∀ x H', J.yld i H x H' → g x σ H' fun σ2 H2 => tb ⟨N, rt, nx, N⟩ σ2 H2) :=
  forI w Pv h0 hG (fun i x σ H H' hi p y => by
    obtain ⟨T, x, y, rfl, nT, rfl, e1, e2⟩ := y
    exact hs i σ H T x y hi p e1 e2 nT) hd
theorem forEI {ns : List Int} (w : Walk J (ns.map V.int).length G (YPair (fun i => some (.int (i : Nat))) (fun i => (ns.map V.int)[i]?))) {g : TG} {tb : TS} {nx : L2.St → Hp → Prop} {rt : VK} {σ : L2.St} {H : Hp} (Pv : Nat → L2.St → Hp → Prop) (h0 : Pv 0 σ H) (hG : ∀ i σ H, i ≤ (ns.map V.int).length → Pv i σ H → G H)
    (hs : ∀ i σ H T (hi : i < ns.length), Pv i σ H → H T = none → g (.ref T) σ (upd H T (.tup [.int (i : Nat), .int ns[i]])) fun σ2 H2 => tb ⟨Pv (i + 1), rt, nx, Pv (i + 1)⟩ σ2 H2) (hd : ∀ σ H, Pv (ns.map V.int).length σ H → nx σ H) :
    ∃ W : Nat → Nat → L2.St → Hp → Prop, (∃ m, W 0 m σ H) ∧ ∀ i m σ H, W i m σ H →
      (J.stop i H ∧ nx σ H) ∨ (J.go i H ∧ ∃ N : L2.St → Hp → Prop, (∀ σ' H', N σ' H' → ∃ m', m' < m ∧ W (i + 1) m' σ' H') ∧ ∀ x H', J.yld i H x H' → g x σ H' fun σ2 H2 => tb ⟨N, rt, nx, N⟩ σ2 H2) :=
  forI w Pv h0 hG (fun i x σ H H' hi p y => by
    obtain ⟨T, x, y, rfl, nT, rfl, e1, e2⟩ := y
    have hi' : i < ns.length := by simpa using hi
    cases e1
    simp only [List.getElem?_map, List.getElem?_eq_getElem hi'] at e2
    cases e2
    exact hs i σ H T hi' p nT) hd
theorem lc_same (w : Walk J n G Y) {g : TG} {tt : TT} {te : TE} {vs : List Nat} {σ : L2.St} {H0 H1 : Hp} {D : Addr} {Qd : Hp → Prop} (acc : Nat → List V) (hD : H1 D = none) (h01 : Same H0 H1) (a0 : acc 0 = [])
    (hG : ∀ H, Same H0 H → G H)
    (hs : ∀ i x H H', i < n → Same H0 H ∧ H D = some (.lst (acc i)) → Y i H x H' → g x (wipe σ vs) H' fun σ2 H2 => wipe σ2 vs = wipe σ vs ∧ tt σ2 H2 fun b H3 =>
      if b = true then te σ2 H3 fun y H4 => ∃ l, H4 D = some (.lst l) ∧ l.length < sizeLine ∧ Same H0 (upd H4 D (.lst (l ++ [y]))) ∧ (upd H4 D (.lst (l ++ [y]))) D = some (.lst (acc (i + 1))) else Same H0 H3 ∧ H3 D = some (.lst (acc (i + 1))))
    (hd : ∀ H, Same H0 H → H D = some (.lst (acc n)) → Qd H) :
    ∃ W : Nat → Nat → Hp → Prop, (∃ m, W 0 m (upd H1 D (.lst []))) ∧ ∀ i m H, W i m H →
      (J.stop i H ∧ Qd H) ∨ (J.go i H ∧ ∃ Nx : Hp → Prop, (∀ H', Nx H' → ∃ m', m' < m ∧ W (i + 1) m' H') ∧ ∀ x H', J.yld i H x H' → g x (wipe σ vs) H' fun σ2 H2 => wipe σ2 vs = wipe σ vs ∧ tt σ2 H2 fun b H3 =>
        if b = true then te σ2 H3 fun y H4 => ∃ acc, H4 D = some (.lst acc) ∧ acc.length < sizeLine ∧ Nx (upd H4 D (.lst (acc ++ [y]))) else Nx H3) :=
  lc_it w (fun i H => Same H0 H ∧ H D = some (.lst (acc i))) ⟨same_old h01 (h01.free hD), by rw [a0]; exact upd_same⟩ (fun i H _ p => hG H p.1) hs (fun H p => hd H p.1 p.2)
theorem lc_sameAI {ns : List Int} (w : Walk J (ns.map V.int).length G (YAt (ns.map V.int))) {g : TG} {tt : TT} {te : TE} {vs : List Nat} {σ : L2.St} {H0 H1 : Hp} {D : Addr} {Qd : Hp → Prop} (acc : Nat → List V) (hD : H1 D = none) (h01 : Same H0 H1) (a0 : acc 0 = [])
    (hG : ∀ H, Same H0 H → G H)
    (hs : ∀ i H (hi : i < ns.length), Same H0 H ∧ H D = some (.lst (acc i)) → g (.int ns[i]) (wipe σ vs) H fun σ2 H2 => wipe σ2 vs = wipe σ vs ∧ tt σ2 H2 fun b H3 =>
      if b = true then te σ2 H3 fun y H4 => ∃ l, H4 D = some (.lst l) ∧ l.length < sizeLine ∧ Same H0 (upd H4 D (.lst (l ++ [y]))) ∧ (upd H4 D (.lst (l ++ [y]))) D = some (.lst (acc (i + 1))) else Same H0 H3 ∧ H3 D = some (.lst (acc (i + 1))))
    (hd : ∀ H, Same H0 H → H D = some (.lst (acc ns.length)) → Qd H) :
    ∃ W : Nat → Nat → Hp → Prop, (∃ m, W 0 m (upd H1 D (.lst []))) ∧ ∀ i m H, W i m H →
      (J.stop i H ∧ Qd H) ∨ (J.go i H ∧ ∃ Nx : Hp → Prop, (∀ H', Nx H' → ∃ m', m' < m ∧ W (i + 1) m' H') ∧ ∀ x H', J.yld i H x H' → g x (wipe σ vs) H' fun σ2 H2 => wipe σ2 vs = wipe σ vs ∧ tt σ2 H2 fun b H3 =>
        if b = true then te σ2 H3 fun y H4 => ∃ acc, H4 D = some (.lst acc) ∧ acc.length < sizeLine ∧ Nx (upd H4 D (.lst (acc ++ [y]))) else Nx H3) :=
  lc_same w acc hD h01 a0 hG (fun i x H H' hi p y => by
    obtain ⟨rfl, e⟩ := y
    have hi' : i < ns.length := by simpa using hi
    rw [List.getElem?_map, List.getElem?_eq_getElem hi'] at e
    cases e
    exact hs i H' hi' p) (fun H p q => hd H p (by simpa using q))
theorem lc_sameEI {ns : List Int} (w : Walk J (ns.map V.int).length G (YPair (fun i => some (.int (i : Nat))) (fun i => (ns.map V.int)[i]?))) {g : TG} {tt : TT} {te : TE} {vs : List Nat} {σ : L2.St} {H0 H1 : Hp} {D : Addr} {Qd : Hp → Prop} (acc : Nat → List V) (hD : H1 D = none) (h01 : Same H0 H1) (a0 : acc 0 = [])
    (hG : ∀ H, Same H0 H → G H)
    (hs : ∀ i H T (hi : i < ns.length), Same H0 H ∧ H D = some (.lst (acc i)) → H T = none → g (.ref T) (wipe σ vs) (upd H T (.tup [.int (i : Nat), .int ns[i]])) fun σ2 H2 => wipe σ2 vs = wipe σ vs ∧ tt σ2 H2 fun b H3 =>
      if b = true then te σ2 H3 fun y H4 => ∃ l, H4 D = some (.lst l) ∧ l.length < sizeLine ∧ Same H0 (upd H4 D (.lst (l ++ [y]))) ∧ (upd H4 D (.lst (l ++ [y]))) D = some (.lst (acc (i + 1))) else Same H0 H3 ∧ H3 D = some (.lst (acc (i + 1))))
    (hd : ∀ H, Same H0 H → H D = some (.lst (acc ns.length)) → Qd H) :
    ∃ W : Nat → Nat → Hp → Prop, (∃ m, W 0 m (upd H1 D (.lst []))) ∧ ∀ i m H, W i m H →
      (J.stop i H ∧ Qd H) ∨ (J.go i H ∧ ∃ Nx : Hp → Prop, (∀ H', Nx H' → ∃ m', m' < m ∧ W (i + 1) m' H') ∧ ∀ x H', J.yld i H x H' → g x (wipe σ vs) H' fun σ2 H2 => wipe σ2 vs = wipe σ vs ∧ tt σ2 H2 fun b H3 =>
        if b = true then te σ2 H3 fun y H4 => ∃ acc, H4 D = some (.lst acc) ∧ acc.length < sizeLine ∧ Nx (upd H4 D (.lst (acc ++ [y]))) else Nx H3) :=
  lc_same w acc hD h01 a0 hG (fun i x H H' hi p y => by
    obtain ⟨T, x, y, rfl, nT, rfl, e1, e2⟩ := y
    have hi' : i < ns.length := by simpa using hi
    cases e1
    simp only [List.getElem?_map, List.getElem?_eq_getElem hi'] at e2
    cases e2
    exact hs i H T hi' p nT) (fun H p q => hd H p (by simpa using q))
theorem lc_sameF {n : Nat} {f : Nat → V} (w : Walk J n G (YFn f)) {g : TG} {tt : TT} {te : TE} {vs : List Nat} {σ : L2.St} {H0 H1 : Hp} {D : Addr} {Qd : Hp → Prop} (acc : Nat → List V) (hD : H1 D = none) (h01 : Same H0 H1) (a0 : acc 0 = [])
    (hG : ∀ H, Same H0 H → G H)
    (hs : ∀ i H, i < n → Same H0 H ∧ H D = some (.lst (acc i)) → g (f i) (wipe σ vs) H fun σ2 H2 => wipe σ2 vs = wipe σ vs ∧ tt σ2 H2 fun b H3 =>
      if b = true then te σ2 H3 fun y H4 => ∃ l, H4 D = some (.lst l) ∧ l.length < sizeLine ∧ Same H0 (upd H4 D (.lst (l ++ [y]))) ∧ (upd H4 D (.lst (l ++ [y]))) D = some (.lst (acc (i + 1))) else Same H0 H3 ∧ H3 D = some (.lst (acc (i + 1))))
    (hd : ∀ H, Same H0 H → H D = some (.lst (acc n)) → Qd H) :
    ∃ W : Nat → Nat → Hp → Prop, (∃ m, W 0 m (upd H1 D (.lst []))) ∧ ∀ i m H, W i m H →
      (J.stop i H ∧ Qd H) ∨ (J.go i H ∧ ∃ Nx : Hp → Prop, (∀ H', Nx H' → ∃ m', m' < m ∧ W (i + 1) m' H') ∧ ∀ x H', J.yld i H x H' → g x (wipe σ vs) H' fun σ2 H2 => wipe σ2 vs = wipe σ vs ∧ tt σ2 H2 fun b H3 =>
        if b = true then te σ2 H3 fun y H4 => ∃ acc, H4 D = some (.lst acc) ∧ acc.length < sizeLine ∧ Nx (upd H4 D (.lst (acc ++ [y]))) else Nx H3) :=
  lc_same w acc hD h01 a0 hG (fun i x H H' hi p y => by
    obtain ⟨rfl, rfl⟩ := y
    exact hs i H' hi p) hd
theorem lc_add {H0 H H4 : Hp} {D : Addr} {a a' : List V} {y : V} (p : Same H0 H ∧ H D = some (.lst a)) (s : Same H H4) (hD : H0 D = none) (e : a' = a ++ [y]) (hz : a.length < sizeLine) :
    ∃ l, H4 D = some (.lst l) ∧ l.length < sizeLine ∧ Same H0 (upd H4 D (.lst (l ++ [y]))) ∧ (upd H4 D (.lst (l ++ [y]))) D = some (.lst a') :=
  ⟨a, s _ _ p.2, hz, same_old (p.1.trans s) hD, by rw [e]; exact upd_same⟩
theorem lc_skip {H0 H H4 : Hp} {D : Addr} {a a' : List V} (p : Same H0 H ∧ H D = some (.lst a)) (s : Same H H4) (e : a' = a) : Same H0 H4 ∧ H4 D = some (.lst a') := ⟨p.1.trans s, by rw [e]; exact s _ _ p.2⟩
theorem take_one {α : Type} {l : List α} {i : Nat} (hi : i < l.length) : l.take (i + 1) = l.take i ++ [l[i]] := by rw [List.take_add_one, List.getElem?_eq_getElem hi]; rfl
theorem acc_filtT {l : List Int} {f : Int → Bool} {i : Nat} (hi : i < l.length) (h : f l[i] = true) : ((l.take (i + 1)).filter f).map V.int = ((l.take i).filter f).map V.int ++ [.int l[i]] := by
  rw [take_one hi, List.filter_append, List.map_append]; simp [h]
theorem acc_filtF {l : List Int} {f : Int → Bool} {i : Nat} (hi : i < l.length) (h : f l[i] = false) : ((l.take (i + 1)).filter f).map V.int = ((l.take i).filter f).map V.int := by
  rw [take_one hi, List.filter_append, List.map_append]; simp [h]
theorem filt_len {l : List Int} {f : Int → Bool} {i : Nat} (h : l.length ≤ 1000000) : (((l.take i).filter f).map V.int).length < sizeLine := by
  rw [List.length_map]
  refine Nat.lt_of_le_of_lt (Nat.le_trans (List.length_filter_le _ _) (List.length_take_le' _ _)) (size_lt (by omega))
end
theorem erase_map {α β : Type} (f : α → β) : ∀ (l : List α) (j : Nat), (l.map f).eraseIdx j = (l.eraseIdx j).map f
  | [], _ => rfl
  | x :: r, 0 => rfl
  | x :: r, j + 1 => congrArg (f x :: ·) (erase_map f r j)
theorem erase_perm {α : Type} : ∀ (l : List α) (j : Nat) (h : j < l.length), (l[j] :: l.eraseIdx j).Perm l
  | x :: r, 0, _ => List.Perm.refl _
  | x :: r, j + 1, h => (List.Perm.swap x (r[j]'(Nat.lt_of_succ_lt_succ h)) (r.eraseIdx j)).trans ((erase_perm r j (Nat.lt_of_succ_lt_succ h)).cons x)
end Xk

set_option Elab.async false
set_option linter.all false
set_option maxRecDepth 100000
namespace Xk
open PySem PySem.Spec PyProof.Rows L2
/-! ### data -/
abbrev dI (ns : List Int) : PyData := .list (ns.map PyData.int)
section
variable {K : PySem.W.Frag} {H H' : Hp}
theorem dp_ints : ∀ ns : List Int, DpAll K H (ns.map V.int) (ns.map PyData.int)
  | [] => .nil
  | i :: r => .cons (.int i) (dp_ints r)
theorem dp_lst {a : Addr} {ns : List Int} (h : SqL K H a (ns.map V.int)) : Dp K H (.ref a) (dI ns) := .lst h (dp_ints ns)
theorem eqv_ints : ∀ ns ms : List Int, PyData.eqvAll (ns.map PyData.int) (ms.map PyData.int) = decide (ns = ms)
  | [], [] => rfl
  | [], _ :: _ => rfl
  | _ :: _, [] => rfl
  | i :: r, j :: t => by
    show ((i == j) && PyData.eqvAll (r.map PyData.int) (t.map PyData.int)) = _
    rw [eqv_ints r t]
    by_cases e : i = j
    · subst e; by_cases f : r = t
      · subst f; simp
      · simp [f]
    · simp [e]
theorem eqv_dI (ns ms : List Int) : PyData.eqv (dI ns) (dI ms) = decide (ns = ms) := eqv_ints ns ms
theorem lay_ints : ∀ ns : List Int, PyData.canLayAll0 (ns.map PyData.int) = true
  | [] => rfl
  | _ :: r => lay_ints r
theorem depth_ints : ∀ ns : List Int, PyData.depthAll (ns.map PyData.int) = 0
  | [] => rfl
  | i :: r => by show max 0 (PyData.depthAll (r.map PyData.int)) = 0; rw [depth_ints r]; rfl
theorem shaped_dI (ns : List Int) : SeqAt.shaped (dI ns) = true := by
  unfold SeqAt.shaped
  rw [Bool.and_eq_true]
  refine ⟨lay_ints ns, ?_⟩
  show decide (PyData.depthAll (ns.map PyData.int) + 1 ≤ 64) = true
  rw [depth_ints]; rfl
/-- == of two lists of ints -/
theorem r_eqL {a b : Addr} {ns ms : List Int} {Q : VK} (h : SqL K H a (ns.map V.int)) (g : SqL K H b (ms.map V.int)) (q : Q (.bl (decide (ns = ms))) H) : rEqD K (.ref a) (.ref b) H Q :=
  ⟨_, _, dp_lst h, dp_lst g, shaped_dI ns, shaped_dI ms, by rw [eqv_dI]; exact q⟩
theorem r_neL {a b : Addr} {ns ms : List Int} {Q : VK} (h : SqL K H a (ns.map V.int)) (g : SqL K H b (ms.map V.int)) (q : Q (.bl (!decide (ns = ms))) H) : rNeD K (.ref a) (.ref b) H Q :=
  ⟨_, _, dp_lst h, dp_lst g, shaped_dI ns, shaped_dI ms, by rw [eqv_dI]; exact q⟩
end

/-! ### how long a repr may be -/
def Sh (b : Nat) (d : PyData) : Prop := d.showable = true ∧ d.shown.length ≤ b
theorem Sh.mono {b c : Nat} {d : PyData} (h : Sh b d) (e : b ≤ c) : Sh c d := ⟨h.1, Nat.le_trans h.2 e⟩
theorem len_app (a b : Str) : (a ++ b).length = a.length + b.length := by
  show (a.cps ++ b.cps).size = _
  exact Array.size_append
theorem from_le : ∀ (ts : List Str) (k b : Nat) (acc : Str), (∀ t ∈ ts, t.length ≤ b) → (textFrom k acc ts).length ≤ acc.length + ts.length * (b + 2)
  | [], _, _, _, _ => by simp [textFrom]
  | t :: r, k, b, acc, h => by
    have ht := h t List.mem_cons_self
    have ih := fun acc' => from_le r (k + 1) b acc' fun t ht => h t (List.mem_cons_of_mem _ ht)
    unfold textFrom
    refine Nat.le_trans (ih _) ?_
    rw [List.length_cons, Nat.succ_mul]
    have e2 : (Str.ofString ", ").length = 2 := rfl
    have e0 : (Str.ofString "").length = 0 := rfl
    generalize r.length * (b + 2) = R
    split <;> simp only [len_app] <;> omega
theorem all_sh {b : Nat} : ∀ {ds : List PyData}, (∀ d ∈ ds, Sh b d) → PyData.showableAll ds = true ∧ ∀ t ∈ PyData.shownAll ds, t.length ≤ b
  | [], _ => ⟨rfl, fun t h => nomatch h⟩
  | d :: r, h => by
    have h1 := h d List.mem_cons_self
    have ih := all_sh fun e he => h e (List.mem_cons_of_mem _ he)
    refine ⟨?_, fun t ht => ?_⟩
    · show (d.showable && PyData.showableAll r) = true
      rw [h1.1, ih.1]; rfl
    · rcases List.mem_cons.mp (show t ∈ d.shown :: PyData.shownAll r from ht) with e | e
      · subst e; exact h1.2
      · exact ih.2 t e
theorem shown_len : ∀ ds : List PyData, (PyData.shownAll ds).length = ds.length
  | [] => rfl
  | _ :: r => congrArg (· + 1) (shown_len r)
theorem Sh.list {b : Nat} {ds : List PyData} (h : ∀ d ∈ ds, Sh b d) : Sh (ds.length * (b + 2) + 2) (.list ds) := by
  obtain ⟨h1, h2⟩ := all_sh h
  refine ⟨h1, ?_⟩
  show (listText (PyData.shownAll ds)).length ≤ _
  unfold listText
  rw [len_app]
  have := from_le (PyData.shownAll ds) 0 b "[" h2
  rw [shown_len] at this
  have e1 : ("[" : Str).length = 1 := rfl
  have e2 : ("]" : Str).length = 1 := rfl
  omega
theorem piled_le : ∀ (ts : List Str) (b : Nat), (∀ t ∈ ts, t.length ≤ b) → piled ts ≤ ts.length * (b + 2)
  | [], _, _ => by simp [piled]
  | t :: r, b, h => by
    have h1 := h t List.mem_cons_self
    have ih := piled_le r b fun e he => h e (List.mem_cons_of_mem _ he)
    have e : piled (t :: r) = t.length + 2 + piled r := by simp [piled]
    rw [e, List.length_cons, Nat.succ_mul]
    omega
theorem Sh.tuple {b : Nat} {ds : List PyData} (h : ∀ d ∈ ds, Sh b d) : Sh (ds.length * (b + 2) + 3) (.tuple ds) := by
  obtain ⟨h1, h2⟩ := all_sh h
  refine ⟨h1, ?_⟩
  show (tupleText (PyData.shownAll ds)).length ≤ _
  unfold tupleText
  rw [len_app, len_app]
  have hp := piled_le (PyData.shownAll ds) b h2
  rw [shown_len] at hp
  have e1 : ("(" : Str).length = 1 := rfl
  have e2 : (Str.ofString ",)").length = 2 := rfl
  have e3 : (Str.ofString ")").length = 1 := rfl
  by_cases q : PyData.shownAll ds = []
  · rw [q]
    have e4 : (Str.join ", " []).length = 0 := rfl
    split <;> omega
  · have := join_length_add _ q
    split <;> omega
theorem Sh.bool {b : Bool} : Sh 5 (.bool b) := ⟨rfl, by cases b <;> decide⟩
theorem Sh.none : Sh 4 .none := ⟨rfl, by decide⟩
theorem Sh.int {i : Int} {k : Nat} (hk : 0 < k) (h : i.natAbs < 10 ^ k) (h9 : k ≤ 500) : Sh (k + 1) (.int i) := by
  refine ⟨?_, ?_⟩
  · show decide (i.natAbs.log2 < 1920) = true
    rw [decide_eq_true_eq]
    by_cases z : i.natAbs = 0
    · rw [z]; decide
    · refine (Nat.log2_lt z).mpr (Nat.lt_trans h (Nat.lt_of_le_of_lt (Nat.pow_le_pow_right (by decide) h9) (by decide +kernel)))
  · show (Str.ofString (toString i)).length ≤ k + 1
    match i, h with
    | .ofNat n, h => exact Nat.le_succ_of_le (PyProof.Rows.toString_length_le (v := (n : Int)) (by omega) hk (by
        have h' : n < 10 ^ k := h
        have : ((n : Nat) : Int) < ((10 ^ k : Nat) : Int) := by omega
        simpa using this))
    | .negSucc n, h =>
      have h' : n + 1 < 10 ^ k := h
      have := PyProof.Rows.toString_length_le (v := ((n + 1 : Nat) : Int)) (by omega) hk (by
        have : ((n + 1 : Nat) : Int) < ((10 ^ k : Nat) : Int) := by omega
        simpa using this)
      rw [PyProof.Rows.ofString_length, String.length_toList] at this
      rw [PyProof.Rows.ofString_length, String.length_toList]
      show ("-" ++ toString (n + 1)).length ≤ k + 1
      rw [String.length_append]
      have e : ("-" : String).length = 1 := rfl
      have e2 : (toString ((n + 1 : Nat) : Int)) = toString (n + 1) := rfl
      rw [e2] at this
      omega
theorem Sh.ints {ns : List Int} {k : Nat} (hk : 0 < k) (h9 : k ≤ 500) (h : ∀ i ∈ ns, i.natAbs < 10 ^ k) : Sh (ns.length * (k + 3) + 2) (dI ns) := by
  have := Sh.list (b := k + 1) (ds := ns.map PyData.int) fun d hd => by
    obtain ⟨i, hi, rfl⟩ := List.mem_map.mp hd
    exact Sh.int hk (h i hi) h9
  rw [List.length_map] at this
  exact this
/-- repr(a list), in a reading -/
theorem r_repr {K : PySem.W.Frag} {H : Hp} {a : Addr} {d : PyData} {Q : VK} (h : Dp K H (.ref a) d) (hd : d.depth ≤ 60) {b : Nat} (s : Sh b d) (hb : b ≤ 16777216) (q : Q (.str d.shown) H) : rReprD K [.ref a] H Q :=
  ⟨a, d, rfl, h, s.1, hd, Nat.le_trans s.2 hb, q⟩
theorem depth_dI (ns : List Int) : (dI ns).depth ≤ 60 := by show PyData.depthAll (ns.map PyData.int) + 1 ≤ 60; rw [depth_ints]; decide
end Xk

set_option Elab.async false
set_option linter.all false
set_option maxRecDepth 100000
namespace Xk
open PySem PySem.Spec PyProof.Rows L2
/-! ### isinstance, is None, truth values compared -/
section
variable {X : Cx} (K : PySem.W.Frag)
theorem ix_seqK (hK : X.K = K := by rfl) : IxR X (rIx K) := hK ▸ ix_seq
theorem pg_unlK {es : List Expr} {g : TGs} {k : Nat} {pos : Pos} (n : Nat) (hc : X.calm = true) (h : PGs X es g) (hn : (assignEach es X.env).length = n := by rfl) (hst : (assignEach es X.env).findIdx? (·.1) = none := by rfl) (hK : X.K = K := by rfl) : PG X (.Tuple es k pos) (gUnl K n g) := hK ▸ pg_unl hc h hn hst
/-- x in xs, data of few layers -/
def rInE (K : PySem.W.Frag) : R2 := fun x y H Q => ∃ d ds, Dp K H x d ∧ Dp K H y (.list ds) ∧ SeqAt.shaped d = true ∧ SeqAt.shaped (.list ds) = true ∧ d.depth ≤ 60 ∧ Q (.bl (ds.any fun z => PyData.eqv z d)) H
theorem op_inE (hu : X.A.units + 64 < cLine) (hK : X.K = K := by rfl) : OpR X (compareOp .In) (rInE K) := by
  subst hK
  intro pins s σ H x y v u Q I rx ry h
  obtain ⟨d, ds, hd, he, sd, se, dd, q⟩ := h
  obtain ⟨as, r1⟩ := Dp.reads I d x v hd rx
  obtain ⟨bs, r2⟩ := Dp.reads I (.list ds) y u he ry
  refine SeqAt.in_list_reads r2 r1 (SeqAt.canLay_of_shaped se) (SeqAt.canLay_of_shaped sd) ?_ ⟨.bl _, H, I, rfl, q⟩
  have := Nat.min_le_right (PyData.depthAll ds) d.depth
  omega
theorem isiK (hK : X.K = K := by rfl) : CallR X (.builtin "isinstance") (rIsi K) := hK ▸ call_isi
end
section
variable {K : PySem.W.Frag} {H H' : Hp} {Q : VK} {x : V} {T t : String} {r : Bool}
theorem r_isi (ty : TyX K H x (.type t)) (e : kitB t T = some r) (q : Q (.bl r) H) : rIsi K [x, .ty T] H Q := ⟨x, .ty T, .type t, .type T, r, rfl, .ty T, ty, kit_ty e, q⟩
theorem tyx_list {a : Addr} {xs : List V} (h : SqL K H a xs) : TyX K H (.ref a) (.type "list") := by
  rcases h with (h | ⟨o, h⟩) | ⟨o, its, n, h, c, _⟩
  · exact .base (.lst h)
  · exact .base (.frz h)
  · exact .kList h c
theorem tyx_tup {a : Addr} {xs : List V} (h : SqT K H a xs) : TyX K H (.ref a) (.type "tuple") := by
  rcases h with (h | ⟨o, h⟩) | ⟨o, its, n, h, c, _⟩
  · exact .base (.tup h)
  · exact .fTuple h
  · exact .kTuple h c
theorem r_isN {A : Prop} (q : A) : V.non = V.non ∧ A := ⟨rfl, q⟩
theorem r_neB {a b : Bool} (q : Q (.bl (!decide (a = b))) H) : rNe (.bl a) (.bl b) H Q := by
  refine ⟨rfl, ?_⟩
  have e : decide (V.bl a = V.bl b) = decide (a = b) := by
    by_cases h : a = b
    · subst h; simp
    · rw [decide_eq_false h, decide_eq_false]; intro z; cases z; exact h rfl
  rw [e]; exact q
theorem r_eqB {a b : Bool} (q : Q (.bl (decide (a = b))) H) : rEq (.bl a) (.bl b) H Q := by
  refine ⟨rfl, ?_⟩
  have e : decide (V.bl a = V.bl b) = decide (a = b) := by
    by_cases h : a = b
    · subst h; simp
    · rw [decide_eq_false h, decide_eq_false]; intro z; cases z; exact h rfl
  rw [e]; exact q
theorem r_iRev {tA : TA} {σ : L2.St} {R : L2.It → Hp → Prop} (h : tA σ H fun vs H1 => ∃ a xs, vs = [.ref a] ∧ SqL K H1 a xs ∧ R (Itv K a xs.length) H1) : iRev K tA σ H R := h
theorem r_insert {l : Addr} {xs : List V} {i : Int} {y : V} (h : H l = some (.lst xs)) (hz : xs.length < sizeLine) (h0 : 0 ≤ i) (h1 : i < 2 ^ 63) (q : Q .non (upd H l (.lst (xs.take i.toNat ++ [y] ++ xs.drop i.toNat)))) :
    ∃ (l' : Addr) (xs : List V) (i' : Int) (y' : V), V.ref l = .ref l' ∧ [V.int i, y] = [.int i', y'] ∧ H l' = some (.lst xs) ∧ xs.length < sizeLine ∧ 0 ≤ i' ∧ i' < 2 ^ 63 ∧ Q .non (upd H l' (.lst (xs.take i'.toNat ++ [y'] ++ xs.drop i'.toNat))) := ⟨l, xs, i, y, rfl, rfl, h, hz, h0, h1, q⟩
theorem r_all {a : Addr} {bs : List Bool} (h : SqL K H a (bs.map V.bl)) (q : Q (.bl (bs.all id)) H) : rAll K [.ref a] H Q := ⟨a, bs, rfl, h, q⟩
theorem inv_ints (x : Int) (l : List Int) : inV (.int x) (l.map V.int) = decide (x ∈ l) := by
  unfold inV
  rw [List.any_map]
  by_cases hm : x ∈ l
  · rw [decide_eq_true hm, List.any_eq_true]
    exact ⟨_, hm, by show (_ == _) = true; simp⟩
  · rw [decide_eq_false hm, List.any_eq_false]
    intro y hy
    show ¬ (y == x) = true
    intro e
    exact hm (eq_of_beq e ▸ hy)
theorem r_gunl {gs : TGs} {σ : L2.St} {Qs : L2.St → Hp → Prop} {p : Addr} {xs : List V} {n : Nat} (h : SqL K H p xs) (hl : xs.length = n) (q : gs xs σ H Qs) : gUnl K n gs (.ref p) σ H Qs := ⟨p, xs, rfl, h, hl, q⟩
theorem r_lenT {p : Addr} {xs : List V} (h : SqT K H p xs) (q : Q (.int xs.length) H) : Xk.rLen K [.ref p] H Q := ⟨p, xs, rfl, .inr h, q⟩
theorem pow5 {i : Int} {n : Nat} {j : Int} (h : i.natAbs < 2 ^ n) (h0 : 0 ≤ j) (hj : j ≤ 5) (hn : n ≤ 20000000) : CPowW i j := by
  refine ⟨h0, ?_⟩
  have h1 := bits_le h
  have : (Builtin.Int.intBits i : Int) * j ≤ 20000000 * 5 := by
    refine Int.mul_le_mul ?_ hj h0 (by omega)
    omega
  refine Int.le_trans this (by decide)
theorem r_par3 {tA : TA} {σ : L2.St} {nx bk ct : L2.St → Hp → Prop} {rt : VK} {i j l : Nat} (h : tA σ H fun vs H1 => ∃ x y z, vs = [x, y, z] ∧ nx (((σ.set i (some x)).set j (some y)).set l (some z)) H1) : tPar3 i j l tA ⟨nx, rt, bk, ct⟩ σ H := h
theorem r_ex3 {f : V → V → V → Prop} {x y z : V} (h : f x y z) : ∃ u v w, [x, y, z] = [u, v, w] ∧ f u v w := ⟨x, y, z, rfl, h⟩
theorem r_ixQL {p : Addr} {xs : List V} {i : Int} {v : V} (h : SqL K H p xs) (ha : atI xs i = some v) (q : Q v H) : rIx K (.ref p) (.int i) H Q := .inl ⟨p, xs, i, v, rfl, rfl, h, ha, q⟩
theorem r_ixQT {p : Addr} {xs : List V} {i : Int} {v : V} (h : SqT K H p xs) (ha : atI xs i = some v) (q : Q v H) : rIx K (.ref p) (.int i) H Q := .inr (.inl ⟨p, xs, i, v, rfl, rfl, h, ha, q⟩)
theorem r_reverse {p : Addr} {xs : List V} (h : H p = some (.lst xs)) (q : Q .non (upd H p (.lst xs.reverse))) : rReverse (.ref p) [] H Q := ⟨p, xs, rfl, rfl, h, q⟩
theorem r_extend {p b : Addr} {xs zs : List V} (h : H p = some (.lst xs)) (g : H b = some (.lst zs)) (hz : xs.length + zs.length ≤ sizeLine) (q : Q .non (upd H p (.lst (xs ++ zs)))) : rExtend (.ref p) [.ref b] H Q := ⟨p, b, xs, zs, rfl, rfl, h, g, hz, q⟩
theorem r_cat {p b : Addr} {xs ys : List V} (h : H p = some (.lst xs)) (g : H b = some (.lst ys)) (hz : xs.length + ys.length ≤ sizeLine) (q : ∀ n, H n = none → Q (.ref n) (upd H n (.lst (xs ++ ys)))) : rCat (.ref p) (.ref b) H Q := ⟨p, b, xs, ys, rfl, rfl, h, g, hz, q⟩
theorem cut_any {xs : List V} {z y : Int} {a b : Nat} (h : z = (a : Int)) (g : y = (b : Int)) : cutV xs (some z) (some y) = (xs.drop a).take (b - a) := by
  subst h; subst g
  unfold cutV
  rw [show HT.sIx xs.length 0 (some (a : Int)) = min a xs.length from HT.sIx_nat xs.length 0 a, show HT.sIx xs.length xs.length (some (b : Int)) = min b xs.length from HT.sIx_nat xs.length xs.length b]
  by_cases q : a ≤ xs.length
  · rw [Nat.min_eq_left q]
    by_cases q2 : b ≤ xs.length
    · rw [Nat.min_eq_left q2]
    · rw [Nat.min_eq_right (by omega), List.take_of_length_le (by rw [List.length_drop]; omega), List.take_of_length_le (by rw [List.length_drop]; omega)]
  · rw [Nat.min_eq_right (show xs.length ≤ a by omega), List.drop_of_length_le (Nat.le_refl _), List.drop_of_length_le (show xs.length ≤ a by omega)]; simp
/-! ### data kept -/
theorem sqT_same {a : Addr} {xs : List V} (s : Same H H') (h : SqT K H a xs) : SqT K H' a xs := by
  rcases h with (h | ⟨o, h⟩) | h
  · exact .inl (.inl (s _ _ h))
  · exact .inl (.inr ⟨o, s _ _ h⟩)
  · exact .inr h
mutual
theorem dp_same (s : Same H H') : ∀ (d : PyData) (v : V), Dp K H v d → Dp K H' v d
  | .none, _, h => by cases h; exact .non
  | .bool b, _, h => by cases h; exact .bl b
  | .int i, _, h => by cases h; exact .int i
  | .str y, _, h => by cases h; exact .str y
  | .list ds, _, h => by
    cases h with
    | lst e a => exact .lst (s.seq e) (dp_sameAll s ds _ a)
  | .tuple ds, _, h => by
    cases h with
    | tup e a => exact .tup (sqT_same s e) (dp_sameAll s ds _ a)
  | .dict _, _, h => by cases h
theorem dp_sameAll (s : Same H H') : ∀ (ds : List PyData) (vs : List V), DpAll K H vs ds → DpAll K H' vs ds
  | [], _, h => by cases h; exact .nil
  | d :: ds, _, h => by
    cases h with
    | cons a b => exact .cons (dp_same s d _ a) (dp_sameAll s ds _ b)
end
theorem dpall_len : ∀ {vs : List V} {ds : List PyData}, DpAll K H vs ds → vs.length = ds.length
  | _, _, .nil => rfl
  | _, _, .cons _ b => congrArg (· + 1) (dpall_len b)
theorem dpall_at : ∀ {vs : List V} {ds : List PyData} (h : DpAll K H vs ds) (i : Nat) (hi : i < ds.length), ∃ v, vs[i]? = some v ∧ Dp K H v ds[i]
  | _, _, .cons a b, 0, _ => ⟨_, rfl, a⟩
  | _, _, .cons a b, i + 1, hi => dpall_at b i (Nat.lt_of_succ_lt_succ hi)
theorem depth_at : ∀ {ds : List PyData} {i : Nat} (hi : i < ds.length), ds[i].depth ≤ PyData.depthAll ds
  | d :: ds, 0, _ => Nat.le_max_left _ _
  | d :: ds, i + 1, hi => Nat.le_trans (depth_at (ds := ds) (Nat.lt_of_succ_lt_succ hi)) (Nat.le_max_right _ _)
end
end Xk

set_option Elab.async false
set_option linter.all false
set_option maxRecDepth 100000
namespace Xk
open PySem PySem.Spec PyProof.Rows L2
/-- a new object; the heap behind it is any that keeps all and has it -/
def New (Q : VK) (H : Hp) (o : HO) : Prop := ∀ p, H p = none → Q (.ref p) (upd H p o)
section
variable {K : PySem.W.Frag} {σ : L2.St} {H : Hp} {Q : VK} {o : HO} {tA : TA} {te : TE} {p b : Addr} {xs ys : List V} {ns ms : List Int}
theorem new_ (h : ∀ (p : Addr) (H' : Hp), H p = none → Same H H' → H' p = some o → Q (.ref p) H') : New Q H o := fun p np => h p _ np (same_new np) upd_same
theorem n_lst (h : tA σ H fun xs H1 => xs.length ≤ sizeLine ∧ New Q H1 (.lst xs)) : tLst tA σ H Q := h
theorem n_tup (h : tA σ H fun xs H1 => xs.length ≤ sizeLine ∧ New Q H1 (.tup xs)) : tTup tA σ H Q := h
theorem n_slL {lo hi : Option Int} (h : SqL K H p xs) (q : New Q H (.lst (cutV xs lo hi))) : rSlL K (.ref p) lo hi H Q := ⟨p, xs, rfl, h, q⟩
theorem n_slF {z : Int} {a : Nat} (h : SqL K H p (ns.map V.int)) (e : z = (a : Int)) (q : New Q H (.lst ((ns.drop a).map V.int))) : rSlL K (.ref p) (some z) none H Q :=
  n_slL h (by rw [cut_from e, ← List.map_drop]; exact q)
theorem n_slT {z : Int} {a : Nat} (h : SqL K H p (ns.map V.int)) (e : z = (a : Int)) (q : New Q H (.lst ((ns.take a).map V.int))) : rSlL K (.ref p) none (some z) H Q :=
  n_slL h (by rw [cut_to e, ← List.map_take]; exact q)
theorem n_slM {z y : Int} {a c : Nat} (h : SqL K H p (ns.map V.int)) (e : z = (a : Int)) (g : y = (c : Int)) (q : New Q H (.lst (((ns.drop a).take (c - a)).map V.int))) : rSlL K (.ref p) (some z) (some y) H Q :=
  n_slL h (by rw [cut_any e g, ← List.map_drop, ← List.map_take]; exact q)
theorem n_listOf (h : SqL K H p xs) (q : New Q H (.lst xs)) : rListOf K [.ref p] H Q := ⟨p, xs, rfl, .inl h, q⟩
theorem n_lrg {tr : L2.St → Hp → (Int → Int → Hp → Prop) → Prop} (h : tr σ H fun a b H1 => RgOk a b ∧ New Q H1 (.lst (rgV a b))) : tLstRg tr σ H Q := h
theorem n_revL (h : te σ H fun x H1 => ∃ a xs, x = .ref a ∧ SqL K H1 a xs ∧ New Q H1 (.lst xs.reverse)) : tRevL K te σ H Q := h
theorem n_cat (h : H p = some (.lst xs)) (g : H b = some (.lst ys)) (hz : xs.length + ys.length ≤ sizeLine) (q : New Q H (.lst (xs ++ ys))) : rCat (.ref p) (.ref b) H Q := ⟨p, b, xs, ys, rfl, rfl, h, g, hz, q⟩
theorem n_catI (h : H p = some (.lst (ns.map V.int))) (g : H b = some (.lst (ms.map V.int))) (hz : ns.length + ms.length ≤ 16777216) (q : New Q H (.lst ((ns ++ ms).map V.int))) : rCat (.ref p) (.ref b) H Q :=
  n_cat h g (by rw [List.length_map, List.length_map]; exact hz) (by rw [← List.map_append]; exact q)
theorem s_trans {H0 H1 H2 : Hp} (b : Same H1 H2) (a : Same H0 H1) : Same H0 H2 := a.trans b
theorem s_new {H0 H : Hp} {a : Addr} {o : HO} (np : H a = none) (s : Same H0 H) : Same H0 (upd H a o) := s.trans (same_new np)
theorem sq_new {K : PySem.W.Frag} {H : Hp} {a b : Addr} {o : HO} {xs : List V} (np : H a = none) (s : SqL K H b xs) : SqL K (upd H a o) b xs := (same_new np).seq s
theorem ne_n {H : Hp} {a b : Addr} {u : HO} (n : H b = none) (h : H a = some u) : a ≠ b := ne_of_none h n
theorem ne_n' {H : Hp} {a b : Addr} {u : HO} (n : H a = none) (h : H b = some u) : a ≠ b := (ne_of_none h n).symm
theorem c_chain {r r' : R2} {ta tb tc : TE} {σ : L2.St} {H : Hp} {Q : VK} (h : ta σ H fun x H1 => tb σ H1 fun y H2 => r x y H2 fun z H3 => ∃ k, z = .bl k ∧ (if k = true then tc σ H3 fun w' H4 => r' y w' H4 Q else Q (.bl false) H3)) : tChain r r' ta tb tc σ H Q := h
theorem n_rep {l : Addr} {n : Nat} {zs : List V} (h : H l = some (.lst zs)) (hn : n ≤ 1000000) (hz : zs.length * n ≤ 16777216) (q : New Q H (.lst (List.replicate n zs).flatten)) : rRep (.ref l) (.int (n : Int)) H Q :=
  ⟨l, n, zs, rfl, rfl, h, by omega, by omega, by rw [Int.toNat_natCast]; exact hz, fun p np => by rw [Int.toNat_natCast]; exact q p np⟩
theorem new_map {xs : List Int} {u : List V} (e : u = xs.map V.int) (h : New Q H (.lst (xs.map V.int))) : New Q H (.lst u) := e ▸ h
end
end Xk
/-- what stands in a heap, and what keeps: back along the one step that made each heap -/
local macro_rules | `(tactic| fail "kp") => `(tactic| with_reducible first
  | assumption | exact L2.upd_same | exact L2.Same.refl _
  | (apply Xk.same_to; assumption; fail "kp")
  | (apply L2.Same.seq; assumption; fail "kp")
  | (apply Xk.sx_to; assumption; fail "kpn"; fail "kp")
  | (apply Xk.upd_old; assumption; fail "kp")
  | (apply Xk.upd_to; fail "kpn"; fail "kp")
  | (apply Xk.s_trans; assumption; fail "kp")
  | (apply Xk.s_new; assumption; fail "kp")
  | (apply Xk.sq_new; assumption; fail "kp")
  | (apply Xk.sqT_same; assumption; fail "kp")
  | (apply Xk.sq; fail "kp")
  | (apply Xk.sqT; fail "kp"))
/-- another address -/
local macro_rules | `(tactic| fail "kpn") => `(tactic| with_reducible first | assumption | (apply Ne.symm; assumption) | (apply Xk.ne_n; assumption; fail "kp") | (apply Xk.ne_n'; assumption; fail "kp"))
local macro_rules | `(tactic| fail "ww1") => `(tactic| with_reducible first
  | refine Xk.c_chain ?_ | refine Xk.n_lst ?_ | refine Xk.n_tup ?_ | refine Xk.n_lrg ?_ | refine Xk.n_revL ?_)
local macro_rules | `(tactic| fail "ww2") => `(tactic| first
  | ((with_reducible refine' Xk.r_var ?hv ?_); (case hv => exact rfl))
  | ((with_reducible refine' Xk.r_aug ?hv ?_); (case hv => exact rfl))
  | ((with_reducible refine' Xk.r_ixL ?hv ?hw ?_); (case hv => fail "kp"); (case hw => fail "at"))
  | ((with_reducible refine' Xk.r_setL ?hv ?hw ?_); (case hv => fail "kp"); (case hw => fail "ix"))
  | ((with_reducible refine' Xk.r_gtup ?hv ?hw ?_); (case hv => exact Xk.sqT (by fail "kp")); (case hw => exact rfl))
  | ((with_reducible refine' ⟨Xk.ty_list (K := _) (xs := _) ?hv, ?_⟩); (case hv => fail "kp"))
  | ((with_reducible refine' Xk.r_append ?hv ?hw ?_); (case hv => fail "kp"); (case hw => fail "sd"))
  | ((with_reducible refine' Xk.r_I (C := fun _ j => 0 < j) ?hv ?_); (case hv => (first | omega | (show (0 : Int) < _; omega) | decide)))
  | ((with_reducible refine' Xk.r_len ?hv ?_); (case hv => fail "kp"))
  | ((with_reducible refine' Xk.n_listOf ?hv ?_); (case hv => fail "kp"))
  | ((with_reducible refine' Xk.r_I (C := Xk.CPowW) ?hv ?_); (case hv => exact ⟨by decide, by decide⟩))
  | (with_reducible refine ⟨Xk.szL (by with_unfolding_all rfl), ?_⟩)
  | ((with_reducible refine' ⟨_, _, rfl, ?hv, ?_⟩); (case hv => ((with_reducible show L2.SqL _ _ _ _); fail "kp")))
  | (with_reducible refine ⟨_, _, _, _, rfl, Xk.sq (by fail "kp"), Xk.sq (by fail "kp"), ?_⟩)
  | ((with_reducible refine' ⟨⟨_, ?hv⟩, ?_⟩); (case hv => ((with_reducible show L2.SqL _ _ _ _); fail "kp")))
  | (with_reducible refine Or.inl ⟨_, rfl, ?_⟩) | (with_reducible refine Or.inr ⟨_, rfl, ?_⟩)
  | (with_reducible refine ⟨_, _, rfl, rfl, ?_⟩) | (with_reducible refine ⟨_, rfl, ?_⟩) | (with_reducible refine ⟨_, _, rfl, ?_⟩))
local macro_rules | `(tactic| fail "ww") => `(tactic| repeat (first | fail "ww1" | fail "one" | fail "ww2"))

set_option Elab.async false
set_option linter.all false
set_option maxRecDepth 100000
set_option maxHeartbeats 4000000
namespace Xk
open PySem PySem.Spec PyProof.Rows L2
/-! ### texts: what the step tactics want of the layer's rules -/
section
variable {X : Cx}
/-- a text so often, not at all or once -/
def rMulS : R2 := fun x y H Q => ∃ (a : Str) (n : Int), x = .str a ∧ y = .int n ∧ ((n = 0 ∧ Q (.str Str.empty) H) ∨ (n = 1 ∧ Q (.str a) H))
theorem op_mulS : OpR X (binaryOp .Mult) rMulS := by
  intro pins s σ H x y v u Q I rx ry h
  obtain ⟨a, n, rfl, rfl, h⟩ := h
  obtain ⟨t, rfl⟩ := rx
  obtain ⟨t', rfl⟩ := ry
  rcases h with ⟨rfl, q⟩ | ⟨rfl, q⟩
  · exact P.mul_str_none (by decide) (by decide) ⟨.str Str.empty, H, I.tok _, ⟨_, rfl⟩, q⟩
  · refine P.mul_str (by decide) (fun _ h => by simp at h) (fun _ h => by simp at h) ?_
    rw [if_neg (by decide), if_pos (by simp)]
    exact ⟨.str a, H, I, ⟨_, rfl⟩, q⟩
theorem pe_gint {x : Str} {p : Pos} {k : Int} {tk : Tok} (gx : Gl X x) (at' : X.mg x = some (.int k tk)) (hd : (x == ("__debug__" : Str)) = false := by decide) : PE X (.Name x p) (tC (.int k)) := ⟨fun _ _ _ H Q I h => ld_glob I gx at' ⟨.int k, H, I, ⟨tk, rfl⟩, h⟩ hd⟩
def rLenT : List V → Hp → VK → Prop := fun xs H Q => ∃ z : Str, xs = [.str z] ∧ z.length ≤ sizeLine ∧ Q (.int z.length) H
theorem lenT : CallR X (.builtin "len") rLenT := fun pins s σ H vs us Q I r h => call_len_str pins s σ H vs us Q I r h
def tJoined (ts : List TE) : TE := fun σ H Q => tJs ts Str.empty σ H fun out H1 => Q (.str out) H1
theorem pe_joinedT {v1 v2 : Expr} {rest : List Expr} {ts : List TE} {pos : Pos} (h : PJ X (v1 :: v2 :: rest) ts) : PE X (.JoinedStr (v1 :: v2 :: rest) pos) (tJoined ts) := pe_joined h
theorem pe_isascii {o : Expr} {to : TE} {apos pos : Pos} (ho : PE X o to) (hbase : attributeBase o "isascii" X.env (eval o X.env) = eval o X.env := by rfl) (hline : (apos.endLine == pos.line) = true := by rfl) :
    PE X (.Call (.Attribute o "isascii" apos) [] [] pos) (tM0 (fun x xs H Q => ∃ a, x = .str a ∧ xs = [] ∧ True ∧ Q (.bl (Txt.isascii a)) H) to) := pe_m0 PySem.F.slot_str_isascii PySem.F.type_str_isascii mt_isascii ho hbase hline
theorem pe_isdigit {o : Expr} {to : TE} {apos pos : Pos} (ho : PE X o to) (hbase : attributeBase o "isdigit" X.env (eval o X.env) = eval o X.env := by rfl) (hline : (apos.endLine == pos.line) = true := by rfl) :
    PE X (.Call (.Attribute o "isdigit" apos) [] [] pos) (tM0 (fun x xs H Q => ∃ a, x = .str a ∧ xs = [] ∧ True ∧ Q (.bl (Txt.isdigit a)) H) to) := pe_m0 PySem.F.slot_str_isdigit PySem.F.type_str_isdigit mt_isdigit ho hbase hline
def rJoin (K : PySem.W.Frag) : V → List V → Hp → VK → Prop := fun x xs H Q => ∃ a p, ∃ ys : List Str, x = .str a ∧ xs = [.ref p] ∧ (SqL K H p (ys.map V.str) ∨ SqT K H p (ys.map V.str)) ∧
      (ys.map (·.length)).sum + ys.length * a.length ≤ 16777216 ∧ Q (.str (Txt.join a ys)) H
theorem pe_joinK (K : PySem.W.Frag) {o e : Expr} {to te : TE} {apos pos : Pos} (ho : PE X o to) (he : PE X e te) (hK : X.K = K := by rfl) (hs : starEach [e] X.env = [(false, eval e X.env)] := by rfl) (hbase : attributeBase o "join" X.env (eval o X.env) = eval o X.env := by rfl) (hline : (apos.endLine == pos.line) = true := by rfl) :
    PE X (.Call (.Attribute o "join" apos) [e] [] pos) (tM1 (rJoin K) to te) := hK ▸ pe_join ho he hs hbase hline
end
section
variable {K : PySem.W.Frag} {σ : L2.St} {H : Hp} {Q : VK} {to te : TE} {r : V → List V → Hp → VK → Prop} {ts : List TE} {t : TE} {acc : Str} {Qs : Str → Hp → Prop}
theorem r_lenS {z : Str} (h : z.length ≤ sizeLine) (q : Q (.int z.length) H) : rLenT [.str z] H Q := ⟨z, rfl, h, q⟩
theorem r_m0 (h : to σ H fun x H1 => (∃ a, x = .str a) ∧ r x [] H1 Q) : tM0 r to σ H Q := h
theorem r_m1 (h : to σ H fun x H1 => (∃ a, x = .str a) ∧ te σ H1 fun y H2 => r x [y] H2 Q) : tM1 r to te σ H Q := h
theorem r_joined (h : tJs ts Str.empty σ H fun out H1 => Q (.str out) H1) : tJoined ts σ H Q := h
theorem r_jsN (h : Qs acc H) : tJs [] acc σ H Qs := h
theorem r_jsC (h : t σ H fun x H1 => ∃ y : Str, x = .str y ∧ (acc ++ y).length ≤ sizeLine ∧ tJs ts (acc ++ y) σ H1 Qs) : tJs (t :: ts) acc σ H Qs := h
theorem r_fmt (h : te σ H fun x H1 => (∃ y : Str, x = .str y ∧ y.length ≤ sizeLine ∧ Q (.str y) H1) ∨ ∃ i : Int, x = .int i ∧ i.natAbs.log2 < 1920 ∧ Q (.str (toString i)) H1) : tFmt te σ H Q := h
theorem r_exs {a : Str} {P : Prop} (h : P) : (∃ b, V.str a = .str b) ∧ P := ⟨⟨a, rfl⟩, h⟩
theorem r_join {a : Str} {p : Addr} {ys : List Str} (h : SqL K H p (ys.map V.str)) (hz : (ys.map (·.length)).sum + ys.length * a.length ≤ 16777216) (q : Q (.str (Txt.join a ys)) H) : rJoin K (.str a) [.ref p] H Q := ⟨a, p, ys, rfl, rfl, .inl h, hz, q⟩
end
end Xk
local macro_rules | `(tactic| fail "ww1") => `(tactic| with_reducible first | refine Xk.r_m0 ?_ | refine Xk.r_m1 ?_ | refine Xk.r_joined ?_ | refine Xk.r_jsN ?_ | refine Xk.r_jsC ?_ | refine Xk.r_fmt ?_ | refine Xk.r_exs ?_)
local macro_rules | `(tactic| fail "one") => `(tactic| with_reducible first | refine Xk.r_m0 ?_ | refine Xk.r_m1 ?_ | refine Xk.r_joined ?_ | refine Xk.r_jsN ?_ | refine Xk.r_jsC ?_ | refine Xk.r_fmt ?_ | refine Xk.r_exs ?_)

namespace My
/-! ### sorted lists -/
def ins (x : Int) : List Int → List Int
  | [] => [x]
  | y :: r => if x ≤ y then x :: y :: r else y :: ins x r
def srt : List Int → List Int
  | [] => []
  | x :: r => ins x (srt r)
theorem ins_perm (x : Int) : ∀ l : List Int, (ins x l).Perm (x :: l)
  | [] => List.Perm.refl _
  | y :: r => by
    unfold ins
    split
    · exact List.Perm.refl _
    · exact ((ins_perm x r).cons y).trans (List.Perm.swap x y r)
theorem srt_perm : ∀ l : List Int, (srt l).Perm l
  | [] => List.Perm.refl _
  | x :: r => (ins_perm x (srt r)).trans ((srt_perm r).cons x)
theorem ins_up (x : Int) : ∀ l : List Int, l.Pairwise (· ≤ ·) → (ins x l).Pairwise (· ≤ ·)
  | [], _ => List.pairwise_singleton _ _
  | y :: r, h => by
    have h1 := List.pairwise_cons.mp h
    unfold ins
    split
    · rename_i hxy
      exact List.pairwise_cons.mpr ⟨fun z hz => by
        rcases List.mem_cons.mp hz with e | e
        · rw [e]; exact hxy
        · exact Int.le_trans hxy (h1.1 z e), h⟩
    · refine List.pairwise_cons.mpr ⟨fun z hz => ?_, ins_up x r h1.2⟩
      rcases List.mem_cons.mp ((ins_perm x r).mem_iff.mp hz) with e | e
      · rw [e]; omega
      · exact h1.1 z e
theorem srt_up : ∀ l : List Int, (srt l).Pairwise (· ≤ ·)
  | [] => List.Pairwise.nil
  | x :: r => ins_up x _ (srt_up r)
theorem up_unique : ∀ {l m : List Int}, l.Perm m → l.Pairwise (· ≤ ·) → m.Pairwise (· ≤ ·) → l = m
  | [], m, h, _, _ => (h.nil_eq).symm ▸ rfl
  | x :: r, m, h, h1, h2 => by
    cases m with
    | nil => exact absurd h.eq_nil (by simp)
    | cons y t =>
      have a1 := List.pairwise_cons.mp h1
      have a2 := List.pairwise_cons.mp h2
      have e : x = y := by
        have hx : x ∈ y :: t := h.mem_iff.mp List.mem_cons_self
        have hy : y ∈ x :: r := h.mem_iff.mpr List.mem_cons_self
        rcases List.mem_cons.mp hx with q | q
        · exact q
        · rcases List.mem_cons.mp hy with q' | q'
          · exact q'.symm
          · have := a1.1 y q'; have := a2.1 x q; omega
      subst e
      rw [up_unique ((List.perm_cons x).mp h) a1.2 a2.2]
theorem srt_is {l m : List Int} (h : m.Perm l) (u : m.Pairwise (· ≤ ·)) : m = srt l := up_unique (h.trans (srt_perm l).symm) u (srt_up l)
theorem srt_len (l : List Int) : (srt l).length = l.length := (srt_perm l).length_eq
/-- the values at the places i to j sorted -/
def seg (l : List Int) (i j : Nat) : List Int := l.take (i - 1) ++ srt ((l.drop (i - 1)).take (j - (i - 1))) ++ l.drop j
theorem seg_perm {l : List Int} {i j : Nat} (h1 : i ≤ j) (_h2 : j ≤ l.length) : (seg l i j).Perm l := by
  unfold seg
  have e : l = l.take (i - 1) ++ (l.drop (i - 1)).take (j - (i - 1)) ++ l.drop j := by
    conv => lhs; rw [← List.take_append_drop (i - 1) l, ← List.take_append_drop (j - (i - 1)) (l.drop (i - 1)), List.drop_drop]
    rw [List.append_assoc, show i - 1 + (j - (i - 1)) = j by omega]
  conv => rhs; rw [e]
  exact ((srt_perm _).append_left _).append_right _
theorem seg_len {l : List Int} {i j : Nat} (h1 : i ≤ j) (h2 : j ≤ l.length) : (seg l i j).length = l.length := (seg_perm h1 h2).length_eq
abbrev Cmd := Nat × Nat
def step (l : List Int) (c : Cmd) : List Int := seg l c.1 c.2
def runM (l : List Int) (cs : List Cmd) : List Int := cs.foldl step l
/-- the commands fit rows of n places -/
def Fits (n : Nat) (cs : List Cmd) : Prop := ∀ c ∈ cs, 1 ≤ c.1 ∧ c.1 ≤ c.2 ∧ c.2 ≤ n
theorem runM_perm : ∀ (cs : List Cmd) (l : List Int), Fits l.length cs → (runM l cs).Perm l
  | [], l, _ => List.Perm.refl l
  | c :: r, l, h => by
    have hc := h c List.mem_cons_self
    have p := seg_perm hc.2.1 hc.2.2
    refine List.Perm.trans (runM_perm r (step l c) ?_) p
    show Fits (seg l c.1 c.2).length r
    rw [p.length_eq]
    exact fun d hd => h d (List.mem_cons_of_mem _ hd)
theorem runM_len {cs : List Cmd} {l : List Int} (h : Fits l.length cs) : (runM l cs).length = l.length := (runM_perm cs l h).length_eq
theorem runM_snoc (l : List Int) (cs : List Cmd) (c : Cmd) : runM l (cs ++ [c]) = step (runM l cs) c := by unfold runM; rw [List.foldl_append]; rfl
theorem runM_app (l : List Int) (cs ds : List Cmd) : runM l (cs ++ ds) = runM (runM l cs) ds := List.foldl_append ..
theorem Fits.take {n k : Nat} {cs : List Cmd} (h : Fits n cs) : Fits n (cs.take k) := fun c hc => h c (List.mem_of_mem_take hc)
theorem Fits.drop {n k : Nat} {cs : List Cmd} (h : Fits n cs) : Fits n (cs.drop k) := fun c hc => h c (List.mem_of_mem_drop hc)
end My
namespace My
open PySem PySem.Spec PyProof.Rows L2 TL
/-! ### texts of scripts -/
def num (n : Nat) : Str := Str.ofString (toString ((n : Nat) : Int))
def cmdS (c : Cmd) : Str := if c.1 = c.2 then num c.1 else num c.1 ++ "-" ++ num c.2
def grpS (g : Cmd × Nat) : Str := if g.2 = 1 then cmdS g.1 else cmdS g.1 ++ "*" ++ num g.2
/-- equal neighbours together -/
def grpA (gs : List (Cmd × Nat)) (c : Cmd) : List (Cmd × Nat) := match gs.getLast? with
  | some (d, k) => if d = c then gs.dropLast ++ [(d, k + 1)] else gs ++ [(c, 1)]
  | none => [(c, 1)]
def grpM (cs : List Cmd) : List (Cmd × Nat) := cs.foldl grpA []
def showM (cs : List Cmd) : Str := if cs = [] then "none" else Txt.join " " ((grpM cs).map grpS)
theorem grpA_snoc (gs : List (Cmd × Nat)) (d : Cmd) (k : Nat) (c : Cmd) : grpA (gs ++ [(d, k)]) c = if d = c then gs ++ [(d, k + 1)] else gs ++ [(d, k), (c, 1)] := by
  unfold grpA
  rw [List.getLast?_append]
  simp
theorem grpM_snoc (cs : List Cmd) (c : Cmd) : grpM (cs ++ [c]) = grpA (grpM cs) c := by unfold grpM; rw [List.foldl_append]; rfl
theorem grpA_len (gs : List (Cmd × Nat)) (c : Cmd) : (grpA gs c).length ≤ gs.length + 1 := by
  rcases List.eq_nil_or_concat gs with e | ⟨l, ⟨d, k⟩, e⟩
  · subst e; exact Nat.le_refl _
  · rw [List.concat_eq_append] at e
    subst e
    rw [grpA_snoc]
    split <;> simp
theorem grpM_len : ∀ cs : List Cmd, (grpM cs).length ≤ cs.length := by
  intro cs
  have : ∀ (cs : List Cmd) (gs : List (Cmd × Nat)), (cs.foldl grpA gs).length ≤ gs.length + cs.length := fun cs => by
    induction cs with
    | nil => exact fun gs => Nat.le_refl _
    | cons c r ih =>
      intro gs
      rw [List.foldl_cons]
      have := ih (grpA gs c)
      have := grpA_len gs c
      rw [List.length_cons]; omega
  have := this cs []
  simpa [grpM] using this
theorem grpA_ne (gs : List (Cmd × Nat)) (c : Cmd) : grpA gs c ≠ [] := by
  rcases List.eq_nil_or_concat gs with e | ⟨l, ⟨d, k⟩, e⟩
  · subst e; exact fun z => nomatch z
  · rw [List.concat_eq_append] at e
    subst e
    rw [grpA_snoc]
    split <;> simp
theorem grpM_ne {cs : List Cmd} (h : cs ≠ []) : grpM cs ≠ [] := by
  rcases List.eq_nil_or_concat cs with e | ⟨l, c, e⟩
  · exact absurd e h
  · rw [List.concat_eq_append] at e
    subst e
    rw [grpM_snoc]; exact grpA_ne _ _
theorem num_len {n k : Nat} (hk : 0 < k) (h : n < 10 ^ k) : (num n).length ≤ k := by
  unfold num
  rw [len_tl, tl_num]
  exact numL_len hk h
theorem num_log {n : Nat} (h : n < 10 ^ 60) : ((n : Nat) : Int).natAbs.log2 < 1920 := by
  rw [Int.natAbs_natCast]
  by_cases hz : n = 0
  · subst hz; decide
  · rw [Nat.log2_lt hz]
    exact Nat.lt_of_lt_of_le h (by decide)
theorem str_len_app (a b : Str) : (a ++ b).length = a.length + b.length := by rw [len_tl, tl_append, List.length_append, ← len_tl, ← len_tl]
theorem cmdS_len {c : Cmd} (h1 : c.1 < 10 ^ 60) (h2 : c.2 < 10 ^ 60) : (cmdS c).length ≤ 121 := by
  unfold cmdS
  have a := num_len (by decide) h1
  have b := num_len (by decide) h2
  split
  · omega
  · rw [str_len_app, str_len_app]
    have : ("-" : Str).length = 1 := by decide
    omega
theorem grpS_len {g : Cmd × Nat} (h1 : g.1.1 < 10 ^ 60) (h2 : g.1.2 < 10 ^ 60) (h3 : g.2 < 10 ^ 60) : (grpS g).length ≤ 182 := by
  unfold grpS
  have a := cmdS_len h1 h2
  have b := num_len (by decide) h3
  split
  · omega
  · rw [str_len_app, str_len_app]
    have : ("*" : Str).length = 1 := by decide
    omega
theorem grpA_in {gs : List (Cmd × Nat)} {c : Cmd} {n : Nat} {P : Cmd → Prop} (h : ∀ x ∈ gs, P x.1 ∧ x.2 ≤ n) (hc : P c) : ∀ x ∈ grpA gs c, P x.1 ∧ x.2 ≤ n + 1 := by
  rcases List.eq_nil_or_concat gs with e | ⟨l, ⟨d, k⟩, e⟩
  · subst e
    intro x hx
    have : x = (c, 1) := List.mem_singleton.mp hx
    subst this
    exact ⟨hc, by omega⟩
  · rw [List.concat_eq_append] at e
    subst e
    rw [grpA_snoc]
    split
    · intro x hx
      rcases List.mem_append.mp hx with z | z
      · have := h x (List.mem_append_left _ z); exact ⟨this.1, by omega⟩
      · rw [List.mem_singleton.mp z]
        have := h (d, k) (List.mem_append_right _ (List.mem_singleton.mpr rfl))
        exact ⟨this.1, by have := this.2; simp at this ⊢; omega⟩
    · intro x hx
      rcases List.mem_append.mp hx with z | z
      · have := h x (List.mem_append_left _ z); exact ⟨this.1, by omega⟩
      · rcases List.mem_cons.mp z with e | e
        · rw [e]
          have := h (d, k) (List.mem_append_right _ (List.mem_singleton.mpr rfl))
          exact ⟨this.1, by have := this.2; simp at this ⊢; omega⟩
        · rw [List.mem_singleton.mp e]; exact ⟨hc, by simp⟩
theorem grpM_in (cs : List Cmd) : ∀ x ∈ grpM cs, x.1 ∈ cs ∧ x.2 ≤ cs.length := by
  have : ∀ (ds : List Cmd) (gs : List (Cmd × Nat)) (n : Nat), (∀ x ∈ gs, x.1 ∈ cs ∧ x.2 ≤ n) → (∀ c ∈ ds, c ∈ cs) → ∀ x ∈ ds.foldl grpA gs, x.1 ∈ cs ∧ x.2 ≤ n + ds.length := fun ds => by
    induction ds with
    | nil => exact fun gs n h _ => h
    | cons c r ih =>
      intro gs n h hc x hx
      have := ih (grpA gs c) (n + 1) (grpA_in (P := fun c => c ∈ cs) h (hc c List.mem_cons_self)) (fun d hd => hc d (List.mem_cons_of_mem _ hd)) x hx
      exact ⟨this.1, by rw [List.length_cons]; omega⟩
  have := this cs [] 0 (fun x hx => nomatch hx) fun _ h => h
  simpa [grpM] using this
theorem joinL_len (S : List Nat) : ∀ ps : List (List Nat), (joinL S ps).length ≤ (ps.map (·.length)).sum + ps.length * S.length
  | [] => by unfold joinL; simp
  | [p] => by unfold joinL; simp
  | p :: q :: r => by
    have := joinL_len S (q :: r)
    unfold joinL
    simp only [List.length_append, List.map_cons, List.sum_cons, List.length_cons, Nat.succ_mul] at this ⊢
    omega
theorem show_len {cs : List Cmd} (hl : cs.length ≤ 10000) (hb : ∀ c ∈ cs, c.1 < 10 ^ 60 ∧ c.2 < 10 ^ 60) : (showM cs).length ≤ 1840000 := by
  unfold showM
  split
  · decide
  · rw [len_tl, join_eq, tl_join]
    have h1 := joinL_len (tl " ") (((grpM cs).map grpS).map tl)
    have hs : ∀ l : List (Cmd × Nat), (∀ x ∈ l, x ∈ grpM cs) → (((l.map grpS).map tl).map (·.length)).sum ≤ 182 * l.length := fun l => by
      induction l with
      | nil => exact fun _ => Nat.le_refl _
      | cons x r ih =>
        intro h
        have := ih fun y hy => h y (List.mem_cons_of_mem _ hy)
        have hx := grpM_in cs x (h x List.mem_cons_self)
        have hbb := hb _ hx.1
        have := grpS_len hbb.1 hbb.2 (show x.2 < 10 ^ 60 from Nat.lt_of_le_of_lt hx.2 (Nat.lt_of_le_of_lt hl (by decide)))
        rw [len_tl] at this
        rw [List.map_cons, List.map_cons, List.map_cons, List.sum_cons, List.length_cons]
        omega
    have h2 := hs (grpM cs) fun _ h => h
    have h3 := grpM_len cs
    have e1 : (tl " ").length = 1 := by decide
    rw [e1, List.length_map, List.length_map] at h1
    omega
/-- the commands of groups -/
def expG (gs : List (Cmd × Nat)) : List Cmd := gs.flatMap fun g => List.replicate g.2 g.1
theorem expG_app (a b : List (Cmd × Nat)) : expG (a ++ b) = expG a ++ expG b := List.flatMap_append
theorem expG_one (c : Cmd) (k : Nat) : expG [(c, k)] = List.replicate k c := by unfold expG; simp
theorem expG_A (gs : List (Cmd × Nat)) (c : Cmd) : expG (grpA gs c) = expG gs ++ [c] := by
  rcases List.eq_nil_or_concat gs with e | ⟨l, ⟨d, k⟩, e⟩
  · subst e; rfl
  · rw [List.concat_eq_append] at e
    subst e
    rw [grpA_snoc]
    split
    · rename_i h
      subst h
      rw [expG_app, expG_app, expG_one, expG_one, List.append_assoc, List.replicate_succ']
    · rw [show l ++ [(d, k), (c, 1)] = (l ++ [(d, k)]) ++ [(c, 1)] by simp, expG_app, expG_one]; rfl
theorem exp_grp (cs : List Cmd) : expG (grpM cs) = cs := by
  have : ∀ (ds : List Cmd) (gs : List (Cmd × Nat)), expG (ds.foldl grpA gs) = expG gs ++ ds := fun ds => by
    induction ds with
    | nil => intro gs; simp
    | cons c r ih => intro gs; rw [List.foldl_cons, ih, expG_A, List.append_assoc]; rfl
  exact this cs []
theorem grpM_pos (cs : List Cmd) : ∀ x ∈ grpM cs, 1 ≤ x.2 := by
  have one : ∀ (gs : List (Cmd × Nat)) (c : Cmd), (∀ x ∈ gs, 1 ≤ x.2) → ∀ x ∈ grpA gs c, 1 ≤ x.2 := fun gs c h => by
    rcases List.eq_nil_or_concat gs with e | ⟨l, ⟨d, k⟩, e⟩
    · subst e; intro x hx
      have : x = (c, 1) := List.mem_singleton.mp hx
      subst this; exact Nat.le_refl _
    · rw [List.concat_eq_append] at e
      subst e
      rw [grpA_snoc]
      split
      · intro x hx
        rcases List.mem_append.mp hx with z | z
        · exact h x (List.mem_append_left _ z)
        · rw [List.mem_singleton.mp z]; exact Nat.succ_pos _
      · intro x hx
        rcases List.mem_append.mp hx with z | z
        · exact h x (List.mem_append_left _ z)
        · rcases List.mem_cons.mp z with e | e
          · rw [e]; exact h (d, k) (List.mem_append_right _ (List.mem_singleton.mpr rfl))
          · rw [List.mem_singleton.mp e]; exact Nat.le_refl _
  have : ∀ (ds : List Cmd) (gs : List (Cmd × Nat)), (∀ x ∈ gs, 1 ≤ x.2) → ∀ x ∈ ds.foldl grpA gs, 1 ≤ x.2 := fun ds => by
    induction ds with
    | nil => exact fun gs h => h
    | cons c r ih => exact fun gs h => ih _ (one gs c h)
  exact this cs [] fun x hx => nomatch hx
theorem expG_take_le {gs : List (Cmd × Nat)} {i : Nat} (hi : i < gs.length) : (expG (gs.take i)).length + gs[i].2 ≤ (expG gs).length := by
  have e : expG gs = expG (gs.take i) ++ (List.replicate gs[i].2 gs[i].1 ++ expG (gs.drop (i + 1))) := by
    conv => lhs; rw [← List.take_append_drop i gs, expG_app, List.drop_eq_getElem_cons hi]
    rw [show gs[i] :: gs.drop (i + 1) = [gs[i]] ++ gs.drop (i + 1) from rfl, expG_app, expG_one]
  rw [e, List.length_append, List.length_append, List.length_replicate]
  omega
end My
namespace My
open PySem PySem.Spec PyProof.Rows L2 TL
/-! ### reading -/
theorem dig_ascii : ∀ c, c < 128 → Unicode.isDigit c = decide (48 ≤ c ∧ c ≤ 57) := by decide +kernel
/-- a word of digits, few enough -/
def digW (w : Str) : Bool := Txt.isascii w && Txt.isdigit w && decide (w.length ≤ 40)
def numR (w : Str) : Nat := if digW w = true then NumText.digitsVal (tl w) else 0
theorem asc_tl {w : Str} : Txt.isascii w = (tl w).all (· < 128) := by unfold Txt.isascii tl; rw [← Array.all_toList]
theorem dig_tl {w : Str} : Txt.isdigit w = (decide ((tl w).length > 0) && (tl w).all Unicode.isDigit) := by unfold Txt.isdigit; rw [len_tl]; unfold tl; rw [← Array.all_toList]
theorem digW_all {w : Str} (h1 : Txt.isascii w = true) (h2 : Txt.isdigit w = true) : NumText.AllDigits (tl w) ∧ tl w ≠ [] := by
  rw [asc_tl, List.all_eq_true] at h1
  rw [dig_tl, Bool.and_eq_true, List.all_eq_true] at h2
  refine ⟨fun c hc => ?_, fun e => ?_⟩
  · have a := h1 c hc
    have b := h2.2 c hc
    rw [decide_eq_true_eq] at a
    rw [dig_ascii c a] at b
    exact of_decide_eq_true b
  · have := h2.1
    rw [e] at this
    simp at this
theorem tl_num' (n : Nat) : tl (num n) = numL n := tl_num n
theorem digW_num {n : Nat} (h : n < 10 ^ 40) : Txt.isascii (num n) = true ∧ Txt.isdigit (num n) = true ∧ (num n).length ≤ 40 := by
  have hd := numL_digits n
  refine ⟨?_, ?_, num_len (by decide) h⟩
  · rw [asc_tl, List.all_eq_true]
    intro c hc
    rw [tl_num'] at hc
    have := hd c hc
    rw [decide_eq_true_eq]; omega
  · rw [dig_tl, Bool.and_eq_true, List.all_eq_true]
    refine ⟨?_, fun c hc => ?_⟩
    · rw [decide_eq_true_eq, tl_num']
      exact List.length_pos_iff.mpr (numL_ne n)
    · rw [tl_num'] at hc
      have := hd c hc
      rw [dig_ascii c (by omega)]
      exact decide_eq_true this
theorem numR_num {n : Nat} (h : n < 10 ^ 40) : numR (num n) = n := by
  obtain ⟨a, b, c⟩ := digW_num h
  unfold numR digW
  rw [a, b, decide_eq_true c, if_pos (by decide), tl_num']
  exact numL_val n
theorem num_free {n s : Nat} (h : s < 48 ∨ 57 < s) : s ∉ tl (num n) := by rw [tl_num']; exact numL_free h
theorem tl_dash : tl "-" = [45] := by decide
theorem tl_star : tl "*" = [42] := by decide
theorem tl_space : tl " " = [32] := by decide
theorem cmdS_free {c : Cmd} {s : Nat} (h : s < 45 ∨ s = 46 ∨ s = 47 ∨ 57 < s) : s ∉ tl (cmdS c) := by
  unfold cmdS
  split
  · exact num_free (by omega)
  · rw [tl_append, tl_append, tl_dash]
    intro hm
    rcases List.mem_append.mp hm with z | z
    · rcases List.mem_append.mp z with y | y
      · exact num_free (by omega) y
      · rw [List.mem_singleton] at y; omega
    · exact num_free (by omega) z
theorem grpS_free {g : Cmd × Nat} {s : Nat} (h : s < 42 ∨ s = 43 ∨ s = 44 ∨ s = 46 ∨ s = 47 ∨ 57 < s) : s ∉ tl (grpS g) := by
  unfold grpS
  split
  · exact cmdS_free (by omega)
  · rw [tl_append, tl_append, tl_star]
    intro hm
    rcases List.mem_append.mp hm with z | z
    · rcases List.mem_append.mp z with y | y
      · exact cmdS_free (by omega) y
      · rw [List.mem_singleton] at y; omega
    · exact num_free (by omega) z
theorem part_star {g : Cmd × Nat} : Txt.partition (grpS g) "*" = if g.2 = 1 then (cmdS g.1, Str.empty, Str.empty) else (cmdS g.1, "*", num g.2) := by
  unfold grpS
  by_cases h : g.2 = 1
  · rw [if_pos h, if_pos h]
    exact partition_none tl_star (cmdS_free (by omega))
  · rw [if_neg h, if_neg h]
    exact partition_app tl_star (cmdS_free (by omega))
theorem part_dash {c : Cmd} : Txt.partition (cmdS c) "-" = if c.1 = c.2 then (num c.1, Str.empty, Str.empty) else (num c.1, "-", num c.2) := by
  unfold cmdS
  by_cases h : c.1 = c.2
  · rw [if_pos h, if_pos h]
    exact partition_none tl_dash (num_free (by omega))
  · rw [if_neg h, if_neg h]
    exact partition_app tl_dash (num_free (by omega))
theorem split_show {cs : List Cmd} (h : cs ≠ []) : Txt.split (showM cs) " " = (grpM cs).map grpS := by
  unfold showM
  rw [if_neg h]
  refine split_join tl_space (by decide +kernel) ?_ fun p hp => ?_
  · exact fun e => grpM_ne h (List.map_eq_nil_iff.mp e)
  · obtain ⟨g, _, rfl⟩ := List.mem_map.mp hp
    exact grpS_free (by omega)
theorem joinL_free {s : Nat} {S : List Nat} : ∀ {ps : List (List Nat)}, s ∉ S → (∀ p ∈ ps, s ∉ p) → s ∉ joinL S ps
  | [], _, _ => by unfold joinL; simp
  | [p], _, h => by unfold joinL; exact h p List.mem_cons_self
  | p :: q :: r, hS, h => by
    unfold joinL
    intro hm
    have := joinL_free (ps := q :: r) hS fun x hx => h x (List.mem_cons_of_mem _ hx)
    simp only [List.mem_append] at hm
    rcases hm with z | z | z
    · exact h p List.mem_cons_self z
    · exact hS z
    · exact this z
theorem show_none {cs : List Cmd} (h : cs ≠ []) : showM cs ≠ "none" := by
  intro e
  have h1 : (110 : Nat) ∉ tl (showM cs) := by
    unfold showM
    rw [if_neg h, join_eq, tl_join, tl_space]
    refine joinL_free (by decide) fun p hp => ?_
    obtain ⟨x, hx, rfl⟩ := List.mem_map.mp hp
    obtain ⟨g, _, rfl⟩ := List.mem_map.mp hx
    exact grpS_free (by omega)
  rw [e] at h1
  exact h1 (by decide)
end My
namespace My
open PySem PySem.Spec PyProof.Rows L2 TL
/-! ### runs of equal commands -/
theorem grpA_fix (gs : List (Cmd × Nat)) (c : Cmd) : ∃ k init, grpA gs c = init ++ [(c, k)] := by
  rcases List.eq_nil_or_concat gs with e | ⟨l, ⟨d, k⟩, e⟩
  · subst e; exact ⟨1, [], rfl⟩
  · rw [List.concat_eq_append] at e
    subst e
    rw [grpA_snoc]
    split
    · rename_i h
      subst h
      exact ⟨k + 1, l, rfl⟩
    · exact ⟨1, l ++ [(d, k)], by simp⟩
/-- a run behind what ends otherwise is a group of its own -/
theorem grp_run {l : List Cmd} {c : Cmd} (h : ∀ l' d, l = l' ++ [d] → d ≠ c) : ∀ k, grpM (l ++ List.replicate (k + 1) c) = grpM l ++ [(c, k + 1)]
  | 0 => by
    show grpM (l ++ [c]) = _
    rw [grpM_snoc]
    rcases List.eq_nil_or_concat l with e | ⟨l', d, e⟩
    · subst e; rfl
    · rw [List.concat_eq_append] at e
      have hd := h l' d e
      subst e
      rw [grpM_snoc]
      obtain ⟨k, init, e2⟩ := grpA_fix (grpM l') d
      rw [e2, grpA_snoc, if_neg hd, List.append_assoc]
      rfl
  | k + 1 => by
    rw [List.replicate_succ' (n := k + 1), ← List.append_assoc, grpM_snoc, grp_run h k, grpA_snoc, if_pos rfl]
/-- a spot where a run begins -/
def Bd (cs : List Cmd) (s : Nat) : Prop := s ≤ cs.length ∧ ∀ x y : Cmd, 0 < s → cs[s - 1]? = some x → cs[s]? = some y → x ≠ y
theorem grp_step {cs : List Cmd} {s m : Nat} {c : Cmd} (hb : Bd cs s) (hm : 1 ≤ m) (hl : s + m ≤ cs.length) (hc : ∀ j, j < m → cs[s + j]? = some c) : grpM (cs.take (s + m)) = grpM (cs.take s) ++ [(c, m)] := by
  have e : cs.take (s + m) = cs.take s ++ List.replicate m c := by
    apply List.ext_getElem?
    intro i
    by_cases h1 : i < s
    · rw [List.getElem?_append_left (by rw [List.length_take]; omega), List.getElem?_take, List.getElem?_take, if_pos (by omega), if_pos h1]
    · rw [List.getElem?_append_right (by rw [List.length_take]; omega), List.length_take, Nat.min_eq_left hb.1, List.getElem?_take, List.getElem?_replicate]
      by_cases h2 : i < s + m
      · rw [if_pos h2, if_pos (by omega)]
        have := hc (i - s) (by omega)
        rwa [show s + (i - s) = i by omega] at this
      · rw [if_neg h2, if_neg (by omega)]
  obtain ⟨k, rfl⟩ : ∃ k, m = k + 1 := ⟨m - 1, by omega⟩
  rw [e]
  refine grp_run (fun l' d ed => ?_) k
  have hs : l'.length + 1 = s := by
    have := congrArg List.length ed
    rw [List.length_take, List.length_append] at this
    simp at this
    omega
  have h1 : cs[s - 1]? = some d := by
    have h2 : (cs.take s)[s - 1]? = some d := by rw [ed, show s - 1 = l'.length by omega]; simp
    rw [List.getElem?_take, if_pos (by omega)] at h2
    exact h2
  have h3 := hc 0 (by omega)
  exact hb.2 d c (by omega) h1 h3
theorem bd_next {cs : List Cmd} {s m : Nat} {c : Cmd} (hm : 1 ≤ m) (hl : s + m ≤ cs.length) (hc : ∀ j, j < m → cs[s + j]? = some c) (he : ∀ y, cs[s + m]? = some y → y ≠ c) : Bd cs (s + m) := by
  refine ⟨hl, fun x y _ hx hy => ?_⟩
  have := hc (m - 1) (by omega)
  rw [show s + (m - 1) = s + m - 1 by omega] at this
  rw [this] at hx
  cases hx
  exact fun e => he y hy e.symm
theorem show_words {cs : List Cmd} {W : List Str} (h : W = (grpM cs).map grpS) : (if W = [] then ("none" : Str) else Txt.join " " W) = showM cs := by
  unfold showM
  subst h
  by_cases e : cs = []
  · subst e; rfl
  · rw [if_neg e, if_neg fun z => grpM_ne e (List.map_eq_nil_iff.mp z)]
theorem words_len (cs : List Cmd) (hb : ∀ c ∈ cs, c.1 < 10 ^ 60 ∧ c.2 < 10 ^ 60) (hl : cs.length ≤ 10000) : (((grpM cs).map grpS).map (·.length)).sum ≤ 182 * cs.length := by
  have hs : ∀ l : List (Cmd × Nat), (∀ x ∈ l, x ∈ grpM cs) → ((l.map grpS).map (·.length)).sum ≤ 182 * l.length := fun l => by
    induction l with
    | nil => exact fun _ => Nat.le_refl _
    | cons x r ih =>
      intro h
      have := ih fun y hy => h y (List.mem_cons_of_mem _ hy)
      have hx := grpM_in cs x (h x List.mem_cons_self)
      have hbb := hb _ hx.1
      have := grpS_len hbb.1 hbb.2 (show x.2 < 10 ^ 60 from Nat.lt_of_le_of_lt hx.2 (Nat.lt_of_le_of_lt hl (by decide)))
      rw [List.map_cons, List.map_cons, List.sum_cons, List.length_cons]
      omega
  exact Nat.le_trans (hs _ fun _ h => h) (Nat.mul_le_mul_left _ (grpM_len cs))
theorem show_len2 {cs : List Cmd} (hl : cs.length ≤ 10000) (hb : ∀ c ∈ cs, c.1 < 10 ^ 60 ∧ c.2 < 10 ^ 60) : (showM cs).length ≤ 183 * cs.length + 4 := by
  unfold showM
  split
  · exact Nat.le_add_left _ _
  · rw [len_tl, join_eq, tl_join]
    have h1 := joinL_len (tl " ") (((grpM cs).map grpS).map tl)
    have h2 := words_len cs hb hl
    have e2 : (((grpM cs).map grpS).map tl).map (·.length) = ((grpM cs).map grpS).map (·.length) := by
      rw [List.map_map]
      exact List.map_congr_left fun x _ => (len_tl x).symm
    rw [e2] at h1
    have h3 := grpM_len cs
    have e1 : (tl " ").length = 1 := by decide
    rw [e1, List.length_map, List.length_map] at h1
    omega
theorem tl_show {cs : List Cmd} (h : cs ≠ []) : ∀ c ∈ tl (showM cs), c < 128 := by
  unfold showM
  rw [if_neg h, join_eq, tl_join]
  have hj : ∀ ps : List (List Nat), (∀ p ∈ ps, ∀ c ∈ p, c < 128) → ∀ c ∈ joinL (tl " ") ps, c < 128 := fun ps => by
    induction ps with
    | nil => exact fun _ c hc => by unfold joinL at hc; cases hc
    | cons p r ih =>
      intro hp c hc
      cases r with
      | nil => unfold joinL at hc; exact hp p List.mem_cons_self c hc
      | cons q t =>
        unfold joinL at hc
        simp only [List.mem_append] at hc
        rcases hc with z | z | z
        · exact hp p List.mem_cons_self c z
        · rw [tl_space, List.mem_singleton] at z; omega
        · exact ih (fun x hx => hp x (List.mem_cons_of_mem _ hx)) c z
  refine hj _ fun p hp c hc => ?_
  obtain ⟨w, hw, rfl⟩ := List.mem_map.mp hp
  obtain ⟨g, _, rfl⟩ := List.mem_map.mp hw
  rcases Nat.lt_or_ge c 128 with z | z
  · exact z
  · exact absurd hc (grpS_free (by omega))
theorem ok_show (cs : List Cmd) : PyData.strOk (showM cs) = true := by
  by_cases h : cs = []
  · subst h
    show PyData.strOk "none" = true
    unfold PyData.strOk
    rw [← Array.all_toList]
    decide
  · unfold PyData.strOk
    rw [← Array.all_toList, List.all_eq_true]
    intro c hc
    have := tl_show h c hc
    rw [decide_eq_true_eq]; omega
theorem ok_grp (g : Cmd × Nat) : PyData.strOk (grpS g) = true := by
  unfold PyData.strOk
  rw [← Array.all_toList, List.all_eq_true]
  intro c hc
  rw [decide_eq_true_eq]
  rcases Nat.lt_or_ge c 128 with z | z
  · omega
  · exact absurd hc (grpS_free (by omega))
theorem free_of_signs (x : Str) (h : PyData.strOk x = true) : ∀ c ∈ x.cps.toList, c < 16 ^ 8 := by
  unfold PyData.strOk at h
  rw [← Array.all_toList, List.all_eq_true] at h
  intro c hc
  have := h c hc
  rw [decide_eq_true_eq] at this
  omega
theorem repr_show {cs : List Cmd} : (reprText (showM cs)).length ≤ 10 * (showM cs).length + 2 := StrLaws.reprText_len _ (free_of_signs _ (ok_show cs))
/-! ### groups with commands of their own -/
def Dst (gs : List (Cmd × Nat)) : Prop := ∀ (i j : Nat) (x y : Cmd × Nat), i < j → gs[i]? = some x → gs[j]? = some y → x.1 ≠ y.1
theorem grp_exp : ∀ (n : Nat) (gs : List (Cmd × Nat)), gs.length = n → Dst gs → (∀ g ∈ gs, 1 ≤ g.2) → grpM (expG gs) = gs
  | 0, gs, h, _, _ => by rw [List.eq_nil_of_length_eq_zero h]; rfl
  | n + 1, gs, h, hd, hp => by
    rcases List.eq_nil_or_concat gs with e | ⟨l, ⟨c, k⟩, e⟩
    · rw [e] at h; cases h
    · rw [List.concat_eq_append] at e
      subst e
      have hl : l.length = n := by rw [List.length_append] at h; simpa using h
      have ih := grp_exp n l hl (fun i j x y hij hx hy => by
        have h1 := (List.getElem?_eq_some_iff.mp hx).1
        have h2 := (List.getElem?_eq_some_iff.mp hy).1
        exact hd i j x y hij (by rw [List.getElem?_append_left h1]; exact hx) (by rw [List.getElem?_append_left h2]; exact hy)) fun g hg => hp g (List.mem_append_left _ hg)
      have hk : 1 ≤ k := hp (c, k) (List.mem_append_right _ (List.mem_singleton.mpr rfl))
      obtain ⟨m, rfl⟩ : ∃ m, k = m + 1 := ⟨k - 1, by omega⟩
      rw [expG_app, expG_one, grp_run (fun l' d ed => ?_) m, ih]
      have hdm : d ∈ expG l := by rw [ed]; exact List.mem_append_right _ (List.mem_singleton.mpr rfl)
      unfold expG at hdm
      obtain ⟨g, hg, hdg⟩ := List.mem_flatMap.mp hdm
      have hdg2 := List.eq_of_mem_replicate hdg
      obtain ⟨i, hi⟩ := List.getElem?_of_mem hg
      have hil := (List.getElem?_eq_some_iff.mp hi).1
      have := hd i l.length g (c, m + 1) hil (by rw [List.getElem?_append_left hil]; exact hi) (by simp)
      rw [hdg2]
      exact this
theorem expG_len {k : Nat} : ∀ gs : List (Cmd × Nat), (∀ g ∈ gs, g.2 ≤ k) → (expG gs).length ≤ k * gs.length
  | [], _ => Nat.zero_le _
  | g :: r, h => by
    have := expG_len r fun x hx => h x (List.mem_cons_of_mem _ hx)
    rw [show g :: r = [(g.1, g.2)] ++ r from rfl, expG_app, expG_one, List.length_append, List.length_replicate, List.length_append]
    have := h g List.mem_cons_self
    simp only [List.length_singleton, Nat.mul_add, Nat.mul_one]
    omega
theorem expG_in {gs : List (Cmd × Nat)} {c : Cmd} (h : c ∈ expG gs) : ∃ g ∈ gs, g.1 = c := by
  unfold expG at h
  obtain ⟨g, hg, hc⟩ := List.mem_flatMap.mp h
  exact ⟨g, hg, (List.eq_of_mem_replicate hc).symm⟩
theorem show_exp {gs : List (Cmd × Nat)} (hd : Dst gs) (hp : ∀ g ∈ gs, 1 ≤ g.2) (hn : gs ≠ []) : Txt.join " " (gs.map grpS) = showM (expG gs) := by
  have e := grp_exp _ gs rfl hd hp
  have hne : expG gs ≠ [] := fun z => by rw [z] at e; exact hn e.symm
  unfold showM
  rw [if_neg hne, e]
/-- ten words and a great one -/
def Ten (gs : List (Cmd × Nat)) : Prop := ∀ (i : Nat) (g : Cmd × Nat), gs[i]? = some g → g.1 = (i + 1, i + 1) ∧ 2 ≤ g.2 ∧ g.2 ≤ 100
def big : Cmd := (10 ^ 40 - 2, 10 ^ 40 - 1)
theorem Ten.snoc {gs : List (Cmd × Nat)} {k : Nat} (h : Ten gs) (h2 : 2 ≤ k) (h3 : k ≤ 100) : Ten (gs ++ [((gs.length + 1, gs.length + 1), k)]) := fun i g hg => by
  by_cases hi : i < gs.length
  · rw [List.getElem?_append_left hi] at hg; exact h i g hg
  · have hl := (List.getElem?_eq_some_iff.mp hg).1
    rw [List.length_append] at hl
    have : i = gs.length := by simp at hl; omega
    subst this
    rw [List.getElem?_append_right (Nat.le_refl _), Nat.sub_self] at hg
    cases hg
    exact ⟨rfl, h2, h3⟩
theorem Ten.dst {gs : List (Cmd × Nat)} (h : Ten gs) (hl : gs.length ≤ 10) : Dst (gs ++ [(big, 1)]) := fun i j x y hij hx hy => by
  have hjl := (List.getElem?_eq_some_iff.mp hy).1
  rw [List.length_append] at hjl
  have hil : i < gs.length := by simp at hjl; omega
  rw [List.getElem?_append_left hil] at hx
  have h1 := (h i x hx).1
  by_cases hj : j < gs.length
  · rw [List.getElem?_append_left hj] at hy
    have h2 := (h j y hy).1
    rw [h1, h2]
    intro e
    have := congrArg Prod.fst e
    simp at this
    omega
  · have : j = gs.length := by simp at hjl; omega
    subst this
    rw [List.getElem?_append_right (Nat.le_refl _), Nat.sub_self] at hy
    cases hy
    rw [h1]
    intro e
    have := congrArg Prod.fst e
    unfold big at this
    simp at this
    omega
theorem Ten.pos {gs : List (Cmd × Nat)} (h : Ten gs) : ∀ g ∈ gs ++ [(big, 1)], 1 ≤ g.2 ∧ g.2 ≤ 100 ∧ 1 ≤ g.1.1 ∧ g.1.1 ≤ g.1.2 ∧ (gs.length ≤ 10 → g.1.2 < 10 ^ 40) := fun g hg => by
  rcases List.mem_append.mp hg with z | z
  · obtain ⟨i, hi⟩ := List.getElem?_of_mem z
    have hil := (List.getElem?_eq_some_iff.mp hi).1
    obtain ⟨a, b, c⟩ := h i g hi
    rw [a]
    exact ⟨by omega, c, by simp, Nat.le_refl _, fun _ => by show i + 1 < _; omega⟩
  · rw [List.mem_singleton.mp z]
    exact ⟨by decide, by decide, by decide, by decide, fun _ => by decide⟩
theorem ten_word {j k : Nat} (h : 2 ≤ k) : num j ++ "*" ++ num k = grpS ((j, j), k) := by
  unfold grpS
  rw [if_neg (show ¬ k = 1 by omega)]
  unfold cmdS
  rw [if_pos rfl]
theorem big_word : num (10 ^ 40 - 2) ++ "-" ++ num (10 ^ 40 - 1) = grpS (big, 1) := by
  unfold grpS
  rw [if_pos rfl]
  unfold cmdS
  rw [if_neg (by decide)]
  rfl
theorem show_three : [showM [], showM [(1, 1), (1, 1), (1, 1)], showM [(1, 2), (1, 2)]] = [Str.ofString "none", Str.ofString "1*3", Str.ofString "1-2*2"] := by decide +kernel
end My
namespace L50
open PySem PySem.Spec PyProof.Rows L2 Xk
def topS (i : Nat) : Stmt := PySem.Challenge.pw_sortstretches_k50_texts_of_scripts_shown.main.body.getD i (.Pass ⟨0, 0, 0, 0⟩)
abbrev s_show_command : Stmt := topS 1
theorem sc_show_command : FnScope ["command", "first", "last"] ["command"] (defScope s_show_command) := ⟨rfl, rfl, rfl, by decide +kernel, rfl, by decide +kernel, by decide +kernel⟩
abbrev s_show_repeated : Stmt := topS 2
theorem sc_show_repeated : FnScope ["command", "many"] ["command", "many"] (defScope s_show_repeated) := ⟨rfl, rfl, rfl, by decide +kernel, rfl, by decide +kernel, by decide +kernel⟩
abbrev s_show_script : Stmt := topS 3
theorem sc_show_script : FnScope ["commands", "groups", "command", "many"] ["commands"] (defScope s_show_script) := ⟨rfl, rfl, rfl, by decide +kernel, rfl, by decide +kernel, by decide +kernel⟩
abbrev s_read_number : Stmt := topS 9
theorem sc_read_number : FnScope ["word"] ["word"] (defScope s_read_number) := ⟨rfl, rfl, rfl, by decide +kernel, rfl, by decide +kernel, by decide +kernel⟩
abbrev s_read_word : Stmt := topS 10
theorem sc_read_word : FnScope ["word", "shown", "star", "times", "start", "dash", "end", "first", "last", "many"] ["word"] (defScope s_read_word) := ⟨rfl, rfl, rfl, by decide +kernel, rfl, by decide +kernel, by decide +kernel⟩
abbrev s_read_script : Stmt := topS 11
theorem sc_read_script : FnScope ["text", "commands", "word", "found"] ["text"] (defScope s_read_script) := ⟨rfl, rfl, rfl, by decide +kernel, rfl, by decide +kernel, by decide +kernel⟩
abbrev s_law_rng : Stmt := topS 13
theorem sc_law_rng : FnScope ["script", "digits", "seed", "cell", "far"] ["script"] (defScope s_law_rng) := ⟨rfl, rfl, rfl, by decide +kernel, rfl, by decide +kernel, by decide +kernel⟩
abbrev s_law_draw : Stmt := topS 14
theorem sc_law_draw : FnScope ["rng", "limit", "found", "mixed"] ["rng", "limit"] (defScope s_law_draw) := ⟨rfl, rfl, rfl, by decide +kernel, rfl, by decide +kernel, by decide +kernel⟩
abbrev s_law_commands : Stmt := topS 15
theorem sc_law_commands : FnScope ["rng", "wide", "most", "found", "turn", "early", "late", "again"] ["rng", "wide", "most"] (defScope s_law_commands) := ⟨rfl, rfl, rfl, by decide +kernel, rfl, by decide +kernel, by decide +kernel⟩
abbrev s_law_words : Stmt := topS 16
theorem sc_law_words : FnScope ["some", "words", "spot", "many", "early", "late", "word"] ["some"] (defScope s_law_words) := ⟨rfl, rfl, rfl, by decide +kernel, rfl, by decide +kernel, by decide +kernel⟩
abbrev s_law_great : Stmt := topS 17
theorem sc_law_great : FnScope ["rng", "most", "early"] ["rng", "most"] (defScope s_law_great) := ⟨rfl, rfl, rfl, by decide +kernel, rfl, by decide +kernel, by decide +kernel⟩
abbrev s_law_right : Stmt := topS 18
theorem sc_law_right : FnScope ["some", "kept", "due"] ["some"] (defScope s_law_right) := ⟨rfl, rfl, rfl, by decide +kernel, rfl, by decide +kernel, by decide +kernel⟩
abbrev s_law : Stmt := topS 19
theorem sc_law : FnScope ["script", "rng", "lap", "some", "other", "words", "line", "spot", "turn"] ["script"] (defScope s_law) := ⟨rfl, rfl, rfl, by decide +kernel, rfl, by decide +kernel, by decide +kernel⟩
structure Txt (K : PySem.W.Frag) (mg : Str → Option Value) where
  show_command_a : Addr
  show_command_d : FuncData
  show_command_F : Fun K "show_command" "show_command" s_show_command show_command_a show_command_d
  show_command_b : Binds K show_command_d ["command"] []
  show_command_g : mg "show_command" = some (.ref show_command_a)
  show_repeated_a : Addr
  show_repeated_d : FuncData
  show_repeated_F : Fun K "show_repeated" "show_repeated" s_show_repeated show_repeated_a show_repeated_d
  show_repeated_b : Binds K show_repeated_d ["command", "many"] []
  show_repeated_g : mg "show_repeated" = some (.ref show_repeated_a)
  show_script_a : Addr
  show_script_d : FuncData
  show_script_F : Fun K "show_script" "show_script" s_show_script show_script_a show_script_d
  show_script_b : Binds K show_script_d ["commands"] []
  show_script_g : mg "show_script" = some (.ref show_script_a)
  read_number_a : Addr
  read_number_d : FuncData
  read_number_F : Fun K "read_number" "read_number" s_read_number read_number_a read_number_d
  read_number_b : Binds K read_number_d ["word"] []
  read_number_g : mg "read_number" = some (.ref read_number_a)
  read_word_a : Addr
  read_word_d : FuncData
  read_word_F : Fun K "read_word" "read_word" s_read_word read_word_a read_word_d
  read_word_b : Binds K read_word_d ["word"] []
  read_word_g : mg "read_word" = some (.ref read_word_a)
  read_script_a : Addr
  read_script_d : FuncData
  read_script_F : Fun K "read_script" "read_script" s_read_script read_script_a read_script_d
  read_script_b : Binds K read_script_d ["text"] []
  read_script_g : mg "read_script" = some (.ref read_script_a)
  law_rng_a : Addr
  law_rng_d : FuncData
  law_rng_F : Fun K "_law_rng" "_law_rng" s_law_rng law_rng_a law_rng_d
  law_rng_b : Binds K law_rng_d ["script"] []
  law_rng_g : mg "_law_rng" = some (.ref law_rng_a)
  law_draw_a : Addr
  law_draw_d : FuncData
  law_draw_F : Fun K "_law_draw" "_law_draw" s_law_draw law_draw_a law_draw_d
  law_draw_b : Binds K law_draw_d ["rng", "limit"] []
  law_draw_g : mg "_law_draw" = some (.ref law_draw_a)
  law_commands_a : Addr
  law_commands_d : FuncData
  law_commands_F : Fun K "_law_commands" "_law_commands" s_law_commands law_commands_a law_commands_d
  law_commands_b : Binds K law_commands_d ["rng", "wide", "most"] []
  law_commands_g : mg "_law_commands" = some (.ref law_commands_a)
  law_words_a : Addr
  law_words_d : FuncData
  law_words_F : Fun K "_law_words" "_law_words" s_law_words law_words_a law_words_d
  law_words_b : Binds K law_words_d ["some"] []
  law_words_g : mg "_law_words" = some (.ref law_words_a)
  law_great_a : Addr
  law_great_d : FuncData
  law_great_F : Fun K "_law_great" "_law_great" s_law_great law_great_a law_great_d
  law_great_b : Binds K law_great_d ["rng", "most"] []
  law_great_g : mg "_law_great" = some (.ref law_great_a)
  law_right_a : Addr
  law_right_d : FuncData
  law_right_F : Fun K "_law_right" "_law_right" s_law_right law_right_a law_right_d
  law_right_b : Binds K law_right_d ["some"] []
  law_right_g : mg "_law_right" = some (.ref law_right_a)
  law_a : Addr
  law_d : FuncData
  law_F : Fun K "law" "law" s_law law_a law_d
  law_b : Binds K law_d ["script"] []
  law_g : mg "law" = some (.ref law_a)
  k_show_script_commands : KBinds K show_script_d ["commands"] ["commands"] (fun (us ws : List Value) => match us, ws with | [], [w0] => [w0] | _, _ => []) (fun (us ws : List V) => match us, ws with | [], [w0] => [w0] | _, _ => [])
  m_abs : mg "abs" = none
  m_int : mg "int" = none
  m_len : mg "len" = none
  m_min : mg "min" = none
  m_range : mg "range" = none
  m_repr : mg "repr" = none
  m_str : mg "str" = none
  LONGEST_t : Tok
  LONGEST_g : mg "LONGEST" = some (.int 40 LONGEST_t)
section
variable {P : Program} {w : World} {K : PySem.W.Frag} {mg : Str → Option Value} {base : Heap}
def asc (n : Nat) : List Int := (List.range n).map fun (i : Nat) => (1 + i : Int)
theorem asc_length (n : Nat) : (asc n).length = n := by simp [asc]
theorem asc_nodup (n : Nat) : (asc n).Nodup := by
  unfold asc
  rw [List.Nodup, List.pairwise_map]
  exact List.nodup_range.imp fun h q => h (by omega)
theorem rg_asc (n : Nat) : rgV 1 (n + 1) = (asc n).map V.int := by
  unfold rgV asc
  rw [show ((n : Int) + 1 - 1).toNat = n by omega, List.map_map]
  rfl
theorem asc_small {n : Nat} (hn : n ≤ 1000) {i : Int} (h : i ∈ asc n) : i.natAbs ≤ 10 ^ 30 := by
  unfold asc at h
  obtain ⟨k, hk, rfl⟩ := List.mem_map.mp h
  have := List.mem_range.mp hk
  have : (1 + (k : Int)).natAbs ≤ 1000 := by omega
  exact Nat.le_trans this (by decide)
def Rng (H : Hp) (r : Addr) (m : Nat) : Prop := ∃ a b c : Int, H r = some (.lst [.int a, .int b, .int c]) ∧ 0 ≤ a ∧ 0 ≤ b ∧ b < 2 ^ 61 ∧ 0 ≤ c ∧ c ≤ m
theorem grow {d : Int} {i : Nat} (hd : 0 ≤ d) (hb : d.natAbs < 2 ^ (200 * i + 200)) (f : Int) : (d * 10 ^ Int.toNat 60 + f % 10 ^ Int.toNat 60).natAbs < 2 ^ (200 * (i + 1) + 200) := by
  have h1 := Int.emod_nonneg f (show (10 : Int) ^ Int.toNat 60 ≠ 0 by decide)
  have h2 := Int.emod_lt_of_pos f (show (0 : Int) < 10 ^ Int.toNat 60 by decide)
  have h3 : (d + 1) * 10 ^ Int.toNat 60 ≤ (2 ^ (200 * i + 200) : Nat) * (10 ^ Int.toNat 60 : Int) := Int.mul_le_mul_of_nonneg_right (by omega) (by decide)
  have h4 : ((2 ^ (200 * i + 200) : Nat) : Int) * (10 ^ Int.toNat 60 : Int) < ((2 ^ (200 * i + 200) : Nat) : Int) * ((2 ^ 200 : Nat) : Int) := Int.mul_lt_mul_of_pos_left (by decide) (by have := Nat.two_pow_pos (200 * i + 200); omega)
  have h5 : (2 ^ (200 * (i + 1) + 200) : Nat) = 2 ^ (200 * i + 200) * 2 ^ 200 := by rw [← Nat.pow_add]; congr 1
  have h6 := Int.mul_nonneg hd (show (0 : Int) ≤ 10 ^ Int.toNat 60 by decide)
  rw [Int.add_mul, Int.one_mul] at h3
  have h7 : ((2 ^ (200 * i + 200) * 2 ^ 200 : Nat) : Int) = ((2 ^ (200 * i + 200) : Nat) : Int) * ((2 ^ 200 : Nat) : Int) := by rw [Int.natCast_mul]
  rw [h5]
  generalize ((2 ^ (200 * i + 200) : Nat) : Int) * ((2 ^ 200 : Nat) : Int) = B at *
  generalize d * 10 ^ Int.toNat 60 = A at *
  omega
theorem Rng.same {H H' : Hp} {r : Addr} {m : Nat} (h : Rng H r m) (s : Same H H') : Rng H' r m := by
  obtain ⟨a, b, c, h1, h2⟩ := h
  exact ⟨a, b, c, s _ _ h1, h2⟩
theorem Rng.le {H : Hp} {r : Addr} {m n : Nat} (h : Rng H r m) (e : m ≤ n) : Rng H r n := by
  obtain ⟨a, b, c, h1, h2, h3, h4, h5, h6⟩ := h
  exact ⟨a, b, c, h1, h2, h3, h4, h5, by omega⟩
theorem Rng.ne {H : Hp} {r p : Addr} {m : Nat} (h : Rng H r m) (n : H p = none) : p ≠ r := by
  obtain ⟨a, b, c, h1, h2⟩ := h
  exact (ne_of_none h1 n).symm
theorem Rng.free {H H' : Hp} {r p : Addr} {m : Nat} (h : Rng H' r m) (s : Sx r H H') (n : H' p = none) : H p = none := by
  obtain ⟨a, b, c, h1, h2⟩ := h
  exact s.free h1 n
theorem Rng.other {H : Hp} {r p : Addr} {m : Nat} {o : HO} (h : Rng H r m) (n : p ≠ r) : Rng (upd H p o) r m := by
  obtain ⟨a, b, c, h1, h2⟩ := h
  exact ⟨a, b, c, upd_to n.symm h1, h2⟩
open My
/-- at ts stand the commands cs, as tuples -/
structure Cm (H : Hp) (ts : List Addr) (cs : List Cmd) : Prop where
  len : ts.length = cs.length
  at_ : ∀ (i : Nat) (t : Addr), ts[i]? = some t → ∃ c, cs[i]? = some c ∧ H t = some (.tup [.int (c.1 : Nat), .int (c.2 : Nat)])
theorem Cm.same {H H' : Hp} {ts : List Addr} {cs : List Cmd} (h : Cm H ts cs) (s : Same H H') : Cm H' ts cs :=
  ⟨h.len, fun i t e => let ⟨c, e1, e2⟩ := h.at_ i t e; ⟨c, e1, s _ _ e2⟩⟩
theorem Cm.put {H : Hp} {ts : List Addr} {cs : List Cmd} {p : Addr} {xs : List V} {o : HO} (h : Cm H ts cs) (hp : H p = some (.lst xs)) : Cm (upd H p o) ts cs :=
  ⟨h.len, fun i t e => let ⟨c, e1, e2⟩ := h.at_ i t e; ⟨c, e1, upd_to (ne_of e2 hp (by intro z; cases z)) e2⟩⟩
theorem Cm.nil {H : Hp} : Cm H [] [] := ⟨rfl, fun i t e => by simp at e⟩
theorem Cm.snoc {H : Hp} {ts : List Addr} {cs : List Cmd} {t : Addr} {c : Cmd} (h : Cm H ts cs) (e : H t = some (.tup [.int (c.1 : Nat), .int (c.2 : Nat)])) : Cm H (ts ++ [t]) (cs ++ [c]) := by
  refine ⟨by rw [List.length_append, List.length_append, h.len]; rfl, fun i t' e' => ?_⟩
  by_cases q : i < ts.length
  · rw [List.getElem?_append_left q] at e'
    obtain ⟨c', e1, e2⟩ := h.at_ i t' e'
    exact ⟨c', by rw [List.getElem?_append_left (h.len ▸ q)]; exact e1, e2⟩
  · rw [List.getElem?_append_right (by omega)] at e'
    have e3 : i - ts.length = 0 := by
      cases hh : i - ts.length with
      | zero => rfl
      | succ k => rw [hh] at e'; simp at e'
    rw [e3] at e'
    cases e'
    exact ⟨c, by rw [List.getElem?_append_right (by have := h.len; omega), ← h.len, e3]; rfl, e⟩
theorem Cm.idx {H : Hp} {ts : List Addr} {cs : List Cmd} (h : Cm H ts cs) {i : Nat} (hi : i < cs.length) : ∃ t, ts[i]? = some t ∧ H t = some (.tup [.int (cs[i].1 : Nat), .int (cs[i].2 : Nat)]) := by
  have hi' : i < ts.length := by rw [h.len]; exact hi
  obtain ⟨c, e1, e2⟩ := h.at_ i _ (List.getElem?_eq_getElem hi')
  rw [List.getElem?_eq_getElem hi] at e1
  cases e1
  exact ⟨_, List.getElem?_eq_getElem hi', e2⟩
theorem Cm.take {H : Hp} {ts : List Addr} {cs : List Cmd} (h : Cm H ts cs) (k : Nat) : Cm H (ts.take k) (cs.take k) := by
  refine ⟨by rw [List.length_take, List.length_take, h.len], fun i t e => ?_⟩
  rw [List.getElem?_take] at e
  split at e
  · rename_i hk
    obtain ⟨c, e1, e2⟩ := h.at_ i t e
    exact ⟨c, by rw [List.getElem?_take, if_pos hk]; exact e1, e2⟩
  · cases e
theorem Cm.drop {H : Hp} {ts : List Addr} {cs : List Cmd} (h : Cm H ts cs) (k : Nat) : Cm H (ts.drop k) (cs.drop k) := by
  refine ⟨by rw [List.length_drop, List.length_drop, h.len], fun i t e => ?_⟩
  rw [List.getElem?_drop] at e
  obtain ⟨c, e1, e2⟩ := h.at_ _ t e
  exact ⟨c, by rw [List.getElem?_drop]; exact e1, e2⟩
/-! the data of a script -/
def dC1 (c : Cmd) : PyData := .tuple [.int (c.1 : Nat), .int (c.2 : Nat)]
abbrev dC (cs : List Cmd) : PyData := .list (cs.map dC1)
theorem dp_cmAll {K : PySem.W.Frag} {H : Hp} : ∀ {ts : List Addr} {cs : List Cmd}, Cm H ts cs → DpAll K H (ts.map V.ref) (cs.map dC1)
  | [], [], _ => .nil
  | [], _ :: _, h => nomatch h.len
  | _ :: _, [], h => nomatch h.len
  | t :: ts, c :: cs, h => by
    obtain ⟨c', e1, e2⟩ := h.at_ 0 t rfl
    cases e1
    refine .cons (.tup (sqT e2) (.cons (.int _) (.cons (.int _) .nil))) (dp_cmAll ⟨by have := h.len; simpa using this, fun i t' e => ?_⟩)
    exact h.at_ (i + 1) t' e
theorem dp_cm {K : PySem.W.Frag} {H : Hp} {a : Addr} {ts : List Addr} {cs : List Cmd} (h : SqL K H a (ts.map V.ref)) (hc : Cm H ts cs) : Dp K H (.ref a) (dC cs) := .lst h (dp_cmAll hc)
theorem lay_cm : ∀ cs : List Cmd, PyData.canLayAll0 (cs.map dC1) = true
  | [] => rfl
  | _ :: r => lay_cm r
theorem depth_cm : ∀ cs : List Cmd, PyData.depthAll (cs.map dC1) ≤ 1
  | [] => by decide
  | c :: r => by
    have := depth_cm r
    show max 1 (PyData.depthAll (r.map dC1)) ≤ 1
    omega
theorem depth_dC (cs : List Cmd) : (dC cs).depth ≤ 2 := by
  have := depth_cm cs
  show PyData.depthAll (cs.map dC1) + 1 ≤ 2
  omega
theorem shaped_dC (cs : List Cmd) : SeqAt.shaped (dC cs) = true := by
  unfold SeqAt.shaped
  rw [Bool.and_eq_true]
  refine ⟨lay_cm cs, ?_⟩
  have := depth_dC cs
  rw [decide_eq_true_eq]
  omega
theorem shaped_nil : SeqAt.shaped (.list []) = true := rfl
theorem r_neNilC {K : PySem.W.Frag} {H : Hp} {a b : Addr} {ts : List Addr} {cs : List Cmd} {Q : VK} (h : SqL K H a (ts.map V.ref)) (hc : Cm H ts cs) (g : SqL K H b []) (q : Q (.bl (!decide (cs = []))) H) : rNeD K (.ref a) (.ref b) H Q := by
  refine ⟨_, _, dp_cm h hc, .lst g .nil, shaped_dC cs, shaped_nil, ?_⟩
  have e : PyData.eqv (dC cs) (.list []) = decide (cs = []) := by cases cs <;> rfl
  rw [e]; exact q
theorem sh_dC {cs : List Cmd} {n : Nat} (h : ∀ c ∈ cs, c.1 ≤ n ∧ c.2 ≤ n) (hn : n ≤ 100000) : Sh (cs.length * 25 + 2) (dC cs) := by
  have := Sh.list (b := 23) (ds := cs.map dC1) fun d hd => by
    obtain ⟨c, hc, rfl⟩ := List.mem_map.mp hd
    have hb := h c hc
    refine (Sh.tuple (b := 8) fun e he => ?_).mono (by show 2 * (8 + 2) + 3 ≤ 23; decide)
    rcases List.mem_cons.mp he with e1 | e1
    · rw [e1]; exact (Sh.int (k := 7) (by decide) (by omega) (by decide)).mono (by decide)
    · rw [List.mem_singleton.mp e1]; exact (Sh.int (k := 7) (by decide) (by omega) (by decide)).mono (by decide)
  rw [List.length_map] at this
  exact this
theorem Cm.sx {H H' : Hp} {ts : List Addr} {cs : List Cmd} {r : Addr} {m : Nat} (h : Cm H ts cs) (hR : Rng H r m) (s : Sx r H H') : Cm H' ts cs := by
  obtain ⟨a, b, c, hr, _⟩ := hR
  exact ⟨h.len, fun i t e => let ⟨c, e1, e2⟩ := h.at_ i t e; ⟨c, e1, s _ _ (ne_of e2 hr (by intro z; cases z)) e2⟩⟩
theorem em_app (a : Str) : Str.empty ++ a = a := TL.ext_tl (by rw [TL.tl_append]; rfl)
theorem eqv_c1 (c d : Cmd) : PyData.eqv (.tuple [.int (c.1 : Nat), .int (c.2 : Nat)]) (.tuple [.int (d.1 : Nat), .int (d.2 : Nat)]) = decide (c = d) := by
  show ((((c.1 : Nat) : Int) == ((d.1 : Nat) : Int)) && ((((c.2 : Nat) : Int) == ((d.2 : Nat) : Int)) && true)) = _
  obtain ⟨c1, c2⟩ := c
  obtain ⟨d1, d2⟩ := d
  rw [Bool.eq_iff_iff]
  simp only [Bool.and_eq_true, beq_iff_eq, decide_eq_true_eq, Prod.mk.injEq, and_true]
  constructor
  · rintro ⟨a, b⟩; exact ⟨by omega, by omega⟩
  · rintro ⟨a, b⟩; exact ⟨by omega, by omega⟩
theorem r_eqC1 {K : PySem.W.Frag} {H : Hp} {Q : VK} {t u : Addr} {c d : Cmd} (h : H t = some (.tup [.int (c.1 : Nat), .int (c.2 : Nat)])) (g : H u = some (.tup [.int (d.1 : Nat), .int (d.2 : Nat)])) (q : Q (.bl (decide (c = d))) H) : rEqD K (.ref t) (.ref u) H Q :=
  ⟨.tuple [.int (c.1 : Nat), .int (c.2 : Nat)], .tuple [.int (d.1 : Nat), .int (d.2 : Nat)], .tup (sqT h) (.cons (.int _) (.cons (.int _) .nil)), .tup (sqT g) (.cons (.int _) (.cons (.int _) .nil)), rfl, rfl, by rw [eqv_c1]; exact q⟩
theorem at_lastR {as : List Addr} {a : Addr} : atI ((as ++ [a]).map V.ref) (-1) = some (.ref a) := by
  unfold atI
  have e : ixN ((as ++ [a]).map V.ref).length (-1) = some as.length := by
    unfold ixN
    rw [if_neg (by decide), if_pos (by simp; omega)]
    congr 1
    rw [List.length_map, List.length_append, List.length_singleton]
    omega
  rw [e]
  simp
/-- groups: at gp the pairs, each a list of its own with a command's own tuple and a number -/
structure GrS (H H' : Hp) (gp : Addr) (as : List Addr) (gs : List (Cmd × Nat)) : Prop where
  same : Same H H'
  new : H gp = none
  at_ : H' gp = some (.lst (as.map V.ref))
  len : as.length = gs.length
  nd : as.Nodup
  one : ∀ (i : Nat) (a : Addr) (g : Cmd × Nat), as[i]? = some a → gs[i]? = some g → H a = none ∧ a ≠ gp ∧ ∃ t, H' a = some (.lst [.ref t, .int (g.2 : Nat)]) ∧ H t = some (.tup [.int (g.1.1 : Nat), .int (g.1.2 : Nat)])
theorem GrS.add {H H' H2 : Hp} {gp : Addr} {as : List Addr} {gs : List (Cmd × Nat)} (h : GrS H H' gp as gs) {t a : Addr} {c : Cmd} (ht : H t = some (.tup [.int (c.1 : Nat), .int (c.2 : Nat)])) (s : Same H' H2) (na : H' a = none) (ha : H2 a = some (.lst [.ref t, .int 1])) :
    GrS H (upd H2 gp (.lst (as.map V.ref ++ [.ref a]))) gp (as ++ [a]) (gs ++ [(c, 1)]) := by
  have hag : a ≠ gp := (ne_of_none h.at_ na).symm
  have hfa : ∀ b ∈ as, b ≠ a := fun b hb e => by
    obtain ⟨i, hi⟩ := List.getElem?_of_mem hb
    have hl : i < gs.length := by rw [← h.len]; exact (List.getElem?_eq_some_iff.mp hi).1
    obtain ⟨_, _, t', g, _⟩ := h.one i b gs[i] hi (List.getElem?_eq_getElem hl)
    rw [e, na] at g; cases g
  refine ⟨same_old (h.same.trans s) h.new, h.new, by rw [upd_same, List.map_append]; rfl, by rw [List.length_append, List.length_append, h.len]; rfl, ?_, fun i b g hb hg => ?_⟩
  · rw [List.nodup_append]
    exact ⟨h.nd, List.nodup_cons.mpr ⟨by simp, List.nodup_nil⟩, fun x hx y hy => by rw [List.mem_singleton.mp hy]; exact hfa x hx⟩
  · by_cases hi : i < as.length
    · rw [List.getElem?_append_left hi] at hb
      rw [List.getElem?_append_left (by rw [← h.len]; exact hi)] at hg
      obtain ⟨z1, z2, t', z3, z4⟩ := h.one i b g hb hg
      exact ⟨z1, z2, t', upd_to z2 (s _ _ z3), z4⟩
    · have hi2 : i = as.length := by
        have := (List.getElem?_eq_some_iff.mp hb).1
        rw [List.length_append] at this
        simp at this
        omega
      subst hi2
      rw [List.getElem?_append_right (Nat.le_refl _)] at hb
      rw [List.getElem?_append_right (by rw [h.len]; exact Nat.le_refl _)] at hg
      simp only [Nat.sub_self, h.len] at hb hg
      cases hb
      cases hg
      exact ⟨h.same.free na, hag, t, upd_to hag ha, ht⟩
theorem GrS.inc {H H' : Hp} {gp a t : Addr} {as : List Addr} {gs : List (Cmd × Nat)} {c : Cmd} {k : Nat} (h : GrS H H' gp (as ++ [a]) (gs ++ [(c, k)])) (hl : as.length = gs.length) (ht : H t = some (.tup [.int (c.1 : Nat), .int (c.2 : Nat)])) :
    GrS H (upd H' a (.lst [.ref t, .int ((k + 1 : Nat) : Int)])) gp (as ++ [a]) (gs ++ [(c, k + 1)]) := by
  obtain ⟨na, nag, _⟩ := h.one as.length a (c, k) (by simp) (by simp [hl])
  refine ⟨same_old h.same na, h.new, upd_to nag.symm h.at_, by simp [hl], h.nd, fun i b g hb hg => ?_⟩
  by_cases hi : i < as.length
  · have hba : b ≠ a := fun e => by
      have hn := h.nd
      rw [List.nodup_append] at hn
      rw [List.getElem?_append_left hi] at hb
      exact hn.2.2 b (List.mem_of_getElem? hb) a (List.mem_singleton.mpr rfl) e
    have hg' : (gs ++ [(c, k)])[i]? = some g := by
      rw [List.getElem?_append_left (by omega)] at hg ⊢
      exact hg
    obtain ⟨z1, z2, t', z3, z4⟩ := h.one i b g hb hg'
    exact ⟨z1, z2, t', upd_to hba z3, z4⟩
  · have hi2 : i = as.length := by
      have := (List.getElem?_eq_some_iff.mp hb).1
      rw [List.length_append] at this
      simp at this
      omega
    subst hi2
    simp at hb
    subst hb
    have : g = (c, k + 1) := by
      rw [hl] at hg
      simp at hg
      exact hg.symm
    subst this
    exact ⟨na, nag, t, upd_same, ht⟩
theorem rep_one1 {k : Nat} {t : Addr} : (List.replicate k [V.ref t]).flatten = (List.replicate k t).map V.ref := by
  induction k with
  | zero => rfl
  | succ k ih => rw [List.replicate_succ, List.flatten_cons, ih, List.replicate_succ]; rfl
theorem cm_app2 {H : Hp} {ts us : List Addr} {cs ds : List Cmd} (h : Cm H ts cs) (g : Cm H us ds) : Cm H (ts ++ us) (cs ++ ds) := by
  refine ⟨by rw [List.length_append, List.length_append, h.len, g.len], fun i p e => ?_⟩
  by_cases q : i < ts.length
  · rw [List.getElem?_append_left q] at e
    obtain ⟨c, e1, e2⟩ := h.at_ i p e
    exact ⟨c, by rw [List.getElem?_append_left (h.len ▸ q)]; exact e1, e2⟩
  · rw [List.getElem?_append_right (by omega)] at e
    obtain ⟨c, e1, e2⟩ := g.at_ _ p e
    exact ⟨c, by rw [List.getElem?_append_right (by have := h.len; omega), ← h.len]; exact e1, e2⟩
/-! lists of texts as data -/
abbrev dS (ss : List Str) : PyData := .list (ss.map PyData.str)
theorem dp_strs {K : PySem.W.Frag} {H : Hp} : ∀ ss : List Str, DpAll K H (ss.map V.str) (ss.map PyData.str)
  | [] => .nil
  | b :: r => .cons (.str b) (dp_strs r)
theorem dp_ls {K : PySem.W.Frag} {H : Hp} {a : Addr} {ss : List Str} (h : SqL K H a (ss.map V.str)) : Dp K H (.ref a) (dS ss) := .lst h (dp_strs ss)
theorem eqv_strs : ∀ as bs : List Str, PyData.eqvAll (as.map PyData.str) (bs.map PyData.str) = decide (as = bs)
  | [], [] => rfl
  | [], _ :: _ => rfl
  | _ :: _, [] => rfl
  | a :: r, b :: t => by
    show ((a == b) && PyData.eqvAll (r.map PyData.str) (t.map PyData.str)) = _
    rw [eqv_strs r t]
    by_cases g : a = b <;> by_cases f : r = t <;> simp [g, f]
theorem depth_strs : ∀ ss : List Str, PyData.depthAll (ss.map PyData.str) = 0
  | [] => rfl
  | i :: r => by show max 0 (PyData.depthAll (r.map PyData.str)) = 0; rw [depth_strs r]; rfl
theorem lay_strs : ∀ ss : List Str, (∀ s ∈ ss, PyData.strOk s = true) → PyData.canLayAll0 (ss.map PyData.str) = true
  | [], _ => rfl
  | a :: r, h => by
    show (PyData.strOk a && PyData.canLayAll0 (r.map PyData.str)) = true
    rw [h a List.mem_cons_self, lay_strs r fun s hs => h s (List.mem_cons_of_mem _ hs)]; rfl
theorem shaped_dS {ss : List Str} (h : ∀ s ∈ ss, PyData.strOk s = true) : SeqAt.shaped (dS ss) = true := by
  unfold SeqAt.shaped
  rw [Bool.and_eq_true]
  refine ⟨lay_strs ss h, ?_⟩
  show decide (PyData.depthAll (ss.map PyData.str) + 1 ≤ 64) = true
  rw [depth_strs]; rfl
theorem r_eqLS {K : PySem.W.Frag} {H : Hp} {a b : Addr} {ns ms : List Str} {Q : VK} (h : SqL K H a (ns.map V.str)) (g : SqL K H b (ms.map V.str)) (h1 : ∀ s ∈ ns, PyData.strOk s = true) (h2 : ∀ s ∈ ms, PyData.strOk s = true) (q : Q (.bl (decide (ns = ms))) H) : rEqD K (.ref a) (.ref b) H Q :=
  ⟨_, _, dp_ls h, dp_ls g, shaped_dS h1, shaped_dS h2, by rw [show PyData.eqv (dS ns) (dS ms) = decide (ns = ms) from eqv_strs ns ms]; exact q⟩
theorem r_neLS {K : PySem.W.Frag} {H : Hp} {a b : Addr} {ns ms : List Str} {Q : VK} (h : SqL K H a (ns.map V.str)) (g : SqL K H b (ms.map V.str)) (h1 : ∀ s ∈ ns, PyData.strOk s = true) (h2 : ∀ s ∈ ms, PyData.strOk s = true) (q : Q (.bl (!decide (ns = ms))) H) : rNeD K (.ref a) (.ref b) H Q :=
  ⟨_, _, dp_ls h, dp_ls g, shaped_dS h1, shaped_dS h2, by rw [show PyData.eqv (dS ns) (dS ms) = decide (ns = ms) from eqv_strs ns ms]; exact q⟩
theorem n_reprS {K : PySem.W.Frag} {H : Hp} {a : Addr} {bs : List Str} {Q : VK} (h : SqL K H a (bs.map V.str)) {k : Nat} (hb : ∀ s ∈ bs, (reprText s).length ≤ k) (hz : bs.length * (k + 2) + 2 ≤ 16777216) (q : Q (.str (dS bs).shown) H) : rReprD K [.ref a] H Q :=
  r_repr (d := dS bs) (dp_ls h) (by show PyData.depthAll (bs.map PyData.str) + 1 ≤ 60; rw [depth_strs]; decide) (Sh.list (b := k) fun d hd => by obtain ⟨b, hb', rfl⟩ := List.mem_map.mp hd; exact ⟨rfl, hb b hb'⟩) (by rw [List.length_map]; omega) q
theorem n_reprCW {K : PySem.W.Frag} {H : Hp} {a : Addr} {Q : VK} {ts : List Addr} {cs : List Cmd} (h : SqL K H a (ts.map V.ref)) (hc : Cm H ts cs) (hf : ∀ c ∈ cs, c.1 < 10 ^ 60 ∧ c.2 < 10 ^ 60) (hl : cs.length ≤ 10000) (q : Q (.str (dC cs).shown) H) : rReprD K [.ref a] H Q :=
  r_repr (d := dC cs) (dp_cm h hc) (Nat.le_trans (depth_dC cs) (by decide)) (Sh.list (b := 2 * (61 + 2) + 3) fun d hd => by
    obtain ⟨c, hcc, rfl⟩ := List.mem_map.mp hd
    have := hf c hcc
    exact Sh.tuple (b := 61) (ds := [.int (c.1 : Nat), .int (c.2 : Nat)]) fun e he => by
      rcases List.mem_cons.mp he with z | z
      · rw [z]; exact Sh.int (k := 60) (by decide) (by rw [Int.natAbs_natCast]; exact this.1) (by decide)
      · rw [List.mem_singleton.mp z]; exact Sh.int (k := 60) (by decide) (by rw [Int.natAbs_natCast]; exact this.2) (by decide)) (by rw [List.length_map]; omega) q
theorem at_refsT {as : List Addr} {z : Int} {i : Nat} {t : Addr} (e : z = (i : Int)) (h : as[i]? = some t) : atI (as.map V.ref) z = some (.ref t) := at_of e (by rw [List.getElem?_map, h]; rfl)
theorem r_mulIf {H : Hp} {Q : VK} {a : Str} {k : Bool} (q : Q (.str (if k = true then a else Str.empty)) H) : rMulS (.str a) (.int (if k = true then 1 else 0)) H Q := by
  refine ⟨a, _, rfl, rfl, ?_⟩
  cases k
  · exact .inl ⟨rfl, q⟩
  · exact .inr ⟨rfl, q⟩
theorem app_em (a : Str) : a ++ Str.empty = a := TL.ext_tl (by rw [TL.tl_append]; exact List.append_nil _)
theorem cmd_word (c : Cmd) : num c.1 ++ (if (!decide (((c.1 : Nat) : Int) = ((c.2 : Nat) : Int))) = true then "-" ++ num c.2 else Str.empty) = cmdS c := by
  unfold cmdS
  by_cases e : c.1 = c.2
  · rw [decide_eq_true (show ((c.1 : Nat) : Int) = ((c.2 : Nat) : Int) by omega), if_neg (by simp), app_em, if_pos e]
  · rw [decide_eq_false (show ¬ ((c.1 : Nat) : Int) = ((c.2 : Nat) : Int) by omega), if_pos (by rfl), if_neg e]
    exact TL.ext_tl (by simp only [TL.tl_append, List.append_assoc])
theorem grp_word (c : Cmd) {m : Nat} (hm : 1 ≤ m) : cmdS c ++ (if decide ((1 : Int) < (m : Int)) = true then "*" ++ num m else Str.empty) = grpS (c, m) := by
  unfold grpS
  by_cases e : m = 1
  · rw [decide_eq_false (show ¬ (1 : Int) < (m : Int) by omega), if_neg (by simp), app_em, if_pos e]
  · rw [decide_eq_true (show (1 : Int) < (m : Int) by omega), if_pos (by rfl), if_neg e]
    exact TL.ext_tl (by simp only [TL.tl_append, List.append_assoc])
theorem cut_last {ts : List Addr} : cutV (ts.map V.ref) (some (-1)) none = (ts.drop (ts.length - 1)).map V.ref := by
  unfold cutV
  have e1 : HT.sIx (ts.map V.ref).length 0 (some (-1)) = ts.length - 1 := by
    rw [List.length_map]
    unfold HT.sIx
    simp
    omega
  have e2 : HT.sIx (ts.map V.ref).length (ts.map V.ref).length none = ts.length := by
    rw [List.length_map]
    unfold HT.sIx
    simp
  rw [e1, e2, ← List.map_drop, List.take_of_length_le]
  rw [List.length_map, List.length_drop]
  omega
theorem cm_drop {H : Hp} {ts : List Addr} {cs : List Cmd} (h : Cm H ts cs) (k : Nat) : Cm H (ts.drop k) (cs.drop k) := ⟨by rw [List.length_drop, List.length_drop, h.len], fun i t e => by
  rw [List.getElem?_drop] at e
  obtain ⟨c, e1, e2⟩ := h.at_ _ t e
  exact ⟨c, by rw [List.getElem?_drop]; exact e1, e2⟩⟩
theorem cm_reps {H : Hp} {ts : List Addr} {cs : List Cmd} (h : Cm H ts cs) : ∀ n, Cm H (List.replicate n ts).flatten (List.replicate n cs).flatten
  | 0 => Cm.nil
  | n + 1 => by
    rw [List.replicate_succ, List.replicate_succ, List.flatten_cons, List.flatten_cons]
    exact cm_app2 h (cm_reps h n)
theorem reps_map {ts : List Addr} : ∀ n, (List.replicate n (ts.map V.ref)).flatten = (List.replicate n ts).flatten.map V.ref
  | 0 => rfl
  | n + 1 => by rw [List.replicate_succ, List.replicate_succ, List.flatten_cons, List.flatten_cons, List.map_append, reps_map n]
theorem reps_len {cs : List Cmd} (h : cs.length ≤ 1) : ∀ n, (List.replicate n cs).flatten.length ≤ n
  | 0 => Nat.le_refl _
  | n + 1 => by
    have := reps_len h n
    rw [List.replicate_succ, List.flatten_cons, List.length_append]; omega
theorem reps_in {cs : List Cmd} {c : Cmd} : ∀ n, c ∈ (List.replicate n cs).flatten → c ∈ cs
  | 0, h => nomatch h
  | n + 1, h => by
    rw [List.replicate_succ, List.flatten_cons] at h
    rcases List.mem_append.mp h with z | z
    · exact z
    · exact reps_in n z
def sp_show_command (K : PySem.W.Frag) : Sp := fun vs H Q _ => ∃ (t : Addr) (c : Cmd) (_u : Unit), vs = [.ref t] ∧ H t = some (.tup [.int (c.1 : Nat), .int (c.2 : Nat)]) ∧ c.1 < 10 ^ 60 ∧ c.2 < 10 ^ 60 ∧ Q (.str (cmdS c)) H
theorem ok_show_command (T : Txt K mg) : FnG P w K mg base CX0 1 T.show_command_a T.show_command_d ["command"] (sp_show_command K) := by
  refine okG T.show_command_F sc_show_command (fun vs H Q E h => ?_) (fun cdv A ou t H vs Q E hG hr h => ?_)
  · obtain ⟨_, _, _, rfl, _⟩ := h; rfl
  have nd := sc_show_command.nd
  obtain ⟨t, c, _, rfl, hT, h1, h2, q⟩ := h
  refine ⟨_, (pss_cons (ps_asg (pv 0) (pg_tupK K 2 rfl (pgs_cons (gset 1 nd) (pgs_cons (gset 2 nd) pgs_nil))))
      (pss_cons (ps_if (pt_cmpR op_eq (pv 1) (pv 2) (nomark _))
        (pss_one (ps_ret (pe_callTy call_str_int (by rfl) T.m_str (by decide +kernel) (pa_cons (pv 1) pa_nil))))
        pss_nil)
      (pss_one (ps_ret (pe_joinedT (PJ.cons (pe_fmt (pv 1)) (PJ.cons pe_str (PJ.cons (pe_fmt (pv 2)) PJ.nil)))))))), ?_⟩
  fail "ww"
  refine r_dec (fun g => ?_) (fun g => ?_)
  · fail "ww"
    have e : cmdS c = num c.1 := by unfold cmdS; rw [if_pos (by omega)]
    rw [e] at q
    exact ⟨num_log h1, q⟩
  · fail "ww"
    have l1 := num_len (by decide) h1
    have l2 := num_len (by decide) h2
    refine ⟨num_log h1, _, rfl, ?_, ?_⟩
    · rw [em_app]; exact size_le (show (num c.1).length ≤ _ by omega)
    rw [em_app]
    fail "ww"
    refine ⟨?_, ?_⟩
    · rw [str_len_app]; exact size_le (show (num c.1).length + 1 ≤ _ by omega)
    fail "ww"
    refine ⟨num_log h2, _, rfl, ?_, ?_⟩
    · rw [str_len_app, str_len_app]; exact size_le (show (num c.1).length + 1 + (num c.2).length ≤ _ by omega)
    fail "ww"
    have e : cmdS c = num c.1 ++ "-" ++ num c.2 := by unfold cmdS; rw [if_neg (by omega)]
    rw [e] at q
    exact q
def sp_read_number (K : PySem.W.Frag) : Sp := fun vs H Q _ => ∃ (w : Str), vs = [.str w] ∧ w.length ≤ 16777216 ∧ Q (.int (numR w : Nat)) H
theorem ok_read_number (T : Txt K mg) : FnG P w K mg base CX0 1 T.read_number_a T.read_number_d ["word"] (sp_read_number K) := by
  refine okG T.read_number_F sc_read_number (fun vs H Q E h => ?_) (fun cdv A ou t H vs Q E hG hr h => ?_)
  · obtain ⟨_, rfl, _⟩ := h; rfl
  have nd := sc_read_number.nd
  obtain ⟨w, rfl, hw, q⟩ := h
  refine ⟨_, (pss_cons (ps_if (PW.pt (pw_or (pt_not (pt_val (pe_isascii (pv 0)))) (pw_or (pt_not (pt_val (pe_isdigit (pv 0)))) (pw_or1 (pt_cmpR op_gt (pe_callB lenT (by rfl) T.m_len PySem.boot_len (pa_cons (pv 0) pa_nil)) (pe_gint (by rfl) T.LONGEST_g) (nomark _))))))
        (pss_one (ps_ret pe_int))
        pss_nil)
      (pss_one (ps_ret (pe_callTy call_int_str (by rfl) T.m_int (by decide +kernel) (pa_cons (pv 0) pa_nil))))), ?_⟩
  fail "ww"
  refine ⟨rfl, trivial, ?_⟩
  cases ha : Txt.isascii w with
  | false =>
    have e : numR w = 0 := by unfold numR digW; rw [ha]; rfl
    rw [e] at q
    fail "ww"
    exact q
  | true =>
    fail "ww"
    refine ⟨rfl, trivial, ?_⟩
    cases hd : Txt.isdigit w with
    | false =>
      have e : numR w = 0 := by unfold numR digW; rw [ha, hd]; rfl
      rw [e] at q
      fail "ww"
      exact q
    | true =>
      fail "ww"
      refine r_lenS (size_le hw) ?_
      fail "ww"
      refine r_dec (fun g => ?_) (fun g => ?_)
      · have e : numR w = 0 := by unfold numR digW; rw [ha, hd, decide_eq_false (show ¬ w.length ≤ 40 by omega)]; rfl
        rw [e] at q
        fail "ww"
        exact q
      · have e : numR w = NumText.digitsVal (TL.tl w) := by unfold numR digW; rw [ha, hd, decide_eq_true (show w.length ≤ 40 by omega)]; rfl
        rw [e] at q
        obtain ⟨a1, a2⟩ := digW_all ha hd
        fail "ww"
        exact ⟨w, _, rfl, intText_digits a1 a2 (by omega), by omega, q⟩
def sp_law_rng (K : PySem.W.Frag) : Sp := fun vs H Q _ => ∃ (a : Addr) (ns : List Int), vs = [.ref a] ∧ SqL K H a (ns.map V.int) ∧ ns.length ≤ 63 ∧ ∀ H' r, Same H H' → H r = none → Rng H' r 0 → Q (.ref r) H'
theorem ok_law_rng (T : Txt K mg) : FnG P w K mg base CX0 1 T.law_rng_a T.law_rng_d ["script"] (sp_law_rng K) := by
  refine okG T.law_rng_F sc_law_rng (fun vs H Q E h => ?_) (fun cdv A ou t H vs Q E hG hr h => ?_)
  · obtain ⟨_, _, rfl, _⟩ := h; rfl
  have nd := sc_law_rng.nd
  obtain ⟨a, ns, rfl, hS, hlen, q⟩ := h
  refine ⟨_, (pss_cons (ps_asg (pe_tup (pa_cons pe_int (pa_cons pe_int pa_nil))) (pg_tupK K 2 rfl (pgs_cons (gset 1 nd) (pgs_cons (gset 2 nd) pgs_nil))))
      (pss_cons (ps_for PassesOwn.never rfl (pi_listK K (pe_slice (sl_listK K) (pv 0) po_none (po_some pe_int))) (gset 3 nd)
        (pss_cons (sset 4 nd (pe_callB call_abs (by rfl) T.m_abs (by decide +kernel) (pa_cons (pv 3) pa_nil)))
      (pss_cons (ps_if (pt_cmpR op_ge (pv 4) (pe_op op_powW pe_int pe_int) (nomark _))
        (pss_one (sset 1 nd (pe_op op_add (pe_op op_mulW (pv 1) (pe_op op_powW pe_int pe_int)) (pe_op op_mod (pv 4) (pe_op op_powW pe_int pe_int)))))
        pss_nil)
      (pss_one (sset 2 nd (pe_op op_mod (pe_op op_add (pe_op op_add (pe_op op_mulW (pv 2) pe_int) (pe_op op_mod (pv 3) pe_int)) pe_int) pe_int))))))
      (pss_one (ps_ret (pe_lst (pa_cons (pv 1) (pa_cons (pv 2) (pa_cons pe_int pa_nil)))))))), ?_⟩
  fail "g"
  intro T0 n0
  fail "g"
  have s0 := same_new (o := .tup [.int 0, .int 88675123]) n0
  have hS0 := s0.seq hS
  fail "g"
  intro n nn
  rw [cut_to (z := 63) (b := 63) rfl, List.take_of_length_le (by rw [List.length_map]; exact hlen)]
  fail "g"
  have s1 := s0.trans (same_new (o := .lst (ns.map V.int)) nn)
  refine forAI (walk_list (xs := ns.map V.int)) (fun i σ' H' => ∃ d s y3 y4, σ' = [some (.ref a), some (.int d), some (.int s), y3, y4] ∧ 0 ≤ d ∧ d.natAbs < 2 ^ (200 * i + 200) ∧ 0 ≤ s ∧ s < 2 ^ 61 ∧ H' = upd (upd H T0 (.tup [.int 0, .int 88675123])) n (.lst (ns.map V.int)))
    ⟨0, 88675123, none, none, rfl, by decide, by decide, by decide, by decide, rfl⟩ (fun i σ' H' _ p => ?_) (fun i σ' H' hi p => ?_) (fun σ' H' p => ?_)
  · obtain ⟨_, _, _, _, _, _, _, _, _, rfl⟩ := p; exact sq upd_same
  · obtain ⟨d, s, y3, y4, rfl, hd, hdb, hs, hsb, rfl⟩ := p
    fail "g"
    have fin : ∀ d' y4', 0 ≤ d' → d'.natAbs < 2 ^ (200 * (i + 1) + 200) → ∃ d0 s0 y3 y4, [some (V.ref a), some (V.int d'), some (V.int ((s * 1000003 + ns[i] % 2305843009213693921 + 7) % 2305843009213693951)), some (V.int ns[i]), y4'] = [some (.ref a), some (.int d0), some (.int s0), y3, y4] ∧ 0 ≤ d0 ∧ d0.natAbs < 2 ^ (200 * (i + 1) + 200) ∧ 0 ≤ s0 ∧ s0 < 2 ^ 61 ∧
        upd (upd H T0 (.tup [.int 0, .int 88675123])) n (.lst (ns.map V.int)) = upd (upd H T0 (.tup [.int 0, .int 88675123])) n (.lst (ns.map V.int)) := fun d' y4' h1 h2 =>
      ⟨_, _, _, _, rfl, h1, h2, Int.emod_nonneg _ (by decide), Int.lt_trans (Int.emod_lt_of_pos _ (by decide)) (by decide), rfl⟩
    refine r_dec (fun h => ?_) (fun h => ?_)
    · fail "g"
      refine r_I (wide_mul (b := 200) hdb (by decide) (by omega) (by decide) (by omega)) ?_
      fail "g"
      refine r_I (wide_mul (a := 61) (b := 20) (by omega) (by decide) (by decide) (by decide) (by decide)) ?_
      fail "g"
      exact fin _ _ (by
        have := Int.emod_nonneg (if ns[i] < 0 then -ns[i] else ns[i]) (show (10 : Int) ^ Int.toNat 60 ≠ 0 by decide)
        have := Int.mul_nonneg hd (show (0 : Int) ≤ 10 ^ Int.toNat 60 by decide)
        omega) (grow hd hdb _)
    · fail "g"
      refine r_I (wide_mul (a := 61) (b := 20) (by omega) (by decide) (by decide) (by decide) (by decide)) ?_
      fail "g"
      exact fin _ _ hd (Nat.lt_of_lt_of_le hdb (Nat.pow_le_pow_right (by decide) (by omega)))
  · obtain ⟨d, s, y3, y4, rfl, hd, hdb, hs, hsb, rfl⟩ := p
    fail "g"
    intro r nr
    exact q _ _ (same_old s1 (s1.free nr)) (s1.free nr) ⟨d, s, 0, upd_same, hd, hs, hsb, by decide, by decide⟩
def sp_law_draw (K : PySem.W.Frag) : Sp := fun vs H Q _ => ∃ (r : Addr) (lim : Int) (m : Nat), vs = [.ref r, .int lim] ∧ Rng H r m ∧ m < 2 ^ 60 ∧ 0 < lim ∧ lim < 2 ^ 200 ∧
  ∀ H' d, 0 ≤ d → d < lim → Sx r H H' → Rng H' r (m + 1) → Q (.int d) H'
theorem ok_law_draw (T : Txt K mg) : FnG P w K mg base CX0 1 T.law_draw_a T.law_draw_d ["rng", "limit"] (sp_law_draw K) := by
  refine okG T.law_draw_F sc_law_draw (fun vs H Q E h => ?_) (fun cdv A ou t H vs Q E hG hr h => ?_)
  · obtain ⟨_, _, _, rfl, _⟩ := h; rfl
  have nd := sc_law_draw.nd
  obtain ⟨r, lim, m, rfl, ⟨a, b, c, hR, ha, hb, hb2, hc, hcm⟩, hm, hl, hl2, q⟩ := h
  refine ⟨_, (pss_cons (ps_if (pt_cmpR op_gt (pe_ix (ix_listK K) (pv 0) pe_int (fun _ _ => rfl)) pe_int (nomark _))
        (pss_cons (sset 2 nd (pe_op op_mod (pe_ix (ix_listK K) (pv 0) pe_int (fun _ _ => rfl)) (pv 1)))
      (pss_cons (ps_asg (pe_op op_fdivW (pe_ix (ix_listK K) (pv 0) pe_int (fun _ _ => rfl)) (pv 1)) (pg_sub (pv 0) pe_int set_list))
      (pss_one (ps_ret (pv 2)))))
        pss_nil)
      (pss_cons (ps_asg (pe_op op_add (pe_ix (ix_listK K) (pv 0) pe_int (fun _ _ => rfl)) pe_int) (pg_sub (pv 0) pe_int set_list))
      (pss_cons (sset 3 nd (pe_op op_mod (pe_op op_powW (pe_op op_add (pe_ix (ix_listK K) (pv 0) pe_int (fun _ _ => rfl)) (pe_op op_mulW pe_int (pe_ix (ix_listK K) (pv 0) pe_int (fun _ _ => rfl)))) pe_int) pe_int))
      (pss_cons (sset 3 nd (pe_op op_mod (pe_op op_powW (pe_op op_add (pv 3) (pe_op op_mulW pe_int (pe_ix (ix_listK K) (pv 0) pe_int (fun _ _ => rfl)))) pe_int) pe_int))
      (pss_one (ps_ret (pe_op op_mod (pe_op op_fdivW (pv 3) pe_int) (pv 1)))))))), ?_⟩
  fail "g"
  refine r_dec (fun h1 => ?_) (fun h1 => ?_)
  · fail "g"
    refine r_I (wide_div hl (b := 201) (by omega) (by decide) (by decide)) ?_
    fail "g"
    exact q _ _ (Int.emod_nonneg _ (by omega)) (Int.emod_lt_of_pos _ hl) Sx.put ⟨_, _, _, upd_same, Int.ediv_nonneg ha (by omega), hb, hb2, hc, by omega⟩
  · fail "g"
    refine r_I (wide_mul (a := 30) (b := 61) (by omega) (by omega) (by decide) (by decide) (by decide)) ?_
    fail "g"
    refine r_I (powW (n := 100) (by omega) (by decide) (by decide) (by decide)) ?_
    fail "g"
    have hx := Int.emod_lt_of_pos ((b + 998244353 * (c + 1)) ^ Int.toNat 3) (show (0 : Int) < 162259276829213363391578010288127 by decide)
    have hx0 := Int.emod_nonneg ((b + 998244353 * (c + 1)) ^ Int.toNat 3) (show (162259276829213363391578010288127 : Int) ≠ 0 by decide)
    generalize (b + 998244353 * (c + 1)) ^ Int.toNat 3 % 162259276829213363391578010288127 = x at hx hx0 ⊢
    refine r_I (wide_mul (a := 30) (b := 61) (by omega) (by omega) (by decide) (by decide) (by decide)) ?_
    fail "g"
    refine r_I (powW (n := 120) (by omega) (by decide) (by decide) (by decide)) ?_
    fail "g"
    refine r_I ⟨by decide, by decide +kernel⟩ ?_
    fail "g"
    exact q _ _ (Int.emod_nonneg _ (by omega)) (Int.emod_lt_of_pos _ hl) Sx.put ⟨_, _, _, upd_same, ha, hb, hb2, by omega, by omega⟩
def sp_law_words (K : PySem.W.Frag) : Sp := fun vs H Q _ => ∃ (b : Addr) (ts : List Addr) (cs : List Cmd) (_u : Unit), vs = [.ref b] ∧ SqL K H b (ts.map V.ref) ∧ Cm H ts cs ∧ cs.length ≤ 10000 ∧ (∀ c ∈ cs, c.1 < 10 ^ 60 ∧ c.2 < 10 ^ 60) ∧ ∀ H', Same H H' → Q (.str (showM cs)) H'
theorem ok_law_words (T : Txt K mg) : FnG P w K mg base CX0 1 T.law_words_a T.law_words_d ["some"] (sp_law_words K) := by
  refine okG T.law_words_F sc_law_words (fun vs H Q E h => ?_) (fun cdv A ou t H vs Q E hG hr h => ?_)
  · obtain ⟨_, _, _, _, rfl, _⟩ := h; rfl
  have nd := sc_law_words.nd
  obtain ⟨b, ts, cs, _, rfl, hB, hC, hl, hb, q⟩ := h
  refine ⟨_, (pss_cons (ps_par (i := 1) (j := 2) (by rfl) nd rfl rfl (by decide) rfl rfl (pa_cons (pe_lst pa_nil) (pa_cons pe_int pa_nil)) (by rfl))
      (pss_cons (ps_while PassesOwn.never (pt_cmpR op_lt (pv 2) (pe_callB (lenK K) (by rfl) T.m_len PySem.boot_len (pa_cons (pv 0) pa_nil)) (nomark _))
        (pss_cons (sset 3 nd pe_int)
      (pss_cons (ps_while PassesOwn.never (PW.pt (pw_and (pt_cmpR op_lt (pe_op op_add (pv 2) (pv 3)) (pe_callB (lenK K) (by rfl) T.m_len PySem.boot_len (pa_cons (pv 0) pa_nil)) (nomark _)) (pw_and1 (pt_cmpR (eqDK K hr.units) (pe_ix (ix_listK K) (pv 0) (pe_op op_add (pv 2) (pv 3)) (fun _ _ => rfl)) (pe_ix (ix_listK K) (pv 0) (pv 2) (fun _ _ => rfl)) (nomark _)))))
        (pss_one (sset 3 nd (pe_op op_add (pv 3) pe_int))))
      (pss_cons (ps_asg (pe_ix (ix_listK K) (pv 0) (pv 2) (fun _ _ => rfl)) (pg_tupK K 2 rfl (pgs_cons (gset 4 nd) (pgs_cons (gset 5 nd) pgs_nil))))
      (pss_cons (sset 6 nd (pe_op op_add_str (pe_callTy call_str_int (by rfl) T.m_str (by decide +kernel) (pa_cons (pv 4) pa_nil)) (pe_op op_mulS (pe_op op_add_str pe_str (pe_callTy call_str_int (by rfl) T.m_str (by decide +kernel) (pa_cons (pv 5) pa_nil))) (pe_callTy call_int1 (by rfl) T.m_int (by decide +kernel) (pa_cons (pe_cmpR op_ne (pv 4) (pv 5) (nomark _)) pa_nil)))))
      (pss_cons (ps_expr (pe_bmK K PySem.F.plainAttrs_list PySem.F.slot_list_append PySem.F.type_list_append mt_append (pv 1) (pa_cons (pe_op op_add_str (pv 6) (pe_op op_mulS (pe_op op_add_str pe_str (pe_callTy call_str_int (by rfl) T.m_str (by decide +kernel) (pa_cons (pv 3) pa_nil))) (pe_callTy call_int1 (by rfl) T.m_int (by decide +kernel) (pa_cons (pe_cmpR op_gt (pv 3) pe_int (nomark _)) pa_nil)))) pa_nil)))
      (pss_one (sset 2 nd (pe_op op_add (pv 2) (pv 3))))))))))
      (pss_one (ps_ret (pe_ifExp (pt_cmpR (neDK K hr.units) (pv 1) (pe_lst pa_nil) (nomark _)) (pe_joinK K pe_str (pv 1)) pe_str))))), ?_⟩
  fail "ww"
  refine new_ fun wp H1 n1 s1 h1 => ?_
  fail "ww"
  refine r_while (fun k σ' H' => ∃ (s : Nat) (y3 y4 y5 y6 : Option V), σ' = [some (.ref b), some (.ref wp), some (.int (s : Int)), y3, y4, y5, y6] ∧ Same H H' ∧ H' wp = some (.lst (((grpM (cs.take s)).map grpS).map V.str)) ∧ Bd cs s ∧ k = cs.length - s) cs.length ⟨0, none, none, none, none, rfl, s1, h1, ⟨Nat.zero_le _, fun x y h => absurd h (by decide)⟩, rfl⟩ (fun k σ' H' p => ?_)
  obtain ⟨s, y3, y4, y5, y6, rfl, sm, hW, hbd, rfl⟩ := p
  have hB' := sm.seq hB
  have hC' := hC.same sm
  have hlt : ts.length = cs.length := hC.len
  fail "ww"
  refine r_dec (fun g => ?_) (fun g => ?_)
  · have hs : s < cs.length := by rw [List.length_map] at g; omega
    obtain ⟨t, et, ht⟩ := hC'.idx hs
    have hbc := hb cs[s] (List.getElem_mem hs)
    have hsc : cs[s]? = some cs[s] := List.getElem?_eq_getElem hs
    generalize cs[s] = c at ht hbc hsc
    refine r_turn ?_
    fail "ww"
    refine r_while (fun k σ' H2 => ∃ (m : Nat), σ' = [some (.ref b), some (.ref wp), some (.int (s : Int)), some (.int (m : Int)), y4, y5, y6] ∧ H2 = H' ∧ 1 ≤ m ∧ s + m ≤ cs.length ∧ (∀ j, j < m → cs[s + j]? = some c) ∧ k = cs.length - (s + m)) (cs.length - (s + 1)) ⟨1, rfl, rfl, Nat.le_refl _, by omega, (fun j hj => by rw [show s + j = s by omega]; exact hsc), rfl⟩ (fun k σ' H2 p => ?_)
    obtain ⟨m, rfl, rfl, hm1, hm2, hm3, rfl⟩ := p
    fail "ww"
    rcases Nat.lt_or_ge (s + m) cs.length with z | z
    case' inl =>
      rw [decide_eq_true (show ((s : Nat) : Int) + ((m : Nat) : Int) < ((ts.map V.ref).length : Int) by rw [List.length_map]; omega)]
      obtain ⟨u, eu, hu⟩ := hC'.idx z
      fail "ww"
      refine r_ixL hB' (at_refsT (i := s + m) (by omega) eu) ?_
      fail "ww"
      refine r_ixL hB' (at_refsT (i := s) rfl et) ?_
      fail "ww"
      refine r_eqC1 hu ht ?_
      fail "ww"
      by_cases hy : cs[s + m] = c
      case pos =>
        rw [decide_eq_true hy]
        refine r_turn ?_
        fail "ww"
        refine ⟨cs.length - (s + (m + 1)), by omega, m + 1, rfl, rfl, by omega, by omega, fun j hj => ?_, rfl⟩
        rcases Nat.lt_or_ge j m with q1 | q1
        · exact hm3 j q1
        · rw [show j = m by omega, List.getElem?_eq_getElem z, hy]
      rw [decide_eq_false hy]
      have hend : ∀ y, cs[s + m]? = some y → y ≠ c := fun y hy2 e => by
        rw [List.getElem?_eq_getElem z] at hy2
        cases hy2
        exact hy e
    case' inr =>
      rw [decide_eq_false (show ¬ ((s : Nat) : Int) + ((m : Nat) : Int) < ((ts.map V.ref).length : Int) by rw [List.length_map]; omega)]
      have hend : ∀ y, cs[s + m]? = some y → y ≠ c := fun y hy2 => by
        rw [List.getElem?_eq_none z] at hy2
        cases hy2
    all_goals
      fail "ww"
      refine r_ixL hB' (at_refsT (i := s) rfl et) ?_
      fail "ww"
      refine ⟨num_log hbc.1, ?_⟩
      fail "ww"
      refine ⟨num_log hbc.2, ?_⟩
      fail "ww"
      have l1 := num_len (by decide) hbc.1
      have l2 := num_len (by decide) hbc.2
      have ed : ("-" : Str).length = 1 := by decide
      have es : ("*" : Str).length = 1 := by decide
      refine ⟨size_le (show ("-" : Str).length + (num c.2).length ≤ _ by omega), ?_⟩
      fail "ww"
      refine r_mulIf ?_
      have e1 := cmd_word c
      have l3 := cmdS_len hbc.1 hbc.2
      refine ⟨_, _, rfl, rfl, size_le ?_, ?_⟩
      · have h5 := congrArg Str.length e1
        rw [str_len_app] at h5
        exact Nat.le_trans (Nat.le_of_eq h5) (by omega)
      rw [show Str.ofString (toString ((c.1 : Nat) : Int)) ++ (if (!decide (((c.1 : Nat) : Int) = ((c.2 : Nat) : Int))) = true then "-" ++ Str.ofString (toString ((c.2 : Nat) : Int)) else Str.empty) = cmdS c from e1]
      fail "ww"
      have hm60 : m < 10 ^ 60 := Nat.lt_of_le_of_lt (Nat.le_trans (show m ≤ 10000 by omega) (by decide)) (show 10000 < 10 ^ 60 by decide)
      have l4 := num_len (n := m) (k := 60) (by decide) hm60
      refine ⟨num_log hm60, _, _, rfl, rfl, size_le (show ("*" : Str).length + (num m).length ≤ _ by omega), ?_⟩
      fail "ww"
      refine r_mulIf ?_
      have e2 := grp_word c hm1
      have l5 := grpS_len (g := (c, m)) hbc.1 hbc.2 hm60
      refine ⟨_, _, rfl, rfl, size_le ?_, ?_⟩
      · have h5 := congrArg Str.length e2
        rw [str_len_app] at h5
        exact Nat.le_trans (Nat.le_of_eq h5) (by omega)
      rw [show cmdS c ++ (if decide ((1 : Int) < (m : Int)) = true then "*" ++ Str.ofString (toString ((m : Nat) : Int)) else Str.empty) = grpS (c, m) from e2]
      fail "ww"
      have hgl := grpM_len (cs.take s)
      have htl := List.length_take_le' s cs
      refine r_append hW (by rw [List.length_map, List.length_map]; exact size_lt (by omega)) ?_
      fail "ww"
      have hstep := grp_step hbd hm1 hm2 hm3
      refine ⟨cs.length - (s + m), by omega, s + m, _, _, _, _, rfl, same_old sm n1, ?_, bd_next hm1 hm2 hm3 hend, rfl⟩
      rw [upd_same, hstep, List.map_append, List.map_append]
      rfl
  · have hs : s = cs.length := by have := hbd.1; rw [List.length_map] at g; omega
    subst hs
    rw [List.take_of_length_le (Nat.le_refl _)] at hW
    have hok : ∀ x ∈ (grpM cs).map grpS, PyData.strOk x = true := fun x hx => by
      obtain ⟨g, _, rfl⟩ := List.mem_map.mp hx
      exact ok_grp g
    have hsw := show_words (cs := cs) rfl
    have hwl := words_len cs hb hl
    have hgl : ((grpM cs).map grpS).length ≤ cs.length := by rw [List.length_map]; exact grpM_len cs
    generalize (grpM cs).map grpS = W at *
    fail "ww"
    refine new_ fun e H2 n2 s2 h2 => ?_
    refine r_neLS (ms := []) (sq (s2 _ _ hW)) (sq h2) hok (fun x hx => nomatch hx) ?_
    fail "ww"
    by_cases e : W = []
    · rw [decide_eq_true e]
      rw [if_pos e] at hsw
      fail "ww"
      rw [hsw]
      exact q _ (sm.trans s2)
    · rw [decide_eq_false e]
      rw [if_neg e] at hsw
      fail "ww"
      have e1 : (" " : Str).length = 1 := by decide
      refine r_join (sq (s2 _ _ hW)) (by rw [e1]; omega) ?_
      rw [hsw]
      exact q _ (sm.trans s2)
def sp_show_repeated (K : PySem.W.Frag) : Sp := fun vs H Q _ => ∃ (t : Addr) (c : Cmd) (k : Nat), vs = [.ref t, .int k] ∧ H t = some (.tup [.int (c.1 : Nat), .int (c.2 : Nat)]) ∧ c.1 < 10 ^ 60 ∧ c.2 < 10 ^ 60 ∧ k < 10 ^ 60 ∧ Q (.str (grpS (c, k))) H
theorem ok_show_repeated (T : Txt K mg) : FnG P w K mg base CX0 2 T.show_repeated_a T.show_repeated_d ["command", "many"] (sp_show_repeated K) := by
  refine okG T.show_repeated_F sc_show_repeated (fun vs H Q E h => ?_) (fun cdv A ou t H vs Q E hG hr h => ?_)
  · obtain ⟨_, _, _, rfl, _⟩ := h; rfl
  have nd := sc_show_repeated.nd
  obtain ⟨t, c, k, rfl, hT, h1, h2, h3, q⟩ := h
  refine ⟨_, (pss_cons (ps_if (pt_cmpR op_eq (pv 1) pe_int (nomark _))
        (pss_one (ps_ret (pe_callG (ok_show_command T) hG (hr.mono (by decide)) (by rfl) T.show_command_g T.show_command_F.kp T.show_command_b .nil pass0 (pa_cons (pv 0) pa_nil))))
        pss_nil)
      (pss_one (ps_ret (pe_joinedT (PJ.cons (pe_fmt (pe_callG (ok_show_command T) hG (hr.mono (by decide)) (by rfl) T.show_command_g T.show_command_F.kp T.show_command_b .nil pass0 (pa_cons (pv 0) pa_nil))) (PJ.cons pe_str (PJ.cons (pe_fmt (pv 1)) PJ.nil))))))), ?_⟩
  fail "ww"
  refine r_dec (fun g => ?_) (fun g => ?_)
  · fail "ww"
    refine ⟨t, c, (), rfl, hT, h1, h2, ?_⟩
    have e : grpS (c, k) = cmdS c := by unfold grpS; rw [if_pos (show k = 1 by omega)]
    rw [e] at q
    exact q
  · fail "ww"
    have l1 := cmdS_len h1 h2
    have l3 := num_len (by decide) h3
    refine ⟨t, c, (), rfl, hT, h1, h2, .inl ⟨_, rfl, size_le (by omega), _, rfl, ?_, ?_⟩⟩
    · rw [em_app]; exact size_le (by omega)
    rw [em_app]
    fail "ww"
    refine ⟨?_, ?_⟩
    · rw [str_len_app]; exact size_le (show (cmdS c).length + 1 ≤ _ by omega)
    fail "ww"
    refine ⟨num_log h3, _, rfl, ?_, ?_⟩
    · rw [str_len_app, str_len_app]; exact size_le (show (cmdS c).length + 1 + (num k).length ≤ _ by omega)
    fail "ww"
    have e : grpS (c, k) = cmdS c ++ "*" ++ num k := by unfold grpS; rw [if_neg (show ¬ k = 1 by omega)]
    rw [e] at q
    exact q
def sp_read_word (K : PySem.W.Frag) : Sp := fun vs H Q _ => ∃ (c : Cmd) (k : Nat), vs = [.str (grpS (c, k))] ∧ 1 ≤ c.1 ∧ c.1 ≤ c.2 ∧ c.2 < 10 ^ 40 ∧ 1 ≤ k ∧ k ≤ 100000 ∧ ∀ (H' : Hp) (p t : Addr), Same H H' → H p = none → H t = none → H' p = some (.lst ((List.replicate k t).map V.ref)) → H' t = some (.tup [.int (c.1 : Nat), .int (c.2 : Nat)]) → Q (.ref p) H'
theorem ok_read_word (T : Txt K mg) : FnG P w K mg base CX0 2 T.read_word_a T.read_word_d ["word"] (sp_read_word K) := by
  refine okG T.read_word_F sc_read_word (fun vs H Q E h => ?_) (fun cdv A ou t H vs Q E hG hr h => ?_)
  · obtain ⟨_, _, rfl, _⟩ := h; rfl
  have nd := sc_read_word.nd
  obtain ⟨c, k, rfl, h1, h2, h3, hk1, hk2, q⟩ := h
  refine ⟨_, (pss_cons (ps_asg (pe_partition (pv 0) pe_str) (pg_tupK K 3 rfl (pgs_cons (gset 1 nd) (pgs_cons (gset 2 nd) (pgs_cons (gset 3 nd) pgs_nil)))))
      (pss_cons (ps_asg (pe_partition (pv 1) pe_str) (pg_tupK K 3 rfl (pgs_cons (gset 4 nd) (pgs_cons (gset 5 nd) (pgs_cons (gset 6 nd) pgs_nil)))))
      (pss_cons (sset 7 nd (pe_callG (ok_read_number T) hG (hr.mono (by decide)) (by rfl) T.read_number_g T.read_number_F.kp T.read_number_b .nil pass0 (pa_cons (pv 4) pa_nil)))
      (pss_cons (sset 8 nd (pe_ifExp (pt_truthK K (pv 5)) (pe_callG (ok_read_number T) hG (hr.mono (by decide)) (by rfl) T.read_number_g T.read_number_F.kp T.read_number_b .nil pass0 (pa_cons (pv 6) pa_nil)) (pv 7)))
      (pss_cons (sset 9 nd (pe_ifExp (pt_truthK K (pv 2)) (pe_callG (ok_read_number T) hG (hr.mono (by decide)) (by rfl) T.read_number_g T.read_number_F.kp T.read_number_b .nil pass0 (pa_cons (pv 3) pa_nil)) pe_int))
      (pss_cons (ps_if (PW.pt (pw_or (pt_cmpR op_eq (pv 7) pe_int (nomark _)) (pw_or1 (pt_cmpR op_lt (pv 8) (pv 7) (nomark _)))))
        (pss_one (ps_ret (pe_lst pa_nil)))
        pss_nil)
      (pss_one (ps_ret (pe_op op_rep (pe_lst (pa_cons (pe_tup (pa_cons (pv 7) (pa_cons (pv 8) pa_nil))) pa_nil)) (pv 9)))))))))), ?_⟩
  have hc1 : c.1 < 10 ^ 40 := Nat.lt_of_le_of_lt h2 h3
  have l1 := num_len (by decide) hc1
  have l2 := num_len (by decide) h3
  have l3 := num_len (k := 6) (by decide) (show k < 10 ^ 6 by omega)
  have lc : (cmdS c).length ≤ 121 := cmdS_len (Nat.lt_trans hc1 (by decide)) (Nat.lt_trans h3 (by decide))
  have lg : (grpS (c, k)).length ≤ 182 := grpS_len (Nat.lt_trans hc1 (by decide)) (Nat.lt_trans h3 (by decide)) (Nat.lt_of_le_of_lt hk2 (by decide))
  have n1 := numR_num hc1
  have n2 := numR_num h3
  have n3 := numR_num (n := k) (Nat.lt_of_le_of_lt hk2 (by decide))
  fail "ww"
  refine ⟨by decide, size_le (by omega), fun p1 np1 => ?_⟩
  have s1 := same_new (o := .tup [.str (Txt.partition (grpS (c, k)) "*").1, .str (Txt.partition (grpS (c, k)) "*").2.1, .str (Txt.partition (grpS (c, k)) "*").2.2]) np1
  have hp1 : upd H p1 (.tup [.str (Txt.partition (grpS (c, k)) "*").1, .str (Txt.partition (grpS (c, k)) "*").2.1, .str (Txt.partition (grpS (c, k)) "*").2.2]) p1 = some (.tup [.str (Txt.partition (grpS (c, k)) "*").1, .str (Txt.partition (grpS (c, k)) "*").2.1, .str (Txt.partition (grpS (c, k)) "*").2.2]) := upd_same
  generalize upd H p1 (.tup [.str (Txt.partition (grpS (c, k)) "*").1, .str (Txt.partition (grpS (c, k)) "*").2.1, .str (Txt.partition (grpS (c, k)) "*").2.2]) = H1 at *
  rw [part_star] at hp1
  have hst : (k = 1 ∧ H1 p1 = some (.tup [.str (cmdS c), .str Str.empty, .str Str.empty])) ∨ (k ≠ 1 ∧ H1 p1 = some (.tup [.str (cmdS c), .str "*", .str (num k)])) := by
    by_cases hk : k = 1
    · rw [if_pos hk] at hp1; exact .inl ⟨hk, hp1⟩
    · rw [if_neg hk] at hp1; exact .inr ⟨hk, hp1⟩
  clear hp1
  rcases hst with ⟨hk, hp1⟩ | ⟨hk, hp1⟩
  · fail "ww"
    refine ⟨by decide, size_le (by omega), fun p2 np2 => ?_⟩
    have s2 := s1.trans (same_new (o := .tup [.str (Txt.partition (cmdS c) "-").1, .str (Txt.partition (cmdS c) "-").2.1, .str (Txt.partition (cmdS c) "-").2.2]) np2)
    have hp2 : upd H1 p2 (.tup [.str (Txt.partition (cmdS c) "-").1, .str (Txt.partition (cmdS c) "-").2.1, .str (Txt.partition (cmdS c) "-").2.2]) p2 = some (.tup [.str (Txt.partition (cmdS c) "-").1, .str (Txt.partition (cmdS c) "-").2.1, .str (Txt.partition (cmdS c) "-").2.2]) := upd_same
    generalize upd H1 p2 (.tup [.str (Txt.partition (cmdS c) "-").1, .str (Txt.partition (cmdS c) "-").2.1, .str (Txt.partition (cmdS c) "-").2.2]) = H2 at *
    rw [part_dash] at hp2
    clear s1 hp1
    by_cases hc : c.1 = c.2
    · rw [if_pos hc] at hp2
      fail "ww"
      refine ⟨num c.1, rfl, by omega, ?_⟩
      rw [n1]
      fail "ww"
      refine ⟨_, rfl, false, (show TruV K (.str Str.empty) _ false from ⟨size_le (by decide), by decide⟩), ?_⟩
      fail "ww"
      fail "ww"
      refine ⟨_, rfl, false, (show TruV K (.str Str.empty) _ false from ⟨size_le (by decide), by decide⟩), ?_⟩
      fail "ww"
      fail "ww"
      rw [decide_eq_false (show ¬ ((c.1 : Nat) : Int) = 0 by omega)]
      fail "ww"
      rw [decide_eq_false (by omega)]
      fail "ww"
      refine new_ fun t H3 n3' s3 h3 => ?_
      fail "ww"
      refine new_ fun l H4 n4 s4 h4 => ?_
      fail "ww"
      refine n_rep (n := 1) h4 (by omega) (by simp) (new_ fun p H5 n5 s5 h5 => ?_)
      rw [rep_one1] at h5
      rw [← hk] at h5
      exact q _ p t (((s2.trans s3).trans s4).trans s5) (((s2.trans s3).trans s4).free n5) (s2.free n3') h5 (by rw [s5 _ _ (s4 _ _ h3), hc])
    · rw [if_neg hc] at hp2
      fail "ww"
      refine ⟨num c.1, rfl, by omega, ?_⟩
      rw [n1]
      fail "ww"
      refine ⟨_, rfl, true, (show TruV K (.str "-") _ true from ⟨size_le (by decide), by decide⟩), ?_⟩
      fail "ww"
      refine ⟨num c.2, rfl, by omega, ?_⟩
      rw [n2]
      fail "ww"
      refine ⟨_, rfl, false, (show TruV K (.str Str.empty) _ false from ⟨size_le (by decide), by decide⟩), ?_⟩
      fail "ww"
      fail "ww"
      rw [decide_eq_false (show ¬ ((c.1 : Nat) : Int) = 0 by omega)]
      fail "ww"
      rw [decide_eq_false (by omega)]
      fail "ww"
      refine new_ fun t H3 n3' s3 h3 => ?_
      fail "ww"
      refine new_ fun l H4 n4 s4 h4 => ?_
      fail "ww"
      refine n_rep (n := 1) h4 (by omega) (by simp) (new_ fun p H5 n5 s5 h5 => ?_)
      rw [rep_one1] at h5
      rw [← hk] at h5
      exact q _ p t (((s2.trans s3).trans s4).trans s5) (((s2.trans s3).trans s4).free n5) (s2.free n3') h5 (by rw [s5 _ _ (s4 _ _ h3)])
  · fail "ww"
    refine ⟨by decide, size_le (by omega), fun p2 np2 => ?_⟩
    have s2 := s1.trans (same_new (o := .tup [.str (Txt.partition (cmdS c) "-").1, .str (Txt.partition (cmdS c) "-").2.1, .str (Txt.partition (cmdS c) "-").2.2]) np2)
    have hp2 : upd H1 p2 (.tup [.str (Txt.partition (cmdS c) "-").1, .str (Txt.partition (cmdS c) "-").2.1, .str (Txt.partition (cmdS c) "-").2.2]) p2 = some (.tup [.str (Txt.partition (cmdS c) "-").1, .str (Txt.partition (cmdS c) "-").2.1, .str (Txt.partition (cmdS c) "-").2.2]) := upd_same
    generalize upd H1 p2 (.tup [.str (Txt.partition (cmdS c) "-").1, .str (Txt.partition (cmdS c) "-").2.1, .str (Txt.partition (cmdS c) "-").2.2]) = H2 at *
    rw [part_dash] at hp2
    clear s1 hp1
    by_cases hc : c.1 = c.2
    · rw [if_pos hc] at hp2
      fail "ww"
      refine ⟨num c.1, rfl, by omega, ?_⟩
      rw [n1]
      fail "ww"
      refine ⟨_, rfl, false, (show TruV K (.str Str.empty) _ false from ⟨size_le (by decide), by decide⟩), ?_⟩
      fail "ww"
      fail "ww"
      refine ⟨_, rfl, true, (show TruV K (.str "*") _ true from ⟨size_le (by decide), by decide⟩), ?_⟩
      fail "ww"
      refine ⟨num k, rfl, by omega, ?_⟩
      rw [n3]
      fail "ww"
      rw [decide_eq_false (show ¬ ((c.1 : Nat) : Int) = 0 by omega)]
      fail "ww"
      rw [decide_eq_false (by omega)]
      fail "ww"
      refine new_ fun t H3 n3' s3 h3 => ?_
      fail "ww"
      refine new_ fun l H4 n4 s4 h4 => ?_
      fail "ww"
      refine n_rep (n := k) h4 (by omega) (by simp; omega) (new_ fun p H5 n5 s5 h5 => ?_)
      rw [rep_one1] at h5
      exact q _ p t (((s2.trans s3).trans s4).trans s5) (((s2.trans s3).trans s4).free n5) (s2.free n3') h5 (by rw [s5 _ _ (s4 _ _ h3), hc])
    · rw [if_neg hc] at hp2
      fail "ww"
      refine ⟨num c.1, rfl, by omega, ?_⟩
      rw [n1]
      fail "ww"
      refine ⟨_, rfl, true, (show TruV K (.str "-") _ true from ⟨size_le (by decide), by decide⟩), ?_⟩
      fail "ww"
      refine ⟨num c.2, rfl, by omega, ?_⟩
      rw [n2]
      fail "ww"
      refine ⟨_, rfl, true, (show TruV K (.str "*") _ true from ⟨size_le (by decide), by decide⟩), ?_⟩
      fail "ww"
      refine ⟨num k, rfl, by omega, ?_⟩
      rw [n3]
      fail "ww"
      rw [decide_eq_false (show ¬ ((c.1 : Nat) : Int) = 0 by omega)]
      fail "ww"
      rw [decide_eq_false (by omega)]
      fail "ww"
      refine new_ fun t H3 n3' s3 h3 => ?_
      fail "ww"
      refine new_ fun l H4 n4 s4 h4 => ?_
      fail "ww"
      refine n_rep (n := k) h4 (by omega) (by simp; omega) (new_ fun p H5 n5 s5 h5 => ?_)
      rw [rep_one1] at h5
      exact q _ p t (((s2.trans s3).trans s4).trans s5) (((s2.trans s3).trans s4).free n5) (s2.free n3') h5 (by rw [s5 _ _ (s4 _ _ h3)])
def sp_law_commands (K : PySem.W.Frag) : Sp := fun vs H Q _ => ∃ (r : Addr) (wide most m : Nat), vs = [.ref r, .int wide, .int most] ∧ Rng H r m ∧ 1 ≤ wide ∧ wide ≤ 1000 ∧ most ≤ 10000 ∧ m < 2 ^ 40 ∧
  ∀ (H' : Hp) (p : Addr) (ts : List Addr) (cs : List Cmd), Sx r H H' → H p = none → Rng H' r (m + 1 + 4 * most) → H' p = some (.lst (ts.map V.ref)) → Cm H' ts cs → Fits wide cs → cs.length ≤ most → Q (.ref p) H'
theorem ok_law_commands (T : Txt K mg) : FnG P w K mg base CX0 2 T.law_commands_a T.law_commands_d ["rng", "wide", "most"] (sp_law_commands K) := by
  refine okG T.law_commands_F sc_law_commands (fun vs H Q E h => ?_) (fun cdv A ou t H vs Q E hG hr h => ?_)
  · obtain ⟨_, _, _, _, rfl, _⟩ := h; rfl
  have nd := sc_law_commands.nd
  obtain ⟨r, wide, most, m, rfl, hR, hw1, hw, hmost, hm, q⟩ := h
  refine ⟨_, (pss_cons (sset 3 nd (pe_lst pa_nil))
      (pss_cons (ps_for PassesOwn.never rfl (pi_range1 (by rfl) T.m_range (pa_cons (pe_callG (ok_law_draw T) hG (hr.mono (by decide)) (by rfl) T.law_draw_g T.law_draw_F.kp T.law_draw_b .nil pass0 (pa_cons (pv 0) (pa_cons (pe_op op_add (pv 2) pe_int) pa_nil))) pa_nil)) (gset 4 nd)
        (pss_cons (sset 5 nd (pe_op op_add pe_int (pe_callG (ok_law_draw T) hG (hr.mono (by decide)) (by rfl) T.law_draw_g T.law_draw_F.kp T.law_draw_b .nil pass0 (pa_cons (pv 0) (pa_cons (pv 1) pa_nil)))))
      (pss_cons (sset 6 nd (pe_ix (ix_listK K) (pe_lst (pa_cons (pv 5) (pa_cons (pe_callB (call_min2 rfl) (by rfl) T.m_min (by decide +kernel) (pa_cons (pv 1) (pa_cons (pe_op op_add (pv 5) pe_int) pa_nil))) (pa_cons (pe_op op_add (pv 5) (pe_callG (ok_law_draw T) hG (hr.mono (by decide)) (by rfl) T.law_draw_g T.law_draw_F.kp T.law_draw_b .nil pass0 (pa_cons (pv 0) (pa_cons (pe_op op_add (pe_op op_sub (pv 1) (pv 5)) pe_int) pa_nil)))) (pa_cons (pv 1) pa_nil))))) (pe_callG (ok_law_draw T) hG (hr.mono (by decide)) (by rfl) T.law_draw_g T.law_draw_F.kp T.law_draw_b .nil pass0 (pa_cons (pv 0) (pa_cons pe_int pa_nil))) (fun _ _ => rfl)))
      (pss_cons (sset 7 nd (pe_and (pe_cmpR (neDK K hr.units) (pv 3) (pe_lst pa_nil) (nomark _)) (pe_one (pe_cmpR op_eq (pe_callG (ok_law_draw T) hG (hr.mono (by decide)) (by rfl) T.law_draw_g T.law_draw_F.kp T.law_draw_b .nil pass0 (pa_cons (pv 0) (pa_cons pe_int pa_nil))) pe_int (nomark _)))))
      (pss_one (ps_expr (pe_bmK K PySem.F.plainAttrs_list PySem.F.slot_list_append PySem.F.type_list_append mt_append (pv 3) (pa_cons (pe_ifExp (pt_val (pv 7)) (pe_ix (ix_listK K) (pv 3) (pe_un un_neg pe_int) (fun _ _ => rfl)) (pe_tup (pa_cons (pv 5) (pa_cons (pv 6) pa_nil)))) pa_nil))))))))
      (pss_one (ps_ret (pv 3))))), ?_⟩
  fail "g"
  intro p np
  fail "g"
  have hpr := hR.ne np
  have hR1 := hR.same (same_new (o := .lst []) np)
  have s1 := Sx.new (r := r) (o := .lst []) np
  refine ⟨r, _, m, rfl, hR1, by omega, by omega, by omega, fun H2 n0 hn0 hn1 s2 hR2 => ?_⟩
  obtain ⟨n, rfl⟩ := Int.eq_ofNat_of_zero_le hn0
  have hP2 := s2 _ _ hpr upd_same
  have s3 := s1.trans s2
  fail "g"
  refine ⟨by omega, by omega, ?_⟩
  refine forF walk_range (fun i σ' H' => ∃ (ts : List Addr) (cs : List Cmd) (y4 y5 y6 y7 : Option V), σ' = [some (.ref r), some (.int wide), some (.int most), some (.ref p), y4, y5, y6, y7] ∧ cs.length = i ∧ H' p = some (.lst (ts.map V.ref)) ∧ Cm H' ts cs ∧ Fits wide cs ∧ Sx r H H' ∧ Rng H' r (m + 1 + 4 * i))
    ⟨[], [], none, none, none, none, rfl, rfl, hP2, Cm.nil, (fun c hc => by cases hc), s3, hR2⟩ (fun _ _ _ _ _ => trivial) (fun i σ' H' hi p' => ?_) (fun σ' H' p' => ?_)
  · obtain ⟨ts, cs, y4, y5, y6, y7, rfl, hlen, hP, hC, hF, sH, hRi⟩ := p'
    fail "g"
    refine ⟨r, wide, _, rfl, hRi, by omega, by omega, by omega, fun H3 e0 he0 he1 s4 hR3 => ?_⟩
    obtain ⟨e, rfl⟩ := Int.eq_ofNat_of_zero_le he0
    fail "g"
    have hP3 := s4 _ _ hpr hP
    have hC3 := hC.sx hRi s4
    refine ⟨r, _, _, rfl, hR3, by omega, by omega, by omega, fun H4 f0 hf0 hf1 s5 hR4 => ?_⟩
    obtain ⟨f, rfl⟩ := Int.eq_ofNat_of_zero_le hf0
    have hP4 := s5 _ _ hpr hP3
    have hC4 := hC3.sx hR3 s5
    fail "g"
    intro lx nx
    fail "g"
    have hlr := hR4.ne nx
    have hR5 := hR4.same (same_new (o := .lst [.int (1 + (e : Int)), .int (if 1 + (e : Int) + 1 < (wide : Int) then 1 + (e : Int) + 1 else (wide : Int)), .int (1 + (e : Int) + (f : Int)), .int wide]) nx)
    have hP5 := upd_old (o := .lst [.int (1 + (e : Int)), .int (if 1 + (e : Int) + 1 < (wide : Int) then 1 + (e : Int) + 1 else (wide : Int)), .int (1 + (e : Int) + (f : Int)), .int wide]) nx hP4
    have hC5 := hC4.same (same_new (o := .lst [.int (1 + (e : Int)), .int (if 1 + (e : Int) + 1 < (wide : Int) then 1 + (e : Int) + 1 else (wide : Int)), .int (1 + (e : Int) + (f : Int)), .int wide]) nx)
    have sH5 := ((sH.trans s4).trans s5).same (same_new (o := .lst [.int (1 + (e : Int)), .int (if 1 + (e : Int) + 1 < (wide : Int) then 1 + (e : Int) + 1 else (wide : Int)), .int (1 + (e : Int) + (f : Int)), .int wide]) nx)
    refine ⟨r, _, _, rfl, hR5, by omega, by decide, by decide, fun H6 d hd0 hd1 s6 hR6 => ?_⟩
    have hlx := s6 _ _ hlr upd_same
    obtain ⟨L, hat, hL1, hL2⟩ : ∃ L : Nat, atI [V.int (1 + (e : Int)), V.int (if 1 + (e : Int) + 1 < (wide : Int) then 1 + (e : Int) + 1 else (wide : Int)), V.int (1 + (e : Int) + (f : Int)), V.int wide] d = some (.int L) ∧ 1 + e ≤ L ∧ L ≤ wide := by
      have : d = 0 ∨ d = 1 ∨ d = 2 ∨ d = 3 := by omega
      rcases this with h | h | h | h <;> subst h
      · exact ⟨1 + e, congrArg some (congrArg V.int (by omega)), Nat.le_refl _, by omega⟩
      · by_cases h : 1 + e + 1 < wide
        · exact ⟨1 + e + 1, congrArg some (congrArg V.int (by rw [if_pos (by omega)]; omega)), by omega, by omega⟩
        · exact ⟨wide, congrArg some (congrArg V.int (by rw [if_neg (by omega)])), by omega, by omega⟩
      · exact ⟨1 + e + f, congrArg some (congrArg V.int (by omega)), by omega, by omega⟩
      · exact ⟨wide, rfl, by omega, by omega⟩
    have hP6 := s6 _ _ hpr hP5
    have hC6 := hC5.sx hR5 s6
    have sH6 := sH5.trans s6
    clear hP hC hP3 hC3 hP4 hC4 hP5 hC5 sH sH5 s4 s5 s6 nx
    fail "g"
    refine r_ixL (sq hlx) hat ?_
    fail "g"
    intro z0 nz
    have hP7 := upd_old (o := .lst []) nz hP6
    have hC7 := hC6.same (same_new (o := .lst []) nz)
    have sH7 := sH6.same (same_new (o := .lst []) nz)
    have hR7 := hR6.same (same_new (o := .lst []) nz)
    refine r_neNilC (sq hP7) hC7 (sq upd_same) ?_
    fail "g"
    have fin : ∀ (H9 : Hp) (t : Addr) (c : Cmd) (y7' : Option V), Sx r H H9 → Rng H9 r (m + 1 + 4 * (i + 1)) → H9 p = some (.lst (ts.map V.ref)) → Cm H9 ts cs → H9 t = some (.tup [.int (c.1 : Nat), .int (c.2 : Nat)]) → (1 ≤ c.1 ∧ c.1 ≤ c.2 ∧ c.2 ≤ wide) →
        ∃ (ts' : List Addr) (cs' : List Cmd) (y4' y5' y6' y7'' : Option V), [some (V.ref r), some (.int wide), some (.int most), some (.ref p), some (.int (0 + (i : Int))), some (.int (1 + (e : Int))), some (.int (L : Int)), y7'] = [some (.ref r), some (.int wide), some (.int most), some (.ref p), y4', y5', y6', y7''] ∧ cs'.length = i + 1 ∧
          (upd H9 p (.lst (ts.map V.ref ++ [.ref t]))) p = some (.lst (ts'.map V.ref)) ∧ Cm (upd H9 p (.lst (ts.map V.ref ++ [.ref t]))) ts' cs' ∧ Fits wide cs' ∧ Sx r H (upd H9 p (.lst (ts.map V.ref ++ [.ref t]))) ∧ Rng (upd H9 p (.lst (ts.map V.ref ++ [.ref t]))) r (m + 1 + 4 * (i + 1)) :=
      fun H9 t c y7' a1 a2 a3 a4 a5 a6 => ⟨ts ++ [t], cs ++ [c], _, _, _, _, rfl, by rw [List.length_append, hlen]; rfl, by rw [upd_same, List.map_append]; rfl,
        (a4.snoc a5).put a3, (fun c' hc' => by
          rcases List.mem_append.mp hc' with h | h
          · exact hF c' h
          · rw [List.mem_singleton.mp h]; exact a6), a1.old np, a2.other hpr⟩
    refine r_ndec (fun h => ?_) (fun h => ?_)
    · fail "g"
      refine ⟨r, _, _, rfl, hR7, by omega, by decide, by decide, fun H8 g hg0 hg1 s8 hR8 => ?_⟩
      have hP8 := s8 _ _ hpr hP7
      have hC8 := hC7.sx hR7 s8
      have sH8 := sH7.trans s8
      fail "g"
      refine r_dec (fun h2 => ?_) (fun h2 => ?_)
      · have hpos : 0 < cs.length := List.length_pos_iff.mpr h
        obtain ⟨t, et, ht⟩ := hC8.idx (i := cs.length - 1) (by omega)
        fail "g"
        have hat : atI (ts.map V.ref) (-1) = some (.ref t) := by
          have e1 : ts = ts.take (ts.length - 1) ++ [t] := by
            have hl := hC8.len
            have := List.take_append_drop (ts.length - 1) ts
            conv => lhs; rw [← this]
            congr 1
            rw [List.drop_eq_getElem_cons (by omega)]
            rw [← hl, List.getElem?_eq_getElem (by omega)] at et
            rw [Option.some.inj et, show ts.length - 1 + 1 = ts.length by omega, List.drop_length]
          rw [e1, List.map_append]
          exact atI_last _ _
        refine r_ixL (sq hP8) hat ?_
        fail "g"
        refine r_append hP8 (by rw [List.length_map, hC8.len]; exact size_lt (by omega)) ?_
        fail "g"
        exact fin _ t _ _ sH8 (hR8.le (by omega)) hP8 hC8 ht (hF _ (List.getElem_mem _))
      · fail "g"
        intro t nt
        fail "g"
        refine r_append (upd_old nt hP8) (by rw [List.length_map, hC8.len]; exact size_lt (by omega)) ?_
        fail "g"
        exact fin _ t (1 + e, L) _ (sH8.same (same_new nt)) ((hR8.same (same_new nt)).le (by omega)) (upd_old nt hP8) (hC8.same (same_new nt)) (by rw [upd_same, show ((1 + e : Nat) : Int) = 1 + (e : Int) by omega]) ⟨by omega, hL1, hL2⟩
    · fail "g"
      intro t nt
      fail "g"
      refine r_append (upd_old nt hP7) (by rw [List.length_map, hC7.len]; exact size_lt (by omega)) ?_
      fail "g"
      exact fin _ t (1 + e, L) _ (sH7.same (same_new nt)) ((hR7.same (same_new nt)).le (by omega)) (upd_old nt hP7) (hC7.same (same_new nt)) (by rw [upd_same, show ((1 + e : Nat) : Int) = 1 + (e : Int) by omega]) ⟨by omega, hL1, hL2⟩
  · obtain ⟨ts, cs, y4, y5, y6, y7, rfl, hlen, hP, hC, hF, sH, hRi⟩ := p'
    fail "g"
    rw [Int.toNat_natCast] at hlen hRi
    exact q _ _ ts cs sH np (hRi.le (by omega)) hP hC hF (by omega)
def sp_law_great (K : PySem.W.Frag) : Sp := fun vs H Q _ => ∃ (r : Addr) (w m : Nat), vs = [.ref r, .int w] ∧ 20 ≤ w ∧ w < 2 ^ 110 ∧ Rng H r m ∧ m < 2 ^ 50 ∧ ∀ (H' : Hp) (t : Addr) (c : Cmd), Sx r H H' → H t = none → Rng H' r (m + 6) → H' t = some (.tup [.int (c.1 : Nat), .int (c.2 : Nat)]) → c.1 ≤ w → c.2 ≤ w → Q (.ref t) H'
theorem ok_law_great (T : Txt K mg) : FnG P w K mg base CX0 2 T.law_great_a T.law_great_d ["rng", "most"] (sp_law_great K) := by
  refine okG T.law_great_F sc_law_great (fun vs H Q E h => ?_) (fun cdv A ou t H vs Q E hG hr h => ?_)
  · obtain ⟨_, _, _, rfl, _⟩ := h; rfl
  have nd := sc_law_great.nd
  obtain ⟨r, w, m, rfl, hw0, hw1, hR, hm, q⟩ := h
  refine ⟨_, (pss_cons (sset 2 nd (pe_op op_add pe_int (pe_ix (ix_listK K) (pe_lst (pa_cons (pe_callG (ok_law_draw T) hG (hr.mono (by decide)) (by rfl) T.law_draw_g T.law_draw_F.kp T.law_draw_b .nil pass0 (pa_cons (pv 0) (pa_cons pe_int pa_nil))) (pa_cons (pe_callG (ok_law_draw T) hG (hr.mono (by decide)) (by rfl) T.law_draw_g T.law_draw_F.kp T.law_draw_b .nil pass0 (pa_cons (pv 0) (pa_cons (pe_op op_sub (pv 1) pe_int) pa_nil))) pa_nil))) (pe_callG (ok_law_draw T) hG (hr.mono (by decide)) (by rfl) T.law_draw_g T.law_draw_F.kp T.law_draw_b .nil pass0 (pa_cons (pv 0) (pa_cons pe_int pa_nil))) (fun _ _ => rfl))))
      (pss_one (ps_ret (pe_tup (pa_cons (pv 2) (pa_cons (pe_op op_add (pv 2) (pe_ix (ix_listK K) (pe_lst (pa_cons pe_int (pa_cons (pe_callG (ok_law_draw T) hG (hr.mono (by decide)) (by rfl) T.law_draw_g T.law_draw_F.kp T.law_draw_b .nil pass0 (pa_cons (pv 0) (pa_cons pe_int pa_nil))) (pa_cons (pe_callG (ok_law_draw T) hG (hr.mono (by decide)) (by rfl) T.law_draw_g T.law_draw_F.kp T.law_draw_b .nil pass0 (pa_cons (pv 0) (pa_cons (pe_op op_sub (pv 1) (pv 2)) pa_nil))) pa_nil)))) (pe_callG (ok_law_draw T) hG (hr.mono (by decide)) (by rfl) T.law_draw_g T.law_draw_F.kp T.law_draw_b .nil pass0 (pa_cons (pv 0) (pa_cons pe_int pa_nil))) (fun _ _ => rfl))) pa_nil)))))), ?_⟩
  fail "ww"
  refine ⟨r, _, m, rfl, hR, by omega, by omega, by omega, fun H1 a ha0 ha1 s1 hR1 => ?_⟩
  fail "ww"
  refine ⟨r, _, _, rfl, hR1, by omega, by omega, by omega, fun H2 b hb0 hb1 s2 hR2 => ?_⟩
  fail "ww"
  refine new_ fun l1 H3 n3 s3 h3 => ?_
  have hlr := hR2.ne n3
  have hR3 := hR2.same s3
  fail "ww"
  refine ⟨r, _, _, rfl, hR3, by omega, by decide, by decide, fun H4 d hd0 hd1 s4 hR4 => ?_⟩
  have h4 := s4 _ _ hlr h3
  obtain ⟨E, hat, hE1, hE2⟩ : ∃ E : Nat, atI [V.int a, V.int b] d = some (.int E) ∧ 0 ≤ E ∧ E + 10 < w := by
    have : d = 0 ∨ d = 1 := by omega
    rcases this with h | h <;> subst h
    · exact ⟨a.toNat, congrArg some (congrArg V.int (by omega)), Nat.zero_le _, by omega⟩
    · exact ⟨b.toNat, congrArg some (congrArg V.int (by omega)), Nat.zero_le _, by omega⟩
  have sH4 := ((s1.trans s2).same s3).trans s4
  clear s1 s2 s3 s4 hR hR1 hR2 hR3 h3
  fail "ww"
  refine r_ixL (sq h4) hat ?_
  fail "ww"
  refine ⟨r, _, _, rfl, hR4, by omega, by decide, by decide, fun H5 f hf0 hf1 s5 hR5 => ?_⟩
  fail "ww"
  refine ⟨r, _, _, rfl, hR5, by omega, by omega, by omega, fun H6 g hg0 hg1 s6 hR6 => ?_⟩
  fail "ww"
  refine new_ fun l2 H7 n7 s7 h7 => ?_
  have hlr2 := hR6.ne n7
  have hR7 := hR6.same s7
  fail "ww"
  refine ⟨r, _, _, rfl, hR7, by omega, by decide, by decide, fun H8 e he0 he1 s8 hR8 => ?_⟩
  have h8 := s8 _ _ hlr2 h7
  obtain ⟨L, hat2, hL2⟩ : ∃ L : Nat, atI [V.int 0, V.int f, V.int g] e = some (.int L) ∧ 1 + E + L ≤ w := by
    have : e = 0 ∨ e = 1 ∨ e = 2 := by omega
    rcases this with h | h | h <;> subst h
    · exact ⟨0, rfl, by omega⟩
    · exact ⟨f.toNat, congrArg some (congrArg V.int (by omega)), by omega⟩
    · exact ⟨g.toNat, congrArg some (congrArg V.int (by omega)), by omega⟩
  have sH8 := (((sH4.trans s5).trans s6).same s7).trans s8
  clear s5 s6 s7 s8 hR4 hR5 hR6 hR7 h7
  fail "ww"
  refine r_ixL (sq h8) hat2 ?_
  fail "ww"
  refine new_ fun t H9 n9 s9 h9 => ?_
  exact q H9 t (1 + E, 1 + E + L) (sH8.same s9) (hR8.free sH8 n9) (hR8.same s9) (by rw [h9]; rfl) (by show 1 + E ≤ w; omega) hL2
def sp_show_script (K : PySem.W.Frag) : Sp := fun vs H Q _ => ∃ (b : Addr) (ts : List Addr) (cs : List Cmd), vs = [.ref b] ∧ SqL K H b (ts.map V.ref) ∧ Cm H ts cs ∧ cs.length ≤ 10000 ∧ (∀ c ∈ cs, c.1 < 10 ^ 60 ∧ c.2 < 10 ^ 60) ∧ ∀ H', Same H H' → Q (.str (showM cs)) H'
theorem ok_show_script (T : Txt K mg) : FnG P w K mg base CX0 3 T.show_script_a T.show_script_d ["commands"] (sp_show_script K) := by
  refine okG T.show_script_F sc_show_script (fun vs H Q E h => ?_) (fun cdv A ou t H vs Q E hG hr h => ?_)
  · obtain ⟨_, _, _, rfl, _⟩ := h; rfl
  have nd := sc_show_script.nd
  obtain ⟨b, ts, cs, rfl, hB, hC, hl, hb, q⟩ := h
  refine ⟨_, (pss_cons (ps_if (pt_not (pt_truthK K (pv 0)))
        (pss_one (ps_ret pe_str))
        pss_nil)
      (pss_cons (sset 1 nd (pe_lst pa_nil))
      (pss_cons (ps_for PassesOwn.never rfl (pi_listK K (pv 0)) (gset 2 nd)
        (pss_one (ps_if (PW.pt (pw_and (pt_truthK K (pv 1)) (pw_and1 (pt_cmpR (eqDK K hr.units) (pe_ix (ix_listK K) (pe_ix (ix_listK K) (pv 1) (pe_un un_neg pe_int) (fun _ _ => rfl)) pe_int (fun _ _ => rfl)) (pv 2) (nomark _)))))
        (pss_one (ps_augS (pe_ix (ix_listK K) (pv 1) (pe_un un_neg pe_int) (fun _ _ => rfl)) pe_int (getK K) pe_int ip_add set_list))
        (pss_one (ps_expr (pe_bmK K PySem.F.plainAttrs_list PySem.F.slot_list_append PySem.F.type_list_append mt_append (pv 1) (pa_cons (pe_lst (pa_cons (pv 2) (pa_cons pe_int pa_nil))) pa_nil)))))))
      (pss_one (ps_ret (pe_joinK K pe_str (pe_lc (own := [("command", 2), ("many", 3)]) (hc := rfl) (hN := nd) (hi := (pi_listK K (pv 1))) (ok := blkOk_by (by rfl)) (hg := fun _ _ _ _ _ => (pg_unlK K 2 rfl (pgs_cons (gset 2 nd) (pgs_cons (gset 3 nd) pgs_nil)))) (ht := (fun _ _ _ _ _ => pts_nil)) (he := fun _ _ _ _ _ => (pe_callG (ok_show_repeated T) hG (hr.mono (by decide)) (by rfl) T.show_repeated_g T.show_repeated_F.kp T.show_repeated_b .nil pass0 (pa_cons (pv 2) (pa_cons (pv 3) pa_nil))))))))))), ?_⟩
  fail "ww"
  refine ⟨_, rfl, _, (show TruV K (.ref b) H (!cs.isEmpty) from .inl ⟨_, hB, ?_⟩), ?_⟩
  · have := hC.len
    cases ts <;> cases cs <;> first | rfl | (simp at this)
  by_cases hne : cs = []
  · subst hne
    rw [show (!([] : List Cmd).isEmpty) = false from rfl]
    fail "ww"
    exact q _ (Same.refl _)
  · have he : cs.isEmpty = false := by cases cs with
      | nil => exact absurd rfl hne
      | cons c r => rfl
    rw [he]
    show if (!true) = true then _ else _
    fail "ww"
    refine new_ fun gp H1 n1 s1 h1 => ?_
    fail "ww"
    refine forA (walk_list (xs := ts.map V.ref)) (fun i σ' H' => ∃ (y2 y3 : Option V), σ' = [some (.ref b), some (.ref gp), y2, y3] ∧ ∃ as, GrS H H' gp as (grpM (cs.take i))) ⟨none, none, rfl, [], s1, n1, h1, rfl, List.nodup_nil, fun i a g e => by simp at e⟩ (fun i σ' H' _ p => ?_) (fun i σ' H' hi p => ?_) (fun σ' H' p => ?_)
    · obtain ⟨_, _, _, _, g⟩ := p
      exact g.same.seq hB
    · obtain ⟨y2, y3, rfl, as, g⟩ := p
      have hit : i < ts.length := by simpa using hi
      have hic : i < cs.length := by rw [← hC.len]; exact hit
      obtain ⟨t0, et, ht⟩ := hC.idx hic
      have e1 : (ts.map V.ref)[i] = .ref t0 := by
        have : (ts.map V.ref)[i]? = some (.ref t0) := by rw [List.getElem?_map, et]; rfl
        rw [List.getElem?_eq_getElem hi] at this
        exact Option.some.inj this
      rw [e1, take_one hic, grpM_snoc]
      have hgl : (grpM (cs.take i)).length ≤ 10000 := Nat.le_trans (grpM_len _) (by rw [List.length_take]; omega)
      generalize grpM (cs.take i) = gs at *
      fail "ww"
      refine ⟨_, rfl, _, (show TruV K (.ref gp) H' (!as.isEmpty) from .inl ⟨_, sq g.at_, ?_⟩), ?_⟩
      · cases as <;> rfl
      rcases List.eq_nil_or_concat as with e | ⟨as0, a, e⟩
      · subst e
        have eg : gs = [] := List.eq_nil_of_length_eq_zero (by have := g.len; simpa using this.symm)
        subst eg
        rw [show (!([] : List Addr).isEmpty) = false from rfl]
        fail "ww"
        refine ⟨ty_list (sq g.at_), ?_⟩
        fail "ww"
        refine new_ fun a1 H2 n2 s2 h2 => ?_
        fail "ww"
        refine r_append (s2 _ _ g.at_) (by simp; exact size_lt (by decide)) ?_
        exact ⟨_, _, rfl, _, g.add ht s2 n2 h2⟩
      · rw [List.concat_eq_append] at e
        subst e
        rcases List.eq_nil_or_concat gs with eg | ⟨gs0, ⟨c, k⟩, eg⟩
        · subst eg
          have := g.len
          simp at this
        rw [List.concat_eq_append] at eg
        subst eg
        rw [show (!(as0 ++ [a]).isEmpty) = true from by simp]
        have hl0 : as0.length = gs0.length := by have := g.len; simpa using this
        obtain ⟨na, nag, tc, hac, htc⟩ := g.one as0.length a (c, k) (by simp) (by simp [hl0])
        fail "ww"
        refine r_ixL (sq g.at_) at_lastR ?_
        fail "ww"
        refine r_eqC1 (g.same _ _ htc) (g.same _ _ ht) ?_
        fail "ww"
        refine r_dec (fun e => ?_) (fun e => ?_)
        · rw [grpA_snoc, if_pos e]
          fail "ww"
          refine r_ixL (sq g.at_) at_lastR ?_
          fail "ww"
          exact ⟨_, g.inc hl0 htc⟩
        · rw [grpA_snoc, if_neg e]
          fail "ww"
          refine ⟨ty_list (sq g.at_), ?_⟩
          fail "ww"
          refine new_ fun a1 H2 n2 s2 h2 => ?_
          fail "ww"
          refine r_append (s2 _ _ g.at_) (by rw [List.length_map, g.len]; exact size_lt (by omega)) ?_
          refine ⟨_, _, rfl, as0 ++ [a] ++ [a1], ?_⟩
          have := g.add ht s2 n2 h2
          rwa [List.append_assoc gs0] at this
    · obtain ⟨y2, y3, rfl, as, g⟩ := p
      rw [show (ts.map V.ref).length = cs.length by rw [List.length_map, hC.len], List.take_of_length_le (Nat.le_refl _)] at g
      have hgl := grpM_len cs
      have hgb : ∀ x ∈ grpM cs, x.1 ∈ cs ∧ x.2 ≤ cs.length := grpM_in cs
      have hgn : grpM cs ≠ [] := grpM_ne hne
      have hsh : showM cs = Txt.join " " ((grpM cs).map grpS) := by unfold showM; rw [if_neg hne]
      rw [hsh] at q
      generalize grpM cs = gs at *
      fail "ww"
      refine ⟨⟨_, sq g.at_⟩, fun D nD => ?_⟩
      refine lc_same (walk_list (xs := as.map V.ref)) (fun j => ((gs.take j).map grpS).map V.str) nD (Same.refl _) rfl (fun H s => sq (s _ _ g.at_)) (fun j x Hh Hh' hj pp y => ?_) (fun H6 s6 hD => ?_)
      · obtain ⟨rfl, ex⟩ := y
        have hja : j < as.length := by simpa using hj
        have hjg : j < gs.length := by rw [← g.len]; exact hja
        rw [List.getElem?_map, List.getElem?_eq_getElem hja] at ex
        cases ex
        obtain ⟨na, nag, tc, hac, htc⟩ := g.one j as[j] gs[j] (List.getElem?_eq_getElem hja) (List.getElem?_eq_getElem hjg)
        have hin := hgb gs[j] (List.getElem_mem hjg)
        have hbb := hb _ hin.1
        have hac2 := pp.1 _ _ hac
        have htc2 := pp.1 _ _ (g.same _ _ htc)
        fail "ww"
        refine r_gunl (sq hac2) rfl ?_
        fail "ww"
        refine ⟨rfl, ?_⟩
        fail "ww"
        refine ⟨tc, gs[j].1, gs[j].2, rfl, htc2, hbb.1, hbb.2, Nat.lt_of_le_of_lt hin.2 (Nat.lt_of_le_of_lt hl (by decide)), ?_⟩
        exact lc_add pp (Same.refl _) nD (by rw [List.take_succ, List.getElem?_eq_getElem hjg, List.map_append, List.map_append]; rfl) (by rw [List.length_map, List.length_map, List.length_take]; exact size_lt (by omega))
      · rw [List.length_map, g.len, List.take_of_length_le (Nat.le_refl _)] at hD
        refine r_join (sq hD) ?_ ?_
        · have hs : ∀ l : List (Cmd × Nat), (∀ x ∈ l, x ∈ gs) → ((l.map grpS).map (·.length)).sum ≤ 182 * l.length := fun l => by
            induction l with
            | nil => exact fun _ => Nat.le_refl _
            | cons x r ih =>
              intro h
              have := ih fun y hy => h y (List.mem_cons_of_mem _ hy)
              have hx := hgb x (h x List.mem_cons_self)
              have hbb := hb _ hx.1
              have := grpS_len hbb.1 hbb.2 (show x.2 < 10 ^ 60 from Nat.lt_of_le_of_lt hx.2 (Nat.lt_of_le_of_lt hl (by decide)))
              rw [List.map_cons, List.map_cons, List.sum_cons, List.length_cons]
              omega
          have := hs gs fun _ h => h
          rw [List.length_map]
          have e1 : (" " : Str).length = 1 := by decide
          rw [e1]
          omega
        · exact q _ (g.same.trans s6)
def sp_read_script (K : PySem.W.Frag) : Sp := fun vs H Q _ => ∃ (cs : List Cmd), vs = [.str (showM cs)] ∧ cs ≠ [] ∧ cs.length ≤ 10000 ∧ (∀ c ∈ cs, 1 ≤ c.1 ∧ c.1 ≤ c.2 ∧ c.2 < 10 ^ 40) ∧ ∀ (H' : Hp) (p : Addr) (ts : List Addr), Same H H' → H p = none → H' p = some (.lst (ts.map V.ref)) → Cm H' ts cs → Q (.ref p) H'
theorem ok_read_script (T : Txt K mg) : FnG P w K mg base CX0 4 T.read_script_a T.read_script_d ["text"] (sp_read_script K) := by
  refine okG T.read_script_F sc_read_script (fun vs H Q E h => ?_) (fun cdv A ou t H vs Q E hG hr h => ?_)
  · obtain ⟨_, rfl, _⟩ := h; rfl
  have nd := sc_read_script.nd
  obtain ⟨cs, rfl, hne, hl, hb, q⟩ := h
  refine ⟨_, (pss_cons (ps_if (pt_cmpR op_eq (pv 0) pe_str (nomark _))
        (pss_one (ps_ret (pe_lst pa_nil)))
        pss_nil)
      (pss_cons (sset 1 nd (pe_lst pa_nil))
      (pss_cons (ps_for PassesOwn.never rfl (pi_listK K (pe_split (pv 0) pe_str)) (gset 2 nd)
        (pss_cons (sset 3 nd (pe_callG (ok_read_word T) hG (hr.mono (by decide)) (by rfl) T.read_word_g T.read_word_F.kp T.read_word_b .nil pass0 (pa_cons (pv 2) pa_nil)))
      (pss_cons (ps_if (pt_not (pt_truthK K (pv 3)))
        (pss_one ps_never)
        pss_nil)
      (pss_one (ps_expr (pe_bmK K PySem.F.plainAttrs_list PySem.F.slot_list_extend PySem.F.type_list_extend mt_extend (pv 1) (pa_cons (pv 3) pa_nil)))))))
      (pss_cons (ps_if (pt_cmpR op_ne (pe_callG (ok_show_script T) hG (hr.mono (by decide)) (by rfl) T.show_script_g T.show_script_F.kp T.show_script_b .nil pass0 (pa_cons (pv 1) pa_nil)) (pv 0) (nomark _))
        (pss_one ps_never)
        pss_nil)
      (pss_one (ps_ret (pv 1))))))), ?_⟩
  fail "ww"
  rw [decide_eq_false (show_none hne)]
  fail "ww"
  refine new_ fun p H1 n1 s1 h1 => ?_
  have hsl : (showM cs).length ≤ 1840000 := show_len hl fun c hc => ⟨Nat.lt_trans (Nat.lt_of_le_of_lt (hb c hc).2.1 (hb c hc).2.2) (by decide), Nat.lt_trans (hb c hc).2.2 (by decide)⟩
  fail "ww"
  refine ⟨by decide, size_le (by omega), fun wq nq => ?_⟩
  rw [split_show hne]
  have hgl := grpM_len cs
  have hgb : ∀ x ∈ grpM cs, x.1 ∈ cs ∧ x.2 ≤ cs.length := grpM_in cs
  have hgp := grpM_pos cs
  have hex := exp_grp cs
  generalize grpM cs = gs at hgl hgb hgp hex ⊢
  have s2 := same_new (o := .lst ((gs.map grpS).map V.str)) nq
  have hq : upd H1 wq (.lst ((gs.map grpS).map V.str)) wq = some (.lst ((gs.map grpS).map V.str)) := upd_same
  have hpq : p ≠ wq := ne_of_none h1 nq
  have h2 := s2 _ _ h1
  have s12 := s1.trans s2
  have hwf : H wq = none := s1.free nq
  generalize upd H1 wq (.lst ((gs.map grpS).map V.str)) = H2 at *
  clear s2 nq h1 s1
  fail "ww"
  refine forA (walk_list (xs := (gs.map grpS).map V.str)) (fun i σ' H' => ∃ (y2 y3 : Option V) (ts : List Addr), σ' = [some (.str (showM cs)), some (.ref p), y2, y3] ∧ Same H H' ∧ H' wq = some (.lst ((gs.map grpS).map V.str)) ∧ H' p = some (.lst (ts.map V.ref)) ∧ Cm H' ts (expG (gs.take i)))
    ⟨none, none, [], rfl, s12, hq, h2, Cm.nil⟩ (fun i σ' H' _ pp => ?_) (fun i σ' H' hi pp => ?_) (fun σ' H' pp => ?_)
  · obtain ⟨_, _, _, _, _, h, _⟩ := pp; exact sq h
  · clear h2 hq s12
    obtain ⟨y2, y3, ts, rfl, s, hW, hP, hC⟩ := pp
    have hig : i < gs.length := by simpa using hi
    have hgi := hgb gs[i] (List.getElem_mem hig)
    have hcb := hb _ hgi.1
    have hk1 := hgp gs[i] (List.getElem_mem hig)
    have hxl := expG_take_le hig
    rw [hex] at hxl
    have etk : expG (gs.take (i + 1)) = expG (gs.take i) ++ List.replicate gs[i].2 gs[i].1 := by
      rw [List.take_succ, List.getElem?_eq_getElem hig, expG_app]
      show _ ++ expG [gs[i]] = _
      rw [show [gs[i]] = [(gs[i].1, gs[i].2)] from rfl, expG_one]
    rw [etk]
    simp only [List.getElem_map]
    generalize gs[i] = g at *
    obtain ⟨c, k⟩ := g
    fail "ww"
    refine ⟨c, k, rfl, hcb.1, hcb.2.1, hcb.2.2, hk1, by have := hgi.2; simp at this; omega, fun H3 p3 t3 s3 n3 nt3 h3 ht3 => ?_⟩
    fail "ww"
    refine ⟨_, rfl, true, (show TruV K (.ref p3) H3 true from .inl ⟨_, sq h3, ?_⟩), ?_⟩
    · obtain ⟨j, rfl⟩ : ∃ j, k = j + 1 := ⟨k - 1, by simp at hk1; omega⟩
      rfl
    fail "ww"
    have hP3 := s3 _ _ hP
    have hCr : Cm H3 (List.replicate k t3) (List.replicate k c) := ⟨by simp, fun j t e => by
      rw [List.getElem?_replicate] at e
      split at e
      · rename_i hj
        cases e
        exact ⟨c, by rw [List.getElem?_replicate, if_pos hj], ht3⟩
      · cases e⟩
    have hCa := cm_app2 (hC.same s3) hCr
    have hxl2 : (expG (gs.take i)).length + k ≤ cs.length := hxl
    refine r_extend hP3 h3 (by rw [List.length_map, List.length_map, hC.len, List.length_replicate]; exact size_le (by omega)) ?_
    rw [← List.map_append]
    exact ⟨_, _, ts ++ List.replicate k t3, rfl, same_old (s.trans s3) n1, upd_to hpq.symm (s3 _ _ hW), upd_same, ⟨hCa.len, fun j t e => let ⟨d, e1, e2⟩ := hCa.at_ j t e; ⟨d, e1, upd_to (ne_of e2 hP3 (by intro z; cases z)) e2⟩⟩⟩
  · clear h2 hq s12
    obtain ⟨y2, y3, ts, rfl, s, hW, hP, hC⟩ := pp
    rw [List.length_map, List.length_map, List.take_of_length_le (Nat.le_refl _), hex] at hC
    fail "ww"
    refine ⟨p, ts, cs, rfl, sq hP, hC, hl, fun c hc => ⟨Nat.lt_trans (Nat.lt_of_le_of_lt (hb c hc).2.1 (hb c hc).2.2) (by decide), Nat.lt_trans (hb c hc).2.2 (by decide)⟩, fun H3 s3 => ?_⟩
    fail "ww"
    refine r_itNF rfl ?_
    fail "ww"
    exact q _ p ts (s.trans s3) n1 (s3 _ _ hP) (hC.same s3)
def sp_law_right (K : PySem.W.Frag) : Sp := fun vs H Q _ => ∃ (b : Addr) (ts : List Addr) (cs : List Cmd) (_u : Unit), vs = [.ref b] ∧ SqL K H b (ts.map V.ref) ∧ Cm H ts cs ∧ cs.length ≤ 2000 ∧ (∀ c ∈ cs, c.1 < 10 ^ 60 ∧ c.2 < 10 ^ 60) ∧ ∀ H', Same H H' → Q (.bl true) H'
theorem ok_law_right (T : Txt K mg) : FnG P w K mg base CX0 4 T.law_right_a T.law_right_d ["some"] (sp_law_right K) := by
  refine okG T.law_right_F sc_law_right (fun vs H Q E h => ?_) (fun cdv A ou t H vs Q E hG hr h => ?_)
  · obtain ⟨_, _, _, _, rfl, _⟩ := h; rfl
  have nd := sc_law_right.nd
  obtain ⟨b, ts, cs, _, rfl, hB, hC, hl, hb, q⟩ := h
  refine ⟨_, (pss_cons (ps_par (i := 1) (j := 2) (by rfl) nd rfl rfl (by decide) rfl rfl (pa_cons (pe_callB (reprK K hG hr.units) (by rfl) T.m_repr (by decide +kernel) (pa_cons (pv 0) pa_nil)) (pa_cons (pe_callG (ok_law_words T) hG (hr.mono (by decide)) (by rfl) T.law_words_g T.law_words_F.kp T.law_words_b .nil pass0 (pa_cons (pv 0) pa_nil)) pa_nil)) (by rfl))
      (pss_one (ps_ret (pe_and (pe_cmpR op_eq (pe_callB (reprK K hG hr.units) (by rfl) T.m_repr (by decide +kernel) (pa_cons (pe_lst (pa_cons (pe_callG (ok_show_script T) hG (hr.mono (by decide)) (by rfl) T.show_script_g T.show_script_F.kp T.show_script_b .nil pass0 (pa_cons (pv 0) pa_nil)) (pa_cons (pe_callKG0 (ok_show_script T) hG (hr.mono (by decide)) (by rfl) T.show_script_g T.show_script_F.kp T.k_show_script_commands pass0 (pk_cons (pv 0) pk_nil)) pa_nil))) pa_nil)) (pe_callB (reprK K hG hr.units) (by rfl) T.m_repr (by decide +kernel) (pa_cons (pe_lst (pa_cons (pv 2) (pa_cons (pv 2) pa_nil))) pa_nil)) (nomark _)) (pe_one (pe_cmpR op_eq (pe_callB (reprK K hG hr.units) (by rfl) T.m_repr (by decide +kernel) (pa_cons (pv 0) pa_nil)) (pv 1) (nomark _))))))), ?_⟩
  have hl1 : (showM cs).length ≤ 400000 := Nat.le_trans (show_len2 (by omega) hb) (by omega)
  have hl2 : ∀ s ∈ [showM cs, showM cs], (reprText s).length ≤ 4000010 := fun s hs => by
    have : s = showM cs := by simpa using hs
    rw [this]
    exact Nat.le_trans repr_show (by omega)
  fail "ww"
  refine n_reprCW hB hC hb (by omega) ?_
  fail "ww"
  refine ⟨b, ts, cs, (), rfl, hB, hC, by omega, hb, fun H1 s1 => ?_⟩
  fail "ww"
  refine ⟨b, ts, cs, rfl, s1.seq hB, hC.same s1, by omega, hb, fun H2 s2 => ?_⟩
  fail "ww"
  refine ⟨b, ts, cs, rfl, s2.seq (s1.seq hB), (hC.same s1).same s2, by omega, hb, fun H3 s3 => ?_⟩
  fail "ww"
  refine new_ fun l1 H4 n4 s4 h4 => ?_
  fail "ww"
  refine n_reprS (bs := [showM cs, showM cs]) (sq h4) hl2 (show 2 * (4000010 + 2) + 2 ≤ 16777216 by decide) ?_
  fail "ww"
  refine new_ fun l2 H5 n5 s5 h5 => ?_
  fail "ww"
  refine n_reprS (bs := [showM cs, showM cs]) (sq h5) hl2 (show 2 * (4000010 + 2) + 2 ≤ 16777216 by decide) ?_
  fail "ww"
  rw [decide_eq_true (rfl : (dS [showM cs, showM cs]).shown = (dS [showM cs, showM cs]).shown), if_pos (by rfl)]
  have sH := (((s1.trans s2).trans s3).trans s4).trans s5
  fail "ww"
  refine n_reprCW (sH.seq hB) (hC.same sH) hb (by omega) ?_
  fail "ww"
  rw [decide_eq_true (rfl : (dC cs).shown = (dC cs).shown)]
  exact q _ sH
def sp_law (K : PySem.W.Frag) : Sp := fun vs H Q _ => ∃ (a : Addr) (ns : List Int), vs = [.ref a] ∧ SqL K H a (ns.map V.int) ∧ ns.length ≤ 63 ∧ ∀ H', Q (.bl true) H'
theorem ok_law (T : Txt K mg) : FnG P w K mg base CX0 5 T.law_a T.law_d ["script"] (sp_law K) := by
  refine okG T.law_F sc_law (fun vs H Q E h => ?_) (fun cdv A ou t H vs Q E hG hr h => ?_)
  · obtain ⟨_, _, rfl, _⟩ := h; rfl
  have nd := sc_law.nd
  obtain ⟨a, ns, rfl, hS, hlen, q⟩ := h
  refine ⟨_, (pss_cons (sset 1 nd (pe_callG (ok_law_rng T) hG (hr.mono (by decide)) (by rfl) T.law_rng_g T.law_rng_F.kp T.law_rng_b .nil pass0 (pa_cons (pv 0) pa_nil)))
      (pss_cons (ps_for PassesOwn.never rfl (pi_range1 (by rfl) T.m_range (pa_cons (pe_op op_add pe_int (pe_callB (call_min2 rfl) (by rfl) T.m_min (by decide +kernel) (pa_cons pe_int (pa_cons (pe_callB (lenK K) (by rfl) T.m_len PySem.boot_len (pa_cons (pv 0) pa_nil)) pa_nil)))) pa_nil)) (gset 2 nd)
        (pss_cons (sset 3 nd (pe_callG (ok_law_commands T) hG (hr.mono (by decide)) (by rfl) T.law_commands_g T.law_commands_F.kp T.law_commands_b .nil pass0 (pa_cons (pv 1) (pa_cons (pe_op op_add pe_int (pe_callG (ok_law_draw T) hG (hr.mono (by decide)) (by rfl) T.law_draw_g T.law_draw_F.kp T.law_draw_b .nil pass0 (pa_cons (pv 1) (pa_cons pe_int pa_nil)))) (pa_cons (pe_ix (ix_listK K) (pe_lst (pa_cons pe_int (pa_cons pe_int pa_nil))) (pe_callG (ok_law_draw T) hG (hr.mono (by decide)) (by rfl) T.law_draw_g T.law_draw_F.kp T.law_draw_b .nil pass0 (pa_cons (pv 1) (pa_cons pe_int pa_nil))) (fun _ _ => rfl)) pa_nil)))))
      (pss_cons (ps_setLc (i := 4) (hy := rfl) (hyl := rfl) (hsw := sw_true rfl rfl rfl (by decide +kernel)) (own := [("turn", 8)]) (hc := rfl) (hN := nd) (hi := (pi_range1 (by rfl) T.m_range (pa_cons (pe_callG (ok_law_draw T) hG (hr.mono (by decide)) (by rfl) T.law_draw_g T.law_draw_F.kp T.law_draw_b .nil pass0 (pa_cons (pv 1) (pa_cons pe_int pa_nil))) pa_nil))) (ok := blkOk_by (by rfl)) (hg := fun _ _ _ _ _ => (gset 8 nd)) (ht := (fun _ _ _ _ _ => pts_nil)) (he := fun _ _ _ _ _ => (pe_callG (ok_law_great T) hG (hr.mono (by decide)) (by rfl) T.law_great_g T.law_great_F.kp T.law_great_b .nil pass0 (pa_cons (pv 1) (pa_cons (pe_op op_powW pe_int pe_int) pa_nil)))))
      (pss_one (ps_if (PW.pt (pw_or (pt_not (pt_val (pe_callG (ok_law_right T) hG (hr.mono (by decide)) (by rfl) T.law_right_g T.law_right_F.kp T.law_right_b .nil pass0 (pa_cons (pv 3) pa_nil)))) (pw_or1 (pt_not (pt_val (pe_callG (ok_law_right T) hG (hr.mono (by decide)) (by rfl) T.law_right_g T.law_right_F.kp T.law_right_b .nil pass0 (pa_cons (pe_op op_cat (pv 4) (pe_op op_rep (pe_slice (sl_listK K) (pv 4) (po_some (pe_un un_neg pe_int)) po_none) (pe_callG (ok_law_draw T) hG (hr.mono (by decide)) (by rfl) T.law_draw_g T.law_draw_F.kp T.law_draw_b .nil pass0 (pa_cons (pv 1) (pa_cons pe_int pa_nil))))) pa_nil)))))))
        (pss_one (ps_ret pe_bl))
        pss_nil)))))
      (pss_cons (ps_setLc (i := 5) (hy := rfl) (hyl := rfl) (hsw := sw_true rfl rfl rfl (by decide +kernel)) (own := [("spot", 7)]) (hc := rfl) (hN := nd) (hi := (pi_range1 (by rfl) T.m_range (pa_cons pe_int pa_nil))) (ok := blkOk_by (by rfl)) (hg := fun _ _ _ _ _ => (gset 7 nd)) (ht := (fun _ _ _ _ _ => pts_nil)) (he := fun _ _ _ _ _ => (pe_op op_add_str (pe_op op_add_str (pe_callTy call_str_int (by rfl) T.m_str (by decide +kernel) (pa_cons (pe_op op_add (pv 7) pe_int) pa_nil)) pe_str) (pe_callTy call_str_int (by rfl) T.m_str (by decide +kernel) (pa_cons (pe_op op_add pe_int (pe_callG (ok_law_draw T) hG (hr.mono (by decide)) (by rfl) T.law_draw_g T.law_draw_F.kp T.law_draw_b .nil pass0 (pa_cons (pv 1) (pa_cons pe_int pa_nil)))) pa_nil)))))
      (pss_cons (ps_expr (pe_bmK K PySem.F.plainAttrs_list PySem.F.slot_list_append PySem.F.type_list_append mt_append (pv 5) (pa_cons (pe_op op_add_str (pe_op op_add_str (pe_callTy call_str_int (by rfl) T.m_str (by decide +kernel) (pa_cons (pe_op op_sub (pe_op op_powW pe_int pe_int) pe_int) pa_nil)) pe_str) (pe_callTy call_str_int (by rfl) T.m_str (by decide +kernel) (pa_cons (pe_op op_sub (pe_op op_powW pe_int pe_int) pe_int) pa_nil))) pa_nil)))
      (pss_cons (sset 6 nd (pe_joinK K pe_str (pv 5)))
      (pss_cons (ps_if (PW.pt (pw_or (pt_cmpR op_ne (pe_callG (ok_show_script T) hG (hr.mono (by decide)) (by rfl) T.show_script_g T.show_script_F.kp T.show_script_b .nil pass0 (pa_cons (pe_callG (ok_read_script T) hG (hr.mono (by decide)) (by rfl) T.read_script_g T.read_script_F.kp T.read_script_b .nil pass0 (pa_cons (pv 6) pa_nil)) pa_nil)) (pv 6) (nomark _)) (pw_or1 (pt_not (pt_val (pe_callG (ok_law_right T) hG (hr.mono (by decide)) (by rfl) T.law_right_g T.law_right_F.kp T.law_right_b .nil pass0 (pa_cons (pe_callG (ok_read_script T) hG (hr.mono (by decide)) (by rfl) T.read_script_g T.read_script_F.kp T.read_script_b .nil pass0 (pa_cons (pv 6) pa_nil)) pa_nil)))))))
        (pss_one (ps_ret pe_bl))
        pss_nil)
      (pss_one (ps_ret (pe_cmpR (eqDK K hr.units) (pe_lst (pa_cons (pe_callG (ok_show_script T) hG (hr.mono (by decide)) (by rfl) T.show_script_g T.show_script_F.kp T.show_script_b .nil pass0 (pa_cons (pe_lst pa_nil) pa_nil)) (pa_cons (pe_callG (ok_show_script T) hG (hr.mono (by decide)) (by rfl) T.show_script_g T.show_script_F.kp T.show_script_b .nil pass0 (pa_cons (pe_op op_rep (pe_lst (pa_cons (pe_tup (pa_cons pe_int (pa_cons pe_int pa_nil))) pa_nil)) pe_int) pa_nil)) (pa_cons (pe_callG (ok_show_script T) hG (hr.mono (by decide)) (by rfl) T.show_script_g T.show_script_F.kp T.show_script_b .nil pass0 (pa_cons (pe_lst (pa_cons (pe_tup (pa_cons pe_int (pa_cons pe_int pa_nil))) (pa_cons (pe_tup (pa_cons pe_int (pa_cons pe_int pa_nil))) pa_nil))) pa_nil)) pa_nil)))) (pe_lst (pa_cons pe_str (pa_cons pe_str (pa_cons pe_str pa_nil)))) (nomark _)))))))))), ?_⟩
  fail "ww"
  refine ⟨a, ns, rfl, hS, hlen, fun H1 r s1 hr0 hR => ?_⟩
  have hS1 := s1.seq hS
  fail "ww"
  rw [List.length_map]
  obtain ⟨n, hn, hn2⟩ : ∃ n : Nat, (8 + (if ((ns.length : Nat) : Int) < 12 then ((ns.length : Nat) : Int) else 12)) = (n : Int) ∧ n ≤ 20 := by
    split
    · exact ⟨8 + ns.length, by omega, by omega⟩
    · exact ⟨20, by omega, by omega⟩
  rw [hn]
  refine ⟨by omega, by omega, ?_⟩
  refine forF walk_range (fun i σ' H' => ∃ (y2 y3 y4 y5 y6 y7 y8 : Option V), σ' = [some (.ref a), some (.ref r), y2, y3, y4, y5, y6, y7, y8] ∧ Rng H' r (1000 * i))
    ⟨none, none, none, none, none, none, none, rfl, hR⟩ (fun _ _ _ _ _ => trivial) (fun i σ' H' hi p => ?_) (fun σ' H' p => ?_)
  · obtain ⟨y2, y3, y4, y5, y6, y7, y8, rfl, hR0⟩ := p
    fail "ww"
    refine ⟨r, _, _, rfl, hR0, by omega, by decide, by decide, fun H1 e0 he0 he1 s1 hR1 => ?_⟩
    obtain ⟨e, rfl⟩ := Int.eq_ofNat_of_zero_le he0
    fail "ww"
    refine new_ fun l1 H2 n2 s2 h2 => ?_
    have hlr := hR1.ne n2
    have hR2 := hR1.same s2
    fail "ww"
    refine ⟨r, _, _, rfl, hR2, by omega, by decide, by decide, fun H3 d hd0 hd1 s3 hR3 => ?_⟩
    have h3 := s3 _ _ hlr h2
    obtain ⟨M, hat, hM⟩ : ∃ M : Nat, atI [V.int 6, V.int 200] d = some (.int M) ∧ M ≤ 200 := by
      have : d = 0 ∨ d = 1 := by omega
      rcases this with h | h <;> subst h
      · exact ⟨6, rfl, by decide⟩
      · exact ⟨200, rfl, by decide⟩
    fail "ww"
    refine r_ixL (sq h3) hat ?_
    fail "ww"
    rw [show (1 : Int) + (e : Int) = ((1 + e : Nat) : Int) by omega]
    refine ⟨r, _, M, _, rfl, hR3, by omega, by omega, by omega, by omega, fun H4 p ts cs s4 np hR4 hP hC hF hcl => ?_⟩
    have hb : ∀ c ∈ cs, c.1 < 10 ^ 60 ∧ c.2 < 10 ^ 60 := fun c hc => by
      have := hF c hc
      have h1 : c.2 < 1000 := by omega
      exact ⟨Nat.lt_of_lt_of_le (show c.1 < 1000 by omega) (by decide), Nat.lt_of_lt_of_le h1 (by decide)⟩
    have hpr := hR3.ne (hR3.free (Sx.refl) np)
    clear h3 h2 n2 s1 s2 s3 hR1 hR2 hlr
    fail "ww"
    refine ⟨r, _, _, rfl, hR4, by omega, by decide, by decide, fun H5 f0 hf0 hf1 s5 hR5 => ?_⟩
    obtain ⟨f, rfl⟩ := Int.eq_ofNat_of_zero_le hf0
    have hP5 := s5 _ _ hpr hP
    have hC5 := hC.sx hR4 s5
    clear hP hC s4 s5
    have hR5' := hR5.le (show _ ≤ 1000 * i + 810 by omega)
    clear hR5 hR4 hR3
    fail "ww"
    refine ⟨by omega, by omega, fun D nD => ?_⟩
    have hDr := hR5'.ne nD
    refine lc_it walk_range (fun j Hh => ∃ (us : List Addr) (ds : List Cmd), ds.length = j ∧ Hh D = some (.lst (us.map V.ref)) ∧ Cm Hh us ds ∧ (∀ c ∈ ds, c.1 < 10 ^ 60 ∧ c.2 < 10 ^ 60) ∧ Sx r H5 Hh ∧ Rng Hh r (1000 * i + 810 + 6 * j)) ?_ (fun _ _ _ _ => trivial) (fun j x Hh Hh' hj pp y => ?_) (fun Hh pp => ?_)
    · exact ⟨[], [], rfl, upd_same, Cm.nil, (fun c hc => nomatch hc), Sx.refl.old nD, hR5'.other hDr⟩
    · obtain ⟨rfl, rfl⟩ := y
      obtain ⟨us, ds, hds, hD, hCd, hbd, s6, hR6⟩ := pp
      fail "ww"
      refine ⟨rfl, ?_⟩
      fail "ww"
      rw [show ((10 : Int) ^ Int.toNat 30) = ((10 ^ 30 : Nat) : Int) by decide +kernel]
      refine ⟨r, 10 ^ 30, _, rfl, by decide, by decide, hR6, by omega, fun H7 t c s7 nt hR7 ht hc1 hc2 => ?_⟩
      have hD7 := s7 _ _ hDr hD
      have hCd7 := hCd.sx hR6 s7
      have hlu : us.length ≤ 10 := by rw [hCd.len]; omega
      fail "ww"
      refine ⟨_, hD7, by rw [List.length_map]; exact size_lt (by omega), us ++ [t], ds ++ [c], by rw [List.length_append, hds]; rfl, by rw [upd_same, List.map_append]; rfl, (hCd7.snoc ht).put hD7, fun c' hc' => ?_, (s6.trans s7).old nD, hR7.other hDr⟩
      rcases List.mem_append.mp hc' with z | z
      · exact hbd c' z
      · rw [List.mem_singleton.mp z]
        exact ⟨Nat.lt_of_le_of_lt hc1 (by decide), Nat.lt_of_le_of_lt hc2 (by decide)⟩
    · obtain ⟨us, ds, hds, hD, hCd, hbd, s6, hR6⟩ := pp
      rw [Int.toNat_natCast] at hds hR6
      have hP6 := s6 _ _ hpr hP5
      have hC6 := hC5.sx hR5' s6
      have hR7 := hR6.le (show _ ≤ 1000 * i + 870 by omega)
      have hdl : ds.length ≤ 10 := by omega
      clear hR6 hR5' s6 hP5 hC5 nD
      fail "ww"
      refine ⟨p, ts, cs, (), rfl, sq hP6, hC6, by omega, hb, fun H7 s7 => ?_⟩
      have hD7 := s7 _ _ hD
      have hCd7 := hCd.same s7
      have hR8 := hR7.same s7
      clear hD hCd hR7 hP6 hC6 s7
      fail "ww"
      refine n_slL (sq hD7) ?_
      rw [cut_last]
      refine new_ fun z H8 n8 s8 h8 => ?_
      have hD8 := s8 _ _ hD7
      have hCd8 := hCd7.same s8
      have hR9 := hR8.same s8
      have hzr := hR8.ne n8
      clear hD7 hCd7 hR8 s8 n8
      fail "ww"
      refine ⟨r, _, _, rfl, hR9, by omega, by decide, by decide, fun H9 g0 hg0 hg1 s9 hR10 => ?_⟩
      obtain ⟨g, rfl⟩ := Int.eq_ofNat_of_zero_le hg0
      have hD9 := s9 _ _ hDr hD8
      have hz9 := s9 _ _ hzr h8
      have hCd9 := hCd8.sx hR9 s9
      clear hD8 h8 hCd8 hR9 s9
      have hlz : (us.drop (us.length - 1)).length ≤ 1 := by rw [List.length_drop]; omega
      fail "ww"
      refine n_rep (n := g) hz9 (by omega) (by rw [List.length_map]; exact Nat.le_trans (Nat.mul_le_mul_right g hlz) (by omega)) ?_
      rw [reps_map]
      refine new_ fun z2 H10 n10 s10 h10 => ?_
      fail "ww"
      have hCr := cm_reps (cm_drop hCd9 (us.length - 1)) g
      have hCat := (cm_app2 hCd9 hCr).same s10
      have hdz : (ds.drop (us.length - 1)).length ≤ 1 := by have := hCd9.len; rw [List.length_drop]; omega
      have hrl := reps_len hdz g
      have hrl2 : (List.replicate g (us.drop (us.length - 1))).flatten.length ≤ g := by rw [hCr.len]; exact hrl
      refine n_cat (s10 _ _ hD9) h10 (by have := hCd9.len; rw [List.length_map, List.length_map]; exact size_le (by omega)) ?_
      rw [← List.map_append]
      refine new_ fun z3 H11 n11 s11 h11 => ?_
      fail "ww"
      refine ⟨z3, _, _, (), rfl, sq h11, hCat.same s11, by rw [List.length_append]; omega, fun c hc => ?_, fun H12 s12 => ?_⟩
      · rcases List.mem_append.mp hc with z | z
        · exact hbd c z
        · exact hbd c (List.mem_of_mem_drop (reps_in g z))
      fail "ww"
      exact ⟨_, _, _, _, _, _, _, rfl, (((hR10.same s10).same s11).same s12).le (by omega)⟩
  · obtain ⟨y2, y3, y4, y5, y6, y7, y8, rfl, hR0⟩ := p
    clear hS hS1 s1 hR hr0
    have hR0' := hR0.le (show _ ≤ 20000 by omega)
    clear hR0
    fail "ww"
    refine ⟨by decide, by decide, fun D nD => ?_⟩
    have hDr := hR0'.ne nD
    refine lc_it walk_range (fun j Hh => ∃ (gs : List (Cmd × Nat)), gs.length = j ∧ Hh D = some (.lst ((gs.map grpS).map V.str)) ∧ Ten gs ∧ Rng Hh r (20000 + j)) ?_ (fun _ _ _ _ => trivial) (fun j x Hh Hh' hj pp y => ?_) (fun Hh pp => ?_)
    · exact ⟨[], rfl, upd_same, (fun i g e => nomatch e), hR0'.other hDr⟩
    · obtain ⟨rfl, rfl⟩ := y
      obtain ⟨gs, hgs, hD, hT, hR6⟩ := pp
      have hj' : j < 10 := hj
      have es : ("*" : Str).length = 1 := by decide
      fail "ww"
      refine ⟨rfl, ?_⟩
      fail "ww"
      rw [show (0 : Int) + (j : Int) + 1 = ((j + 1 : Nat) : Int) by omega]
      have hj60 : j + 1 < 10 ^ 60 := Nat.lt_of_lt_of_le (show j + 1 < 11 by omega) (by decide)
      have l1 := num_len (n := j + 1) (k := 60) (by decide) hj60
      refine ⟨num_log hj60, ?_⟩
      fail "ww"
      refine ⟨size_le (show (num (j + 1)).length + ("*" : Str).length ≤ _ by omega), ?_⟩
      fail "ww"
      refine ⟨r, _, _, rfl, hR6, by omega, by decide, by decide, fun H7 e0 he0 he1 s7 hR7 => ?_⟩
      obtain ⟨e, rfl⟩ := Int.eq_ofNat_of_zero_le he0
      fail "ww"
      rw [show (2 : Int) + (e : Int) = ((2 + e : Nat) : Int) by omega]
      have he60 : 2 + e < 10 ^ 60 := Nat.lt_of_lt_of_le (show 2 + e < 102 by omega) (by decide)
      have l2 := num_len (n := 2 + e) (k := 60) (by decide) he60
      refine ⟨num_log he60, _, _, rfl, rfl, size_le ?_, ?_⟩
      · rw [str_len_app]
        show (num (j + 1)).length + ("*" : Str).length + (num (2 + e)).length ≤ _
        omega
      rw [show Str.ofString (toString ((j + 1 : Nat) : Int)) ++ "*" ++ Str.ofString (toString ((2 + e : Nat) : Int)) = grpS ((j + 1, j + 1), 2 + e) from ten_word (by omega)]
      subst hgs
      refine ⟨_, s7 _ _ hDr hD, by rw [List.length_map, List.length_map]; exact size_lt (by omega), gs ++ [((gs.length + 1, gs.length + 1), 2 + e)], by simp, by rw [upd_same, List.map_append, List.map_append]; rfl, hT.snoc (by omega) (by omega), (hR7.other hDr).le (by omega)⟩
    · obtain ⟨gs, hgs, hD, hT, hR6⟩ := pp
      have hgs' : gs.length = 10 := hgs
      clear hR0' nD
      fail "ww"
      rw [show (10 : Int) ^ Int.toNat 40 - 2 = ((10 ^ 40 - 2 : Nat) : Int) by decide +kernel]
      have b1 : 10 ^ 40 - 2 < 10 ^ 60 := by decide
      have b2 : 10 ^ 40 - 1 < 10 ^ 60 := by decide
      have l1 := num_len (n := 10 ^ 40 - 2) (k := 60) (by decide) b1
      have l2 := num_len (n := 10 ^ 40 - 1) (k := 60) (by decide) b2
      have ed : ("-" : Str).length = 1 := by decide
      refine ⟨num_log b1, ?_⟩
      fail "ww"
      rw [show (10 : Int) ^ Int.toNat 40 - 1 = ((10 ^ 40 - 1 : Nat) : Int) by decide +kernel]
      refine ⟨num_log b2, _, _, rfl, rfl, size_le ?_, ?_⟩
      · rw [str_len_app]
        show (num (10 ^ 40 - 2)).length + ("-" : Str).length + (num (10 ^ 40 - 1)).length ≤ _
        omega
      rw [show Str.ofString (toString ((10 ^ 40 - 2 : Nat) : Int)) ++ "-" ++ Str.ofString (toString ((10 ^ 40 - 1 : Nat) : Int)) = grpS (big, 1) from big_word]
      clear l1 l2 b1 b2
      have hds := hT.dst (by omega)
      have hps := hT.pos
      have hgl : (gs ++ [(big, 1)]).length = 11 := by simp [hgs']
      fail "ww"
      refine r_append hD (by rw [List.length_map, List.length_map]; exact size_lt (by omega)) ?_
      fail "ww"
      have hD2 : (upd Hh D (.lst ((gs.map grpS).map V.str ++ [.str (grpS (big, 1))]))) D = some (.lst (((gs ++ [(big, 1)]).map grpS).map V.str)) := by rw [upd_same, List.map_append, List.map_append]; rfl
      generalize upd Hh D (.lst ((gs.map grpS).map V.str ++ [.str (grpS (big, 1))])) = H7 at hD2 ⊢
      have hgn : gs ++ [(big, 1)] ≠ [] := by simp
      have hps2 : ∀ g ∈ gs ++ [(big, 1)], 1 ≤ g.2 ∧ g.2 ≤ 100 ∧ 1 ≤ g.1.1 ∧ g.1.1 ≤ g.1.2 ∧ g.1.2 < 10 ^ 40 := fun g hg => by
        have := hps g hg
        exact ⟨this.1, this.2.1, this.2.2.1, this.2.2.2.1, this.2.2.2.2 (by omega)⟩
      clear hps hT hD hgs hgs' hR6
      generalize gs ++ [(big, 1)] = G at *
      have hsx := show_exp hds (fun g hg => (hps2 g hg).1) hgn
      have hxl := expG_len (k := 100) G fun g hg => (hps2 g hg).2.1
      have hxn : expG G ≠ [] := fun z => by
        have := grp_exp _ G rfl hds (fun g hg => (hps2 g hg).1)
        rw [z] at this
        exact hgn this.symm
      have hxb : ∀ c ∈ expG G, 1 ≤ c.1 ∧ c.1 ≤ c.2 ∧ c.2 < 10 ^ 40 := fun c hc => by
        obtain ⟨g, hg, e⟩ := expG_in hc
        have := hps2 g hg
        rw [← e]
        exact this.2.2
      have hx60 : ∀ c ∈ expG G, c.1 < 10 ^ 60 ∧ c.2 < 10 ^ 60 := fun c hc => by
        have := hxb c hc
        have h1 : c.2 < 10 ^ 60 := Nat.lt_trans this.2.2 (by decide)
        exact ⟨Nat.lt_of_le_of_lt this.2.1 h1, h1⟩
      have hwl := words_len (expG G) hx60 (by omega)
      rw [grp_exp _ G rfl hds (fun g hg => (hps2 g hg).1)] at hwl
      have e1 : (" " : Str).length = 1 := by decide
      refine r_join (sq hD2) (by rw [e1, List.length_map]; omega) ?_
      rw [hsx]
      have hcl : (expG G).length ≤ 1100 := by omega
      clear hwl hsx hxl hD2 hds hps2 hgn hgl
      generalize expG G = cs at *
      fail "ww"
      refine ⟨cs, rfl, hxn, by omega, hxb, fun H8 p ts s8 np hp hC => ?_⟩
      fail "ww"
      refine ⟨p, ts, cs, rfl, sq hp, hC, by omega, hx60, fun H9 s9 => ?_⟩
      clear hp hC
      fail "ww"
      rw [decide_eq_true (rfl : showM cs = showM cs)]
      fail "ww"
      refine ⟨cs, rfl, hxn, by omega, hxb, fun H10 p2 ts2 s10 np2 hp2 hC2 => ?_⟩
      fail "ww"
      refine ⟨p2, ts2, cs, (), rfl, sq hp2, hC2, by omega, hx60, fun H11 s11 => ?_⟩
      clear hp2 hC2 s10 np2 s11 s9 s8 np
      fail "ww"
      refine new_ fun z0 K0 m0 t0 h0 => ?_
      fail "ww"
      refine ⟨z0, [], [], rfl, sq h0, Cm.nil, by decide, (fun c hc => nomatch hc), fun K1 t1 => ?_⟩
      clear h0 t0 m0 t1
      fail "ww"
      refine new_ fun z1 K2 m1 t2 h1 => ?_
      fail "ww"
      refine new_ fun z2 K3 m2 t3 h2 => ?_
      fail "ww"
      refine n_rep (n := 3) h2 (by decide) (show 1 * 3 ≤ 16777216 by decide) (new_ fun z3 K4 m4 t4 h4 => ?_)
      have h1' := t4 _ _ (t3 _ _ h1)
      fail "ww"
      refine ⟨z3, [z1, z1, z1], [(1, 1), (1, 1), (1, 1)], rfl, sq h4, ((Cm.nil.snoc (c := (1, 1)) h1').snoc (c := (1, 1)) h1').snoc (c := (1, 1)) h1', by decide, (fun c hc => by
        have : c = (1, 1) := by simpa using hc
        rw [this]; decide), fun K5 t5 => ?_⟩
      clear h1 h2 h4 t2 t3 t4 m1 m2 m4 h1'
      fail "ww"
      refine new_ fun z4 K6 m6 t6 h6 => ?_
      fail "ww"
      refine new_ fun z5 K7 m7 t7 h7 => ?_
      fail "ww"
      refine new_ fun z6 K8 m8 t8 h8 => ?_
      fail "ww"
      have h6' := t8 _ _ (t7 _ _ h6)
      have h7' := t8 _ _ h7
      refine ⟨z6, [z4, z5], [(1, 2), (1, 2)], rfl, sq h8, (Cm.nil.snoc (c := (1, 2)) h6').snoc (c := (1, 2)) h7', by decide, (fun c hc => by
        have : c = (1, 2) := by simpa using hc
        rw [this]; decide), fun K9 t9 => ?_⟩
      clear h6 h7 h8 t6 t7 t8 m6 m7 m8 h6' h7' t9 t5
      fail "ww"
      refine new_ fun z7 KA m7 t7 h7 => ?_
      fail "ww"
      refine new_ fun z8 KB m8 t8 h8 => ?_
      fail "ww"
      refine r_eqLS (ns := [showM [], showM [(1, 1), (1, 1), (1, 1)], showM [(1, 2), (1, 2)]]) (ms := [Str.ofString "none", Str.ofString "1*3", Str.ofString "1-2*2"]) (sq (t8 _ _ h7)) (sq h8) ?_ ?_ ?_
      · intro s hs
        rcases List.mem_cons.mp hs with e | e
        · rw [e]; exact ok_show _
        · rcases List.mem_cons.mp e with e | e
          · rw [e]; exact ok_show _
          · rw [List.mem_singleton.mp e]; exact ok_show _
      · rw [← show_three]
        intro s hs
        rcases List.mem_cons.mp hs with e | e
        · rw [e]; exact ok_show _
        · rcases List.mem_cons.mp e with e | e
          · rw [e]; exact ok_show _
          · rw [List.mem_singleton.mp e]; exact ok_show _
      · rw [decide_eq_true show_three]
        exact q _
end
theorem all_mk {w : World} {K : PySem.W.Frag} {h : Heap} {mg : Str → Option Value} {l : PySem.W.OpenLaw} {fa f_show_command f_read_number f_law_rng f_law_draw f_law_words f_show_repeated f_read_word f_law_commands f_law_great f_show_script f_read_script f_law_right f_law : Addr} (X : K.In h) (G : h.Ns mainGlobals mg) (hfa : mg "law" = some (.ref fa))
    {od0 an0 od1 an1 od2 an2 od3 an3 od4 an4 od5 an5 od6 an6 od7 an7 od8 an8 od9 an9 od10 an10 od11 an11 od12 an12 : Option Addr} {sl0 sl1 sl2 sl3 sl4 sl5 sl6 sl7 sl8 sl9 sl10 sl11 sl12 : Array (Option Value)} {oc0 kV0 dc0 pm0 cd0 ct0 oc1 kV1 dc1 pm1 cd1 ct1 oc2 kV2 dc2 pm2 cd2 ct2 oc3 kV3 dc3 pm3 cd3 ct3 oc4 kV4 dc4 pm4 cd4 ct4 oc5 kV5 dc5 pm5 cd5 ct5 oc6 kV6 dc6 pm6 cd6 ct6 oc7 kV7 dc7 pm7 cd7 ct7 oc8 kV8 dc8 pm8 cd8 ct8 oc9 kV9 dc9 pm9 cd9 ct9 oc10 kV10 dc10 pm10 cd10 ct10 oc11 kV11 dc11 pm11 cd11 ct11 oc12 kV12 dc12 pm12 cd12 ct12 : Value}
    (a0 : PySem.W.nsIn K mainGlobals "show_command" = some (some (.ref f_show_command)))
    (l0 : K.lookup f_show_command = some ⟨oc0, od0, .func (PySem.W.fnOf "show_command" "show_command" (defArgs s_show_command) (defBody s_show_command) (defScope s_show_command) .none kV0 dc0 pm0 an0 cd0 ct0), sl0⟩) (c0 : PySem.W.codeIn K cd0 "show_command" = true) (k0 : PySem.W.keepIn K (.ref f_show_command) = true)
    (a1 : PySem.W.nsIn K mainGlobals "read_number" = some (some (.ref f_read_number)))
    (l1 : K.lookup f_read_number = some ⟨oc1, od1, .func (PySem.W.fnOf "read_number" "read_number" (defArgs s_read_number) (defBody s_read_number) (defScope s_read_number) .none kV1 dc1 pm1 an1 cd1 ct1), sl1⟩) (c1 : PySem.W.codeIn K cd1 "read_number" = true) (k1 : PySem.W.keepIn K (.ref f_read_number) = true)
    (a2 : PySem.W.nsIn K mainGlobals "_law_rng" = some (some (.ref f_law_rng)))
    (l2 : K.lookup f_law_rng = some ⟨oc2, od2, .func (PySem.W.fnOf "_law_rng" "_law_rng" (defArgs s_law_rng) (defBody s_law_rng) (defScope s_law_rng) .none kV2 dc2 pm2 an2 cd2 ct2), sl2⟩) (c2 : PySem.W.codeIn K cd2 "_law_rng" = true) (k2 : PySem.W.keepIn K (.ref f_law_rng) = true)
    (a3 : PySem.W.nsIn K mainGlobals "_law_draw" = some (some (.ref f_law_draw)))
    (l3 : K.lookup f_law_draw = some ⟨oc3, od3, .func (PySem.W.fnOf "_law_draw" "_law_draw" (defArgs s_law_draw) (defBody s_law_draw) (defScope s_law_draw) .none kV3 dc3 pm3 an3 cd3 ct3), sl3⟩) (c3 : PySem.W.codeIn K cd3 "_law_draw" = true) (k3 : PySem.W.keepIn K (.ref f_law_draw) = true)
    (a4 : PySem.W.nsIn K mainGlobals "_law_words" = some (some (.ref f_law_words)))
    (l4 : K.lookup f_law_words = some ⟨oc4, od4, .func (PySem.W.fnOf "_law_words" "_law_words" (defArgs s_law_words) (defBody s_law_words) (defScope s_law_words) .none kV4 dc4 pm4 an4 cd4 ct4), sl4⟩) (c4 : PySem.W.codeIn K cd4 "_law_words" = true) (k4 : PySem.W.keepIn K (.ref f_law_words) = true)
    (a5 : PySem.W.nsIn K mainGlobals "show_repeated" = some (some (.ref f_show_repeated)))
    (l5 : K.lookup f_show_repeated = some ⟨oc5, od5, .func (PySem.W.fnOf "show_repeated" "show_repeated" (defArgs s_show_repeated) (defBody s_show_repeated) (defScope s_show_repeated) .none kV5 dc5 pm5 an5 cd5 ct5), sl5⟩) (c5 : PySem.W.codeIn K cd5 "show_repeated" = true) (k5 : PySem.W.keepIn K (.ref f_show_repeated) = true)
    (a6 : PySem.W.nsIn K mainGlobals "read_word" = some (some (.ref f_read_word)))
    (l6 : K.lookup f_read_word = some ⟨oc6, od6, .func (PySem.W.fnOf "read_word" "read_word" (defArgs s_read_word) (defBody s_read_word) (defScope s_read_word) .none kV6 dc6 pm6 an6 cd6 ct6), sl6⟩) (c6 : PySem.W.codeIn K cd6 "read_word" = true) (k6 : PySem.W.keepIn K (.ref f_read_word) = true)
    (a7 : PySem.W.nsIn K mainGlobals "_law_commands" = some (some (.ref f_law_commands)))
    (l7 : K.lookup f_law_commands = some ⟨oc7, od7, .func (PySem.W.fnOf "_law_commands" "_law_commands" (defArgs s_law_commands) (defBody s_law_commands) (defScope s_law_commands) .none kV7 dc7 pm7 an7 cd7 ct7), sl7⟩) (c7 : PySem.W.codeIn K cd7 "_law_commands" = true) (k7 : PySem.W.keepIn K (.ref f_law_commands) = true)
    (a8 : PySem.W.nsIn K mainGlobals "_law_great" = some (some (.ref f_law_great)))
    (l8 : K.lookup f_law_great = some ⟨oc8, od8, .func (PySem.W.fnOf "_law_great" "_law_great" (defArgs s_law_great) (defBody s_law_great) (defScope s_law_great) .none kV8 dc8 pm8 an8 cd8 ct8), sl8⟩) (c8 : PySem.W.codeIn K cd8 "_law_great" = true) (k8 : PySem.W.keepIn K (.ref f_law_great) = true)
    (a9 : PySem.W.nsIn K mainGlobals "show_script" = some (some (.ref f_show_script)))
    (l9 : K.lookup f_show_script = some ⟨oc9, od9, .func (PySem.W.fnOf "show_script" "show_script" (defArgs s_show_script) (defBody s_show_script) (defScope s_show_script) .none kV9 dc9 pm9 an9 cd9 ct9), sl9⟩) (c9 : PySem.W.codeIn K cd9 "show_script" = true) (k9 : PySem.W.keepIn K (.ref f_show_script) = true)
    (a10 : PySem.W.nsIn K mainGlobals "read_script" = some (some (.ref f_read_script)))
    (l10 : K.lookup f_read_script = some ⟨oc10, od10, .func (PySem.W.fnOf "read_script" "read_script" (defArgs s_read_script) (defBody s_read_script) (defScope s_read_script) .none kV10 dc10 pm10 an10 cd10 ct10), sl10⟩) (c10 : PySem.W.codeIn K cd10 "read_script" = true) (k10 : PySem.W.keepIn K (.ref f_read_script) = true)
    (a11 : PySem.W.nsIn K mainGlobals "_law_right" = some (some (.ref f_law_right)))
    (l11 : K.lookup f_law_right = some ⟨oc11, od11, .func (PySem.W.fnOf "_law_right" "_law_right" (defArgs s_law_right) (defBody s_law_right) (defScope s_law_right) .none kV11 dc11 pm11 an11 cd11 ct11), sl11⟩) (c11 : PySem.W.codeIn K cd11 "_law_right" = true) (k11 : PySem.W.keepIn K (.ref f_law_right) = true)
    (a12 : PySem.W.nsIn K mainGlobals "law" = some (some (.ref f_law)))
    (l12 : K.lookup f_law = some ⟨oc12, od12, .func (PySem.W.fnOf "law" "law" (defArgs s_law) (defBody s_law) (defScope s_law) .none kV12 dc12 pm12 an12 cd12 ct12), sl12⟩) (c12 : PySem.W.codeIn K cd12 "law" = true) (k12 : PySem.W.keepIn K (.ref f_law) = true)
    (z_abs : PySem.W.nsIn K mainGlobals "abs" = some none) (z_int : PySem.W.nsIn K mainGlobals "int" = some none) (z_len : PySem.W.nsIn K mainGlobals "len" = some none) (z_min : PySem.W.nsIn K mainGlobals "min" = some none) (z_range : PySem.W.nsIn K mainGlobals "range" = some none) (z_repr : PySem.W.nsIn K mainGlobals "repr" = some none) (z_str : PySem.W.nsIn K mainGlobals "str" = some none) {tk_LONGEST : Tok} (gc_LONGEST : PySem.W.nsIn K mainGlobals "LONGEST" = some (some (.int 40 tk_LONGEST))) :
    ∃ fd : FuncData, (∀ (s : Shared) (v : Value), BindsTo s fd ⟨[v], []⟩ [("script", v)]) ∧ ∀ base : Heap, K.In base → base.Ns mainGlobals mg → FnG l.prog w K mg base CX0 5 fa fd ["script"] (sp_law K) := by
  have e := hfa.symm.trans (PySem.W.mg_of X G a12)
  cases e
  have F0 := fun_mk (st := s_show_command) l0 c0 k0
  have b0 := F0.binds (ps := ["command"]) fun _ _ _ _ _ _ us hl => match us, hl with | [_], _ => rfl
  have F1 := fun_mk (st := s_read_number) l1 c1 k1
  have b1 := F1.binds (ps := ["word"]) fun _ _ _ _ _ _ us hl => match us, hl with | [_], _ => rfl
  have F2 := fun_mk (st := s_law_rng) l2 c2 k2
  have b2 := F2.binds (ps := ["script"]) fun _ _ _ _ _ _ us hl => match us, hl with | [_], _ => rfl
  have F3 := fun_mk (st := s_law_draw) l3 c3 k3
  have b3 := F3.binds (ps := ["rng", "limit"]) fun _ _ _ _ _ _ us hl => match us, hl with | [_, _], _ => rfl
  have F4 := fun_mk (st := s_law_words) l4 c4 k4
  have b4 := F4.binds (ps := ["some"]) fun _ _ _ _ _ _ us hl => match us, hl with | [_], _ => rfl
  have F5 := fun_mk (st := s_show_repeated) l5 c5 k5
  have b5 := F5.binds (ps := ["command", "many"]) fun _ _ _ _ _ _ us hl => match us, hl with | [_, _], _ => rfl
  have F6 := fun_mk (st := s_read_word) l6 c6 k6
  have b6 := F6.binds (ps := ["word"]) fun _ _ _ _ _ _ us hl => match us, hl with | [_], _ => rfl
  have F7 := fun_mk (st := s_law_commands) l7 c7 k7
  have b7 := F7.binds (ps := ["rng", "wide", "most"]) fun _ _ _ _ _ _ us hl => match us, hl with | [_, _, _], _ => rfl
  have F8 := fun_mk (st := s_law_great) l8 c8 k8
  have b8 := F8.binds (ps := ["rng", "most"]) fun _ _ _ _ _ _ us hl => match us, hl with | [_, _], _ => rfl
  have F9 := fun_mk (st := s_show_script) l9 c9 k9
  have b9 := F9.binds (ps := ["commands"]) fun _ _ _ _ _ _ us hl => match us, hl with | [_], _ => rfl
  have F10 := fun_mk (st := s_read_script) l10 c10 k10
  have b10 := F10.binds (ps := ["text"]) fun _ _ _ _ _ _ us hl => match us, hl with | [_], _ => rfl
  have F11 := fun_mk (st := s_law_right) l11 c11 k11
  have b11 := F11.binds (ps := ["some"]) fun _ _ _ _ _ _ us hl => match us, hl with | [_], _ => rfl
  have F12 := fun_mk (st := s_law) l12 c12 k12
  have b12 := F12.binds (ps := ["script"]) fun _ _ _ _ _ _ us hl => match us, hl with | [_], _ => rfl
  have kb_show_script_commands : KBinds K (PySem.W.fnOf "show_script" "show_script" (defArgs s_show_script) (defBody s_show_script) (defScope s_show_script) .none kV9 dc9 pm9 an9 cd9 ct9) ["commands"] ["commands"] (fun (us ws : List Value) => match us, ws with | [], [w0] => [w0] | _, _ => []) (fun (us ws : List V) => match us, ws with | [], [w0] => [w0] | _, _ => []) := by
    refine ⟨fun s us ws _ hl => ?_, fun {vs us zs ws} h1 h2 => ?_⟩
    · revert hl; (try dsimp only); split
      · intro _; exact .of_eq rfl
      · intro hl; cases hl
    · rcases h1 with _ | ⟨p1, _ | ⟨p2, h1⟩⟩ <;> rcases h2 with _ | ⟨q1, _ | ⟨q2, h2⟩⟩ <;> ((try dsimp only); repeat (first | exact .nil | refine .cons (by assumption) ?_))
  let T : Txt K mg := { show_command_a := f_show_command, show_command_d := _, show_command_F := F0, show_command_b := b0, show_command_g := PySem.W.mg_of X G a0, read_number_a := f_read_number, read_number_d := _, read_number_F := F1, read_number_b := b1, read_number_g := PySem.W.mg_of X G a1, law_rng_a := f_law_rng, law_rng_d := _, law_rng_F := F2, law_rng_b := b2, law_rng_g := PySem.W.mg_of X G a2, law_draw_a := f_law_draw, law_draw_d := _, law_draw_F := F3, law_draw_b := b3, law_draw_g := PySem.W.mg_of X G a3, law_words_a := f_law_words, law_words_d := _, law_words_F := F4, law_words_b := b4, law_words_g := PySem.W.mg_of X G a4, show_repeated_a := f_show_repeated, show_repeated_d := _, show_repeated_F := F5, show_repeated_b := b5, show_repeated_g := PySem.W.mg_of X G a5, read_word_a := f_read_word, read_word_d := _, read_word_F := F6, read_word_b := b6, read_word_g := PySem.W.mg_of X G a6, law_commands_a := f_law_commands, law_commands_d := _, law_commands_F := F7, law_commands_b := b7, law_commands_g := PySem.W.mg_of X G a7, law_great_a := f_law_great, law_great_d := _, law_great_F := F8, law_great_b := b8, law_great_g := PySem.W.mg_of X G a8, show_script_a := f_show_script, show_script_d := _, show_script_F := F9, show_script_b := b9, show_script_g := PySem.W.mg_of X G a9, read_script_a := f_read_script, read_script_d := _, read_script_F := F10, read_script_b := b10, read_script_g := PySem.W.mg_of X G a10, law_right_a := f_law_right, law_right_d := _, law_right_F := F11, law_right_b := b11, law_right_g := PySem.W.mg_of X G a11, law_a := fa, law_d := _, law_F := F12, law_b := b12, law_g := PySem.W.mg_of X G a12, k_show_script_commands := kb_show_script_commands, m_abs := PySem.W.mg_none_of X G z_abs, m_int := PySem.W.mg_none_of X G z_int, m_len := PySem.W.mg_none_of X G z_len, m_min := PySem.W.mg_none_of X G z_min, m_range := PySem.W.mg_none_of X G z_range, m_repr := PySem.W.mg_none_of X G z_repr, m_str := PySem.W.mg_none_of X G z_str, LONGEST_t := tk_LONGEST, LONGEST_g := PySem.W.mg_of X G gc_LONGEST }
  exact ⟨PySem.W.fnOf "law" "law" (defArgs s_law) (defBody s_law) (defScope s_law) .none kV12 dc12 pm12 an12 cd12 ct12, fun s v => .of_eq rfl, fun base _ _ => ok_law T⟩
end L50
open PySem PySem.W PyProof.Rows
set_option maxHeartbeats 0 in
theorem PySem.Challenge.cw_sortstretches_k50_texts_of_scripts_shown_holds : PySem.Challenge.rw_sortstretches_k50_texts_of_scripts_shown.Holds := by
  w_on; o_law; k_head; (case hw => w_witness2)
  k_fill
  refine Xk.walkG (l := PySem.Challenge.rw_sortstretches_k50_texts_of_scripts_shown) (m := 63) (n := 5) (x := "script") (CX := L2.CX0) (sp := L50.sp_law) rfl (by decide) rfl ⟨rfl, by decide, by decide⟩ (fun w h Y => PySem.W.kIn_of Y) ?F (fun K H a ns hl hO hS => ⟨a, ns, rfl, hS, hl, fun _ => rfl⟩) (fun _ _ _ _ h => h)
  case F =>
    intro w mg fa h KX G hmg
    refine' L50.all_mk KX G hmg ?a0 ?l0 ?c0 ?k0 ?a1 ?l1 ?c1 ?k1 ?a2 ?l2 ?c2 ?k2 ?a3 ?l3 ?c3 ?k3 ?a4 ?l4 ?c4 ?k4 ?a5 ?l5 ?c5 ?k5 ?a6 ?l6 ?c6 ?k6 ?a7 ?l7 ?c7 ?k7 ?a8 ?l8 ?c8 ?k8 ?a9 ?l9 ?c9 ?k9 ?a10 ?l10 ?c10 ?k10 ?a11 ?l11 ?c11 ?k11 ?a12 ?l12 ?c12 ?k12 ?z_abs ?z_int ?z_len ?z_min ?z_range ?z_repr ?z_str ?gc_LONGEST
    (case a0 => k_is); (case l0 => k_is); (case c0 => k_is); (case k0 => k_is); (case a1 => k_is); (case l1 => k_is); (case c1 => k_is); (case k1 => k_is); (case a2 => k_is); (case l2 => k_is); (case c2 => k_is); (case k2 => k_is); (case a3 => k_is); (case l3 => k_is); (case c3 => k_is); (case k3 => k_is); (case a4 => k_is); (case l4 => k_is); (case c4 => k_is); (case k4 => k_is); (case a5 => k_is); (case l5 => k_is); (case c5 => k_is); (case k5 => k_is); (case a6 => k_is); (case l6 => k_is); (case c6 => k_is); (case k6 => k_is); (case a7 => k_is); (case l7 => k_is); (case c7 => k_is); (case k7 => k_is); (case a8 => k_is); (case l8 => k_is); (case c8 => k_is); (case k8 => k_is); (case a9 => k_is); (case l9 => k_is); (case c9 => k_is); (case k9 => k_is); (case a10 => k_is); (case l10 => k_is); (case c10 => k_is); (case k10 => k_is); (case a11 => k_is); (case l11 => k_is); (case c11 => k_is); (case k11 => k_is); (case a12 => k_is); (case l12 => k_is); (case c12 => k_is); (case k12 => k_is); (case z_abs => k_is); (case z_int => k_is); (case z_len => k_is); (case z_min => k_is); (case z_range => k_is); (case z_repr => k_is); (case z_str => k_is); (case gc_LONGEST => k_is)
