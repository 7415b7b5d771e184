import PyProof.Rows.All
import Wide.All
import OpenK.AllK
import Wide.FinOn
import HandS.Base
import HandS.Call
import HandS.List
import HandS.Ends
import HandS.Wide
import HandS.Iter
import HandS.Conv
import HandS.ForMost
import HandS.ForExc
import HandS.SortInts
import HandS.SortKw
import HandS.SetFor
import HandS.Style
import HandS.Codes
import HandS.Strs
import HandS.Walk
import HandS.IsInst
import HandS.NoneIn
import HandS.Deep
import HandS.More
import PySem.Challenge.RW_sortstretches_k03_arrangements_compared
set_option maxHeartbeats 20000000
set_option Elab.async false
set_option linter.all false
set_option maxRecDepth 100000
namespace Xk
open PySem PySem.Spec PyProof.Rows L2

/-- a def's promise where no list is being written out around the call -/
structure FnG (P : Program) (w : World) (K : PySem.W.Frag) (mg : Str → Option Value) (B : Heap) (CX : CXT) (n : Nat) (g : Addr) (fd : FuncData) (ps : List Str) (sp : Sp) : Prop where
  cnt : ∀ vs H Q E, sp vs H Q E → vs.length = ps.length
  go : ∀ (A : Around) (ou : List Env) (t : Shared) (H : Hp) (ar : Args) (us : List Value) (vs : List V) (Q : VK) (E : XK),
    A.guards = some [] → Room n A → Env0 P w K mg B A ou t H → BindsTo t fd ar (ps.zip us) → Vals vs us → sp vs H Q E →
      codeAny (model P w) A (.call (.ref g) ar) (CR CX ou P w H t Q E) t

theorem FnG.of {P : Program} {w : World} {K : PySem.W.Frag} {mg : Str → Option Value} {B : Heap} {CX : CXT} {n : Nat} {g : Addr} {fd : FuncData} {ps : List Str} {sp : Sp}
    (F : FnOk P w K mg B CX n g fd ps sp) : FnG P w K mg B CX n g fd ps sp :=
  ⟨F.len, fun A ou t H ar us vs Q E _ room env bi rv hs => F.run A ou t H ar us vs Q E room env bi rv hs⟩

section
variable {X : Cx} {CX : CXT} {n : Nat} {g : Addr} {fd : FuncData} {ps ks : List Str} {sp : Sp} {dvs : List V} {ds : List Value} {E : XK} {x : Str} {p pos : Pos} {e : Expr} {es : List Expr} {kws : List Keyword} {t tk : TA}

theorem endG {pins : List (Addr × Obj)} {σ : L2.St} {H : Hp} {s s' : Shared} {Q : VK} {r : Result} (pas : Passes CX X E) (I : Inv X pins σ H s)
    (z : CR CX X.stack X.prog X.w H s Q E r s') :
    (match r with | .ok (.ret u) => EP X pins σ Q u s' | .ok _ => False | .error er => X.xe er s') := by
  match r, z with
  | .error er, z => exact pas pins σ H s er s' I z
  | .ok (.ret u), z => exact I.after z
  | .ok .next, z => exact z.elim
  | .ok .brk, z => exact z.elim
  | .ok .cont, z => exact z.elim

theorem goG {pins : List (Addr × Obj)} {σ : L2.St} {H : Hp} {s : Shared} {Q : VK} {us : List Value} {vs : List V} (F : FnG X.prog X.w X.K X.mg X.base CX n g fd ps sp)
    (hG : X.A.guards = some []) (room : Room n X.A) (bi : Binds X.K fd ps ds) (dv : Vals dvs ds) (pas : Passes CX X E) (I : Inv X pins σ H s) (rv : Vals vs us) (z : sp (vs ++ dvs) H Q E) :
    wpAny (model X.prog X.w) X.A (PySem.call (.ref g) us) (EP X pins σ Q) X.xe s := by
  have rv2 := rv.append dv
  have hlen : (us ++ ds).length = ps.length := rv2.length ▸ F.cnt _ _ _ _ z
  exact wpAny_call (codeAny_mono (F.go X.A X.stack s H ⟨us, []⟩ _ _ Q E hG room I.env0 (bi s us I.kIn hlen) rv2 z) fun r s' y => by
    have := endG pas I y
    revert this
    cases r with
    | error _ => exact id
    | ok fl => cases fl <;> exact id)

theorem pe_callG (F : FnG X.prog X.w X.K X.mg X.base CX n g fd ps sp) (hG : X.A.guards = some []) (room : Room n X.A) (gx : Gl X x) (at' : X.mg x = some (.ref g)) (kp : PySem.W.keepIn X.K (.ref g) = true)
    (bi : Binds X.K fd ps ds) (dv : Vals dvs ds) (pas : Passes CX X E) (ha : PA X (e :: es) t) (hdb : (x == ("__debug__" : Str)) = false := by decide)
    (he : starEach (e :: es) X.env = (false, eval e X.env) :: starEach es X.env := by rfl) (hpl : (backTo pos (starEach es X.env)).any (·.1) = false := by rfl) : PE X (.Call (.Name x p) (e :: es) [] pos) (tCall sp dvs E t) :=
  ⟨fun pins s σ H Q I z => wpAny_Call_Name_kw (ld_glob I gx at'
    (PySem.W.callWith_K (h₀ := X.base) I.ok.mod.kin kp (thn (ha.run pos pins s σ H _ I z) fun us s1 ⟨vs, H1, I1, r, q⟩ => ⟨I1.kIn, goG F hG room bi dv pas I1 r q⟩) he hpl) hdb)⟩

variable {ff : List Value → List Value → List Value} {fV : List V → List V → List V}
theorem goGK {pins : List (Addr × Obj)} {σ : L2.St} {H : Hp} {s : Shared} {Q : VK} {us ws : List Value} {vs zs : List V} (F : FnG X.prog X.w X.K X.mg X.base CX n g fd ps sp)
    (hG : X.A.guards = some []) (room : Room n X.A) (bi : KBinds X.K fd ps ks ff fV) (pas : Passes CX X E) (I : Inv X pins σ H s) (rv : Vals vs us) (rw' : Vals zs ws) (z : sp (fV vs zs) H Q E) :
    wpAny (model X.prog X.w) X.A (PySem.call (.ref g) us (ks.zip ws)) (EP X pins σ Q) X.xe s := by
  have rv2 := bi.rel rv rw'
  have hlen : (ff us ws).length = ps.length := rv2.length ▸ F.cnt _ _ _ _ z
  exact wpAny_call (codeAny_mono (F.go X.A X.stack s H ⟨us, ks.zip ws⟩ _ _ Q E hG room I.env0 (bi.to s us ws I.kIn hlen) rv2 z) fun r s' y => by
    have := endG pas I y
    revert this
    cases r with
    | error _ => exact id
    | ok fl => cases fl <;> exact id)

/-- f(e, .., k = v, ..) -/
theorem pe_callKG (F : FnG X.prog X.w X.K X.mg X.base CX n g fd ps sp) (hG : X.A.guards = some []) (room : Room n X.A) (gx : Gl X x) (at' : X.mg x = some (.ref g)) (kp : PySem.W.keepIn X.K (.ref g) = true)
    (bi : KBinds X.K fd ps ks ff fV) (pas : Passes CX X E) (ha : PA X (e :: es) t) (hkw : PK X kws tk) (hdb : (x == ("__debug__" : Str)) = false := by decide)
    (all' : (backToKw pos (keywordEach kws X.env)).all (·.1.isSome) = true := by rfl) (nms : (backToKw pos (keywordEach kws X.env)).filterMap (·.1) = ks := by rfl)
    (he : starEach (e :: es) X.env = (false, eval e X.env) :: starEach es X.env := by rfl)
    (hpl : ((backTo pos (starEach (e :: es) X.env)).any (·.1) || (backToKw pos (keywordEach kws X.env)).any (·.1.isNone)) = false := by rfl) :
    PE X (.Call (.Name x p) (e :: es) kws pos) (tCallK sp fV E t tk) := by
  subst nms
  exact ⟨fun pins s σ H Q I z => wpAny_Call_Name_kw (ld_glob I gx at'
    (PySem.W.callWith_KW (h₀ := X.base) I.ok.mod.kin kp all' (thn (ha.run pos pins s σ H _ I z) fun us s1 ⟨vs, H1, I1, r, q⟩ =>
      thn (hkw.run pos pins s1 σ H1 _ I1 q) fun ws s2 ⟨zs, H2, I2, rz, q2⟩ => ⟨I2.kIn, goGK F hG room bi pas I2 r rz q2⟩) hpl he) hdb)⟩
/-- f(k = v, ..) -/
theorem pe_callKG0 (F : FnG X.prog X.w X.K X.mg X.base CX n g fd ps sp) (hG : X.A.guards = some []) (room : Room n X.A) (gx : Gl X x) (at' : X.mg x = some (.ref g)) (kp : PySem.W.keepIn X.K (.ref g) = true)
    (bi : KBinds X.K fd ps ks ff fV) (pas : Passes CX X E) (hkw : PK X kws tk) (hdb : (x == ("__debug__" : Str)) = false := by decide)
    (all' : (backToKw pos (keywordEach kws X.env)).all (·.1.isSome) = true := by rfl) (nms : (backToKw pos (keywordEach kws X.env)).filterMap (·.1) = ks := by rfl)
    (hpl : ((backTo pos (starEach [] X.env)).any (·.1) || (backToKw pos (keywordEach kws X.env)).any (·.1.isNone)) = false := by rfl) :
    PE X (.Call (.Name x p) [] kws pos) (tCallK sp fV E tNil tk) := by
  subst nms
  exact ⟨fun pins s σ H Q I z => wpAny_Call_Name_kw (ld_glob I gx at'
    (PySem.W.callWith_KW0 (h₀ := X.base) I.ok.mod.kin kp all' (thn (hkw.run pos pins s σ H _ I z) fun ws s2 ⟨zs, H2, I2, rz, q2⟩ => ⟨I2.kIn, goGK F hG room bi pas I2 .nil rz q2⟩) hpl) hdb)⟩
end

/-- a def of the text by its body, the guards known -/
theorem fnG_of {P : Program} {w : World} {K : PySem.W.Frag} {mg : Str → Option Value} {B : Heap} {CX : CXT} {n : Nat} {g : Addr} {nm qual : Str} {pars : Arguments} {bd : List Stmt} {sc : Scope} {dV kV doc pm cdv ct oc : Value} {an od : Option Addr}
    {osl : Array (Option Value)} {N ps : List Str} {sp : Sp} (lk : K.lookup g = some ⟨oc, od, .func (PySem.W.fnOf nm qual pars bd sc dV kV doc pm an cdv ct), osl⟩) (hcd : PySem.W.codeIn K cdv qual = true) (S : FnScope N ps sc)
    (cnt : ∀ vs H Q E, sp vs H Q E → vs.length = ps.length)
    (body : ∀ (A : Around) (ou : List Env) (t : Shared) (H : Hp) (vs : List V) (Q : VK) (E : XK), A.guards = some [] → Room n (A.deeper (envOfC qual sc t.heap.objs.size g cdv)) → sp vs H Q E →
      ∃ r, PSs (cxOf CX P w K mg B N qual sc g cdv A ou t H E) bd r ∧ r { nx := fun _ H' => Q .non H', rt := Q } (L2.start N vs) H) :
    FnG P w K mg B CX (n + 1) g (PySem.W.fnOf nm qual pars bd sc dV kV doc pm an cdv ct) ps sp where
  cnt := cnt
  go A ou t H ar us vs Q E hG room env bi rv z := by
    have kin := env.mod.kin.keeps fun b o e => (env.bs b o e).1
    have lim := env.mod.nolimit.keeps fun b o e => (env.bs b o e).1
    have kinds : ∀ y ∈ ps.zip us, sc.names.lookup y.1 = some .local ∨ (sc.names.lookup y.1 = some .cell ∧ ((cellsFrom (t.heap.objs.size + 1) sc.names []).lookup y.1).isSome = true) := fun y hy =>
      (S.par y.1 (List.of_mem_zip (a := y.1) (b := y.2) hy).1).imp id fun q => ⟨q, PySem.W.cellsFrom_some _ _ _ (.inl q)⟩
    refine codeAny_call_function room.depth (kin _ _ lk) rfl S.co S.gen rfl (PySem.W.codeRec_of kin hcd) (bi _ _ _ _ (wpAny_newFunctionEnv_cells S.kind kinds fun env' he t1 x => ?_))
    subst he
    obtain ⟨r, hr, hq⟩ := body A ou t H vs Q E hG (room.deeper _) z
    refine ⟨lim.keeps x.toInCall.keep, codeAny_func (wpAny_mono (hr.run [] t1 (L2.start N vs) H _ (inv_start S room.hd env (cnt _ _ _ _ z) rv x) hq) (fun fl t' y => ?_) fun e t' y => y)⟩
    match fl, y with
    | .ret u, ⟨v, σ', H', J, ru, q⟩ => exact ⟨v, H', J.os, J.bare, J.base, J.hok, ru, q⟩
    | .next, ⟨σ', H', J, q⟩ => exact ⟨V.non, H', J.os, J.bare, J.base, J.hok, rfl, q⟩
    | .brk, ⟨_, _, _, q⟩ => exact q.elim
    | .cont, ⟨_, _, _, q⟩ => exact q.elim

/-- the law's call at the claim's caller, over an abstract heap that tracks the script at most -/
theorem lawG0 {P : Program} {w : World} {K : PySem.W.Frag} {mg mb : Str → Option Value} {CX : CXT} {n : Nat} {fa a : Addr} {fd : FuncData} {x : Str} {sp : Sp} {t : Shared} {vs : List Value} {H : Hp}
    (kin : K.In t.heap) (hm : t.heap.Ns mainGlobals mg) (hb : t.heap.Ns builtinsNs mb) (hbb : ∀ y : Str, y ≠ "__name__" → mb y = bootBuiltins y) (lim : t.heap.NoLimit) (gens : t.gens = #[])
    (ha : t.heap.get? a = some { cls := .type "list", data := .seq vs.toArray }) (room : Room n callerA)
    (F : ∀ B : Heap, K.In B → B.Ns mainGlobals mg → FnG P w K mg B CX n fa fd [x] sp) (bi : ∀ (s : Shared) (u : Value), BindsTo s fd ⟨[u], []⟩ [(x, u)])
    (z : sp [.ref a] H (fun v _ => v = .bl true) fun _ _ _ => False) (noX : ∀ H e s', CX [] H t (fun _ _ _ => False) e s' → False)
    (only : Only H) (hok : HOk P w H t.heap) (hA : ∀ b, H b ≠ none → b = a) (hK : H a ≠ none → K.lookup a = none) :
    codeAny (model P w) callerA (.call (.ref fa) ⟨[.ref a], []⟩) (fun r s' => r = .ok (.ret (.bool true)) ∧ OldK t.heap s'.heap ∧ s'.os = t.os ∧ AllBare s'.gens) t := by
  have free : ∀ {b : Addr}, b ≠ a → H b = none := fun {b} hne => Classical.byContradiction fun q => hne (hA b q)
  have low : ∀ {b : Addr} {o : Obj}, t.heap.get? b = some o → H b = none → (hidT t.heap H).get? b = some o := fun e q => hidT_get e q
  have dict : ∀ {b : Addr} {o : Obj} {es : Array DictEntry} {ep : Nat}, t.heap.get? b = some o → o.data = .dict es ep → H b = none := fun {b o es ep} e d => free fun q => by
    subst q
    rw [ha] at e
    cases e
    exact nomatch (show Data.seq vs.toArray _ = Data.dict es ep from d)
  have ns : ∀ {b : Addr} {m : Str → Option Value}, t.heap.Ns b m → (hidT t.heap H).Ns b m := fun ⟨o, es, ep, e, d, r⟩ => ⟨o, es, ep, low e (dict e d), d, r⟩
  have kb : K.In (hidT t.heap H) := fun b o e => low (kin b o e) (by
    by_cases q : b = a
    · subst q
      exact Classical.byContradiction fun y => by rw [hK y] at e; cases e
    · exact free q)
  obtain ⟨mc, l1, l2⟩ := lim
  have env : Env0 P w K mg (hidT t.heap H) callerA [] t H :=
    { frames := rfl, mod := ⟨kb, ns hm, ⟨mb, ns hb, hbb⟩, ⟨mc, ns l1, l2⟩⟩, bs := fun b o e => of_hidT e, bsz := Nat.le_of_eq (hidT_size _ _), funs := trivial,
      frf := fun b q => absurd (show b ∈ ([] : List Addr) from q) (by simp), hok := hok, bare := .of_eq gens }
  refine codeAny_mono ((F _ kb (ns hm)).go callerA [] t H ⟨[.ref a], []⟩ [.ref a] [.ref a] _ _ rfl room env (bi t (.ref a)) (.cons rfl .nil) z) fun r s' y => ?_
  match r, y with
  | .error e, y => exact (noX H e s' y).elim
  | .ok (.ret u), ⟨v, H', os, bare, un, hok', ru, q⟩ =>
    cases (show v = .bl true from q)
    cases (show u = Value.bool true from ru)
    refine ⟨rfl, OldK.of_keep fun b o e => ?_, os, bare⟩
    match hq : H b with
    | none => exact un.keep b o e hq (by intro q; exact absurd (show b ∈ ([] : List Addr) from q) (by simp)) (by simp)
    | some u =>
      rcases only b with q | ⟨ob, xs, q⟩
      · rw [hq] at q; cases q
      · obtain ⟨e1, _⟩ := hok b _ q
        obtain ⟨e2, _⟩ := hok' b _ (un.frzs b ob _ q)
        rw [e] at e1; cases e1
        exact e2

theorem lawG {P : Program} {w : World} {K : PySem.W.Frag} {mg mb : Str → Option Value} {CX : CXT} {n : Nat} {fa a : Addr} {fd : FuncData} {x : Str} {sp : Sp} {t : Shared} {vs : List Value} {ns : List Int}
    (kin : K.In t.heap) (hm : t.heap.Ns mainGlobals mg) (hb : t.heap.Ns builtinsNs mb) (hbb : ∀ y : Str, y ≠ "__name__" → mb y = bootBuiltins y) (lim : t.heap.NoLimit) (gens : t.gens = #[])
    (ha : t.heap.get? a = some { cls := .type "list", data := .seq vs.toArray }) (hi : IntsAre vs ns) (hl : ns.length ≤ sizeLine) (room : Room n callerA)
    (F : ∀ B : Heap, K.In B → B.Ns mainGlobals mg → FnG P w K mg B CX n fa fd [x] sp) (bi : ∀ (s : Shared) (u : Value), BindsTo s fd ⟨[u], []⟩ [(x, u)])
    (z : ∀ H : Hp, Only H → SqL K H a (ns.map V.int) → sp [.ref a] H (fun v _ => v = .bl true) fun _ _ _ => False) (noX : ∀ H e s', CX [] H t (fun _ _ _ => False) e s' → False) :
    codeAny (model P w) callerA (.call (.ref fa) ⟨[.ref a], []⟩) (fun r s' => r = .ok (.ret (.bool true)) ∧ OldK t.heap s'.heap ∧ s'.os = t.os ∧ AllBare s'.gens) t := by
  have rv := vals_ints hi
  match hk : K.lookup a with
  | some o =>
    have e := kin a o hk
    rw [ha] at e
    cases e
    have on : Only fun _ => none := fun _ => .inl rfl
    exact lawG0 kin hm hb hbb lim gens ha room F bi (z _ on (.inr ⟨_, vs.toArray, _, hk, rfl, rfl, rfl, by rw [List.size_toArray, hi.length]; exact hl, by simpa using rv⟩)) noX on
      (fun b u q => nomatch (show (none : Option HO) = some u from q)) (fun b q => absurd rfl q) fun q => absurd rfl q
  | none =>
    have at0 : ∀ {b : Addr}, b ≠ a → (if b = a then some (HO.frz { cls := .type "list", data := .seq vs.toArray } (.lst (ns.map V.int))) else none) = none := fun q => if_neg q
    have on : Only fun b => if b = a then some (HO.frz { cls := .type "list", data := .seq vs.toArray } (.lst (ns.map V.int))) else none := fun b => by
      by_cases q : b = a
      · exact .inr ⟨_, _, if_pos q⟩
      · exact .inl (if_neg q)
    refine lawG0 kin hm hb hbb lim gens ha room F bi (z _ on (.inl (.inr ⟨_, if_pos rfl⟩))) noX on (fun b u q => ?_) (fun b q => Classical.byContradiction fun y => q (if_neg y)) fun _ => hk
    by_cases y : b = a
    · subst y
      cases (if_pos rfl).symm.trans q
      exact ⟨ha, by rw [List.length_map]; exact hl, vs, _, rv, ha⟩
    · cases (at0 y).symm.trans q

/-- the goal that the head leaves, from the law's promise -/
theorem walkG {l : PySem.W.OpenLaw} {m n : Nat} {q : Program} {loose : List Str} {XP : (Str → Option Value) → Heap → Prop} {YP : World → Heap → Prop} {d : DefRec} {K : Params → PySem.W.Frag} {CX : CXT} {sp : PySem.W.Frag → Sp} {x : Str}
    (hn : l.most = some m) (hm : m ≤ sizeLine) (hdf : d.params.defaults = []) (room : Room n callerA) (hY : ∀ (w : World) (h : Heap), YP w h → (K w.params).In h)
    (F : ∀ (w : World) (mg : Str → Option Value) (fa : Addr) (h : Heap), (K w.params).In h → h.Ns mainGlobals mg → mg d.name = some (.ref fa) →
      ∃ fd : FuncData, (∀ (s : Shared) (u : Value), BindsTo s fd ⟨[u], []⟩ [(x, u)]) ∧
        ∀ B : Heap, (K w.params).In B → B.Ns mainGlobals mg → FnG l.prog w (K w.params) mg B CX n fa fd [x] (sp (K w.params)))
    (z : ∀ (K : PySem.W.Frag) (H : Hp) (a : Addr) (ns : List Int), ns.length ≤ m → Only H → SqL K H a (ns.map V.int) → sp K [.ref a] H (fun v _ => v = .bl true) fun _ _ _ => False)
    (noX : ∀ (H : Hp) (s : Shared) (e : Value) (s' : Shared), CX [] H s (fun _ _ _ => False) e s' → False) : PySem.W.WalkO q loose XP YP l.row.toRowW d [] (fun f vs => PySem.call f vs) :=
  Att.attach_call hn hdf fun w s0 s1 mg mb fa o pm cd doc a vs ns G Y ho hd hcd hmg hobj hints hlen hg =>
    have ⟨fd, hb, hF⟩ := F w mg fa _ (hY w _ Y) G.T.g hmg
    lawG (hY w _ Y) G.T.g G.T.b G.T.builtins G.T.nolimit hg hobj hints (Nat.le_trans hlen hm) room hF hb (fun H hO hS => z (K w.params) H a ns hlen hO hS) fun H e s' => noX H s1 e s'
end Xk

set_option Elab.async false
set_option linter.all false
set_option maxRecDepth 100000
namespace Xk
open PySem PySem.Spec PyProof.Rows L2

/-- ** with a whole exponent: base's bits times exponent within 2^27 -/
def CPowW (i j : Int) : Prop := 0 ≤ j ∧ (Builtin.Int.intBits i : Int) * j ≤ 2 ^ 27
section
variable {X : Cx}
theorem op_powW : OpR X (binaryOp .Pow) (rI CPowW fun i j => .int (i ^ j.toNat)) := opI fun _ _ _ _ _ _ _ hc q => pow_int hc.1 hc.2 q
end
theorem bits_le {i : Int} {n : Nat} (h : i.natAbs < 2 ^ n) : Builtin.Int.intBits i ≤ n := by
  unfold Builtin.Int.intBits
  split
  · omega
  · rename_i h0
    have h0' : i.natAbs ≠ 0 := by
      intro z
      apply h0
      simp [Int.natAbs_eq_zero.mp z]
    have := (Nat.log2_lt h0').mpr h
    omega
theorem powW {i : Int} {n : Nat} {j : Int} (h : i.natAbs < 2 ^ n) (h0 : 0 ≤ j) (hj : j ≤ 3) (hn : n ≤ 40000000) : CPowW i j := by
  refine ⟨h0, ?_⟩
  have h1 := bits_le h
  have : (Builtin.Int.intBits i : Int) * j ≤ 40000000 * 3 := by
    refine Int.mul_le_mul ?_ hj h0 (by omega)
    omega
  refine Int.le_trans this (by decide)

/-! ### xs[i] read for op= -/
section
variable {X : Cx}
theorem get_list : PGet X (rIxL X.K) := by
  intro pins s σ H o i ov iv Q I ro ri h
  obtain ⟨p, xs, k, z, rfl, rfl, hq, he, q⟩ := h
  cases ro
  obtain ⟨t, rfl⟩ := ri
  obtain ⟨its, r, pl, hz⟩ := I.list hq
  obtain ⟨j, h1, h2, h3, h4, h5⟩ := atI_get he
  obtain ⟨u, eu, ru⟩ := r.get h2
  have hl := r.length
  have hn := line63
  by_cases h0 : 0 ≤ k
  · have hj : k.toNat = j := by
      rw [seqIndex_of h0 h5] at h1
      exact Option.some.inj h1
    exact wpAny_getItem_list pl.isList h0 (by omega) (by rw [hj]; simpa using eu) ⟨z, H, I, ru, q⟩
  · have hj : (k + (its.toArray.size : Int)).toNat = j := by
      rw [seqIndex_neg (by omega) h4] at h1
      rw [List.size_toArray, ← hl]
      exact Option.some.inj h1
    exact wpAny_getItem_list_neg pl.isList (by omega) (by rw [List.size_toArray] <;> omega) (by omega) (by rw [hj]; simpa using eu) ⟨z, H, I, ru, q⟩
end

/-! ### xs[a:c] = ys -/
section
variable {X : Cx} {o : Expr} {lo hi : Option Expr} {to : TE} {tl th : TO} {p2 pos : Pos}
def gSlc (to : TE) (tl th : TO) : TG := fun v σ H Q => to σ H fun x H1 => tl σ H1 fun l H2 => th σ H2 fun u H3 =>
  ∃ (p b : Addr) (xs ys : List V) (a c : Int), x = .ref p ∧ v = .ref b ∧ l = some a ∧ u = some c ∧ H3 p = some (.lst xs) ∧ H3 b = some (.lst ys) ∧ p ≠ b ∧ 0 ≤ a ∧ a ≤ c ∧ c ≤ xs.length ∧ xs.length + ys.length ≤ sizeLine ∧
    Q σ (upd H3 p (.lst (xs.take a.toNat ++ ys ++ xs.drop c.toNat)))
theorem pg_slc (ho : PE X o to) (hl : PO X lo tl) (hu : PO X hi th) : PG X (.Subscript o (.Slice lo hi none p2) pos) (gSlc to tl th) := by
  refine ⟨fun pins s σ H v u Q I r z => ?_⟩
  rw [arm_assign_Subscript]
  refine wpAny_bind (wpAny_holding (thn (ho.run pins s σ H _ I z) fun ov s1 ⟨x, H1, I1, r1, q1⟩ => ?_))
  refine wpAny_bind (wpAny_holding (wpAny_Slice (thn (hl.run pins s1 σ H1 _ I1 q1) fun vl s2 ⟨l, H2, I2, pl, q2⟩ => thn (hu.run pins s2 σ H2 _ I2 q2) fun vu s3 ⟨c', H3, I3, pu, q3⟩ => ?_)))
  rw [evalPart_none]
  refine wpAny_pure ?_
  obtain ⟨p, b, xs, ys, a, c, rfl, rfl, rfl, rfl, hp, hb, hne, h0, hac, hc, hz, q⟩ := q3
  cases r1
  cases r
  cases pl with
  | int _ ta =>
    cases pu with
    | int _ tc =>
      have I4 : Inv X pins σ H3 { s3 with heap := s3.heap.push { cls := .type "slice", data := .fields #[.int a ta, .int c tc, .none] } } := I3.kept (t' := s3.toks) fun b ob q => Heap.get?_push_of_some _ q
      refine wpAny_bind (wpAny_standAt (wpAny_bind (wpAny_holding (set_slice I4 hp hb hne (Heap.IsSliceOf.new ..) ⟨ta, rfl⟩ ⟨tc, rfl⟩ h0 hac hc hz fun s' I5 => ?_))))
      exact wpAny_release ⟨σ, _, I5, q⟩
end

/-! ### repr of lists -/
section
variable {X : Cx}
mutual
theorem dp_nodict {K : PySem.W.Frag} {H : Hp} : ∀ (d : PyData) (v : V), Dp K H v d → d.hasDict = false
  | .none, _, _ => rfl
  | .bool _, _, _ => rfl
  | .int _, _, _ => rfl
  | .str _, _, _ => rfl
  | .list ds, _, h => by
    cases h with
    | lst _ a => exact dp_nodictAll ds _ a
  | .tuple ds, _, h => by
    cases h with
    | tup _ a => exact dp_nodictAll ds _ a
  | .dict _, _, h => by cases h
theorem dp_nodictAll {K : PySem.W.Frag} {H : Hp} : ∀ (ds : List PyData) (vs : List V), DpAll K H vs ds → PyData.hasDictAll ds = false
  | [], _, _ => rfl
  | d :: ds, _, h => by
    cases h with
    | cons a b =>
      show (d.hasDict || PyData.hasDictAll ds) = false
      rw [dp_nodict d _ a, dp_nodictAll ds _ b]
      rfl
end
def rReprD (K : PySem.W.Frag) : List V → Hp → VK → Prop := fun xs H Q => ∃ a d, xs = [.ref a] ∧ Dp K H (.ref a) d ∧ d.showable = true ∧ d.depth ≤ 60 ∧ d.shown.length ≤ sizeLine ∧ Q (.str d.shown) H
theorem call_reprD (hG : X.A.guards = some []) (hu : X.A.units + 64 < cLine) : CallR X (.builtin "repr") (rReprD X.K) := by
  intro pins s σ H xs us Q I r h
  obtain ⟨a, d, rfl, hd, hs, hdp, hz, q⟩ := h
  obtain ⟨u, rfl, rfl⟩ := vals1 r
  obtain ⟨as, rd⟩ := Dp.reads I d _ _ hd rfl
  exact repr_of_reads' rd hs (fun z => by rw [dp_nodict d _ hd] at z; cases z) hG (by omega) (fun b o e => e) (fun h' u tk k => ⟨.str d.shown, H, I.kept k, ⟨u, rfl⟩, q⟩) hz
end
end Xk

set_option Elab.async false
set_option linter.all false
set_option maxRecDepth 100000
namespace Xk
open PySem PySem.Spec PyProof.Rows L2
/-! ### list(range(a, b, c)) -/
def rg3V (i c : Int) (n : Nat) : List V := (List.range n).map fun k => V.int (i + (k : Nat) * c)
theorem rg3V_length (i c : Int) (n : Nat) : (rg3V i c n).length = n := by unfold rg3V; simp
theorem vals_rg3 {i c : Int} {n : Nat} {acc : Array Value} (h : ItemsOf (fun k v => ∃ t, v = .int (i + k * c) t) acc n) : Vals (rg3V i c n) acc.toList := by
  have e : acc.toList.length = n := by rw [Array.length_toList]; exact h.1
  unfold rg3V
  rw [← e]
  refine vals_of_get _ (fun k => V.int (i + (k : Nat) * c)) fun j u hu => ?_
  exact h.2 j u (by simpa using hu)
def tLst3 (ta : TA) : TE := fun σ H Q => ta σ H fun vs H1 => ∃ (i j c : Int) (n : Nat), vs = [.int i, .int j, .int c] ∧ RgC i j c n ∧ n ≤ 2 ^ 24 ∧ ∀ q, H1 q = none → Q (.ref q) (upd H1 q (.lst (rg3V i c n)))
section
variable {X : Cx} {a b c : Expr} {ta : TA} {p pos p1 pos1 : Pos}
theorem pe_listRg3 (calm : X.calm = true) (hl : Gl X "list") (ml : X.mg "list" = none) (hg : Gl X "range") (hm : X.mg "range" = none) (ha : PA X [a, b, c] ta)
    (hs : starEach [a, b, c] X.env = (false, eval a X.env) :: starEach [b, c] X.env := by rfl) (hpl : (backTo pos (starEach [b, c] X.env)).any (·.1) = false := by rfl)
    (na : starEach [Expr.Call (.Name "range" p) [a, b, c] [] pos] X.env = (false, eval (Expr.Call (.Name "range" p) [a, b, c] [] pos) X.env) :: starEach [] X.env := by rfl) :
    PE X (.Call (.Name "list" p1) [.Call (.Name "range" p) [a, b, c] [] pos] [] pos1) (tLst3 ta) := by
  refine ⟨fun pins s σ H Q I z => ?_⟩
  refine Call_ (ld_blt I hl ml boot_list (PyProof.Rows.callWith_type1 (args_cons (Call_ (ld_blt I hg hm boot_range (PyProof.Rows.callWith_type1 (thn (ha.run pos pins s σ H _ I z) fun us s1 ⟨vs, H1, I1, r1, q1⟩ => ?_) hs hpl))) na) na))
  obtain ⟨i, j, k, n, e, ⟨c0, c1, c2, c3⟩, hn, q⟩ := q1
  subst e
  cases r1 with
  | cons r rr =>
    cases rr with
    | cons r' rr =>
      cases rr with
      | cons r'' rr =>
        cases rr
        obtain ⟨t, rfl⟩ := r
        obtain ⟨t', rfl⟩ := r'
        obtain ⟨t'', rfl⟩ := r''
        refine call_range_3 c0 (args_nil ?_) (.inl (PyProof.noPylong_small c1))
        have I2 : Inv X pins σ H1 { s1 with heap := s1.heap.push { cls := .type "range", data := .fields #[.int i t, .int j t', .int k t''] }, toks := s1.toks } := I1.kept fun b o e => Heap.get?_push_of_some _ e
        refine call_list_range (n := n) (I2.ok.hd calm) (IsRange.new ..) c2 c3 hn fun h' tk acc c' hk e' hi => ?_
        refine ⟨.ref _, upd H1 _ (.lst (rg3V i k n)), I2.laid hk (Nat.le_refl _) (show ObjOk X.prog X.w _ _ _ (.lst (rg3V i k n)) from ⟨?_, acc.toList, c', vals_rg3 hi, ?_⟩), rfl, q _ (I2.hok.fresh (Nat.le_refl _))⟩
        · rw [rg3V_length]; exact hn
        · rw [Array.toArray_toList]; exact e'
end
end Xk

set_option Elab.async false
set_option linter.all false
set_option maxRecDepth 100000
namespace Xk
open PySem PySem.Spec PyProof.Rows L2

section
variable {P : Program} {w : World} {K : PySem.W.Frag} {mg : Str → Option Value} {base : Heap}
/-- a def by its body, the guards known, nothing raised -/
theorem okG {x qual : Str} {st : Stmt} {f : Addr} {fd : FuncData} {N ps : List Str} {k : Nat} {sp : Sp} (F : Fun K x qual st f fd) (S : FnScope N ps (defScope st)) (cnt : ∀ vs H Q E, sp vs H Q E → vs.length = ps.length)
    (body : ∀ (cdv : Value) (A : Around) (ou : List Env) (t : Shared) (H : Hp) (vs : List V) (Q : VK) (E : XK), A.guards = some [] → Room k (A.deeper (envOfC qual (defScope st) t.heap.objs.size f cdv)) → sp vs H Q E →
      ∃ r, PSs (cxOf CX0 P w K mg base N qual (defScope st) f cdv A ou t H E).nox (defBody st) r ∧ r ⟨fun _ H' => Q .non H', Q, fun _ _ => False, fun _ _ => False⟩ (L2.start N vs) H) : FnG P w K mg base CX0 (k + 1) f fd ps sp := by
  obtain ⟨oc, od, kV, doc, pm, an, cdv, ct, osl, rfl, lk, hcd⟩ := F.ex
  refine fnG_of lk hcd S cnt fun A ou t H vs Q E hG hr hsp => ?_
  obtain ⟨r, h, q⟩ := body cdv A ou t H vs Q E hG hr hsp
  exact ⟨r, h.nox, q⟩
end

/-! ### words -/
section
variable {X : Cx} {x : Str} {pos pos' : Pos} {e : Expr} {te : TE} {op : Operator} {ti : TIp}
theorem sset (i : Nat) (nd : X.N.Nodup) (he : PE X e te) (hi : X.N[i]? = some x := by rfl) (hx : Loc X.env.scope x := by first | exact Or.inl rfl | exact Or.inr rfl)
    (hs : swapsWith e (some (.Name x pos')) pos.line X.env = pure false := by rfl) (hf : X.fn x = true ∨ X.env.scope.names.lookup x = some .local := by first | exact Or.inl rfl | exact Or.inr rfl) : PS X (.Assign [.Name x pos'] e pos) (tAsg te (gName i)) := ps_set nd hi hx he hs hf
theorem gset (i : Nat) (nd : X.N.Nodup) (hi : X.N[i]? = some x := by rfl) (hx : Loc X.env.scope x := by first | exact Or.inl rfl | exact Or.inr rfl) (hf : X.fn x = true ∨ X.env.scope.names.lookup x = some .local := by first | exact Or.inl rfl | exact Or.inr rfl) : PG X (.Name x pos) (gName i) := pg_name nd hi hx hf
theorem saug (i : Nat) (nd : X.N.Nodup) (he : PE X e te) (ho : PIp X op ti) (hi : X.N[i]? = some x := by rfl) (hx : Loc X.env.scope x := by first | exact Or.inl rfl | exact Or.inr rfl) (hf : X.fn x = true ∨ X.env.scope.names.lookup x = some .local := by first | exact Or.inl rfl | exact Or.inr rfl) : PS X (.AugAssign (.Name x pos') op e pos) (tAug i te ti) := ps_aug nd hi hx he ho hf
end
/-! ### the rules that speak of the written part, the part given -/
section
variable {X : Cx} (K : PySem.W.Frag) {e a b l o : Expr} {es ts : List Expr} {te ta tb tl to : TE} {t : TA} {g : TGs} {pos cpos apos p p1 p2 p3 tpos : Pos} {tg : Expr} {T id : String} {name : Str}
theorem ix_listK (hK : X.K = K := by rfl) : IxR X (rIxL K) := hK ▸ ix_list
theorem ix_tupK (hK : X.K = K := by rfl) : IxR X (rIxT K) := hK ▸ ix_tup
theorem sl_listK (hK : X.K = K := by rfl) : SlR X (rSlL K) := hK ▸ sl_list
theorem sl_tupK (hK : X.K = K := by rfl) : SlR X (rSlT K) := hK ▸ sl_tup
def rLen (K : PySem.W.Frag) : List V → Hp → VK → Prop := fun xs H Q => ∃ p ys, xs = [.ref p] ∧ (SqL K H p ys ∨ SqT K H p ys) ∧ Q (.int ys.length) H
theorem lenK (hK : X.K = K := by rfl) : CallR X (.builtin "len") (rLen K) := hK ▸ call_len_seq
def rListOf (K : PySem.W.Frag) : List V → Hp → VK → Prop := fun xs H Q => ∃ p ys, xs = [.ref p] ∧ (SqL K H p ys ∨ SqT K H p ys) ∧ ∀ l, H l = none → Q (.ref l) (upd H l (.lst ys))
theorem listK (hK : X.K = K := by rfl) : CallR X (.type "list") (rListOf K) := hK ▸ call_list_of
def rTupOf (K : PySem.W.Frag) : List V → Hp → VK → Prop := fun xs H Q => ∃ p ys, xs = [.ref p] ∧ ((SqL K H p ys ∧ ∀ l, H l = none → Q (.ref l) (upd H l (.tup ys))) ∨ (SqT K H p ys ∧ Q (.ref p) H))
theorem tupleK (hK : X.K = K := by rfl) : CallR X (.type "tuple") (rTupOf K) := hK ▸ call_tuple_of
theorem sumK (hc : X.calm = true) (hK : X.K = K := by rfl) : CallR X (.builtin "sum") (rSum K) := hK ▸ cr_sum hc
theorem minK (hc : X.calm = true) (hK : X.K = K := by rfl) : CallR X (.builtin "min") (rMin K) := hK ▸ cr_min hc
theorem maxK (hc : X.calm = true) (hK : X.K = K := by rfl) : CallR X (.builtin "max") (rMax K) := hK ▸ cr_max hc
theorem allK (hc : X.calm = true) (hK : X.K = K := by rfl) : CallR X (.builtin "all") (rAll K) := hK ▸ cr_all hc
theorem anyK (hc : X.calm = true) (hK : X.K = K := by rfl) : CallR X (.builtin "any") (rAny K) := hK ▸ cr_any hc
theorem sortedK (hK : X.K = K := by rfl) : CallR X (.builtin "sorted") (rSortedI K) := hK ▸ cr_sortedI
theorem sortedRK (hK : X.K = K := by rfl) : CallRK X (.builtin "sorted") [Str.ofString "reverse"] (rSortedKw K true [.bl true]) := hK ▸ cr_sortedRev
theorem reprK (hG : X.A.guards = some []) (hu : X.A.units + 64 < cLine) (hK : X.K = K := by rfl) : CallR X (.builtin "repr") (rReprD K) := hK ▸ call_reprD hG hu
theorem eqDK (hu : X.A.units + 64 < cLine) (hK : X.K = K := by rfl) : OpR X (compareOp .Eq) (rEqD K) := hK ▸ op_eqD hu
theorem neDK (hu : X.A.units + 64 < cLine) (hK : X.K = K := by rfl) : OpR X (compareOp .NotEq) (rNeD K) := hK ▸ op_neD hu
theorem inK (hK : X.K = K := by rfl) : OpR X (compareOp .In) (rIn K false) := hK ▸ op_in_seq
theorem notInK (hK : X.K = K := by rfl) : OpR X (compareOp .NotIn) (rIn K true) := hK ▸ op_notIn_seq
theorem lcountK (hK : X.K = K := by rfl) : MtR X "list.count" (rCntI K) := hK ▸ mt_lcount
theorem lindexK (hK : X.K = K := by rfl) : MtR X "list.index" (rIndex K) := hK ▸ mt_index
theorem getK (hK : X.K = K := by rfl) : PGet X (rIxL K) := hK ▸ get_list
theorem pi_listK (h : PE X l tl) (hK : X.K = K := by rfl) : PI X tg l (iList K tl) := hK ▸ pi_list h
theorem pi_tupK (h : PE X l tl) (hK : X.K = K := by rfl) : PI X tg l (iTup K tl) := hK ▸ pi_tup h
theorem pi_enumK {elts : List Expr} {kk : Nat} (hg : Gl X "enumerate") (hm : X.mg "enumerate" = none) (ha : PA X [e] t) (hs : starEach [e] X.env = [(false, eval e X.env)] := by rfl) (hK : X.K = K := by rfl) :
    PI X (.Tuple elts kk tpos) (.Call (.Name "enumerate" p) [e] [] pos) (iEnum K t) := hK ▸ pi_enum hg hm ha hs
theorem pi_reversedK (hg : Gl X "reversed") (hm : X.mg "reversed" = none) (ha : PA X [e] t) (hs : starEach [e] X.env = [(false, eval e X.env)] := by rfl) (hK : X.K = K := by rfl) : PI X tg (.Call (.Name "reversed" p) [e] [] pos) (iRev K t) := hK ▸ pi_reversed hg hm ha hs
theorem pe_revLK {k : Nat} (he : PE X e te) (hK : X.K = K := by rfl) : PE X (.Subscript e (.Slice none none (some (.UnaryOp .USub (.Constant (.int 1) k p1) p2)) p3) pos) (tRevL K te) := hK ▸ pe_revL he
theorem pg_tupK {k : Nat} (n : Nat) (hc : X.calm = true) (h : PGs X es g) (hn : (assignEach es X.env).length = n := by rfl) (hst : (assignEach es X.env).findIdx? (·.1) = none := by rfl) (hK : X.K = K := by rfl) : PG X (.Tuple es k pos) (gTup K n g) := hK ▸ pg_tup hc h hn hst
theorem pi_zipK {e2 : Expr} {elts : List Expr} {kk : Nat} (hg : Gl X "zip") (hm : X.mg "zip" = none) (ha : PA X [e, e2] t)
    (hs : starEach [e, e2] X.env = (false, eval e X.env) :: starEach [e2] X.env := by rfl) (hpl : (backTo pos (starEach [e2] X.env)).any (·.1) = false := by rfl) (hK : X.K = K := by rfl) :
    PI X (.Tuple elts kk tpos) (.Call (.Name "zip" p) [e, e2] [] pos) (iZip K t) := hK ▸ pi_zip hg hm ha hs hpl
theorem pe_bmK {r : V → List V → Hp → VK → Prop} (pa : PlainAttrs T) (slot : Slot T name id) (hty : typeOf (.builtin id) = pure (.type "method_descriptor")) (hm : MtR X id r) (ho : PE X o to) (ha : PA X (e :: es) t)
    (hbase : attributeBase o name X.env (eval o X.env) = eval o X.env := by rfl)
    (hfew : ((backTo cpos (starEach (e :: es) X.env)).all (fun x => !x.1) && (backToKw cpos (keywordEach [] X.env)).all (fun x => x.1.isSome) && decide ((e :: es).length + ([] : List Keyword).length + (if ([] : List Keyword).isEmpty then 0 else 1) < 30)) = true := by rfl)
    (hline : (apos.endLine == cpos.line) = true := by rfl) (hs : starEach (e :: es) X.env = (false, eval e X.env) :: starEach es X.env := by rfl) (hplain : (backTo cpos (starEach es X.env)).any (·.1) = false := by rfl) (hK : X.K = K := by rfl) :
    PE X (.Call (.Attribute o name apos) (e :: es) [] cpos) (tBM K T r to t) := hK ▸ pe_bm pa slot hty hm ho ha hbase hfew hline hs hplain
theorem pe_bm0K {r : V → List V → Hp → VK → Prop} (pa : PlainAttrs T) (slot : Slot T name id) (hty : typeOf (.builtin id) = pure (.type "method_descriptor")) (hm : MtR X id r) (ho : PE X o to)
    (hbase : attributeBase o name X.env (eval o X.env) = eval o X.env := by rfl) (hline : (apos.endLine == cpos.line) = true := by rfl) (hK : X.K = K := by rfl) : PE X (.Call (.Attribute o name apos) [] [] cpos) (tBM0 K T r to) := hK ▸ pe_bm0 pa slot hty hm ho hbase hline
def tTruth (K : PySem.W.Frag) (ta : TE) : TT := fun σ H Q => ta σ H fun x H' => ∃ k, TruV K x H' k ∧ Q k H'
theorem pt_truthK (ha : PE X a ta) (he : ∀ whole, isTrue a X.env whole = (do let v ← whole; standAt a.pos; holding [v] (truthy v)) := by intro _; rfl) (hK : X.K = K := by rfl) : PT X a (tTruth K ta) := hK ▸ pt_truth ha he
end
end Xk

set_option Elab.async false
set_option linter.all false
set_option maxRecDepth 100000
namespace Xk
open PySem PySem.Spec PyProof.Rows L2

section
variable {K : PySem.W.Frag} {σ : L2.St} {H : Hp} {Q : VK} {R : List V → Hp → Prop} {ta tb te tc tv : TE} {tA : TA} {t u : TT} {v x y : V} {i j : Int} {Qb : Bool → Hp → Prop}
  {nx bk ct : L2.St → Hp → Prop} {rt : VK} {s1 s2 : TS} {g g1 : TG} {gs : TGs}
/-! ### expressions -/
theorem r_var {n : Nat} (h : σ[n]? = some (some v)) (q : Q v H) : tVar n σ H Q := ⟨v, h, q⟩
theorem r_c (q : Q v H) : tC v σ H Q := q
theorem r_op {r : R2} (h : ta σ H fun x H1 => tb σ H1 fun y H2 => r x y H2 Q) : tOp r ta tb σ H Q := h
theorem r_un {r : V → Hp → VK → Prop} (h : ta σ H fun x H1 => r x H1 Q) : tUn r ta σ H Q := h
theorem r_I0 {f : Int → Int → V} (q : Q (f i j) H) : rI0 f (.int i) (.int j) H Q := ⟨i, j, rfl, rfl, q⟩
theorem r_I {C : Int → Int → Prop} {f : Int → Int → V} (hc : C i j) (q : Q (f i j) H) : rI C f (.int i) (.int j) H Q := ⟨i, j, rfl, rfl, hc, q⟩
theorem r_U {f : Int → V} (q : Q (f i) H) : rU f (.int i) H Q := ⟨i, rfl, q⟩
theorem r_ixL {p : Addr} {xs : List V} (h : SqL K H p xs) (ha : atI xs i = some v) (q : Q v H) : rIxL K (.ref p) (.int i) H Q := ⟨p, xs, i, v, rfl, rfl, h, ha, q⟩
theorem r_ixT {p : Addr} {xs : List V} (h : SqT K H p xs) (ha : atI xs i = some v) (q : Q v H) : rIxT K (.ref p) (.int i) H Q := ⟨p, xs, i, v, rfl, rfl, h, ha, q⟩
theorem r_nil (q : R [] H) : tNil σ H R := q
theorem r_cons (h : ta σ H fun x H1 => tA σ H1 fun xs H2 => R (x :: xs) H2) : tCons ta tA σ H R := h
theorem r_lst (h : tA σ H fun xs H1 => xs.length ≤ sizeLine ∧ ∀ p, H1 p = none → Q (.ref p) (upd H1 p (.lst xs))) : tLst tA σ H Q := h
theorem r_tup (h : tA σ H fun xs H1 => xs.length ≤ sizeLine ∧ ∀ p, H1 p = none → Q (.ref p) (upd H1 p (.tup xs))) : tTup tA σ H Q := h
theorem r_call {sp : Sp} {dvs : List V} {E : XK} (h : tA σ H fun vs H1 => sp (vs ++ dvs) H1 Q E) : tCall sp dvs E tA σ H Q := h
theorem r_callK {sp : Sp} {gV : List V → List V → List V} {E : XK} {tk : TA} (h : tA σ H fun vs H1 => tk σ H1 fun zs H2 => sp (gV vs zs) H2 Q E) : tCallK sp gV E tA tk σ H Q := h
theorem r_cb {r : List V → Hp → VK → Prop} (h : tA σ H fun vs H1 => r vs H1 Q) : tCB r tA σ H Q := h
theorem r_ckw {r : List V → List V → Hp → VK → Prop} {tk : TA} (h : tA σ H fun vs H1 => tk σ H1 fun zs H2 => r vs zs H2 Q) : tCKw r tA tk σ H Q := h
theorem r_sl {r : V → Option Int → Option Int → Hp → VK → Prop} {tl th : TO} (h : te σ H fun x H1 => tl σ H1 fun l H2 => th σ H2 fun u H3 => r x l u H3 Q) : tSl r te tl th σ H Q := h
theorem r_part {Qo : Option Int → Hp → Prop} (h : te σ H fun x H1 => ∃ i, x = .int i ∧ Qo (some i) H1) : tPart te σ H Qo := h
theorem r_nopart {Qo : Option Int → Hp → Prop} (h : Qo none H) : tNoPart σ H Qo := h
theorem r_exi {Qo : Int → Prop} (h : Qo i) : ∃ j, V.int i = .int j ∧ Qo j := ⟨i, rfl, h⟩
theorem r_exb {b : Bool} {Qo : Bool → Prop} (h : Qo b) : ∃ j, V.bl b = .bl j ∧ Qo j := ⟨b, rfl, h⟩
theorem r_slL {p : Addr} {xs : List V} {lo hi : Option Int} (h : SqL K H p xs) (q : ∀ n, H n = none → Q (.ref n) (upd H n (.lst (cutV xs lo hi)))) : rSlL K (.ref p) lo hi H Q := ⟨p, xs, rfl, h, q⟩
theorem r_bm {T : String} {r : V → List V → Hp → VK → Prop} (h : te σ H fun x H1 => tyV K T x H1 ∧ tA σ H1 fun xs H2 => r x xs H2 Q) : tBM K T r te tA σ H Q := h
theorem r_bm0 {T : String} {r : V → List V → Hp → VK → Prop} (h : te σ H fun x H1 => tyV K T x H1 ∧ r x [] H1 Q) : tBM0 K T r te σ H Q := h
theorem ty_list {p : Addr} {xs : List V} (h : SqL K H p xs) : tyV K "list" (.ref p) H := .inl ⟨rfl, xs, h⟩
theorem r_append {p : Addr} {xs : List V} {y : V} (h : H p = some (.lst xs)) (hz : xs.length < sizeLine) (q : Q .non (upd H p (.lst (xs ++ [y])))) : rAppend (.ref p) [y] H Q := ⟨p, xs, y, rfl, rfl, h, hz, q⟩
theorem r_if {tif : TT} (h : tif σ H fun c H1 => if c = true then ta σ H1 Q else tb σ H1 Q) : tIf tif ta tb σ H Q := h
theorem r_andV (h : ta σ H fun x H1 => ∃ c, x = .bl c ∧ if c = true then tb σ H1 Q else Q (.bl false) H1) : tAndV ta tb σ H Q := h
theorem r_orV (h : ta σ H fun x H1 => ∃ c, x = .bl c ∧ if c = true then Q (.bl true) H1 else tb σ H1 Q) : tOrV ta tb σ H Q := h
theorem r_notV (h : ta σ H fun x H1 => ∃ c, x = .bl c ∧ Q (.bl (!c)) H1) : tNotV ta σ H Q := h
theorem r_eqI (q : Q (.bl (decide (i = j))) H) : rEq (.int i) (.int j) H Q := by
  refine ⟨rfl, ?_⟩
  have : decide (V.int i = V.int j) = decide (i = j) := by simp
  rw [this]
  exact q
theorem r_neI (q : Q (.bl (!decide (i = j))) H) : rNe (.int i) (.int j) H Q := by
  refine ⟨rfl, ?_⟩
  have : decide (V.int i = V.int j) = decide (i = j) := by simp
  rw [this]
  exact q
theorem r_eqS {a b : Str} (q : Q (.bl (decide (a = b))) H) : rEq (.str a) (.str b) H Q := by
  refine ⟨rfl, ?_⟩
  have : decide (V.str a = V.str b) = decide (a = b) := by simp
  rw [this]
  exact q
theorem r_neS {a b : Str} (q : Q (.bl (!decide (a = b))) H) : rNe (.str a) (.str b) H Q := by
  refine ⟨rfl, ?_⟩
  have : decide (V.str a = V.str b) = decide (a = b) := by simp
  rw [this]
  exact q
theorem r_len {p : Addr} {xs : List V} (h : SqL K H p xs) (q : Q (.int xs.length) H) : Xk.rLen K [.ref p] H Q := ⟨p, xs, rfl, .inl h, q⟩
theorem r_listOf {p : Addr} {xs : List V} (h : SqL K H p xs) (q : ∀ l, H l = none → Q (.ref l) (upd H l (.lst xs))) : rListOf K [.ref p] H Q := ⟨p, xs, rfl, .inl h, q⟩
theorem r_sum {p : Addr} {ns : List Int} (h : SqL K H p (ns.map V.int)) (q : Q (.int ns.sum) H) : rSum K [.ref p] H Q := ⟨p, ns, rfl, h, q⟩
theorem r_notT {A B : Prop} (h : B) : if (!true) = true then A else B := by simpa using h
theorem r_notF {A B : Prop} (h : A) : if (!false) = true then A else B := by simpa using h
/-! ### tests -/
theorem r_test (h : te σ H fun x H' => ∃ k, x = .bl k ∧ Qb k H') : tTest te σ H Qb := h
theorem r_tB (h : te σ H fun x H' => ∃ k, x = .bl k ∧ Qb k H') : tB te σ H Qb := h
theorem r_tand (h : t σ H fun c H1 => if c = true then u σ H1 Qb else Qb false H1) : tAnd t u σ H Qb := h
theorem r_tor (h : t σ H fun c H1 => if c = true then Qb true H1 else u σ H1 Qb) : tOr t u σ H Qb := h
theorem r_tnot (h : t σ H fun c H1 => Qb (!c) H1) : tNot t σ H Qb := h
theorem r_yes (h : Qb true H) : tYes σ H Qb := h
theorem r_dec {p : Prop} [Decidable p] {A B : Prop} (h1 : p → A) (h2 : ¬p → B) : if decide p = true then A else B := by
  by_cases h : p
  · rw [decide_eq_true h]; exact h1 h
  · rw [decide_eq_false h]; exact h2 h
theorem r_ndec {p : Prop} [Decidable p] {A B : Prop} (h1 : ¬p → A) (h2 : p → B) : if (!decide p) = true then A else B := by
  by_cases h : p
  · rw [decide_eq_true h]; exact h2 h
  · rw [decide_eq_false h]; exact h1 h
theorem r_itT {A B : Prop} (h : A) : if true = true then A else B := by rw [if_pos rfl]; exact h
theorem r_itF {A B : Prop} (h : B) : if false = true then A else B := by rw [if_neg Bool.false_ne_true]; exact h
/-! ### statements -/
theorem r_seq (h : s1 ⟨s2 ⟨nx, rt, bk, ct⟩, rt, bk, ct⟩ σ H) : tSeq s1 s2 ⟨nx, rt, bk, ct⟩ σ H := h
theorem r_cut {u : TS} (Mid : L2.St → Hp → Prop) (h : s1 ⟨Mid, rt, bk, ct⟩ σ H) (g : ∀ σ' H', Mid σ' H' → u ⟨nx, rt, bk, ct⟩ σ' H') : C8.tCut s1 u ⟨nx, rt, bk, ct⟩ σ H := ⟨Mid, h, g⟩
theorem r_next (h : nx σ H) : tNext ⟨nx, rt, bk, ct⟩ σ H := h
theorem r_asg (h : te σ H fun x H1 => g x σ H1 nx) : tAsg te g ⟨nx, rt, bk, ct⟩ σ H := h
theorem r_ret (h : te σ H rt) : tRet te ⟨nx, rt, bk, ct⟩ σ H := h
theorem r_drop (h : te σ H fun _ H1 => nx σ H1) : tDrop te ⟨nx, rt, bk, ct⟩ σ H := h
theorem r_ifS (h : t σ H fun b H1 => if b = true then s1 ⟨nx, rt, bk, ct⟩ σ H1 else s2 ⟨nx, rt, bk, ct⟩ σ H1) : tIfS t s1 s2 ⟨nx, rt, bk, ct⟩ σ H := h
theorem r_par {a b : Nat} (h : tA σ H fun vs H1 => ∃ v w, vs = [v, w] ∧ nx ((σ.set a (some v)).set b (some w)) H1) : tPar a b tA ⟨nx, rt, bk, ct⟩ σ H := h
theorem r_ex2 {f : V → V → Prop} (h : f x y) : ∃ v w, [x, y] = [v, w] ∧ f v w := ⟨x, y, rfl, h⟩
theorem r_brk (h : bk σ H) : tBreak ⟨nx, rt, bk, ct⟩ σ H := h
theorem r_cont (h : ct σ H) : tCont ⟨nx, rt, bk, ct⟩ σ H := h
theorem r_aug {n : Nat} {ti : TIp} (h : σ[n]? = some (some x)) (q : te σ H fun y H1 => ti x y H1 fun z H2 => nx (σ.set n (some z)) H2) : tAug n te ti ⟨nx, rt, bk, ct⟩ σ H := ⟨x, h, q⟩
theorem r_ipI {f : Int → Int → Int} (q : Q (.int (f i j)) H) : ipI f (.int i) (.int j) H Q := ⟨i, j, rfl, rfl, q⟩
theorem r_for {wi : TI} (h : wi σ H fun J H1 => ∃ W : Nat → Nat → L2.St → Hp → Prop, (∃ m, W 0 m σ H1) ∧ ∀ i m σ H, W i m σ H → (J.stop i H ∧ nx σ H) ∨ (J.go i H ∧ ∃ N : L2.St → Hp → Prop, (∀ σ' H', N σ' H' → ∃ m', m' < m ∧ W (i + 1) m' σ' H') ∧
    ∀ x H', J.yld i H x H' → g x σ H' fun σ2 H2 => s1 ⟨N, rt, nx, N⟩ σ2 H2)) : tFor wi g s1 ⟨nx, rt, bk, ct⟩ σ H := h
theorem r_augS {tget : V → V → Hp → VK → Prop} {ti : TIp} {ts : TSet} (h : ta σ H fun o H1 => tb σ H1 fun i H2 => tget o i H2 fun x H3 => te σ H3 fun y H4 => ti x y H4 fun z H5 => ts o i z H5 fun H6 => nx σ H6) : tAugS ta tb te tget ti ts ⟨nx, rt, bk, ct⟩ σ H := h
/-! ### targets -/
variable {Qs : L2.St → Hp → Prop}
theorem r_name {n : Nat} (q : Qs (σ.set n (some v)) H) : gName n v σ H Qs := q
theorem r_gtup {n : Nat} {p : Addr} {xs : List V} (h : SqT K H p xs) (hl : xs.length = n) (q : gs xs σ H Qs) : gTup K n gs (.ref p) σ H Qs := ⟨p, xs, rfl, h, hl, q⟩
theorem r_gcons {vs : List V} (q : g v σ H fun σ' H' => gs vs σ' H' Qs) : gCons g gs (v :: vs) σ H Qs := ⟨v, vs, rfl, q⟩
theorem r_gnil (q : Qs σ H) : gNil [] σ H Qs := ⟨rfl, q⟩
theorem r_gsub {ts : TSet} (h : te σ H fun o H1 => tv σ H1 fun i H2 => ts o i v H2 fun H3 => Qs σ H3) : gSub te tv ts v σ H Qs := h
theorem r_gslc {tl th : TO} (h : te σ H fun x H1 => tl σ H1 fun l H2 => th σ H2 fun u H3 => ∃ (p b : Addr) (xs ys : List V) (a c : Int), x = .ref p ∧ v = .ref b ∧ l = some a ∧ u = some c ∧ H3 p = some (.lst xs) ∧ H3 b = some (.lst ys) ∧ p ≠ b ∧ 0 ≤ a ∧ a ≤ c ∧ c ≤ xs.length ∧ xs.length + ys.length ≤ sizeLine ∧
    Qs σ (upd H3 p (.lst (xs.take a.toNat ++ ys ++ xs.drop c.toNat)))) : gSlc te tl th v σ H Qs := h
theorem r_setL {Qh : Hp → Prop} {p : Addr} {xs : List V} {n : Nat} (h : H p = some (.lst xs)) (hi : ixN xs.length i = some n) (q : Qh (upd H p (.lst (xs.set n v)))) : rSetL (.ref p) (.int i) v H Qh := ⟨p, xs, i, n, rfl, rfl, h, hi, q⟩
end
theorem szL {n : Nat} (h : Nat.ble n 16777216 = true) : n ≤ sizeLine := Nat.le_of_ble_eq_true h
theorem at_0 {x : V} {xs : List V} : atI (x :: xs) 0 = some x := at_of (j := 0) rfl rfl
theorem at_1 {x y : V} {xs : List V} : atI (x :: y :: xs) 1 = some y := at_of (j := 1) rfl rfl
theorem at_2 {x y z : V} {xs : List V} : atI (x :: y :: z :: xs) 2 = some z := at_of (j := 2) rfl rfl
theorem at_3 {x y z u : V} {xs : List V} : atI (x :: y :: z :: u :: xs) 3 = some u := at_of (j := 3) rfl rfl
theorem sq {K : PySem.W.Frag} {H : Hp} {p : Addr} {xs : List V} (h : H p = some (.lst xs)) : SqL K H p xs := .inl (.inl h)
theorem sqT {K : PySem.W.Frag} {H : Hp} {p : Addr} {xs : List V} (h : H p = some (.tup xs)) : SqT K H p xs := .inl (.inl h)

section
variable {w : World} {H : Hp} {σ : L2.St} {Q : VK} {te : TE} {tA : TA} {a : Addr} {k : Int} {S : Int → Bool} {n : Nat}
theorem r_set0 (q : ∀ p, H p = none → Q (.ref p) (upd H p (SetO w p (fun _ => false) 0))) : rSet0 w [] H Q := ⟨rfl, q⟩
theorem r_sin (h : H a = some (SetO w a S n)) (q : Q (.bl (S k)) H) : rSIn w (.int k) (.ref a) H Q := ⟨k, a, S, n, rfl, rfl, h, q⟩
theorem r_snotin (h : H a = some (SetO w a S n)) (q : Q (.bl (!S k)) H) : rSNotIn w (.int k) (.ref a) H Q := ⟨k, a, S, n, rfl, rfl, h, q⟩
theorem r_sadd0 (h : te σ H fun x H1 => (∃ a S n, x = V.ref a ∧ H1 a = some (SetO w a S n)) ∧ tA σ H1 fun xs H2 => rSAdd w x xs H2 Q) : tSAdd w te tA σ H Q := h
theorem r_sadd (h : H a = some (SetO w a S n)) (hn : n + 1 < 4096) (q : Q .non (upd H a (SetO w a (fun j => S j || decide (j = k)) (if S k = true then n else n + 1)))) : rSAdd w (.ref a) [.int k] H Q := ⟨a, k, S, n, rfl, rfl, h, hn, q⟩
end
/-! ### what a for walks -/
section
variable {K : PySem.W.Frag} {σ : L2.St} {H : Hp} {tA : TA} {te : TE} {R : L2.It → Hp → Prop}
theorem r_iEnum (h : tA σ H fun vs H1 => ∃ a xs, vs = [.ref a] ∧ SqL K H1 a xs ∧ R (Ite K a) H1) : iEnum K tA σ H R := h
theorem r_iList (h : te σ H fun x H1 => ∃ a, x = .ref a ∧ (∃ xs, SqL K H1 a xs) ∧ R (Itl K a) H1) : iList K te σ H R := h
theorem r_iTup (h : te σ H fun x H1 => ∃ a, x = .ref a ∧ (∃ xs, SqT K H1 a xs) ∧ R (Itt K a) H1) : iTup K te σ H R := h
theorem r_iRng1 (h : tA σ H fun vs H1 => ∃ j : Int, vs = [.int j] ∧ -(2 ^ 62) ≤ j ∧ j < 2 ^ 62 ∧ R (Itr 0 j.toNat) H1) : iRng1 tA σ H R := h
theorem r_iRng2 (h : tA σ H fun vs H1 => ∃ i j : Int, vs = [.int i, .int j] ∧ (-(2 ^ 62) ≤ i ∧ i < 2 ^ 62 ∧ -(2 ^ 62) ≤ j ∧ j < 2 ^ 62) ∧ R (Itr i (j - i).toNat) H1) : iRng2 tA σ H R := h
theorem r_iRng3 (h : tA σ H fun vs H1 => ∃ (i j c : Int) (n : Nat), vs = [.int i, .int j, .int c] ∧ RgC i j c n ∧ R (Itc i c n) H1) : iRng3 tA σ H R := h
theorem r_iZip (h : tA σ H fun vs H1 => ∃ a b xs ys, vs = [.ref a, .ref b] ∧ SqL K H1 a xs ∧ SqL K H1 b ys ∧ R (Itz K a b) H1) : iZip K tA σ H R := h
theorem r_lc {wi : TI} {g : TG} {tt : TT} {vs : List Nat} {Q : VK} (h : wi σ H fun J H1 => ∀ D, H1 D = none → ∃ W : Nat → Nat → Hp → Prop, (∃ m, W 0 m (upd H1 D (.lst []))) ∧ ∀ i m H, W i m H →
  (J.stop i H ∧ Q (.ref D) H) ∨ (J.go i H ∧ ∃ Nx : Hp → Prop, (∀ H', Nx H' → ∃ m', m' < m ∧ W (i + 1) m' H') ∧ ∀ x H', J.yld i H x H' → g x (wipe σ vs) H' fun σ2 H2 => wipe σ2 vs = wipe σ vs ∧ tt σ2 H2 fun b H3 =>
    if b = true then te σ2 H3 fun y H4 => ∃ acc, H4 D = some (.lst acc) ∧ acc.length < sizeLine ∧ Nx (upd H4 D (.lst (acc ++ [y]))) else Nx H3)) : tLc wi g tt te vs σ H Q := h
theorem r_lrg {tr : L2.St → Hp → (Int → Int → Hp → Prop) → Prop} {Q : VK} (h : tr σ H fun a b H1 => RgOk a b ∧ ∀ q, H1 q = none → Q (.ref q) (upd H1 q (.lst (rgV a b)))) : tLstRg tr σ H Q := h
theorem r_rg1 {Q : Int → Int → Hp → Prop} (h : te σ H fun x H1 => ∃ n, x = .int n ∧ Q 0 n H1) : tRg1 te σ H Q := h
theorem r_rg2 {tb : TE} {Q : Int → Int → Hp → Prop} (h : te σ H fun x H1 => tb σ H1 fun y H2 => ∃ i j, x = .int i ∧ y = .int j ∧ Q i j H2) : tRg2 te tb σ H Q := h
theorem r_l3 {Q : VK} (h : tA σ H fun vs H1 => ∃ (i j c : Int) (n : Nat), vs = [.int i, .int j, .int c] ∧ RgC i j c n ∧ n ≤ 2 ^ 24 ∧ ∀ q, H1 q = none → Q (.ref q) (upd H1 q (.lst (rg3V i c n)))) : tLst3 tA σ H Q := h
theorem r_revL {Q : VK} (h : te σ H fun x H1 => ∃ a xs, x = .ref a ∧ SqL K H1 a xs ∧ ∀ p, H1 p = none → Q (.ref p) (upd H1 p (.lst xs.reverse))) : tRevL K te σ H Q := h
theorem r_exr {a : Addr} {f : Addr → Prop} (h : f a) : ∃ b, V.ref a = .ref b ∧ f b := ⟨a, rfl, h⟩
end
section
variable {σ : L2.St} {H : Hp} {c : TT} {tb : TS} {nx bk ct : L2.St → Hp → Prop} {rt : VK}
theorem r_while (W : Nat → L2.St → Hp → Prop) (m : Nat) (h0 : W m σ H) (hs : ∀ m σ H, W m σ H → c σ H fun b H1 => if b = true then ∃ N : L2.St → Hp → Prop, (∀ σ' H', N σ' H' → ∃ m', m' < m ∧ W m' σ' H') ∧ tb ⟨N, rt, nx, N⟩ σ H1 else nx σ H1) : tWhile c tb ⟨nx, rt, bk, ct⟩ σ H :=
  ⟨W, ⟨m, h0⟩, hs⟩
theorem r_turn {W : Nat → L2.St → Hp → Prop} {m : Nat} (h : tb ⟨fun σ' H' => ∃ m', m' < m ∧ W m' σ' H', rt, nx, fun σ' H' => ∃ m', m' < m ∧ W m' σ' H'⟩ σ H) : ∃ N : L2.St → Hp → Prop, (∀ σ' H', N σ' H' → ∃ m', m' < m ∧ W m' σ' H') ∧ tb ⟨N, rt, nx, N⟩ σ H :=
  ⟨_, fun _ _ h => h, h⟩
theorem r_itD {p : Prop} [Decidable p] {A B : Prop} (hp : p) (h : A) : if decide p = true then A else B := by rw [decide_eq_true hp]; exact h
theorem r_itDF {p : Prop} [Decidable p] {A B : Prop} (hp : ¬p) (h : B) : if decide p = true then A else B := by rw [decide_eq_false hp]; exact h
theorem r_itN {p : Prop} [Decidable p] {A B : Prop} (hp : ¬p) (h : A) : if (!decide p) = true then A else B := by rw [decide_eq_false hp]; exact h
theorem r_itNF {p : Prop} [Decidable p] {A B : Prop} (hp : p) (h : B) : if (!decide p) = true then A else B := by rw [decide_eq_true hp]; exact h
theorem r_popAt {l : Addr} {xs : List V} {i : Int} {k : Nat} {y : V} {Q : VK} (h : H l = some (.lst xs)) (e : i = (k : Int)) (hk : xs[k]? = some y) (hz : k < 2 ^ 63) (q : Q y (upd H l (.lst (xs.eraseIdx k)))) : rPopAt (.ref l) [.int i] H Q := by
  subst e
  have hl : k < xs.length := (List.getElem?_eq_some_iff.mp hk).1
  exact ⟨l, xs, k, k, y, rfl, rfl, h, by omega, by omega, seqIndex_of (by omega) (by omega), hk, q⟩
end
/-! ### what stands in a heap -/
/-- all but r stands as it was -/
def Sx (r : Addr) (H H' : Hp) : Prop := ∀ b o, b ≠ r → H b = some o → H' b = some o
section
variable {H H' : Hp} {a b r : Addr} {o u : HO}
theorem upd_old (np : H a = none) (h : H b = some u) : upd H a o b = some u := (upd_ne (ne_of_none h np)).trans h
theorem upd_to (n : b ≠ a) (h : H b = some u) : upd H a o b = some u := (upd_ne n).trans h
theorem same_to (s : Same H H') (h : H b = some u) : H' b = some u := s b u h
theorem sx_to (s : Sx r H H') (n : b ≠ r) (h : H b = some u) : H' b = some u := s b u n h
theorem sx_of (s : Same H H') : Sx r H H' := fun b o _ h => s b o h
theorem same_new (np : H a = none) : Same H (upd H a o) := fun b u h => upd_old np h
theorem same_old {H0 : Hp} (s : Same H0 H) (n : H0 a = none) : Same H0 (upd H a o) := fun b u h => upd_to (ne_of_none h n) (s b u h)
theorem Sx.refl : Sx r H H := fun _ _ _ h => h
theorem Sx.trans {H1 : Hp} (s : Sx r H H1) (t : Sx r H1 H') : Sx r H H' := fun b o n h => t b o n (s b o n h)
theorem Sx.put : Sx r H (L2.upd H r o) := fun b u n h => upd_to n h
theorem Sx.new (np : H a = none) : Sx r H (L2.upd H a o) := fun b u _ h => upd_old np h
theorem Sx.old {H0 : Hp} (s : Sx r H0 H) (n : H0 a = none) : Sx r H0 (L2.upd H a o) := fun b u hb h => upd_to (ne_of_none h n) (s b u hb h)
theorem Sx.same {H1 : Hp} (s : Sx r H H1) (t : Same H1 H') : Sx r H H' := s.trans (sx_of t)
theorem Sx.free (s : Sx r H H') (hr : H' r = some u) (h : H' a = none) : H a = none := by
  cases q : H a with
  | none => rfl
  | some o =>
    by_cases e : a = r
    · subst e; rw [hr] at h; cases h
    · rw [s a o e q] at h; cases h
end
end Xk
/-- one step whose answer is known -/
local macro_rules | `(tactic| walk_at "one") => `(tactic| with_reducible first
  | refine Xk.r_c ?_ | refine Xk.r_op ?_ | refine Xk.r_un ?_ | refine Xk.r_I0 ?_ | refine Xk.r_U ?_ | refine Xk.r_nil ?_ | refine Xk.r_cons ?_ | refine Xk.r_lst ?_ | refine Xk.r_tup ?_
  | refine Xk.r_call ?_ | refine Xk.r_callK ?_ | refine Xk.r_cb ?_ | refine Xk.r_ckw ?_ | refine Xk.r_sl ?_ | refine Xk.r_part ?_ | refine Xk.r_nopart ?_ | refine Xk.r_exi ?_ | refine Xk.r_exb ?_ | refine Xk.r_bm ?_ | refine Xk.r_bm0 ?_
  | refine Xk.r_if ?_ | refine Xk.r_andV ?_ | refine Xk.r_orV ?_ | refine Xk.r_notV ?_ | refine Xk.r_eqI ?_ | refine Xk.r_neI ?_ | refine Xk.r_eqS ?_ | refine Xk.r_neS ?_
  | refine Xk.r_test ?_ | refine Xk.r_tB ?_ | refine Xk.r_tand ?_ | refine Xk.r_tor ?_ | refine Xk.r_tnot ?_ | refine Xk.r_yes ?_ | refine Xk.r_itT ?_ | refine Xk.r_itF ?_ | refine Xk.r_notT ?_ | refine Xk.r_notF ?_
  | refine Xk.r_seq ?_ | refine Xk.r_next ?_ | refine Xk.r_asg ?_ | refine Xk.r_ret ?_ | refine Xk.r_drop ?_ | refine Xk.r_ifS ?_ | refine Xk.r_par ?_ | refine Xk.r_ex2 ?_ | refine Xk.r_brk ?_ | refine Xk.r_cont ?_ | refine Xk.r_ipI ?_ | refine Xk.r_for ?_
  | refine Xk.r_augS ?_ | refine Xk.r_sadd0 ?_ | refine Xk.r_iEnum ?_ | refine Xk.r_iList ?_ | refine Xk.r_iTup ?_ | refine Xk.r_iRng1 ?_ | refine Xk.r_iRng2 ?_ | refine Xk.r_iRng3 ?_ | refine Xk.r_iZip ?_ | refine Xk.r_lc ?_ | refine Xk.r_lrg ?_ | refine Xk.r_rg1 ?_ | refine Xk.r_rg2 ?_ | refine Xk.r_l3 ?_ | refine Xk.r_revL ?_ | refine Xk.r_exr ?_
  | refine Xk.r_name ?_ | refine Xk.r_gcons ?_ | refine Xk.r_gnil ?_ | refine Xk.r_gsub ?_ | refine Xk.r_gslc ?_)
local macro_rules | `(tactic| walk_at "ne") => `(tactic| first | assumption | (apply Ne.symm; assumption) | (exact L2.ne_of_none (by assumption) (by assumption)) | (apply Ne.symm; exact L2.ne_of_none (by assumption) (by assumption)))
/-- what stands at an address -/
local macro_rules | `(tactic| walk_at "hp") => `(tactic| with_reducible first
  | assumption | exact L2.upd_same
  | ((refine' Xk.upd_old ?np ?_); (case np => assumption); walk_at "hp")
  | ((refine' Xk.same_to ?hs ?_); (case hs => assumption); walk_at "hp")
  | ((refine' Xk.sx_to ?hs ?hn ?_); (case hs => assumption); (case hn => walk_at "ne"); walk_at "hp")
  | ((refine' Xk.upd_to ?hn ?_); (case hn => walk_at "ne"); walk_at "hp"))
local macro_rules | `(tactic| walk_at "sq") => `(tactic| ((with_reducible show L2.SqL _ _ _ _); first | (with_reducible assumption) | exact Xk.sq (by walk_at "hp") | (with_reducible exact L2.Same.seq (by assumption) (by assumption))))
local macro_rules | `(tactic| walk_at "sd") => `(tactic| first | assumption | omega | decide)
local macro_rules | `(tactic| walk_at "at") => `(tactic| first
  | (with_reducible exact Xk.at_0) | (with_reducible exact Xk.at_1) | (with_reducible exact Xk.at_2) | (with_reducible exact Xk.at_3)
  | ((with_reducible show L2.atI (List.set (_ :: _) _ _) _ = _); exact rfl))
local macro_rules | `(tactic| walk_at "ix") => `(tactic| ((with_reducible show L2.ixN (List.length (_ :: _)) _ = _); exact rfl))
local macro_rules | `(tactic| walk_at "two") => `(tactic| first
  | ((with_reducible refine' Xk.r_var ?hv ?_); (case hv => exact rfl))
  | ((with_reducible refine' Xk.r_aug ?hv ?_); (case hv => exact rfl))
  | ((with_reducible refine' Xk.r_ixL ?hv ?hw ?_); (case hv => walk_at "sq"); (case hw => walk_at "at"))
  | ((with_reducible refine' Xk.r_setL ?hv ?hw ?_); (case hv => walk_at "hp"); (case hw => walk_at "ix"))
  | ((with_reducible refine' Xk.r_slL ?hv ?_); (case hv => walk_at "sq"))
  | ((with_reducible refine' Xk.r_gtup ?hv ?hw ?_); (case hv => exact Xk.sqT (by walk_at "hp")); (case hw => exact rfl))
  | ((with_reducible refine' ⟨Xk.ty_list (K := _) (xs := _) ?hv, ?_⟩); (case hv => walk_at "sq"))
  | ((with_reducible refine' Xk.r_append ?hv ?hw ?_); (case hv => walk_at "hp"); (case hw => walk_at "sd"))
  | ((with_reducible refine' Xk.r_I (C := fun _ j => 0 < j) ?hv ?_); (case hv => (first | omega | (show (0 : Int) < _; omega) | decide)))
  | ((with_reducible refine' Xk.r_len ?hv ?_); (case hv => walk_at "sq"))
  | ((with_reducible refine' Xk.r_listOf ?hv ?_); (case hv => walk_at "sq"))
  | ((with_reducible refine' Xk.r_I (C := Xk.CPowW) ?hv ?_); (case hv => exact ⟨by decide, by decide⟩))
  | (with_reducible refine ⟨Xk.szL (by with_unfolding_all rfl), ?_⟩)
  | ((with_reducible refine' ⟨_, _, rfl, ?hv, ?_⟩); (case hv => ((with_reducible show L2.SqL _ _ _ _); walk_at "sq")))
  | ((with_reducible refine' ⟨⟨_, ?hv⟩, ?_⟩); (case hv => walk_at "sq"))
  | (with_reducible refine Or.inl ⟨_, rfl, ?_⟩) | (with_reducible refine Or.inr ⟨_, rfl, ?_⟩)
  | (with_reducible refine ⟨_, _, rfl, rfl, ?_⟩) | (with_reducible refine ⟨_, rfl, ?_⟩) | (with_reducible refine ⟨_, _, rfl, ?_⟩))
local macro_rules | `(tactic| walk_at "g") => `(tactic| repeat (first | walk_at "one" | walk_at "two"))

set_option Elab.async false
set_option linter.all false
set_option maxRecDepth 100000
namespace Xk
open PySem PySem.Spec PyProof.Rows L2
/-! ### slices by numbers -/
theorem cut_from {xs : List V} {z : Int} {a : Nat} (h : z = (a : Int)) : cutV xs (some z) none = xs.drop a := by
  subst h
  unfold cutV
  rw [show HT.sIx xs.length 0 (some (a : Int)) = min a xs.length from HT.sIx_nat xs.length 0 a, HT.sIx_none]
  by_cases q : a ≤ xs.length
  · rw [Nat.min_eq_left q]; exact List.take_of_length_le (by rw [List.length_drop]; omega)
  · rw [Nat.min_eq_right (by omega), List.drop_of_length_le (by omega), List.drop_of_length_le (by omega)]; simp
theorem cut_to {xs : List V} {z : Int} {b : Nat} (h : z = (b : Int)) : cutV xs none (some z) = xs.take b := by
  subst h
  unfold cutV
  rw [show HT.sIx xs.length xs.length (some (b : Int)) = min b xs.length from HT.sIx_nat xs.length xs.length b, HT.sIx_none]
  show (xs.take (min b xs.length - 0)) = _
  rw [Nat.sub_zero]
  by_cases q : b ≤ xs.length
  · rw [Nat.min_eq_left q]
  · rw [Nat.min_eq_right (by omega), List.take_of_length_le (by omega), List.take_of_length_le (by omega)]
theorem cut_mid {xs : List V} {z y : Int} {a b : Nat} (h : z = (a : Int)) (g : y = (b : Int)) (hb : b ≤ xs.length) : cutV xs (some z) (some y) = (xs.drop a).take (b - a) := by
  subst h; subst g
  unfold cutV
  rw [show HT.sIx xs.length 0 (some (a : Int)) = min a xs.length from HT.sIx_nat xs.length 0 a, show HT.sIx xs.length xs.length (some (b : Int)) = min b xs.length from HT.sIx_nat xs.length xs.length b, Nat.min_eq_left hb]
  by_cases q : a ≤ xs.length
  · rw [Nat.min_eq_left q]
  · rw [Nat.min_eq_right (by omega), show b - xs.length = 0 by omega, show b - a = 0 by omega]; rfl
theorem map_drop' {α β : Type} (f : α → β) (l : List α) (n : Nat) : (l.map f).drop n = (l.drop n).map f := by simp
theorem at_map {ns : List Int} {z : Int} {j : Nat} (e : z = (j : Int)) (h : j < ns.length) : atI (ns.map V.int) z = some (.int ns[j]) :=
  at_of e (by simp [h])
theorem ix_of {n j : Nat} {z : Int} (e : z = (j : Int)) (h : j < n) : ixN n z = some j := by
  subst e; unfold ixN; rw [if_pos (by omega), if_pos (by omega)]; simp
theorem map_set' (ns : List Int) (j : Nat) (x : Int) : (ns.map V.int).set j (V.int x) = (ns.set j x).map V.int := by simp
theorem map_snoc (ns : List Int) (x : Int) : ns.map V.int ++ [V.int x] = (ns ++ [x]).map V.int := by simp
theorem size_lt {n : Nat} (h : n < 16777216) : n < sizeLine := h
theorem size_le {n : Nat} (h : n ≤ 16777216) : n ≤ sizeLine := h

/-! ### comprehensions whose turns leave what stood -/
section
variable {J : It} {n : Nat} {G : Hp → Prop} {Y : Nat → Hp → V → Hp → Prop}
theorem forI (w : Walk J n G Y) {g : TG} {tb : TS} {nx : L2.St → Hp → Prop} {rt : VK} {σ : L2.St} {H : Hp} (Pv : Nat → L2.St → Hp → Prop) (h0 : Pv 0 σ H) (hG : ∀ i σ H, i ≤ n → Pv i σ H → G H)
    (hs : ∀ i x σ H H', i < n → Pv i σ H → Y i H x H' → g x σ H' fun σ2 H2 => tb ⟨Pv (i + 1), rt, nx, Pv (i + 1)⟩ σ2 H2) (hd : ∀ σ H, Pv n σ H → nx σ H) :
    ∃ W : Nat → Nat → L2.St → Hp → Prop, (∃ m, W 0 m σ H) ∧ ∀ i m σ H, W i m σ H →
      (J.stop i H ∧ nx σ H) ∨ (J.go i H ∧ ∃ N : L2.St → Hp → Prop, (∀ σ' H', N σ' H' → ∃ m', m' < m ∧ W (i + 1) m' σ' H') ∧ ∀ x H', J.yld i H x H' → g x σ H' fun σ2 H2 => tb ⟨N, rt, nx, N⟩ σ2 H2) :=
  for_it (D := ⟨nx, rt, fun _ _ => False, fun _ _ => False⟩) w Pv h0 hG hs hd
theorem forA {xs : List V} (w : Walk J xs.length G (YAt xs)) {g : TG} {tb : TS} {nx : L2.St → Hp → Prop} {rt : VK} {σ : L2.St} {H : Hp} (Pv : Nat → L2.St → Hp → Prop) (h0 : Pv 0 σ H) (hG : ∀ i σ H, i ≤ xs.length → Pv i σ H → G H)
    (hs : ∀ i σ H (hi : i < xs.length), Pv i σ H → g xs[i] σ H fun σ2 H2 => tb ⟨Pv (i + 1), rt, nx, Pv (i + 1)⟩ σ2 H2) (hd : ∀ σ H, Pv xs.length σ H → nx σ H) :
    ∃ W : Nat → Nat → L2.St → Hp → Prop, (∃ m, W 0 m σ H) ∧ ∀ i m σ H, W i m σ H →
      (J.stop i H ∧ nx σ H) ∨ (J.go i H ∧ ∃ N : L2.St → Hp → Prop, (∀ σ' H', N σ' H' → ∃ m', m' < m ∧ W (i + 1) m' σ' H') ∧ ∀ x H', J.yld i H x H' → g x σ H' fun σ2 H2 => tb ⟨N, rt, nx, N⟩ σ2 H2) :=
  forI w Pv h0 hG (fun i x σ H H' hi p y => by
    obtain ⟨rfl, e⟩ := y
    rw [List.getElem?_eq_getElem hi] at e
    cases e
    exact hs i σ H' hi p) hd
theorem forAI {ns : List Int} (w : Walk J (ns.map V.int).length G (YAt (ns.map V.int))) {g : TG} {tb : TS} {nx : L2.St → Hp → Prop} {rt : VK} {σ : L2.St} {H : Hp} (Pv : Nat → L2.St → Hp → Prop) (h0 : Pv 0 σ H) (hG : ∀ i σ H, i ≤ (ns.map V.int).length → Pv i σ H → G H)
    (hs : ∀ i σ H (hi : i < ns.length), Pv i σ H → g (.int ns[i]) σ H fun σ2 H2 => tb ⟨Pv (i + 1), rt, nx, Pv (i + 1)⟩ σ2 H2) (hd : ∀ σ H, Pv (ns.map V.int).length σ H → nx σ H) :
    ∃ W : Nat → Nat → L2.St → Hp → Prop, (∃ m, W 0 m σ H) ∧ ∀ i m σ H, W i m σ H →
      (J.stop i H ∧ nx σ H) ∨ (J.go i H ∧ ∃ N : L2.St → Hp → Prop, (∀ σ' H', N σ' H' → ∃ m', m' < m ∧ W (i + 1) m' σ' H') ∧ ∀ x H', J.yld i H x H' → g x σ H' fun σ2 H2 => tb ⟨N, rt, nx, N⟩ σ2 H2) :=
  forI w Pv h0 hG (fun i x σ H H' hi p y => by
    obtain ⟨rfl, e⟩ := y
    have hi' : i < ns.length := by simpa using hi
    rw [List.getElem?_map, List.getElem?_eq_getElem hi'] at e
    cases e
    exact hs i σ H' hi' p) hd
theorem forF {f : Nat → V} (w : Walk J n G (YFn f)) {g : TG} {tb : TS} {nx : L2.St → Hp → Prop} {rt : VK} {σ : L2.St} {H : Hp} (Pv : Nat → L2.St → Hp → Prop) (h0 : Pv 0 σ H) (hG : ∀ i σ H, i ≤ n → Pv i σ H → G H)
    (hs : ∀ i σ H, i < n → Pv i σ H → g (f i) σ H fun σ2 H2 => tb ⟨Pv (i + 1), rt, nx, Pv (i + 1)⟩ σ2 H2) (hd : ∀ σ H, Pv n σ H → nx σ H) :
    ∃ W : Nat → Nat → L2.St → Hp → Prop, (∃ m, W 0 m σ H) ∧ ∀ i m σ H, W i m σ H →
      (J.stop i H ∧ nx σ H) ∨ (J.go i H ∧ ∃ N : L2.St → Hp → Prop, (∀ σ' H', N σ' H' → ∃ m', m' < m ∧ W (i + 1) m' σ' H') ∧ ∀ x H', J.yld i H x H' → g x σ H' fun σ2 H2 => tb ⟨N, rt, nx, N⟩ σ2 H2) :=
  forI w Pv h0 hG (fun i x σ H H' hi p y => by
    obtain ⟨rfl, rfl⟩ := y
    exact hs i σ H' hi p) hd
theorem forP {f1 f2 : Nat → Option V} (w : Walk J n G (YPair f1 f2)) {g : TG} {tb : TS} {nx : L2.St → Hp → Prop} {rt : VK} {σ : L2.St} {H : Hp} (Pv : Nat → L2.St → Hp → Prop) (h0 : Pv 0 σ H) (hG : ∀ i σ H, i ≤ n → Pv i σ H → G H)
    (hs : ∀ i σ H T x y, i < n → Pv i σ H → f1 i = some x → f2 i = some y → H T = none → g (.ref T) σ (upd H T (.tup [x, y])) fun σ2 H2 => tb ⟨Pv (i + 1), rt, nx, Pv (i + 1)⟩ σ2 H2) (hd : ∀ σ H, Pv n σ H → nx σ H) :
    ∃ W : Nat → Nat → L2.St → Hp → Prop, (∃ m, W 0 m σ H) ∧ ∀ i m σ H, W i m σ H →
      (J.stop i H ∧ nx σ H) ∨ (J.go i H ∧ ∃ N : L2.St → Hp → Prop, (∀ σ' H', N σ' H' → ∃ m', m' < m ∧ W (i + 1) m' σ' H') ∧ ∀ x H', J.yld i H x H' → g x σ H' fun σ2 H2 => tb ⟨N, rt, nx, N⟩ σ2 H2) :=
  forI w Pv h0 hG (fun i x σ H H' hi p y => by
    obtain ⟨T, x, y, rfl, nT, rfl, e1, e2⟩ := y
    exact hs i σ H T x y hi p e1 e2 nT) hd
theorem forEI {ns : List Int} (w : Walk J (ns.map V.int).length G (YPair (fun i => some (.int (i : Nat))) (fun i => (ns.map V.int)[i]?))) {g : TG} {tb : TS} {nx : L2.St → Hp → Prop} {rt : VK} {σ : L2.St} {H : Hp} (Pv : Nat → L2.St → Hp → Prop) (h0 : Pv 0 σ H) (hG : ∀ i σ H, i ≤ (ns.map V.int).length → Pv i σ H → G H)
    (hs : ∀ i σ H T (hi : i < ns.length), Pv i σ H → H T = none → g (.ref T) σ (upd H T (.tup [.int (i : Nat), .int ns[i]])) fun σ2 H2 => tb ⟨Pv (i + 1), rt, nx, Pv (i + 1)⟩ σ2 H2) (hd : ∀ σ H, Pv (ns.map V.int).length σ H → nx σ H) :
    ∃ W : Nat → Nat → L2.St → Hp → Prop, (∃ m, W 0 m σ H) ∧ ∀ i m σ H, W i m σ H →
      (J.stop i H ∧ nx σ H) ∨ (J.go i H ∧ ∃ N : L2.St → Hp → Prop, (∀ σ' H', N σ' H' → ∃ m', m' < m ∧ W (i + 1) m' σ' H') ∧ ∀ x H', J.yld i H x H' → g x σ H' fun σ2 H2 => tb ⟨N, rt, nx, N⟩ σ2 H2) :=
  forI w Pv h0 hG (fun i x σ H H' hi p y => by
    obtain ⟨T, x, y, rfl, nT, rfl, e1, e2⟩ := y
    have hi' : i < ns.length := by simpa using hi
    cases e1
    simp only [List.getElem?_map, List.getElem?_eq_getElem hi'] at e2
    cases e2
    exact hs i σ H T hi' p nT) hd
theorem lc_same (w : Walk J n G Y) {g : TG} {tt : TT} {te : TE} {vs : List Nat} {σ : L2.St} {H0 H1 : Hp} {D : Addr} {Qd : Hp → Prop} (acc : Nat → List V) (hD : H1 D = none) (h01 : Same H0 H1) (a0 : acc 0 = [])
    (hG : ∀ H, Same H0 H → G H)
    (hs : ∀ i x H H', i < n → Same H0 H ∧ H D = some (.lst (acc i)) → Y i H x H' → g x (wipe σ vs) H' fun σ2 H2 => wipe σ2 vs = wipe σ vs ∧ tt σ2 H2 fun b H3 =>
      if b = true then te σ2 H3 fun y H4 => ∃ l, H4 D = some (.lst l) ∧ l.length < sizeLine ∧ Same H0 (upd H4 D (.lst (l ++ [y]))) ∧ (upd H4 D (.lst (l ++ [y]))) D = some (.lst (acc (i + 1))) else Same H0 H3 ∧ H3 D = some (.lst (acc (i + 1))))
    (hd : ∀ H, Same H0 H → H D = some (.lst (acc n)) → Qd H) :
    ∃ W : Nat → Nat → Hp → Prop, (∃ m, W 0 m (upd H1 D (.lst []))) ∧ ∀ i m H, W i m H →
      (J.stop i H ∧ Qd H) ∨ (J.go i H ∧ ∃ Nx : Hp → Prop, (∀ H', Nx H' → ∃ m', m' < m ∧ W (i + 1) m' H') ∧ ∀ x H', J.yld i H x H' → g x (wipe σ vs) H' fun σ2 H2 => wipe σ2 vs = wipe σ vs ∧ tt σ2 H2 fun b H3 =>
        if b = true then te σ2 H3 fun y H4 => ∃ acc, H4 D = some (.lst acc) ∧ acc.length < sizeLine ∧ Nx (upd H4 D (.lst (acc ++ [y]))) else Nx H3) :=
  lc_it w (fun i H => Same H0 H ∧ H D = some (.lst (acc i))) ⟨same_old h01 (h01.free hD), by rw [a0]; exact upd_same⟩ (fun i H _ p => hG H p.1) hs (fun H p => hd H p.1 p.2)
theorem lc_sameAI {ns : List Int} (w : Walk J (ns.map V.int).length G (YAt (ns.map V.int))) {g : TG} {tt : TT} {te : TE} {vs : List Nat} {σ : L2.St} {H0 H1 : Hp} {D : Addr} {Qd : Hp → Prop} (acc : Nat → List V) (hD : H1 D = none) (h01 : Same H0 H1) (a0 : acc 0 = [])
    (hG : ∀ H, Same H0 H → G H)
    (hs : ∀ i H (hi : i < ns.length), Same H0 H ∧ H D = some (.lst (acc i)) → g (.int ns[i]) (wipe σ vs) H fun σ2 H2 => wipe σ2 vs = wipe σ vs ∧ tt σ2 H2 fun b H3 =>
      if b = true then te σ2 H3 fun y H4 => ∃ l, H4 D = some (.lst l) ∧ l.length < sizeLine ∧ Same H0 (upd H4 D (.lst (l ++ [y]))) ∧ (upd H4 D (.lst (l ++ [y]))) D = some (.lst (acc (i + 1))) else Same H0 H3 ∧ H3 D = some (.lst (acc (i + 1))))
    (hd : ∀ H, Same H0 H → H D = some (.lst (acc ns.length)) → Qd H) :
    ∃ W : Nat → Nat → Hp → Prop, (∃ m, W 0 m (upd H1 D (.lst []))) ∧ ∀ i m H, W i m H →
      (J.stop i H ∧ Qd H) ∨ (J.go i H ∧ ∃ Nx : Hp → Prop, (∀ H', Nx H' → ∃ m', m' < m ∧ W (i + 1) m' H') ∧ ∀ x H', J.yld i H x H' → g x (wipe σ vs) H' fun σ2 H2 => wipe σ2 vs = wipe σ vs ∧ tt σ2 H2 fun b H3 =>
        if b = true then te σ2 H3 fun y H4 => ∃ acc, H4 D = some (.lst acc) ∧ acc.length < sizeLine ∧ Nx (upd H4 D (.lst (acc ++ [y]))) else Nx H3) :=
  lc_same w acc hD h01 a0 hG (fun i x H H' hi p y => by
    obtain ⟨rfl, e⟩ := y
    have hi' : i < ns.length := by simpa using hi
    rw [List.getElem?_map, List.getElem?_eq_getElem hi'] at e
    cases e
    exact hs i H' hi' p) (fun H p q => hd H p (by simpa using q))
theorem lc_sameEI {ns : List Int} (w : Walk J (ns.map V.int).length G (YPair (fun i => some (.int (i : Nat))) (fun i => (ns.map V.int)[i]?))) {g : TG} {tt : TT} {te : TE} {vs : List Nat} {σ : L2.St} {H0 H1 : Hp} {D : Addr} {Qd : Hp → Prop} (acc : Nat → List V) (hD : H1 D = none) (h01 : Same H0 H1) (a0 : acc 0 = [])
    (hG : ∀ H, Same H0 H → G H)
    (hs : ∀ i H T (hi : i < ns.length), Same H0 H ∧ H D = some (.lst (acc i)) → H T = none → g (.ref T) (wipe σ vs) (upd H T (.tup [.int (i : Nat), .int ns[i]])) fun σ2 H2 => wipe σ2 vs = wipe σ vs ∧ tt σ2 H2 fun b H3 =>
      if b = true then te σ2 H3 fun y H4 => ∃ l, H4 D = some (.lst l) ∧ l.length < sizeLine ∧ Same H0 (upd H4 D (.lst (l ++ [y]))) ∧ (upd H4 D (.lst (l ++ [y]))) D = some (.lst (acc (i + 1))) else Same H0 H3 ∧ H3 D = some (.lst (acc (i + 1))))
    (hd : ∀ H, Same H0 H → H D = some (.lst (acc ns.length)) → Qd H) :
    ∃ W : Nat → Nat → Hp → Prop, (∃ m, W 0 m (upd H1 D (.lst []))) ∧ ∀ i m H, W i m H →
      (J.stop i H ∧ Qd H) ∨ (J.go i H ∧ ∃ Nx : Hp → Prop, (∀ H', Nx H' → ∃ m', m' < m ∧ W (i + 1) m' H') ∧ ∀ x H', J.yld i H x H' → g x (wipe σ vs) H' fun σ2 H2 => wipe σ2 vs = wipe σ vs ∧ tt σ2 H2 fun b H3 =>
        if b = true then te σ2 H3 fun y H4 => ∃ acc, H4 D = some (.lst acc) ∧ acc.length < sizeLine ∧ Nx (upd H4 D (.lst (acc ++ [y]))) else Nx H3) :=
  lc_same w acc hD h01 a0 hG (fun i x H H' hi p y => by
    obtain ⟨T, x, y, rfl, nT, rfl, e1, e2⟩ := y
    have hi' : i < ns.length := by simpa using hi
    cases e1
    simp only [List.getElem?_map, List.getElem?_eq_getElem hi'] at e2
    cases e2
    exact hs i H T hi' p nT) (fun H p q => hd H p (by simpa using q))
theorem lc_sameF {n : Nat} {f : Nat → V} (w : Walk J n G (YFn f)) {g : TG} {tt : TT} {te : TE} {vs : List Nat} {σ : L2.St} {H0 H1 : Hp} {D : Addr} {Qd : Hp → Prop} (acc : Nat → List V) (hD : H1 D = none) (h01 : Same H0 H1) (a0 : acc 0 = [])
    (hG : ∀ H, Same H0 H → G H)
    (hs : ∀ i H, i < n → Same H0 H ∧ H D = some (.lst (acc i)) → g (f i) (wipe σ vs) H fun σ2 H2 => wipe σ2 vs = wipe σ vs ∧ tt σ2 H2 fun b H3 =>
      if b = true then te σ2 H3 fun y H4 => ∃ l, H4 D = some (.lst l) ∧ l.length < sizeLine ∧ Same H0 (upd H4 D (.lst (l ++ [y]))) ∧ (upd H4 D (.lst (l ++ [y]))) D = some (.lst (acc (i + 1))) else Same H0 H3 ∧ H3 D = some (.lst (acc (i + 1))))
    (hd : ∀ H, Same H0 H → H D = some (.lst (acc n)) → Qd H) :
    ∃ W : Nat → Nat → Hp → Prop, (∃ m, W 0 m (upd H1 D (.lst []))) ∧ ∀ i m H, W i m H →
      (J.stop i H ∧ Qd H) ∨ (J.go i H ∧ ∃ Nx : Hp → Prop, (∀ H', Nx H' → ∃ m', m' < m ∧ W (i + 1) m' H') ∧ ∀ x H', J.yld i H x H' → g x (wipe σ vs) H' fun σ2 H2 => wipe σ2 vs = wipe σ vs ∧ tt σ2 H2 fun b H3 =>
        if b = true then te σ2 H3 fun y H4 => ∃ acc, H4 D = some (.lst acc) ∧ acc.length < sizeLine ∧ Nx (upd H4 D (.lst (acc ++ [y]))) else Nx H3) :=
  lc_same w acc hD h01 a0 hG (fun i x H H' hi p y => by
    obtain ⟨rfl, rfl⟩ := y
    exact hs i H' hi p) hd
theorem lc_add {H0 H H4 : Hp} {D : Addr} {a a' : List V} {y : V} (p : Same H0 H ∧ H D = some (.lst a)) (s : Same H H4) (hD : H0 D = none) (e : a' = a ++ [y]) (hz : a.length < sizeLine) :
    ∃ l, H4 D = some (.lst l) ∧ l.length < sizeLine ∧ Same H0 (upd H4 D (.lst (l ++ [y]))) ∧ (upd H4 D (.lst (l ++ [y]))) D = some (.lst a') :=
  ⟨a, s _ _ p.2, hz, same_old (p.1.trans s) hD, by rw [e]; exact upd_same⟩
theorem lc_skip {H0 H H4 : Hp} {D : Addr} {a a' : List V} (p : Same H0 H ∧ H D = some (.lst a)) (s : Same H H4) (e : a' = a) : Same H0 H4 ∧ H4 D = some (.lst a') := ⟨p.1.trans s, by rw [e]; exact s _ _ p.2⟩
theorem take_one {α : Type} {l : List α} {i : Nat} (hi : i < l.length) : l.take (i + 1) = l.take i ++ [l[i]] := by rw [List.take_add_one, List.getElem?_eq_getElem hi]; rfl
theorem acc_filtT {l : List Int} {f : Int → Bool} {i : Nat} (hi : i < l.length) (h : f l[i] = true) : ((l.take (i + 1)).filter f).map V.int = ((l.take i).filter f).map V.int ++ [.int l[i]] := by
  rw [take_one hi, List.filter_append, List.map_append]; simp [h]
theorem acc_filtF {l : List Int} {f : Int → Bool} {i : Nat} (hi : i < l.length) (h : f l[i] = false) : ((l.take (i + 1)).filter f).map V.int = ((l.take i).filter f).map V.int := by
  rw [take_one hi, List.filter_append, List.map_append]; simp [h]
theorem filt_len {l : List Int} {f : Int → Bool} {i : Nat} (h : l.length ≤ 1000000) : (((l.take i).filter f).map V.int).length < sizeLine := by
  rw [List.length_map]
  refine Nat.lt_of_le_of_lt (Nat.le_trans (List.length_filter_le _ _) (List.length_take_le' _ _)) (size_lt (by omega))
end
theorem erase_map {α β : Type} (f : α → β) : ∀ (l : List α) (j : Nat), (l.map f).eraseIdx j = (l.eraseIdx j).map f
  | [], _ => rfl
  | x :: r, 0 => rfl
  | x :: r, j + 1 => congrArg (f x :: ·) (erase_map f r j)
theorem erase_perm {α : Type} : ∀ (l : List α) (j : Nat) (h : j < l.length), (l[j] :: l.eraseIdx j).Perm l
  | x :: r, 0, _ => List.Perm.refl _
  | x :: r, j + 1, h => (List.Perm.swap x (r[j]'(Nat.lt_of_succ_lt_succ h)) (r.eraseIdx j)).trans ((erase_perm r j (Nat.lt_of_succ_lt_succ h)).cons x)
end Xk

set_option Elab.async false
set_option linter.all false
set_option maxRecDepth 100000
namespace Xk
open PySem PySem.Spec PyProof.Rows L2
/-! ### data -/
abbrev dI (ns : List Int) : PyData := .list (ns.map PyData.int)
section
variable {K : PySem.W.Frag} {H H' : Hp}
theorem dp_ints : ∀ ns : List Int, DpAll K H (ns.map V.int) (ns.map PyData.int)
  | [] => .nil
  | i :: r => .cons (.int i) (dp_ints r)
theorem dp_lst {a : Addr} {ns : List Int} (h : SqL K H a (ns.map V.int)) : Dp K H (.ref a) (dI ns) := .lst h (dp_ints ns)
theorem eqv_ints : ∀ ns ms : List Int, PyData.eqvAll (ns.map PyData.int) (ms.map PyData.int) = decide (ns = ms)
  | [], [] => rfl
  | [], _ :: _ => rfl
  | _ :: _, [] => rfl
  | i :: r, j :: t => by
    show ((i == j) && PyData.eqvAll (r.map PyData.int) (t.map PyData.int)) = _
    rw [eqv_ints r t]
    by_cases e : i = j
    · subst e; by_cases f : r = t
      · subst f; simp
      · simp [f]
    · simp [e]
theorem eqv_dI (ns ms : List Int) : PyData.eqv (dI ns) (dI ms) = decide (ns = ms) := eqv_ints ns ms
theorem lay_ints : ∀ ns : List Int, PyData.canLayAll0 (ns.map PyData.int) = true
  | [] => rfl
  | _ :: r => lay_ints r
theorem depth_ints : ∀ ns : List Int, PyData.depthAll (ns.map PyData.int) = 0
  | [] => rfl
  | i :: r => by show max 0 (PyData.depthAll (r.map PyData.int)) = 0; rw [depth_ints r]; rfl
theorem shaped_dI (ns : List Int) : SeqAt.shaped (dI ns) = true := by
  unfold SeqAt.shaped
  rw [Bool.and_eq_true]
  refine ⟨lay_ints ns, ?_⟩
  show decide (PyData.depthAll (ns.map PyData.int) + 1 ≤ 64) = true
  rw [depth_ints]; rfl
/-- == of two lists of ints -/
theorem r_eqL {a b : Addr} {ns ms : List Int} {Q : VK} (h : SqL K H a (ns.map V.int)) (g : SqL K H b (ms.map V.int)) (q : Q (.bl (decide (ns = ms))) H) : rEqD K (.ref a) (.ref b) H Q :=
  ⟨_, _, dp_lst h, dp_lst g, shaped_dI ns, shaped_dI ms, by rw [eqv_dI]; exact q⟩
theorem r_neL {a b : Addr} {ns ms : List Int} {Q : VK} (h : SqL K H a (ns.map V.int)) (g : SqL K H b (ms.map V.int)) (q : Q (.bl (!decide (ns = ms))) H) : rNeD K (.ref a) (.ref b) H Q :=
  ⟨_, _, dp_lst h, dp_lst g, shaped_dI ns, shaped_dI ms, by rw [eqv_dI]; exact q⟩
end

/-! ### how long a repr may be -/
def Sh (b : Nat) (d : PyData) : Prop := d.showable = true ∧ d.shown.length ≤ b
theorem Sh.mono {b c : Nat} {d : PyData} (h : Sh b d) (e : b ≤ c) : Sh c d := ⟨h.1, Nat.le_trans h.2 e⟩
theorem len_app (a b : Str) : (a ++ b).length = a.length + b.length := by
  show (a.cps ++ b.cps).size = _
  exact Array.size_append
theorem from_le : ∀ (ts : List Str) (k b : Nat) (acc : Str), (∀ t ∈ ts, t.length ≤ b) → (textFrom k acc ts).length ≤ acc.length + ts.length * (b + 2)
  | [], _, _, _, _ => by simp [textFrom]
  | t :: r, k, b, acc, h => by
    have ht := h t List.mem_cons_self
    have ih := fun acc' => from_le r (k + 1) b acc' fun t ht => h t (List.mem_cons_of_mem _ ht)
    unfold textFrom
    refine Nat.le_trans (ih _) ?_
    rw [List.length_cons, Nat.succ_mul]
    have e2 : (Str.ofString ", ").length = 2 := rfl
    have e0 : (Str.ofString "").length = 0 := rfl
    generalize r.length * (b + 2) = R
    split <;> simp only [len_app] <;> omega
theorem all_sh {b : Nat} : ∀ {ds : List PyData}, (∀ d ∈ ds, Sh b d) → PyData.showableAll ds = true ∧ ∀ t ∈ PyData.shownAll ds, t.length ≤ b
  | [], _ => ⟨rfl, fun t h => nomatch h⟩
  | d :: r, h => by
    have h1 := h d List.mem_cons_self
    have ih := all_sh fun e he => h e (List.mem_cons_of_mem _ he)
    refine ⟨?_, fun t ht => ?_⟩
    · show (d.showable && PyData.showableAll r) = true
      rw [h1.1, ih.1]; rfl
    · rcases List.mem_cons.mp (show t ∈ d.shown :: PyData.shownAll r from ht) with e | e
      · subst e; exact h1.2
      · exact ih.2 t e
theorem shown_len : ∀ ds : List PyData, (PyData.shownAll ds).length = ds.length
  | [] => rfl
  | _ :: r => congrArg (· + 1) (shown_len r)
theorem Sh.list {b : Nat} {ds : List PyData} (h : ∀ d ∈ ds, Sh b d) : Sh (ds.length * (b + 2) + 2) (.list ds) := by
  obtain ⟨h1, h2⟩ := all_sh h
  refine ⟨h1, ?_⟩
  show (listText (PyData.shownAll ds)).length ≤ _
  unfold listText
  rw [len_app]
  have := from_le (PyData.shownAll ds) 0 b "[" h2
  rw [shown_len] at this
  have e1 : ("[" : Str).length = 1 := rfl
  have e2 : ("]" : Str).length = 1 := rfl
  omega
theorem piled_le : ∀ (ts : List Str) (b : Nat), (∀ t ∈ ts, t.length ≤ b) → piled ts ≤ ts.length * (b + 2)
  | [], _, _ => by simp [piled]
  | t :: r, b, h => by
    have h1 := h t List.mem_cons_self
    have ih := piled_le r b fun e he => h e (List.mem_cons_of_mem _ he)
    have e : piled (t :: r) = t.length + 2 + piled r := by simp [piled]
    rw [e, List.length_cons, Nat.succ_mul]
    omega
theorem Sh.tuple {b : Nat} {ds : List PyData} (h : ∀ d ∈ ds, Sh b d) : Sh (ds.length * (b + 2) + 3) (.tuple ds) := by
  obtain ⟨h1, h2⟩ := all_sh h
  refine ⟨h1, ?_⟩
  show (tupleText (PyData.shownAll ds)).length ≤ _
  unfold tupleText
  rw [len_app, len_app]
  have hp := piled_le (PyData.shownAll ds) b h2
  rw [shown_len] at hp
  have e1 : ("(" : Str).length = 1 := rfl
  have e2 : (Str.ofString ",)").length = 2 := rfl
  have e3 : (Str.ofString ")").length = 1 := rfl
  by_cases q : PyData.shownAll ds = []
  · rw [q]
    have e4 : (Str.join ", " []).length = 0 := rfl
    split <;> omega
  · have := join_length_add _ q
    split <;> omega
theorem Sh.bool {b : Bool} : Sh 5 (.bool b) := ⟨rfl, by cases b <;> decide⟩
theorem Sh.none : Sh 4 .none := ⟨rfl, by decide⟩
theorem Sh.int {i : Int} {k : Nat} (hk : 0 < k) (h : i.natAbs < 10 ^ k) (h9 : k ≤ 500) : Sh (k + 1) (.int i) := by
  refine ⟨?_, ?_⟩
  · show decide (i.natAbs.log2 < 1920) = true
    rw [decide_eq_true_eq]
    by_cases z : i.natAbs = 0
    · rw [z]; decide
    · refine (Nat.log2_lt z).mpr (Nat.lt_trans h (Nat.lt_of_le_of_lt (Nat.pow_le_pow_right (by decide) h9) (by decide +kernel)))
  · show (Str.ofString (toString i)).length ≤ k + 1
    match i, h with
    | .ofNat n, h => exact Nat.le_succ_of_le (PyProof.Rows.toString_length_le (v := (n : Int)) (by omega) hk (by
        have h' : n < 10 ^ k := h
        have : ((n : Nat) : Int) < ((10 ^ k : Nat) : Int) := by omega
        simpa using this))
    | .negSucc n, h =>
      have h' : n + 1 < 10 ^ k := h
      have := PyProof.Rows.toString_length_le (v := ((n + 1 : Nat) : Int)) (by omega) hk (by
        have : ((n + 1 : Nat) : Int) < ((10 ^ k : Nat) : Int) := by omega
        simpa using this)
      rw [PyProof.Rows.ofString_length, String.length_toList] at this
      rw [PyProof.Rows.ofString_length, String.length_toList]
      show ("-" ++ toString (n + 1)).length ≤ k + 1
      rw [String.length_append]
      have e : ("-" : String).length = 1 := rfl
      have e2 : (toString ((n + 1 : Nat) : Int)) = toString (n + 1) := rfl
      rw [e2] at this
      omega
theorem Sh.ints {ns : List Int} {k : Nat} (hk : 0 < k) (h9 : k ≤ 500) (h : ∀ i ∈ ns, i.natAbs < 10 ^ k) : Sh (ns.length * (k + 3) + 2) (dI ns) := by
  have := Sh.list (b := k + 1) (ds := ns.map PyData.int) fun d hd => by
    obtain ⟨i, hi, rfl⟩ := List.mem_map.mp hd
    exact Sh.int hk (h i hi) h9
  rw [List.length_map] at this
  exact this
/-- repr(a list), in a reading -/
theorem r_repr {K : PySem.W.Frag} {H : Hp} {a : Addr} {d : PyData} {Q : VK} (h : Dp K H (.ref a) d) (hd : d.depth ≤ 60) {b : Nat} (s : Sh b d) (hb : b ≤ 16777216) (q : Q (.str d.shown) H) : rReprD K [.ref a] H Q :=
  ⟨a, d, rfl, h, s.1, hd, Nat.le_trans s.2 hb, q⟩
theorem depth_dI (ns : List Int) : (dI ns).depth ≤ 60 := by show PyData.depthAll (ns.map PyData.int) + 1 ≤ 60; rw [depth_ints]; decide
end Xk

set_option Elab.async false
set_option linter.all false
set_option maxRecDepth 100000
namespace Xk
open PySem PySem.Spec PyProof.Rows L2
/-! ### isinstance, is None, truth values compared -/
section
variable {X : Cx} (K : PySem.W.Frag)
theorem ix_seqK (hK : X.K = K := by rfl) : IxR X (rIx K) := hK ▸ ix_seq
theorem pg_unlK {es : List Expr} {g : TGs} {k : Nat} {pos : Pos} (n : Nat) (hc : X.calm = true) (h : PGs X es g) (hn : (assignEach es X.env).length = n := by rfl) (hst : (assignEach es X.env).findIdx? (·.1) = none := by rfl) (hK : X.K = K := by rfl) : PG X (.Tuple es k pos) (gUnl K n g) := hK ▸ pg_unl hc h hn hst
/-- x in xs, data of few layers -/
def rInE (K : PySem.W.Frag) : R2 := fun x y H Q => ∃ d ds, Dp K H x d ∧ Dp K H y (.list ds) ∧ SeqAt.shaped d = true ∧ SeqAt.shaped (.list ds) = true ∧ d.depth ≤ 60 ∧ Q (.bl (ds.any fun z => PyData.eqv z d)) H
theorem op_inE (hu : X.A.units + 64 < cLine) (hK : X.K = K := by rfl) : OpR X (compareOp .In) (rInE K) := by
  subst hK
  intro pins s σ H x y v u Q I rx ry h
  obtain ⟨d, ds, hd, he, sd, se, dd, q⟩ := h
  obtain ⟨as, r1⟩ := Dp.reads I d x v hd rx
  obtain ⟨bs, r2⟩ := Dp.reads I (.list ds) y u he ry
  refine SeqAt.in_list_reads r2 r1 (SeqAt.canLay_of_shaped se) (SeqAt.canLay_of_shaped sd) ?_ ⟨.bl _, H, I, rfl, q⟩
  have := Nat.min_le_right (PyData.depthAll ds) d.depth
  omega
theorem isiK (hK : X.K = K := by rfl) : CallR X (.builtin "isinstance") (rIsi K) := hK ▸ call_isi
end
section
variable {K : PySem.W.Frag} {H H' : Hp} {Q : VK} {x : V} {T t : String} {r : Bool}
theorem r_isi (ty : TyX K H x (.type t)) (e : kitB t T = some r) (q : Q (.bl r) H) : rIsi K [x, .ty T] H Q := ⟨x, .ty T, .type t, .type T, r, rfl, .ty T, ty, kit_ty e, q⟩
theorem tyx_list {a : Addr} {xs : List V} (h : SqL K H a xs) : TyX K H (.ref a) (.type "list") := by
  rcases h with (h | ⟨o, h⟩) | ⟨o, its, n, h, c, _⟩
  · exact .base (.lst h)
  · exact .base (.frz h)
  · exact .kList h c
theorem tyx_tup {a : Addr} {xs : List V} (h : SqT K H a xs) : TyX K H (.ref a) (.type "tuple") := by
  rcases h with (h | ⟨o, h⟩) | ⟨o, its, n, h, c, _⟩
  · exact .base (.tup h)
  · exact .fTuple h
  · exact .kTuple h c
theorem r_isN {A : Prop} (q : A) : V.non = V.non ∧ A := ⟨rfl, q⟩
theorem r_neB {a b : Bool} (q : Q (.bl (!decide (a = b))) H) : rNe (.bl a) (.bl b) H Q := by
  refine ⟨rfl, ?_⟩
  have e : decide (V.bl a = V.bl b) = decide (a = b) := by
    by_cases h : a = b
    · subst h; simp
    · rw [decide_eq_false h, decide_eq_false]; intro z; cases z; exact h rfl
  rw [e]; exact q
theorem r_eqB {a b : Bool} (q : Q (.bl (decide (a = b))) H) : rEq (.bl a) (.bl b) H Q := by
  refine ⟨rfl, ?_⟩
  have e : decide (V.bl a = V.bl b) = decide (a = b) := by
    by_cases h : a = b
    · subst h; simp
    · rw [decide_eq_false h, decide_eq_false]; intro z; cases z; exact h rfl
  rw [e]; exact q
theorem r_iRev {tA : TA} {σ : L2.St} {R : L2.It → Hp → Prop} (h : tA σ H fun vs H1 => ∃ a xs, vs = [.ref a] ∧ SqL K H1 a xs ∧ R (Itv K a xs.length) H1) : iRev K tA σ H R := h
theorem r_insert {l : Addr} {xs : List V} {i : Int} {y : V} (h : H l = some (.lst xs)) (hz : xs.length < sizeLine) (h0 : 0 ≤ i) (h1 : i < 2 ^ 63) (q : Q .non (upd H l (.lst (xs.take i.toNat ++ [y] ++ xs.drop i.toNat)))) :
    ∃ (l' : Addr) (xs : List V) (i' : Int) (y' : V), V.ref l = .ref l' ∧ [V.int i, y] = [.int i', y'] ∧ H l' = some (.lst xs) ∧ xs.length < sizeLine ∧ 0 ≤ i' ∧ i' < 2 ^ 63 ∧ Q .non (upd H l' (.lst (xs.take i'.toNat ++ [y'] ++ xs.drop i'.toNat))) := ⟨l, xs, i, y, rfl, rfl, h, hz, h0, h1, q⟩
theorem r_all {a : Addr} {bs : List Bool} (h : SqL K H a (bs.map V.bl)) (q : Q (.bl (bs.all id)) H) : rAll K [.ref a] H Q := ⟨a, bs, rfl, h, q⟩
theorem inv_ints (x : Int) (l : List Int) : inV (.int x) (l.map V.int) = decide (x ∈ l) := by
  unfold inV
  rw [List.any_map]
  by_cases hm : x ∈ l
  · rw [decide_eq_true hm, List.any_eq_true]
    exact ⟨_, hm, by show (_ == _) = true; simp⟩
  · rw [decide_eq_false hm, List.any_eq_false]
    intro y hy
    show ¬ (y == x) = true
    intro e
    exact hm (eq_of_beq e ▸ hy)
theorem r_gunl {gs : TGs} {σ : L2.St} {Qs : L2.St → Hp → Prop} {p : Addr} {xs : List V} {n : Nat} (h : SqL K H p xs) (hl : xs.length = n) (q : gs xs σ H Qs) : gUnl K n gs (.ref p) σ H Qs := ⟨p, xs, rfl, h, hl, q⟩
theorem r_lenT {p : Addr} {xs : List V} (h : SqT K H p xs) (q : Q (.int xs.length) H) : Xk.rLen K [.ref p] H Q := ⟨p, xs, rfl, .inr h, q⟩
theorem pow5 {i : Int} {n : Nat} {j : Int} (h : i.natAbs < 2 ^ n) (h0 : 0 ≤ j) (hj : j ≤ 5) (hn : n ≤ 20000000) : CPowW i j := by
  refine ⟨h0, ?_⟩
  have h1 := bits_le h
  have : (Builtin.Int.intBits i : Int) * j ≤ 20000000 * 5 := by
    refine Int.mul_le_mul ?_ hj h0 (by omega)
    omega
  refine Int.le_trans this (by decide)
theorem r_par3 {tA : TA} {σ : L2.St} {nx bk ct : L2.St → Hp → Prop} {rt : VK} {i j l : Nat} (h : tA σ H fun vs H1 => ∃ x y z, vs = [x, y, z] ∧ nx (((σ.set i (some x)).set j (some y)).set l (some z)) H1) : tPar3 i j l tA ⟨nx, rt, bk, ct⟩ σ H := h
theorem r_ex3 {f : V → V → V → Prop} {x y z : V} (h : f x y z) : ∃ u v w, [x, y, z] = [u, v, w] ∧ f u v w := ⟨x, y, z, rfl, h⟩
theorem r_ixQL {p : Addr} {xs : List V} {i : Int} {v : V} (h : SqL K H p xs) (ha : atI xs i = some v) (q : Q v H) : rIx K (.ref p) (.int i) H Q := .inl ⟨p, xs, i, v, rfl, rfl, h, ha, q⟩
theorem r_ixQT {p : Addr} {xs : List V} {i : Int} {v : V} (h : SqT K H p xs) (ha : atI xs i = some v) (q : Q v H) : rIx K (.ref p) (.int i) H Q := .inr (.inl ⟨p, xs, i, v, rfl, rfl, h, ha, q⟩)
theorem r_reverse {p : Addr} {xs : List V} (h : H p = some (.lst xs)) (q : Q .non (upd H p (.lst xs.reverse))) : rReverse (.ref p) [] H Q := ⟨p, xs, rfl, rfl, h, q⟩
theorem r_extend {p b : Addr} {xs zs : List V} (h : H p = some (.lst xs)) (g : H b = some (.lst zs)) (hz : xs.length + zs.length ≤ sizeLine) (q : Q .non (upd H p (.lst (xs ++ zs)))) : rExtend (.ref p) [.ref b] H Q := ⟨p, b, xs, zs, rfl, rfl, h, g, hz, q⟩
theorem r_cat {p b : Addr} {xs ys : List V} (h : H p = some (.lst xs)) (g : H b = some (.lst ys)) (hz : xs.length + ys.length ≤ sizeLine) (q : ∀ n, H n = none → Q (.ref n) (upd H n (.lst (xs ++ ys)))) : rCat (.ref p) (.ref b) H Q := ⟨p, b, xs, ys, rfl, rfl, h, g, hz, q⟩
theorem cut_any {xs : List V} {z y : Int} {a b : Nat} (h : z = (a : Int)) (g : y = (b : Int)) : cutV xs (some z) (some y) = (xs.drop a).take (b - a) := by
  subst h; subst g
  unfold cutV
  rw [show HT.sIx xs.length 0 (some (a : Int)) = min a xs.length from HT.sIx_nat xs.length 0 a, show HT.sIx xs.length xs.length (some (b : Int)) = min b xs.length from HT.sIx_nat xs.length xs.length b]
  by_cases q : a ≤ xs.length
  · rw [Nat.min_eq_left q]
    by_cases q2 : b ≤ xs.length
    · rw [Nat.min_eq_left q2]
    · rw [Nat.min_eq_right (by omega), List.take_of_length_le (by rw [List.length_drop]; omega), List.take_of_length_le (by rw [List.length_drop]; omega)]
  · rw [Nat.min_eq_right (show xs.length ≤ a by omega), List.drop_of_length_le (Nat.le_refl _), List.drop_of_length_le (show xs.length ≤ a by omega)]; simp
/-! ### data kept -/
theorem sqT_same {a : Addr} {xs : List V} (s : Same H H') (h : SqT K H a xs) : SqT K H' a xs := by
  rcases h with (h | ⟨o, h⟩) | h
  · exact .inl (.inl (s _ _ h))
  · exact .inl (.inr ⟨o, s _ _ h⟩)
  · exact .inr h
mutual
theorem dp_same (s : Same H H') : ∀ (d : PyData) (v : V), Dp K H v d → Dp K H' v d
  | .none, _, h => by cases h; exact .non
  | .bool b, _, h => by cases h; exact .bl b
  | .int i, _, h => by cases h; exact .int i
  | .str y, _, h => by cases h; exact .str y
  | .list ds, _, h => by
    cases h with
    | lst e a => exact .lst (s.seq e) (dp_sameAll s ds _ a)
  | .tuple ds, _, h => by
    cases h with
    | tup e a => exact .tup (sqT_same s e) (dp_sameAll s ds _ a)
  | .dict _, _, h => by cases h
theorem dp_sameAll (s : Same H H') : ∀ (ds : List PyData) (vs : List V), DpAll K H vs ds → DpAll K H' vs ds
  | [], _, h => by cases h; exact .nil
  | d :: ds, _, h => by
    cases h with
    | cons a b => exact .cons (dp_same s d _ a) (dp_sameAll s ds _ b)
end
theorem dpall_len : ∀ {vs : List V} {ds : List PyData}, DpAll K H vs ds → vs.length = ds.length
  | _, _, .nil => rfl
  | _, _, .cons _ b => congrArg (· + 1) (dpall_len b)
theorem dpall_at : ∀ {vs : List V} {ds : List PyData} (h : DpAll K H vs ds) (i : Nat) (hi : i < ds.length), ∃ v, vs[i]? = some v ∧ Dp K H v ds[i]
  | _, _, .cons a b, 0, _ => ⟨_, rfl, a⟩
  | _, _, .cons a b, i + 1, hi => dpall_at b i (Nat.lt_of_succ_lt_succ hi)
theorem depth_at : ∀ {ds : List PyData} {i : Nat} (hi : i < ds.length), ds[i].depth ≤ PyData.depthAll ds
  | d :: ds, 0, _ => Nat.le_max_left _ _
  | d :: ds, i + 1, hi => Nat.le_trans (depth_at (ds := ds) (Nat.lt_of_succ_lt_succ hi)) (Nat.le_max_right _ _)
end
end Xk

namespace My
def IsArr (l : List Int) : Prop := l.Nodup ∧ ∀ v ∈ l, 1 ≤ v ∧ v ≤ l.length
/-- how many of the first p values are at most q -/
def cnt (l : List Int) (p q : Nat) : Nat := ((l.take p).filter (fun v => decide (v ≤ (q : Int)))).length
theorem cnt_zero (l : List Int) (q : Nat) : cnt l 0 q = 0 := by simp [cnt]
theorem cnt_succ {l : List Int} {p : Nat} (h : p < l.length) (q : Nat) : cnt l (p + 1) q = cnt l p q + if l[p] ≤ (q : Int) then 1 else 0 := by
  unfold cnt
  rw [List.take_add_one, List.getElem?_eq_getElem h, List.filter_append, List.length_append]
  by_cases e : l[p] ≤ (q : Int) <;> simp [e]
def AtMost (a b : List Int) : Prop := ∀ p q : Nat, cnt b p q ≤ cnt a p q
theorem cnt_all {l : List Int} {p q : Nat} (h : ∀ v ∈ l, v ≤ (q : Int)) : cnt l p q = min p l.length := by
  unfold cnt
  rw [List.filter_eq_self.mpr fun v hv => decide_eq_true (h v (List.mem_of_mem_take hv)), List.length_take]
theorem cnt_none {l : List Int} {p : Nat} (h : ∀ v ∈ l, 1 ≤ v) : cnt l p 0 = 0 := by
  unfold cnt
  rw [List.length_eq_zero_iff, List.filter_eq_nil_iff]
  intro v hv
  have := h v (List.mem_of_mem_take hv)
  simp; omega
theorem cnt_over {l : List Int} {p q : Nat} (h : l.length ≤ p) : cnt l p q = cnt l l.length q := by
  unfold cnt
  rw [List.take_of_length_le h, List.take_of_length_le (Nat.le_refl _)]
/-- counts with limits below the size tell everything -/
theorem most_iff {a b : List Int} (ha : IsArr a) (hb : IsArr b) (hl : a.length = b.length) : AtMost a b ↔ ∀ p, p ≤ a.length → ∀ q, q < a.length → cnt b p q ≤ cnt a p q := by
  refine ⟨fun h p _ q _ => h p q, fun h p q => ?_⟩
  have key : ∀ p, p ≤ a.length → cnt b p q ≤ cnt a p q := fun p hp => by
    by_cases hq : q < a.length
    · exact h p hp q hq
    · rw [cnt_all fun v hv => Int.le_trans (hb.2 v hv).2 (by omega), cnt_all fun v hv => Int.le_trans (ha.2 v hv).2 (by omega), hl]
      exact Nat.le_refl _
  by_cases hp : p ≤ a.length
  · exact key p hp
  · rw [cnt_over (l := a) (by omega), cnt_over (l := b) (by omega), ← hl]
    exact key _ (Nat.le_refl _)
noncomputable instance (a b : List Int) : Decidable (AtMost a b) := Classical.propDecidable _
theorem arr_asc {l : List Int} {n : Nat} (h : l.Perm ((List.range n).map fun (i : Nat) => (1 + i : Int))) : IsArr l := by
  have hl : l.length = n := by rw [h.length_eq]; simp
  refine ⟨h.symm.nodup ?_, fun v hv => ?_⟩
  · rw [List.Nodup, List.pairwise_map]
    exact List.nodup_range.imp fun h q => h (by omega)
  · obtain ⟨k, hk, rfl⟩ := List.mem_map.mp (h.mem_iff.mp hv)
    have := List.mem_range.mp hk
    omega
/-- a row of numbers by a function of the place -/
def tab (n : Nat) (f : Nat → Int) : List Int := (List.range n).map f
theorem tab_len (n : Nat) (f : Nat → Int) : (tab n f).length = n := by simp [tab]
theorem tab_get {n : Nat} {f : Nat → Int} {k : Nat} (h : k < n) : (tab n f)[k]? = some (f k) := by simp [tab, h]
theorem tab_set {n : Nat} {f : Nat → Int} {k : Nat} {v : Int} : (tab n f).set k v = tab n fun q => if q = k then v else f q := by
  apply List.ext_getElem
  · simp [tab]
  · intro i h1 h2
    rw [List.getElem_set]
    simp only [tab, List.getElem_map, List.getElem_range]
    by_cases e : k = i
    · subst e; simp
    · rw [if_neg e, if_neg (fun q => e q.symm)]
theorem tab_congr {n : Nat} {f g : Nat → Int} (h : ∀ q, q < n → f q = g q) : tab n f = tab n g := by
  unfold tab
  exact List.map_congr_left fun q hq => h q (List.mem_range.mp hq)
theorem tab_const (n : Nat) (c : Int) : List.replicate n c = tab n fun _ => c := by
  apply List.ext_getElem <;> simp [tab]
end My
namespace L03
open PySem PySem.Spec PyProof.Rows L2 Xk
def topS (i : Nat) : Stmt := PySem.Challenge.pw_sortstretches_k03_arrangements_compared.main.body.getD i (.Pass ⟨0, 0, 0, 0⟩)
abbrev s_check_arrangement : Stmt := topS 5
theorem sc_check_arrangement : FnScope ["row", "seen", "index", "value"] ["row"] (defScope s_check_arrangement) := ⟨rfl, rfl, rfl, by decide +kernel, rfl, by decide +kernel, by decide +kernel⟩
abbrev s_is_at_most : Stmt := topS 7
theorem sc_is_at_most : FnScope ["first", "second", "lead", "mine", "other", "limit"] ["first", "second"] (defScope s_is_at_most) := ⟨rfl, rfl, rfl, by decide +kernel, rfl, by decide +kernel, by decide +kernel⟩
abbrev s_law_rng : Stmt := topS 9
theorem sc_law_rng : FnScope ["script", "digits", "seed", "cell", "far"] ["script"] (defScope s_law_rng) := ⟨rfl, rfl, rfl, by decide +kernel, rfl, by decide +kernel, by decide +kernel⟩
abbrev s_law_draw : Stmt := topS 10
theorem sc_law_draw : FnScope ["rng", "limit", "found", "mixed"] ["rng", "limit"] (defScope s_law_draw) := ⟨rfl, rfl, rfl, by decide +kernel, rfl, by decide +kernel, by decide +kernel⟩
abbrev s_law_arranged : Stmt := topS 11
theorem sc_law_arranged : FnScope ["rng", "wide", "left", "found"] ["rng", "wide"] (defScope s_law_arranged) := ⟨rfl, rfl, rfl, by decide +kernel, rfl, by decide +kernel, by decide +kernel⟩
abbrev s_law_below : Stmt := topS 12
theorem sc_law_below : FnScope ["one", "other", "bound", "few", "many", "value", "rival"] ["one", "other"] (defScope s_law_below) := ⟨rfl, rfl, rfl, by decide +kernel, rfl, by decide +kernel, by decide +kernel⟩
abbrev s_law_all : Stmt := topS 13
theorem sc_law_all : FnScope ["wide", "found", "value", "more", "line", "spot"] ["wide"] (defScope s_law_all) := ⟨rfl, rfl, rfl, by decide +kernel, rfl, by decide +kernel, by decide +kernel⟩
abbrev s_law_near : Stmt := topS 14
theorem sc_law_near : FnScope ["rng", "line", "found", "way", "turn", "spot", "late", "early_value", "late_value"] ["rng", "line"] (defScope s_law_near) := ⟨rfl, rfl, rfl, by decide +kernel, rfl, by decide +kernel, by decide +kernel⟩
abbrev s_law_right : Stmt := topS 15
theorem sc_law_right : FnScope ["one", "other", "by_name", "kept", "due", "told"] ["one", "other", "by_name"] (defScope s_law_right) := ⟨rfl, rfl, rfl, by decide +kernel, rfl, by decide +kernel, by decide +kernel⟩
abbrev s_law : Stmt := topS 16
theorem sc_law : FnScope ["script", "rng", "wide", "every", "one", "lap", "line", "up", "near", "other"] ["script"] (defScope s_law) := ⟨rfl, rfl, rfl, by decide +kernel, rfl, by decide +kernel, by decide +kernel⟩
structure Txt (K : PySem.W.Frag) (mg : Str → Option Value) where
  check_arrangement_a : Addr
  check_arrangement_d : FuncData
  check_arrangement_F : Fun K "check_arrangement" "check_arrangement" s_check_arrangement check_arrangement_a check_arrangement_d
  check_arrangement_b : Binds K check_arrangement_d ["row"] []
  check_arrangement_g : mg "check_arrangement" = some (.ref check_arrangement_a)
  is_at_most_a : Addr
  is_at_most_d : FuncData
  is_at_most_F : Fun K "is_at_most" "is_at_most" s_is_at_most is_at_most_a is_at_most_d
  is_at_most_b : Binds K is_at_most_d ["first", "second"] []
  is_at_most_g : mg "is_at_most" = some (.ref is_at_most_a)
  law_rng_a : Addr
  law_rng_d : FuncData
  law_rng_F : Fun K "_law_rng" "_law_rng" s_law_rng law_rng_a law_rng_d
  law_rng_b : Binds K law_rng_d ["script"] []
  law_rng_g : mg "_law_rng" = some (.ref law_rng_a)
  law_draw_a : Addr
  law_draw_d : FuncData
  law_draw_F : Fun K "_law_draw" "_law_draw" s_law_draw law_draw_a law_draw_d
  law_draw_b : Binds K law_draw_d ["rng", "limit"] []
  law_draw_g : mg "_law_draw" = some (.ref law_draw_a)
  law_arranged_a : Addr
  law_arranged_d : FuncData
  law_arranged_F : Fun K "_law_arranged" "_law_arranged" s_law_arranged law_arranged_a law_arranged_d
  law_arranged_b : Binds K law_arranged_d ["rng", "wide"] []
  law_arranged_g : mg "_law_arranged" = some (.ref law_arranged_a)
  law_below_a : Addr
  law_below_d : FuncData
  law_below_F : Fun K "_law_below" "_law_below" s_law_below law_below_a law_below_d
  law_below_b : Binds K law_below_d ["one", "other"] []
  law_below_g : mg "_law_below" = some (.ref law_below_a)
  law_all_a : Addr
  law_all_d : FuncData
  law_all_F : Fun K "_law_all" "_law_all" s_law_all law_all_a law_all_d
  law_all_b : Binds K law_all_d ["wide"] []
  law_all_g : mg "_law_all" = some (.ref law_all_a)
  law_near_a : Addr
  law_near_d : FuncData
  law_near_F : Fun K "_law_near" "_law_near" s_law_near law_near_a law_near_d
  law_near_b : Binds K law_near_d ["rng", "line"] []
  law_near_g : mg "_law_near" = some (.ref law_near_a)
  law_right_a : Addr
  law_right_d : FuncData
  law_right_F : Fun K "_law_right" "_law_right" s_law_right law_right_a law_right_d
  law_right_b : Binds K law_right_d ["one", "other", "by_name"] []
  law_right_g : mg "_law_right" = some (.ref law_right_a)
  law_a : Addr
  law_d : FuncData
  law_F : Fun K "law" "law" s_law law_a law_d
  law_b : Binds K law_d ["script"] []
  law_g : mg "law" = some (.ref law_a)
  k_is_at_most_first_second : KBinds K is_at_most_d ["first", "second"] ["first", "second"] (fun (us ws : List Value) => match us, ws with | [], [w0, w1] => [w0, w1] | _, _ => []) (fun (us ws : List V) => match us, ws with | [], [w0, w1] => [w0, w1] | _, _ => [])
  k_is_at_most_second_first : KBinds K is_at_most_d ["first", "second"] ["second", "first"] (fun (us ws : List Value) => match us, ws with | [], [w0, w1] => [w1, w0] | _, _ => []) (fun (us ws : List V) => match us, ws with | [], [w0, w1] => [w1, w0] | _, _ => [])
  m_abs : mg "abs" = none
  m_enumerate : mg "enumerate" = none
  m_int : mg "int" = none
  m_len : mg "len" = none
  m_list : mg "list" = none
  m_min : mg "min" = none
  m_range : mg "range" = none
  m_repr : mg "repr" = none
  m_set : mg "set" = none
  m_zip : mg "zip" = none
section
variable {P : Program} {w : World} {K : PySem.W.Frag} {mg : Str → Option Value} {base : Heap}
def asc (n : Nat) : List Int := (List.range n).map fun (i : Nat) => (1 + i : Int)
theorem asc_length (n : Nat) : (asc n).length = n := by simp [asc]
theorem asc_nodup (n : Nat) : (asc n).Nodup := by
  unfold asc
  rw [List.Nodup, List.pairwise_map]
  exact List.nodup_range.imp fun h q => h (by omega)
theorem rg_asc (n : Nat) : rgV 1 (n + 1) = (asc n).map V.int := by
  unfold rgV asc
  rw [show ((n : Int) + 1 - 1).toNat = n by omega, List.map_map]
  rfl
theorem asc_small {n : Nat} (hn : n ≤ 1000) {i : Int} (h : i ∈ asc n) : i.natAbs ≤ 10 ^ 30 := by
  unfold asc at h
  obtain ⟨k, hk, rfl⟩ := List.mem_map.mp h
  have := List.mem_range.mp hk
  have : (1 + (k : Int)).natAbs ≤ 1000 := by omega
  exact Nat.le_trans this (by decide)
def Rng (H : Hp) (r : Addr) (m : Nat) : Prop := ∃ a b c : Int, H r = some (.lst [.int a, .int b, .int c]) ∧ 0 ≤ a ∧ 0 ≤ b ∧ b < 2 ^ 61 ∧ 0 ≤ c ∧ c ≤ m
theorem grow {d : Int} {i : Nat} (hd : 0 ≤ d) (hb : d.natAbs < 2 ^ (200 * i + 200)) (f : Int) : (d * 10 ^ Int.toNat 60 + f % 10 ^ Int.toNat 60).natAbs < 2 ^ (200 * (i + 1) + 200) := by
  have h1 := Int.emod_nonneg f (show (10 : Int) ^ Int.toNat 60 ≠ 0 by decide)
  have h2 := Int.emod_lt_of_pos f (show (0 : Int) < 10 ^ Int.toNat 60 by decide)
  have h3 : (d + 1) * 10 ^ Int.toNat 60 ≤ (2 ^ (200 * i + 200) : Nat) * (10 ^ Int.toNat 60 : Int) := Int.mul_le_mul_of_nonneg_right (by omega) (by decide)
  have h4 : ((2 ^ (200 * i + 200) : Nat) : Int) * (10 ^ Int.toNat 60 : Int) < ((2 ^ (200 * i + 200) : Nat) : Int) * ((2 ^ 200 : Nat) : Int) := Int.mul_lt_mul_of_pos_left (by decide) (by have := Nat.two_pow_pos (200 * i + 200); omega)
  have h5 : (2 ^ (200 * (i + 1) + 200) : Nat) = 2 ^ (200 * i + 200) * 2 ^ 200 := by rw [← Nat.pow_add]; congr 1
  have h6 := Int.mul_nonneg hd (show (0 : Int) ≤ 10 ^ Int.toNat 60 by decide)
  rw [Int.add_mul, Int.one_mul] at h3
  have h7 : ((2 ^ (200 * i + 200) * 2 ^ 200 : Nat) : Int) = ((2 ^ (200 * i + 200) : Nat) : Int) * ((2 ^ 200 : Nat) : Int) := by rw [Int.natCast_mul]
  rw [h5]
  generalize ((2 ^ (200 * i + 200) : Nat) : Int) * ((2 ^ 200 : Nat) : Int) = B at *
  generalize d * 10 ^ Int.toNat 60 = A at *
  omega
theorem Rng.same {H H' : Hp} {r : Addr} {m : Nat} (h : Rng H r m) (s : Same H H') : Rng H' r m := by
  obtain ⟨a, b, c, h1, h2⟩ := h
  exact ⟨a, b, c, s _ _ h1, h2⟩
theorem Rng.le {H : Hp} {r : Addr} {m n : Nat} (h : Rng H r m) (e : m ≤ n) : Rng H r n := by
  obtain ⟨a, b, c, h1, h2, h3, h4, h5, h6⟩ := h
  exact ⟨a, b, c, h1, h2, h3, h4, h5, by omega⟩
theorem Rng.ne {H : Hp} {r p : Addr} {m : Nat} (h : Rng H r m) (n : H p = none) : p ≠ r := by
  obtain ⟨a, b, c, h1, h2⟩ := h
  exact (ne_of_none h1 n).symm
theorem Rng.free {H H' : Hp} {r p : Addr} {m : Nat} (h : Rng H' r m) (s : Sx r H H') (n : H' p = none) : H p = none := by
  obtain ⟨a, b, c, h1, h2⟩ := h
  exact s.free h1 n
theorem Rng.other {H : Hp} {r p : Addr} {m : Nat} {o : HO} (h : Rng H r m) (n : p ≠ r) : Rng (upd H p o) r m := by
  obtain ⟨a, b, c, h1, h2⟩ := h
  exact ⟨a, b, c, upd_to n.symm h1, h2⟩
open My
theorem at_tab {n k : Nat} {f : Nat → Int} {z : Int} (e : z = (k : Int)) (h : k < n) : atI ((tab n f).map V.int) z = some (.int (f k)) := at_of e (by rw [List.getElem?_map, tab_get h]; rfl)
/-- at ps stand the lists ls -/
structure Ls (H : Hp) (ps : List Addr) (ls : List (List Int)) : Prop where
  len : ps.length = ls.length
  at_ : ∀ (i : Nat) (p : Addr), ps[i]? = some p → ∃ l, ls[i]? = some l ∧ H p = some (.lst (l.map V.int))
theorem Ls.same {H H' : Hp} {ps : List Addr} {ls : List (List Int)} (h : Ls H ps ls) (s : Same H H') : Ls H' ps ls :=
  ⟨h.len, fun i t e => let ⟨c, e1, e2⟩ := h.at_ i t e; ⟨c, e1, s _ _ e2⟩⟩
theorem Ls.idx {H : Hp} {ps : List Addr} {ls : List (List Int)} (h : Ls H ps ls) {i : Nat} (hi : i < ls.length) : ∃ p, ps[i]? = some p ∧ H p = some (.lst (ls[i].map V.int)) := by
  have hi' : i < ps.length := by rw [h.len]; exact hi
  obtain ⟨c, e1, e2⟩ := h.at_ i _ (List.getElem?_eq_getElem hi')
  rw [List.getElem?_eq_getElem hi] at e1
  cases e1
  exact ⟨_, List.getElem?_eq_getElem hi', e2⟩
theorem Ls.app {H : Hp} {ps qs : List Addr} {ls ms : List (List Int)} (h : Ls H ps ls) (g : Ls H qs ms) : Ls H (ps ++ qs) (ls ++ ms) := by
  refine ⟨by rw [List.length_append, List.length_append, h.len, g.len], fun i p e => ?_⟩
  by_cases q : i < ps.length
  · rw [List.getElem?_append_left q] at e
    obtain ⟨c, e1, e2⟩ := h.at_ i p e
    exact ⟨c, by rw [List.getElem?_append_left (h.len ▸ q)]; exact e1, e2⟩
  · rw [List.getElem?_append_right (by omega)] at e
    obtain ⟨c, e1, e2⟩ := g.at_ _ p e
    exact ⟨c, by rw [List.getElem?_append_right (by have := h.len; omega), ← h.len]; exact e1, e2⟩
theorem Ls.one {H : Hp} {p : Addr} {l : List Int} (e : H p = some (.lst (l.map V.int))) : Ls H [p] [l] := ⟨rfl, fun i q h => by
  cases i with
  | zero => cases h; exact ⟨l, rfl, e⟩
  | succ i => simp at h⟩
theorem Ls.put {H : Hp} {ps : List Addr} {ls : List (List Int)} {p : Addr} {o : HO} (h : Ls H ps ls) (n : ∀ q ∈ ps, q ≠ p) : Ls (upd H p o) ps ls :=
  ⟨h.len, fun i t e => let ⟨c, e1, e2⟩ := h.at_ i t e; ⟨c, e1, upd_to (n t (List.mem_of_getElem? e)) e2⟩⟩
theorem Ls.ne {H : Hp} {ps : List Addr} {ls : List (List Int)} {p : Addr} (h : Ls H ps ls) (n : H p = none) : ∀ q ∈ ps, q ≠ p := fun q hq => by
  obtain ⟨i, hi⟩ := List.mem_iff_getElem?.mp hq
  obtain ⟨l, e1, e2⟩ := h.at_ i q hi
  exact ne_of_none e2 n
theorem Ls.ne' {H : Hp} {ps qs : List Addr} {ls : List (List Int)} {p : Addr} (h : Ls H ps ls) (hp : H p = some (.lst (qs.map V.ref))) (hl : ∀ l ∈ ls, l ≠ []) : ∀ q ∈ ps, q ≠ p := fun q hq e => by
  obtain ⟨i, hi⟩ := List.mem_iff_getElem?.mp hq
  obtain ⟨l, e1, e2⟩ := h.at_ i q hi
  have h1 := hl l (List.mem_of_getElem? e1)
  rw [e, hp] at e2
  cases l with
  | nil => exact h1 rfl
  | cons x r => cases qs <;> simp at e2
theorem asc_succ (n : Nat) : asc (n + 1) = asc n ++ [1 + (n : Int)] := by unfold asc; rw [List.range_succ, List.map_append]; rfl
theorem Ls.nil {H : Hp} : Ls H [] [] := ⟨rfl, fun i q h => by simp at h⟩
def leQ (q : Nat) (l : List Int) : Nat := (l.filter (fun v => decide (v ≤ (q : Int)))).length
theorem cnt_le (l : List Int) (p q : Nat) : cnt l p q = leQ q (l.take p) := rfl
theorem le_app (q : Nat) (l m : List Int) : leQ q (l ++ m) = leQ q l + leQ q m := by unfold leQ; rw [List.filter_append, List.length_append]
theorem le_perm {q : Nat} {l m : List Int} (h : l.Perm m) : leQ q l = leQ q m := (h.filter _).length_eq
theorem le_len (q : Nat) (l : List Int) : leQ q l ≤ l.length := List.length_filter_le _ _
theorem le_asc (q : Nat) : ∀ n, leQ q (asc n) = min n q
  | 0 => by simp [leQ, asc]
  | n + 1 => by
    rw [asc_succ, le_app, le_asc q n]
    have : leQ q [1 + (n : Int)] = if n < q then 1 else 0 := by
      unfold leQ
      by_cases h : n < q
      · rw [if_pos h, List.filter_cons, if_pos (by simp; omega)]; rfl
      · rw [if_neg h, List.filter_cons, if_neg (by simp; omega)]; rfl
    rw [this]
    split <;> omega
theorem asc_take (n p : Nat) : (asc n).take p = asc (min p n) := by
  unfold asc
  rw [← List.map_take, List.take_range]
theorem cnt_split {l : List Int} (p q : Nat) : cnt l p q + leQ q (l.drop p) = leQ q l := by
  rw [cnt_le, ← le_app, List.take_append_drop]
theorem asc_most {l : List Int} {n : Nat} (h : l.Perm (asc n)) : AtMost (asc n) l := fun p q => by
  have h1 : cnt (asc n) p q = min (min p n) q := by rw [cnt_le, asc_take, le_asc]
  have h2 := cnt_split (l := l) p q
  rw [le_perm h, le_asc] at h2
  have h3 := le_len q (l.take p)
  rw [← cnt_le, List.length_take, h.length_eq] at h3
  have h4 : (asc n).length = n := by simp [asc]
  omega
theorem desc_most {l : List Int} {n : Nat} (h : l.Perm (asc n)) : AtMost l (asc n).reverse := fun p q => by
  have h4 : (asc n).length = n := by simp [asc]
  have h1 := cnt_split (l := (asc n).reverse) p q
  rw [le_perm (List.reverse_perm _), le_asc, List.drop_reverse, le_perm (List.reverse_perm _), asc_take, le_asc, h4] at h1
  have h2 := cnt_split (l := l) p q
  rw [le_perm h, le_asc] at h2
  have h3 := le_len q (l.drop p)
  rw [List.length_drop, h.length_eq, h4] at h3
  omega
theorem Ls.sx {H H' : Hp} {r : Addr} {ps : List Addr} {ls : List (List Int)} (h : Ls H ps ls) (s : Sx r H H') (n : ∀ p ∈ ps, p ≠ r) : Ls H' ps ls :=
  ⟨h.len, fun i t e => let ⟨c, e1, e2⟩ := h.at_ i t e; ⟨c, e1, s _ _ (n t (List.mem_of_getElem? e)) e2⟩⟩
def sp_check_arrangement (K : PySem.W.Frag) : Sp := fun vs H Q _ => ∃ (a : Addr) (ns : List Int), vs = [.ref a] ∧ SqL K H a (ns.map V.int) ∧ IsArr ns ∧ ns.length ≤ 1000 ∧ ∀ H', Same H H' → Q .non H'
theorem ok_check_arrangement (T : Txt K mg) : FnG P w K mg base CX0 1 T.check_arrangement_a T.check_arrangement_d ["row"] (sp_check_arrangement K) := by
  refine okG T.check_arrangement_F sc_check_arrangement (fun vs H Q E h => ?_) (fun cdv A ou t H vs Q E hG hr h => ?_)
  · obtain ⟨_, _, rfl, _⟩ := h; rfl
  have nd := sc_check_arrangement.nd
  obtain ⟨a, ns, rfl, hS, hA, hlen, q⟩ := h
  refine ⟨_, (pss_cons (sset 1 nd (pe_callTy0 cr_set0 (by rfl) T.m_set (by decide +kernel)))
      (pss_one (ps_for PassesOwn.never rfl (pi_enumK K (by rfl) T.m_enumerate (pa_cons (pv 0) pa_nil)) (pg_tupK K 2 rfl (pgs_cons (gset 2 nd) (pgs_cons (gset 3 nd) pgs_nil)))
        (pss_cons (ps_if (PW.pt (pw_or (pt_cmpR op_lt (pv 3) pe_int (nomark _)) (pw_or (pt_cmpR op_gt (pv 3) (pe_callB (lenK K) (by rfl) T.m_len PySem.boot_len (pa_cons (pv 0) pa_nil)) (nomark _)) (pw_or1 (pt_cmpR or_sin (pv 3) (pv 1) (by rfl))))))
        (pss_one ps_never)
        pss_nil)
      (pss_one (ps_expr (pe_sadd (pv 1) (pa_cons (pv 3) pa_nil)))))))), ?_⟩
  walk_at "g"
  refine r_set0 fun p np => ?_
  have s1 := same_new (o := SetO w p (fun _ => false) 0) np
  have hS1 := s1.seq hS
  walk_at "g"
  refine ⟨a, _, rfl, hS1, ?_⟩
  refine forEI (walk_enum (xs := ns.map V.int)) (fun i σ' H' => ∃ (S : Int → Bool) (n : Nat) (y2 y3 : Option V), σ' = [some (.ref a), some (.ref p), y2, y3] ∧ Same H H' ∧ H' p = some (SetO w p S n) ∧ n ≤ i ∧ ∀ v, S v = true → v ∈ ns.take i)
    ⟨fun _ => false, 0, none, none, rfl, s1, upd_same, Nat.le_refl _, fun v hv => by cases hv⟩ (fun i σ' H' _ p => ?_) (fun i σ' H' T1 hi p' nT => ?_) (fun σ' H' p' => ?_)
  · obtain ⟨_, _, _, _, _, s, _⟩ := p; exact s.seq hS
  · obtain ⟨S, n, y2, y3, rfl, s, hP, hn, hin⟩ := p'
    have s2 := s.trans (same_new (o := .tup [.int (i : Nat), .int ns[i]]) nT)
    have hS2 := s2.seq hS
    have hP2 := upd_old (o := .tup [.int (i : Nat), .int ns[i]]) nT hP
    have hv := hA.2 ns[i] (List.getElem_mem hi)
    walk_at "g"
    refine r_itDF (by omega) ?_
    walk_at "g"
    refine r_itDF (by rw [List.length_map]; omega) ?_
    walk_at "g"
    refine r_sin hP2 ?_
    have hno : S ns[i] = false := by
      cases h : S ns[i] with
      | false => rfl
      | true =>
        have h1 := hin _ h
        have h2 := hA.1
        rw [← List.take_append_drop i ns, List.nodup_append] at h2
        rw [List.drop_eq_getElem_cons hi] at h2
        exact absurd rfl (h2.2.2 _ h1 _ List.mem_cons_self)
    rw [hno]
    walk_at "g"
    refine ⟨⟨p, S, n, rfl, hP2⟩, ?_⟩
    walk_at "g"
    refine r_sadd hP2 (by omega) ?_
    walk_at "g"
    refine ⟨_, _, _, _, rfl, same_old s2 np, upd_same, by split <;> omega, fun v hv => ?_⟩
    rw [take_one hi]
    rcases Bool.or_eq_true_iff.mp hv with h | h
    · exact List.mem_append_left _ (hin v h)
    · rw [of_decide_eq_true h]; exact List.mem_append_right _ List.mem_cons_self
  · obtain ⟨S, n, y2, y3, rfl, s, hP, hn, hin⟩ := p'
    walk_at "g"
    exact q _ s
def sp_law_rng (K : PySem.W.Frag) : Sp := fun vs H Q _ => ∃ (a : Addr) (ns : List Int), vs = [.ref a] ∧ SqL K H a (ns.map V.int) ∧ ns.length ≤ 63 ∧ ∀ H' r, Same H H' → H r = none → Rng H' r 0 → Q (.ref r) H'
theorem ok_law_rng (T : Txt K mg) : FnG P w K mg base CX0 1 T.law_rng_a T.law_rng_d ["script"] (sp_law_rng K) := by
  refine okG T.law_rng_F sc_law_rng (fun vs H Q E h => ?_) (fun cdv A ou t H vs Q E hG hr h => ?_)
  · obtain ⟨_, _, rfl, _⟩ := h; rfl
  have nd := sc_law_rng.nd
  obtain ⟨a, ns, rfl, hS, hlen, q⟩ := h
  refine ⟨_, (pss_cons (ps_asg (pe_tup (pa_cons pe_int (pa_cons pe_int pa_nil))) (pg_tupK K 2 rfl (pgs_cons (gset 1 nd) (pgs_cons (gset 2 nd) pgs_nil))))
      (pss_cons (ps_for PassesOwn.never rfl (pi_listK K (pe_slice (sl_listK K) (pv 0) po_none (po_some pe_int))) (gset 3 nd)
        (pss_cons (sset 4 nd (pe_callB call_abs (by rfl) T.m_abs (by decide +kernel) (pa_cons (pv 3) pa_nil)))
      (pss_cons (ps_if (pt_cmpR op_ge (pv 4) (pe_op op_powW pe_int pe_int) (nomark _))
        (pss_one (sset 1 nd (pe_op op_add (pe_op op_mulW (pv 1) (pe_op op_powW pe_int pe_int)) (pe_op op_mod (pv 4) (pe_op op_powW pe_int pe_int)))))
        pss_nil)
      (pss_one (sset 2 nd (pe_op op_mod (pe_op op_add (pe_op op_add (pe_op op_mulW (pv 2) pe_int) (pe_op op_mod (pv 3) pe_int)) pe_int) pe_int))))))
      (pss_one (ps_ret (pe_lst (pa_cons (pv 1) (pa_cons (pv 2) (pa_cons pe_int pa_nil)))))))), ?_⟩
  walk_at "g"
  intro T0 n0
  walk_at "g"
  have s0 := same_new (o := .tup [.int 0, .int 88675123]) n0
  have hS0 := s0.seq hS
  walk_at "g"
  intro n nn
  rw [cut_to (z := 63) (b := 63) rfl, List.take_of_length_le (by rw [List.length_map]; exact hlen)]
  walk_at "g"
  have s1 := s0.trans (same_new (o := .lst (ns.map V.int)) nn)
  refine forAI (walk_list (xs := ns.map V.int)) (fun i σ' H' => ∃ d s y3 y4, σ' = [some (.ref a), some (.int d), some (.int s), y3, y4] ∧ 0 ≤ d ∧ d.natAbs < 2 ^ (200 * i + 200) ∧ 0 ≤ s ∧ s < 2 ^ 61 ∧ H' = upd (upd H T0 (.tup [.int 0, .int 88675123])) n (.lst (ns.map V.int)))
    ⟨0, 88675123, none, none, rfl, by decide, by decide, by decide, by decide, rfl⟩ (fun i σ' H' _ p => ?_) (fun i σ' H' hi p => ?_) (fun σ' H' p => ?_)
  · obtain ⟨_, _, _, _, _, _, _, _, _, rfl⟩ := p; exact sq upd_same
  · obtain ⟨d, s, y3, y4, rfl, hd, hdb, hs, hsb, rfl⟩ := p
    walk_at "g"
    have fin : ∀ d' y4', 0 ≤ d' → d'.natAbs < 2 ^ (200 * (i + 1) + 200) → ∃ d0 s0 y3 y4, [some (V.ref a), some (V.int d'), some (V.int ((s * 1000003 + ns[i] % 2305843009213693921 + 7) % 2305843009213693951)), some (V.int ns[i]), y4'] = [some (.ref a), some (.int d0), some (.int s0), y3, y4] ∧ 0 ≤ d0 ∧ d0.natAbs < 2 ^ (200 * (i + 1) + 200) ∧ 0 ≤ s0 ∧ s0 < 2 ^ 61 ∧
        upd (upd H T0 (.tup [.int 0, .int 88675123])) n (.lst (ns.map V.int)) = upd (upd H T0 (.tup [.int 0, .int 88675123])) n (.lst (ns.map V.int)) := fun d' y4' h1 h2 =>
      ⟨_, _, _, _, rfl, h1, h2, Int.emod_nonneg _ (by decide), Int.lt_trans (Int.emod_lt_of_pos _ (by decide)) (by decide), rfl⟩
    refine r_dec (fun h => ?_) (fun h => ?_)
    · walk_at "g"
      refine r_I (wide_mul (b := 200) hdb (by decide) (by omega) (by decide) (by omega)) ?_
      walk_at "g"
      refine r_I (wide_mul (a := 61) (b := 20) (by omega) (by decide) (by decide) (by decide) (by decide)) ?_
      walk_at "g"
      exact fin _ _ (by
        have := Int.emod_nonneg (if ns[i] < 0 then -ns[i] else ns[i]) (show (10 : Int) ^ Int.toNat 60 ≠ 0 by decide)
        have := Int.mul_nonneg hd (show (0 : Int) ≤ 10 ^ Int.toNat 60 by decide)
        omega) (grow hd hdb _)
    · walk_at "g"
      refine r_I (wide_mul (a := 61) (b := 20) (by omega) (by decide) (by decide) (by decide) (by decide)) ?_
      walk_at "g"
      exact fin _ _ hd (Nat.lt_of_lt_of_le hdb (Nat.pow_le_pow_right (by decide) (by omega)))
  · obtain ⟨d, s, y3, y4, rfl, hd, hdb, hs, hsb, rfl⟩ := p
    walk_at "g"
    intro r nr
    exact q _ _ (same_old s1 (s1.free nr)) (s1.free nr) ⟨d, s, 0, upd_same, hd, hs, hsb, by decide, by decide⟩
def sp_law_draw (K : PySem.W.Frag) : Sp := fun vs H Q _ => ∃ (r : Addr) (lim : Int) (m : Nat), vs = [.ref r, .int lim] ∧ Rng H r m ∧ m < 2 ^ 60 ∧ 0 < lim ∧ lim < 2 ^ 200 ∧
  ∀ H' d, 0 ≤ d → d < lim → Sx r H H' → Rng H' r (m + 1) → Q (.int d) H'
theorem ok_law_draw (T : Txt K mg) : FnG P w K mg base CX0 1 T.law_draw_a T.law_draw_d ["rng", "limit"] (sp_law_draw K) := by
  refine okG T.law_draw_F sc_law_draw (fun vs H Q E h => ?_) (fun cdv A ou t H vs Q E hG hr h => ?_)
  · obtain ⟨_, _, _, rfl, _⟩ := h; rfl
  have nd := sc_law_draw.nd
  obtain ⟨r, lim, m, rfl, ⟨a, b, c, hR, ha, hb, hb2, hc, hcm⟩, hm, hl, hl2, q⟩ := h
  refine ⟨_, (pss_cons (ps_if (pt_cmpR op_gt (pe_ix (ix_listK K) (pv 0) pe_int (fun _ _ => rfl)) pe_int (nomark _))
        (pss_cons (sset 2 nd (pe_op op_mod (pe_ix (ix_listK K) (pv 0) pe_int (fun _ _ => rfl)) (pv 1)))
      (pss_cons (ps_asg (pe_op op_fdivW (pe_ix (ix_listK K) (pv 0) pe_int (fun _ _ => rfl)) (pv 1)) (pg_sub (pv 0) pe_int set_list))
      (pss_one (ps_ret (pv 2)))))
        pss_nil)
      (pss_cons (ps_asg (pe_op op_add (pe_ix (ix_listK K) (pv 0) pe_int (fun _ _ => rfl)) pe_int) (pg_sub (pv 0) pe_int set_list))
      (pss_cons (sset 3 nd (pe_op op_mod (pe_op op_powW (pe_op op_add (pe_ix (ix_listK K) (pv 0) pe_int (fun _ _ => rfl)) (pe_op op_mulW pe_int (pe_ix (ix_listK K) (pv 0) pe_int (fun _ _ => rfl)))) pe_int) pe_int))
      (pss_cons (sset 3 nd (pe_op op_mod (pe_op op_powW (pe_op op_add (pv 3) (pe_op op_mulW pe_int (pe_ix (ix_listK K) (pv 0) pe_int (fun _ _ => rfl)))) pe_int) pe_int))
      (pss_one (ps_ret (pe_op op_mod (pe_op op_fdivW (pv 3) pe_int) (pv 1)))))))), ?_⟩
  walk_at "g"
  refine r_dec (fun h1 => ?_) (fun h1 => ?_)
  · walk_at "g"
    refine r_I (wide_div hl (b := 201) (by omega) (by decide) (by decide)) ?_
    walk_at "g"
    exact q _ _ (Int.emod_nonneg _ (by omega)) (Int.emod_lt_of_pos _ hl) Sx.put ⟨_, _, _, upd_same, Int.ediv_nonneg ha (by omega), hb, hb2, hc, by omega⟩
  · walk_at "g"
    refine r_I (wide_mul (a := 30) (b := 61) (by omega) (by omega) (by decide) (by decide) (by decide)) ?_
    walk_at "g"
    refine r_I (powW (n := 100) (by omega) (by decide) (by decide) (by decide)) ?_
    walk_at "g"
    have hx := Int.emod_lt_of_pos ((b + 998244353 * (c + 1)) ^ Int.toNat 3) (show (0 : Int) < 162259276829213363391578010288127 by decide)
    have hx0 := Int.emod_nonneg ((b + 998244353 * (c + 1)) ^ Int.toNat 3) (show (162259276829213363391578010288127 : Int) ≠ 0 by decide)
    generalize (b + 998244353 * (c + 1)) ^ Int.toNat 3 % 162259276829213363391578010288127 = x at hx hx0 ⊢
    refine r_I (wide_mul (a := 30) (b := 61) (by omega) (by omega) (by decide) (by decide) (by decide)) ?_
    walk_at "g"
    refine r_I (powW (n := 120) (by omega) (by decide) (by decide) (by decide)) ?_
    walk_at "g"
    refine r_I ⟨by decide, by decide +kernel⟩ ?_
    walk_at "g"
    exact q _ _ (Int.emod_nonneg _ (by omega)) (Int.emod_lt_of_pos _ hl) Sx.put ⟨_, _, _, upd_same, ha, hb, hb2, by omega, by omega⟩
def sp_law_below (K : PySem.W.Frag) : Sp := fun vs H Q _ => ∃ (a b : Addr) (ns ms : List Int), vs = [.ref a, .ref b] ∧ SqL K H a (ns.map V.int) ∧ SqL K H b (ms.map V.int) ∧ IsArr ns ∧ IsArr ms ∧ ns.length = ms.length ∧ 1 ≤ ns.length ∧ ns.length ≤ 1000 ∧ ∀ H', Same H H' → Q (.bl (decide (AtMost ns ms))) H'
theorem ok_law_below (T : Txt K mg) : FnG P w K mg base CX0 1 T.law_below_a T.law_below_d ["one", "other"] (sp_law_below K) := by
  refine okG T.law_below_F sc_law_below (fun vs H Q E h => ?_) (fun cdv A ou t H vs Q E hG hr h => ?_)
  · obtain ⟨_, _, _, _, rfl, _⟩ := h; rfl
  have nd := sc_law_below.nd
  obtain ⟨a, b, ns, ms, rfl, hS, hB, hA, hM, hl, h1, hlen, q⟩ := h
  refine ⟨_, (pss_cons (ps_for PassesOwn.never rfl (pi_range2 (by rfl) T.m_range (pa_cons pe_int (pa_cons (pe_callB (lenK K) (by rfl) T.m_len PySem.boot_len (pa_cons (pv 0) pa_nil)) pa_nil))) (gset 2 nd)
        (pss_cons (ps_asg (pe_tup (pa_cons pe_int (pa_cons pe_int pa_nil))) (pg_tupK K 2 rfl (pgs_cons (gset 3 nd) (pgs_cons (gset 4 nd) pgs_nil))))
      (pss_one (ps_for PassesOwn.never rfl (pi_zipK K (by rfl) T.m_zip (pa_cons (pv 0) (pa_cons (pv 1) pa_nil))) (pg_tupK K 2 rfl (pgs_cons (gset 5 nd) (pgs_cons (gset 6 nd) pgs_nil)))
        (pss_cons (ps_par (i := 3) (j := 4) (by rfl) nd rfl rfl (by decide) rfl rfl (pa_cons (pe_op op_add (pv 3) (pe_callTy call_int1 (by rfl) T.m_int (by decide +kernel) (pa_cons (pe_cmpR op_le (pv 5) (pv 2) (nomark _)) pa_nil))) (pa_cons (pe_op op_add (pv 4) (pe_callTy call_int1 (by rfl) T.m_int (by decide +kernel) (pa_cons (pe_cmpR op_le (pv 6) (pv 2) (nomark _)) pa_nil))) pa_nil)) (by rfl))
      (pss_one (ps_if (pt_cmpR op_lt (pv 3) (pv 4) (nomark _))
        (pss_one (ps_ret pe_bl))
        pss_nil)))))))
      (pss_one (ps_ret pe_bl))), ?_⟩
  walk_at "g"
  rw [List.length_map]
  refine ⟨⟨by omega, by omega, by omega, by omega⟩, ?_⟩
  refine forF walk_range (fun i σ' H' => ∃ (y2 y3 y4 y5 y6 : Option V), Same H H' ∧ σ' = [some (.ref a), some (.ref b), y2, y3, y4, y5, y6] ∧ ∀ q, q < 1 + i → ∀ p, cnt ms p q ≤ cnt ns p q)
    ⟨none, none, none, none, none, Same.refl H, rfl, fun q hq p => ?_⟩ (fun _ _ _ _ _ => trivial) (fun i σ' H' hi p => ?_) (fun σ' H' p => ?_)
  · rw [show q = 0 by omega, cnt_none fun v hv => (hM.2 v hv).1]; exact Nat.zero_le _
  · obtain ⟨y2, y3, y4, y5, y6, s, rfl, hall⟩ := p
    have hSs := s.seq hS
    have hBs := s.seq hB
    walk_at "g"
    intro T0 n0
    have s0 := s.trans (same_new (o := .tup [.int 0, .int 0]) n0)
    walk_at "g"
    refine ⟨a, b, _, _, rfl, s0.seq hS, s0.seq hB, ?_⟩
    refine forP (walk_zip (xs := ns.map V.int) (ys := ms.map V.int) (n := ns.length) (by rw [List.length_map, List.length_map]; omega)) (fun j σ' H' => ∃ (y5 y6 : Option V), Same H H' ∧ σ' = [some (.ref a), some (.ref b), some (.int (1 + (i : Int))), some (.int (cnt ns j (1 + i) : Nat)), some (.int (cnt ms j (1 + i) : Nat)), y5, y6] ∧ ∀ p, p ≤ j → cnt ms p (1 + i) ≤ cnt ns p (1 + i))
      ⟨y5, y6, s0, ?_, fun p hp => ?_⟩ (fun j σ' H' _ p => ?_) (fun j σ' HA T1 x y hj p' e1 e2 nT => ?_) (fun σ' HA p' => ?_)
    · rw [cnt_zero, cnt_zero]; rfl
    · rw [show p = 0 by omega, cnt_zero]; exact Nat.zero_le _
    · obtain ⟨_, _, s, _⟩ := p; exact ⟨s.seq hS, s.seq hB⟩
    · obtain ⟨y5, y6, sA, rfl, hle⟩ := p'
      have hj2 : j < ms.length := by omega
      simp only [List.getElem?_map, List.getElem?_eq_getElem hj, List.getElem?_eq_getElem hj2] at e1 e2
      cases e1
      cases e2
      have hca := cnt_succ hj (1 + i)
      have hcb := cnt_succ hj2 (1 + i)
      have s1 := sA.trans (same_new (o := .tup [.int ns[j], .int ms[j]]) nT)
      have ea : ((cnt ns j (1 + i) : Nat) : Int) + (if decide (ns[j] ≤ 1 + (i : Int)) = true then 1 else 0) = ((cnt ns (j + 1) (1 + i) : Nat) : Int) := by
        rw [hca]
        by_cases h : ns[j] ≤ 1 + (i : Int)
        · rw [if_pos (decide_eq_true h), if_pos (by omega)]; omega
        · rw [if_neg (by simpa using h), if_neg (by omega)]; omega
      have eb : ((cnt ms j (1 + i) : Nat) : Int) + (if decide (ms[j] ≤ 1 + (i : Int)) = true then 1 else 0) = ((cnt ms (j + 1) (1 + i) : Nat) : Int) := by
        rw [hcb]
        by_cases h : ms[j] ≤ 1 + (i : Int)
        · rw [if_pos (decide_eq_true h), if_pos (by omega)]; omega
        · rw [if_neg (by simpa using h), if_neg (by omega)]; omega
      walk_at "g"
      rw [ea, eb]
      refine r_dec (fun h => ?_) (fun h => ?_)
      · walk_at "g"
        rw [show false = decide (AtMost ns ms) from (decide_eq_false (fun hall => by
          have h2 := hall (j + 1) (1 + i)
          omega)).symm]
        exact q _ s1
      · walk_at "g"
        refine ⟨_, _, s1, rfl, fun p hp => ?_⟩
        by_cases e : p ≤ j
        · exact hle p e
        · rw [show p = j + 1 by omega]; omega
    · obtain ⟨y5, y6, sA, rfl, hle⟩ := p'
      refine ⟨_, _, _, _, _, sA, rfl, fun q hq p => ?_⟩
      by_cases e : q < 1 + i
      · exact hall q e p
      · rw [show q = 1 + i by omega]
        by_cases e2 : p ≤ ns.length
        · exact hle p e2
        · rw [cnt_over (l := ns) (by omega), cnt_over (l := ms) (by omega), ← hl]
          exact hle _ (Nat.le_refl _)
  · obtain ⟨y2, y3, y4, y5, y6, s, rfl, hall⟩ := p
    walk_at "g"
    rw [show true = decide (AtMost ns ms) from (decide_eq_true ((most_iff hA hM hl).mpr fun p _ q hq => hall q (by omega) p)).symm]
    exact q _ s
def sp_law_all (K : PySem.W.Frag) : Sp := fun vs H Q _ => ∃ (wide : Nat) (_u : Unit), vs = [.int wide] ∧ 1 ≤ wide ∧ wide ≤ 4 ∧ ∀ (H' : Hp) (p : Addr) (ps : List Addr) (ls : List (List Int)), Same H H' → H p = none → H' p = some (.lst (ps.map V.ref)) → Ls H' ps ls → (∀ l ∈ ls, IsArr l ∧ l.length = wide) → Q (.ref p) H'
theorem ok_law_all (T : Txt K mg) : FnG P w K mg base CX0 1 T.law_all_a T.law_all_d ["wide"] (sp_law_all K) := by
  refine okG T.law_all_F sc_law_all (fun vs H Q E h => ?_) (fun cdv A ou t H vs Q E hG hr h => ?_)
  · obtain ⟨_, _, rfl, _⟩ := h; rfl
  have nd := sc_law_all.nd
  obtain ⟨wide, _, rfl, hw1, hw, q⟩ := h
  refine ⟨_, (pss_cons (sset 1 nd (pe_lst (pa_cons (pe_lst pa_nil) pa_nil)))
      (pss_cons (ps_for PassesOwn.never rfl (pi_range2 (by rfl) T.m_range (pa_cons pe_int (pa_cons (pe_op op_add (pv 0) pe_int) pa_nil))) (gset 2 nd)
        (pss_cons (sset 3 nd (pe_lst pa_nil))
      (pss_cons (ps_for PassesOwn.never rfl (pi_listK K (pv 1)) (gset 4 nd)
        (pss_one (ps_expr (pe_bmK K PySem.F.plainAttrs_list PySem.F.slot_list_extend PySem.F.type_list_extend mt_extend (pv 3) (pa_cons (pe_lc (own := [("spot", 5)]) (hc := rfl) (hN := nd) (hi := (pi_range1 (by rfl) T.m_range (pa_cons (pe_op op_add (pe_callB (lenK K) (by rfl) T.m_len PySem.boot_len (pa_cons (pv 4) pa_nil)) pe_int) pa_nil))) (ok := blkOk_by (by rfl)) (hg := fun _ _ _ _ _ => (gset 5 nd)) (ht := (fun _ _ _ _ _ => pts_nil)) (he := fun _ _ _ _ _ => (pe_op op_cat (pe_op op_cat (pe_slice (sl_listK K) (pv 4) po_none (po_some (pv 5))) (pe_lst (pa_cons (pv 2) pa_nil))) (pe_slice (sl_listK K) (pv 4) (po_some (pv 5)) po_none)))) pa_nil)))))
      (pss_one (sset 1 nd (pv 3))))))
      (pss_one (ps_ret (pv 1))))), ?_⟩
  walk_at "g"
  intro e0 ne
  walk_at "g"
  intro f0 nf
  walk_at "g"
  refine ⟨⟨by decide, by decide, by omega, by omega⟩, ?_⟩
  have s0 := same_new (o := .lst []) ne
  have hf0 := s0.free nf
  have s1 := s0.trans (same_new (o := .lst [.ref e0]) nf)
  refine forF walk_range (fun i σ' H' => ∃ (fp : Addr) (ps : List Addr) (ls : List (List Int)) (y2 y3 y4 y5 : Option V), Same H H' ∧ σ' = [some (.int wide), some (.ref fp), y2, y3, y4, y5] ∧ H fp = none ∧ H' fp = some (.lst (ps.map V.ref)) ∧ Ls H' ps ls ∧ (∀ l ∈ ls, l.Perm (asc i)) ∧ ls.length ≤ 10 ^ i)
    ⟨f0, [e0], [[]], none, none, none, none, s1, rfl, hf0, upd_same, Ls.one (upd_old nf upd_same), (fun l hl => by rw [List.mem_singleton.mp hl]; exact List.Perm.refl _), by decide⟩ (fun _ _ _ _ _ => trivial) (fun i σ' H' hi p => ?_) (fun σ' H' p => ?_)
  · obtain ⟨fp, ps, ls, y2, y3, y4, y5, s, rfl, hf, hF, hL, hperm, hsz⟩ := p
    have hi4 : i < 4 := by omega
    have hsz2 : 10 ^ i ≤ 1000 := by
      have : i = 0 ∨ i = 1 ∨ i = 2 ∨ i = 3 := by omega
      rcases this with e | e | e | e <;> subst e <;> decide
    walk_at "g"
    intro mp nm
    have hm := s.free nm
    have s2 := s.trans (same_new (o := .lst []) nm)
    have hF2 := upd_old (o := .lst []) nm hF
    have hne := hL.ne nm
    have hfm : fp ≠ mp := ne_of_none hF nm
    walk_at "g"
    refine forA (walk_list (xs := ps.map V.ref)) (fun j σ' H' => ∃ (qs : List Addr) (ms : List (List Int)) (y4 y5 : Option V), Same H H' ∧ σ' = [some (.int wide), some (.ref fp), some (.int (1 + (i : Int))), some (.ref mp), y4, y5] ∧ H' fp = some (.lst (ps.map V.ref)) ∧ H' mp = some (.lst (qs.map V.ref)) ∧ Ls H' ps ls ∧ Ls H' qs ms ∧ (∀ l ∈ ms, l.Perm (asc (i + 1))) ∧ ms.length = j * (i + 1))
      ⟨[], [], y4, y5, s2, rfl, hF2, upd_same, hL.put hne, Ls.nil, (fun l hl => by cases hl), by simp⟩ (fun j σ' H' _ p => ?_) (fun j σ' HA hj p => ?_) (fun σ' HA p => ?_)
    · obtain ⟨_, _, _, _, s, _, hF, _⟩ := p; exact sq hF
    · obtain ⟨qs, ms, y4, y5, sA, rfl, hFA, hMA, hLA, hQA, hpA, hlA⟩ := p
      have hj' : j < ls.length := by rw [← hLA.len]; simpa using hj
      obtain ⟨p0, ep, hp0⟩ := hLA.idx hj'
      have e1 : (ps.map V.ref)[j] = .ref p0 := by
        have : (ps.map V.ref)[j]? = some (.ref p0) := by rw [List.getElem?_map, ep]; rfl
        rw [List.getElem?_eq_getElem hj] at this
        exact Option.some.inj this
      rw [e1]
      have hpl := hperm ls[j] (List.getElem_mem hj')
      have hll : ls[j].length = i := by rw [hpl.length_eq, asc_length]
      have hjl : j * (i + 1) ≤ 4000 := by
        have : j ≤ 1000 := by omega
        exact Nat.mul_le_mul this (show i + 1 ≤ 4 by omega)
      walk_at "g"
      rw [List.length_map, hll]
      refine ⟨by omega, by omega, fun D nD => ?_⟩
      have hMD : mp ≠ D := ne_of_none hMA nD
      refine lc_it walk_range (fun t Hh => ∃ (rs : List Addr) (ks : List (List Int)), Same HA Hh ∧ Hh D = some (.lst (rs.map V.ref)) ∧ Ls Hh rs ks ∧ (∀ l ∈ ks, l.Perm (asc (i + 1))) ∧ ks.length = t)
        ⟨[], [], same_new nD, upd_same, Ls.nil, (fun l hl => by cases hl), rfl⟩ (fun _ _ _ _ => trivial) (fun t x Hh Hh' ht p y => ?_) (fun Hh p => ?_)
      · obtain ⟨rfl, rfl⟩ := y
        obtain ⟨rs, ks, sh, hD, hR, hrp, hrl⟩ := p
        have hp1 := sh _ _ hp0
        walk_at "g"
        refine ⟨rfl, ?_⟩
        walk_at "g"
        intro c0 n0
        rw [cut_to (b := t) (by omega), ← List.map_take] at *
        have hp2 := upd_old (o := .lst ((ls[j].take t).map V.int)) n0 hp1
        walk_at "g"
        intro c1 n1
        have h02 := upd_old (o := .lst [.int (1 + (i : Int))]) n1 (upd_same (H := Hh') (a := c0) (o := .lst ((ls[j].take t).map V.int)))
        refine ⟨_, _, _, _, rfl, rfl, h02, upd_same, by rw [List.length_map, List.length_take]; exact size_le (by show min t _ + 1 ≤ _; omega), fun c2 n2 => ?_⟩
        have hp3 := upd_old (o := .lst ((ls[j].take t).map V.int ++ [.int (1 + (i : Int))])) n2 (upd_old (o := .lst [.int (1 + (i : Int))]) n1 hp2)
        walk_at "g"
        intro c3 n3
        rw [cut_from (a := t) (by omega), ← List.map_drop] at *
        have h24 := upd_old (o := .lst ((ls[j].drop t).map V.int)) n3 (upd_same (H := upd (upd Hh' c0 (.lst ((ls[j].take t).map V.int))) c1 (.lst [.int (1 + (i : Int))])) (a := c2) (o := .lst ((ls[j].take t).map V.int ++ [.int (1 + (i : Int))])))
        refine ⟨_, _, _, _, rfl, rfl, h24, upd_same, by rw [List.length_append, List.length_map, List.length_map, List.length_take, List.length_drop]; exact size_le (by show min t _ + 1 + _ ≤ _; omega), fun c4 n4 => ?_⟩
        have s5 : Same Hh' _ := ((((same_new n0).trans (same_new n1)).trans (same_new n2)).trans (same_new n3)).trans (same_new (o := .lst ((ls[j].take t).map V.int ++ [.int (1 + (i : Int))] ++ (ls[j].drop t).map V.int)) n4)
        have hDD := s5 _ _ hD
        refine ⟨_, hDD, by rw [List.length_map, hR.len, hrl]; exact size_lt (by omega), rs ++ [c4], ks ++ [ls[j].take t ++ [1 + (i : Int)] ++ ls[j].drop t], same_old (sh.trans s5) nD, by rw [upd_same, List.map_append]; rfl, ?_, fun l hl => ?_, by rw [List.length_append, hrl]; rfl⟩
        · refine ((hR.same s5).app (Ls.one (l := ls[j].take t ++ [1 + (i : Int)] ++ ls[j].drop t) (by rw [upd_same, List.map_append, List.map_append]; rfl))).put fun q hq e => ?_
          rw [e] at hq
          rcases List.mem_append.mp hq with z | z
          · exact (hR.same s5).ne' hDD (fun l hl e => by have := (hrp l hl).length_eq; rw [e, asc_length] at this; simp at this) _ z rfl
          · exact ne_of_none (((((same_new n0).trans (same_new n1)).trans (same_new n2)).trans (same_new n3)) _ _ hD) n4 (List.mem_singleton.mp z)
        · rcases List.mem_append.mp hl with z | z
          · exact hrp l z
          · rw [List.mem_singleton.mp z, asc_succ]
            refine List.Perm.trans ?_ (hpl.append_right _)
            have e := List.take_append_drop t ls[j]
            conv => rhs; rw [← e]
            rw [List.append_assoc, List.append_assoc]
            exact (List.perm_append_comm).append_left _
      · obtain ⟨rs, ks, sh, hD, hR, hrp, hrl⟩ := p
        have hM2 := sh _ _ hMA
        walk_at "g"
        refine ⟨mp, D, _, _, rfl, rfl, hM2, hD, by rw [List.length_map, List.length_map, hQA.len, hR.len, hlA, hrl]; exact size_le (by omega), ?_⟩
        walk_at "g"
        have n1 : ∀ l ∈ ms, l ≠ [] := fun l hl e => by have := (hpA l hl).length_eq; rw [e, asc_length] at this; simp at this
        have n2 : ∀ l ∈ ks, l ≠ [] := fun l hl e => by have := (hrp l hl).length_eq; rw [e, asc_length] at this; simp at this
        refine ⟨qs ++ rs, ms ++ ks, _, _, same_old (sA.trans sh) hm, rfl, upd_to hfm (sh _ _ hFA), by rw [upd_same, List.map_append], (hLA.same sh).put hne, ((hQA.same sh).put ((hQA.same sh).ne' hM2 n1)).app (hR.put (hR.ne' hM2 n2)), fun l hl => ?_, ?_⟩
        · rcases List.mem_append.mp hl with z | z
          · exact hpA l z
          · exact hrp l z
        · rw [List.length_append, hlA, hrl, Nat.succ_mul]; omega
    · obtain ⟨qs, ms, y4, y5, sA, rfl, hFA, hMA, hLA, hQA, hpA, hlA⟩ := p
      walk_at "g"
      refine ⟨mp, qs, ms, _, _, _, _, sA, rfl, hm, hMA, hQA, hpA, ?_⟩
      rw [hlA, List.length_map, hL.len, Nat.pow_succ]
      exact Nat.mul_le_mul hsz (by omega)
  · obtain ⟨fp, ps, ls, y2, y3, y4, y5, s, rfl, hf, hF, hL, hperm, hsz⟩ := p
    walk_at "g"
    rw [show ((wide : Int) + 1 - 1).toNat = wide by omega] at hperm
    exact q _ fp ps ls s hf hF hL fun l hl => ⟨arr_asc (hperm l hl), by rw [(hperm l hl).length_eq, asc_length]⟩
def sp_is_at_most (K : PySem.W.Frag) : Sp := fun vs H Q _ => ∃ (a b : Addr) (ns ms : List Int), vs = [.ref a, .ref b] ∧ SqL K H a (ns.map V.int) ∧ SqL K H b (ms.map V.int) ∧ IsArr ns ∧ IsArr ms ∧ ns.length = ms.length ∧ 1 ≤ ns.length ∧ ns.length ≤ 1000 ∧ ∀ H', Same H H' → Q (.bl (decide (AtMost ns ms))) H'
theorem ok_is_at_most (T : Txt K mg) : FnG P w K mg base CX0 2 T.is_at_most_a T.is_at_most_d ["first", "second"] (sp_is_at_most K) := by
  refine okG T.is_at_most_F sc_is_at_most (fun vs H Q E h => ?_) (fun cdv A ou t H vs Q E hG hr h => ?_)
  · obtain ⟨_, _, _, _, rfl, _⟩ := h; rfl
  have nd := sc_is_at_most.nd
  obtain ⟨a, b, ns, ms, rfl, hS, hB, hA, hM, hl, h1, hlen, q⟩ := h
  refine ⟨_, (pss_cons (ps_expr (pe_callG (ok_check_arrangement T) hG (hr.mono (by decide)) (by rfl) T.check_arrangement_g T.check_arrangement_F.kp T.check_arrangement_b .nil pass0 (pa_cons (pv 0) pa_nil)))
      (pss_cons (ps_expr (pe_callG (ok_check_arrangement T) hG (hr.mono (by decide)) (by rfl) T.check_arrangement_g T.check_arrangement_F.kp T.check_arrangement_b .nil pass0 (pa_cons (pv 1) pa_nil)))
      (pss_cons (ps_if (pt_cmpR op_ne (pe_callB (lenK K) (by rfl) T.m_len PySem.boot_len (pa_cons (pv 0) pa_nil)) (pe_callB (lenK K) (by rfl) T.m_len PySem.boot_len (pa_cons (pv 1) pa_nil)) (nomark _))
        (pss_one ps_never)
        pss_nil)
      (pss_cons (sset 2 nd (pe_op op_rep (pe_lst (pa_cons pe_int pa_nil)) (pe_callB (lenK K) (by rfl) T.m_len PySem.boot_len (pa_cons (pv 0) pa_nil))))
      (pss_cons (ps_for PassesOwn.never rfl (pi_zipK K (by rfl) T.m_zip (pa_cons (pv 0) (pa_cons (pv 1) pa_nil))) (pg_tupK K 2 rfl (pgs_cons (gset 3 nd) (pgs_cons (gset 4 nd) pgs_nil)))
        (pss_cons (ps_for PassesOwn.never rfl (pi_range2 (by rfl) T.m_range (pa_cons (pv 3) (pa_cons (pv 4) pa_nil))) (gset 5 nd)
        (pss_one (ps_augS (pv 2) (pv 5) (getK K) pe_int ip_add set_list)))
      (pss_one (ps_for PassesOwn.never rfl (pi_range2 (by rfl) T.m_range (pa_cons (pv 4) (pa_cons (pv 3) pa_nil))) (gset 5 nd)
        (pss_cons (ps_augS (pv 2) (pv 5) (getK K) pe_int ip_sub set_list)
      (pss_one (ps_if (pt_cmpR op_lt (pe_ix (ix_listK K) (pv 2) (pv 5) (fun _ _ => rfl)) pe_int (nomark _))
        (pss_one (ps_ret pe_bl))
        pss_nil)))))))
      (pss_one (ps_ret pe_bl))))))), ?_⟩
  walk_at "g"
  refine ⟨a, ns, rfl, hS, hA, hlen, fun H1 s1 => ?_⟩
  have hB1 := s1.seq hB
  walk_at "g"
  refine ⟨b, ms, rfl, hB1, hM, by omega, fun H2 s2 => ?_⟩
  have s := s1.trans s2
  have hS2 := s.seq hS
  have hB2 := s.seq hB
  walk_at "g"
  rw [List.length_map, List.length_map]
  refine r_itNF (by omega) ?_
  walk_at "g"
  intro z nz
  walk_at "g"
  have hS3 := s.trans (same_new (o := .lst [.int 0]) nz)
  refine r_len (hS3.seq hS) ?_
  rw [List.length_map]
  refine ⟨z, _, _, rfl, rfl, upd_same, by omega, by omega, by rw [Int.toNat_natCast]; exact size_le (by show 1 * ns.length ≤ _; omega), fun p np => ?_⟩
  have e0 : (List.replicate ((ns.length : Nat) : Int).toNat [V.int 0]).flatten = (tab ns.length fun _ => 0).map V.int := by
    rw [Int.toNat_natCast, ← tab_const, List.map_replicate]
    induction ns.length with
    | zero => rfl
    | succ n ih => rw [List.replicate_succ, List.replicate_succ, List.flatten_cons, ih]; rfl
  rw [e0]
  have s4 := hS3.trans (same_new (o := .lst ((tab ns.length fun _ => 0).map V.int)) np)
  have hp0 := hS3.free np
  walk_at "g"
  refine ⟨a, b, _, _, rfl, s4.seq hS, s4.seq hB, ?_⟩
  refine forP (walk_zip (xs := ns.map V.int) (ys := ms.map V.int) (n := ns.length) (by rw [List.length_map, List.length_map]; omega)) (fun i σ' H' => ∃ (y3 y4 y5 : Option V), σ' = [some (.ref a), some (.ref b), some (.ref p), y3, y4, y5] ∧ Same H H' ∧
      H' p = some (.lst ((tab ns.length fun q => (cnt ns i q : Int) - (cnt ms i q : Int)).map V.int)) ∧ ∀ i', i' ≤ i → ∀ q, q < ns.length → cnt ms i' q ≤ cnt ns i' q)
    ⟨none, none, none, rfl, s4, ?_, fun i' hi' q hq => ?_⟩ (fun i σ' H' _ p => ?_) (fun i σ' H' T1 x y hi p' e1 e2 nT => ?_) (fun σ' H' p' => ?_)
  · rw [upd_same]; simp [cnt_zero]
  · rw [show i' = 0 by omega, cnt_zero, cnt_zero]; exact Nat.le_refl _
  · obtain ⟨_, _, _, _, s, _⟩ := p; exact ⟨s.seq hS, s.seq hB⟩
  · obtain ⟨y3, y4, y5, rfl, s5, hP, hle⟩ := p'
    have hi2 : i < ms.length := by omega
    simp only [List.getElem?_map, List.getElem?_eq_getElem hi, List.getElem?_eq_getElem hi2] at e1 e2
    cases e1
    cases e2
    have hv := hA.2 ns[i] (List.getElem_mem hi)
    have hw := hM.2 ms[i] (List.getElem_mem hi2)
    have hca : ∀ q, cnt ns (i + 1) q = cnt ns i q + if ns[i] ≤ (q : Int) then 1 else 0 := fun q => cnt_succ hi q
    have hcb : ∀ q, cnt ms (i + 1) q = cnt ms i q + if ms[i] ≤ (q : Int) then 1 else 0 := fun q => cnt_succ hi2 q
    generalize ns[i] = vx at hv hca ⊢
    generalize ms[i] = vy at hw hcb ⊢
    obtain ⟨x, rfl⟩ := Int.eq_ofNat_of_zero_le (show 0 ≤ vx by omega)
    obtain ⟨y, rfl⟩ := Int.eq_ofNat_of_zero_le (show 0 ≤ vy by omega)
    have s6 := s5.trans (same_new (o := .tup [.int x, .int y]) nT)
    have hP6 := upd_old (o := .tup [.int x, .int y]) nT hP
    walk_at "g"
    refine ⟨⟨by omega, by omega, by omega, by omega⟩, ?_⟩
    refine forF walk_range (fun j σ' H' => ∃ (y5 : Option V), σ' = [some (.ref a), some (.ref b), some (.ref p), some (.int x), some (.int y), y5] ∧ Same H H' ∧
      H' p = some (.lst ((tab ns.length fun q => (cnt ns i q : Int) - (cnt ms i q : Int) + if x ≤ q ∧ q < x + j then 1 else 0).map V.int)))
      ⟨y5, rfl, s6, ?_⟩ (fun _ _ _ _ _ => trivial) (fun j σ' HA hj p' => ?_) (fun σ' HA p' => ?_)
    · rw [hP6]
      exact congrArg (fun l => some (HO.lst (List.map V.int l))) (tab_congr fun q _ => by rw [if_neg (by omega)]; omega)
    · obtain ⟨y5, rfl, sA, hPA⟩ := p'
      walk_at "g"
      refine r_ixL (sq hPA) (at_tab (k := x + j) (by omega) (by omega)) ?_
      walk_at "g"
      refine r_setL hPA (n := x + j) (ix_of (by omega) (by rw [List.length_map, tab_len]; omega)) ?_
      rw [map_set', tab_set]
      refine ⟨_, rfl, same_old sA hp0, ?_⟩
      rw [upd_same]
      refine congrArg (fun l => some (HO.lst (List.map V.int l))) (tab_congr fun q _ => ?_)
      by_cases e : q = x + j
      · subst e; (repeat' split) <;> omega
      · rw [if_neg e]; (repeat' split) <;> omega
    · obtain ⟨y5, rfl, sA, hPA⟩ := p'
      walk_at "g"
      refine ⟨⟨by omega, by omega, by omega, by omega⟩, ?_⟩
      refine forF walk_range (fun j σ' H' => ∃ (y5 : Option V), Same H H' ∧ σ' = [some (.ref a), some (.ref b), some (.ref p), some (.int x), some (.int y), y5] ∧
        H' p = some (.lst ((tab ns.length fun q => (cnt ns i q : Int) - (cnt ms i q : Int) + (if x ≤ q ∧ q < y then 1 else 0) - if y ≤ q ∧ q < y + j then 1 else 0).map V.int)) ∧ ∀ q, y ≤ q → q < y + j → cnt ms i q + 1 ≤ cnt ns i q)
        ⟨y5, sA, rfl, ?_, fun q h1 h2 => by omega⟩ (fun _ _ _ _ _ => trivial) (fun j σ' HB hj p' => ?_) (fun σ' HB p' => ?_)
      · rw [hPA]
        refine congrArg (fun l => some (HO.lst (List.map V.int l))) (tab_congr fun q _ => ?_)
        rw [if_neg (show ¬(y ≤ q ∧ q < y + 0) by omega)]
        by_cases e2 : x ≤ q ∧ q < y
        · rw [if_pos e2, if_pos (by omega)]; omega
        · rw [if_neg e2, if_neg (by omega)]; omega
      · obtain ⟨y5, sB, rfl, hPB, hok⟩ := p'
        walk_at "g"
        refine r_ixL (sq hPB) (at_tab (k := y + j) (by omega) (by omega)) ?_
        walk_at "g"
        refine r_setL hPB (n := y + j) (ix_of (by omega) (by rw [List.length_map, tab_len]; omega)) ?_
        rw [map_set', tab_set]
        walk_at "g"
        refine r_ixL (sq upd_same) (at_tab (k := y + j) (by omega) (by omega)) ?_
        walk_at "g"
        rw [if_pos rfl, if_neg (show ¬(x ≤ y + j ∧ y + j < y) by omega), if_neg (show ¬(y ≤ y + j ∧ y + j < y + j) by omega)]
        refine r_dec (fun h => ?_) (fun h => ?_)
        · walk_at "g"
          rw [show false = decide (AtMost ns ms) from (decide_eq_false (fun hall => by
            have h2 := hall (i + 1) (y + j)
            rw [hca, hcb, if_neg (show ¬(x : Int) ≤ ((y + j : Nat) : Int) by omega), if_pos (show (y : Int) ≤ ((y + j : Nat) : Int) by omega)] at h2
            omega)).symm]
          exact q _ (same_old sB hp0)
        · walk_at "g"
          refine ⟨_, same_old sB hp0, rfl, ?_, fun q h1 h2 => ?_⟩
          · rw [upd_same]
            refine congrArg (fun l => some (HO.lst (List.map V.int l))) (tab_congr fun q _ => ?_)
            by_cases e : q = y + j
            · subst e; (repeat' split) <;> omega
            · rw [if_neg e]; (repeat' split) <;> omega
          · by_cases e : q = y + j
            · subst e; omega
            · exact hok q h1 (by omega)
      · obtain ⟨y5, sB, rfl, hPB, hok⟩ := p'
        refine ⟨_, _, _, rfl, sB, ?_, fun i' hi' q hq => ?_⟩
        · rw [hPB]
          refine congrArg (fun l => some (HO.lst (List.map V.int l))) (tab_congr fun q _ => ?_)
          rw [hca, hcb]
          (repeat' split) <;> omega
        · by_cases e : i' ≤ i
          · exact hle i' e q hq
          · rw [show i' = i + 1 by omega, hca, hcb]
            have h0 := hle i (Nat.le_refl _) q hq
            by_cases e1 : x ≤ q
            · rw [if_pos (show (x : Int) ≤ (q : Int) by omega)]; split <;> omega
            · rw [if_neg (show ¬(x : Int) ≤ (q : Int) by omega)]
              by_cases e2 : y ≤ q
              · have := hok q e2 (by omega)
                rw [if_pos (show (y : Int) ≤ (q : Int) by omega)]; omega
              · rw [if_neg (show ¬(y : Int) ≤ (q : Int) by omega)]; omega
  · obtain ⟨y3, y4, y5, rfl, s5, hP, hle⟩ := p'
    walk_at "g"
    rw [show true = decide (AtMost ns ms) from (decide_eq_true ((most_iff hA hM hl).mpr hle)).symm]
    exact q _ s5
def sp_law_arranged (K : PySem.W.Frag) : Sp := fun vs H Q _ => ∃ (r : Addr) (wide m : Nat), vs = [.ref r, .int wide] ∧ Rng H r m ∧ wide ≤ 1000 ∧ m < 2 ^ 50 ∧
  ∀ (H' : Hp) (p : Addr) (l : List Int), Sx r H H' → H p = none → Rng H' r (m + wide) → H' p = some (.lst (l.map V.int)) → l.Perm (asc wide) → Q (.ref p) H'
theorem ok_law_arranged (T : Txt K mg) : FnG P w K mg base CX0 2 T.law_arranged_a T.law_arranged_d ["rng", "wide"] (sp_law_arranged K) := by
  refine okG T.law_arranged_F sc_law_arranged (fun vs H Q E h => ?_) (fun cdv A ou t H vs Q E hG hr h => ?_)
  · obtain ⟨_, _, _, rfl, _⟩ := h; rfl
  have nd := sc_law_arranged.nd
  obtain ⟨r, wide, m, rfl, hR, hw, hm, q⟩ := h
  refine ⟨_, (pss_cons (ps_par (i := 2) (j := 3) (by rfl) nd rfl rfl (by decide) rfl rfl (pa_cons (pe_listRg rfl (by rfl) T.m_list (prg_2 (by rfl) T.m_range pe_int (pe_op op_add (pv 1) pe_int))) (pa_cons (pe_lst pa_nil) pa_nil)) (by rfl))
      (pss_cons (ps_while PassesOwn.never (pt_cmpR (neDK K hr.units) (pv 2) (pe_lst pa_nil) (nomark _))
        (pss_one (ps_expr (pe_bmK K PySem.F.plainAttrs_list PySem.F.slot_list_append PySem.F.type_list_append mt_append (pv 3) (pa_cons (pe_bmK K PySem.F.plainAttrs_list PySem.F.slot_list_pop PySem.F.type_list_pop mt_popAt (pv 2) (pa_cons (pe_callG (ok_law_draw T) hG (hr.mono (by decide)) (by rfl) T.law_draw_g T.law_draw_F.kp T.law_draw_b .nil pass0 (pa_cons (pv 0) (pa_cons (pe_callB (lenK K) (by rfl) T.m_len PySem.boot_len (pa_cons (pv 2) pa_nil)) pa_nil))) pa_nil)) pa_nil)))))
      (pss_one (ps_ret (pv 3))))), ?_⟩
  walk_at "g"
  refine ⟨RgOk.of_le (by omega) (by omega) (by omega) (by omega), fun l0 nl => ?_⟩
  walk_at "g"
  intro f0 nf
  walk_at "g"
  rw [rg_asc] at nf ⊢
  have hlr : l0 ≠ r := hR.ne nl
  have s1 := Sx.new (r := r) (o := .lst ((asc wide).map V.int)) nl
  have hR1 := hR.same (same_new (o := .lst ((asc wide).map V.int)) nl)
  have hfr : f0 ≠ r := hR1.ne nf
  have hfl : f0 ≠ l0 := (ne_of_none upd_same nf).symm
  have hf0 : H f0 = none := hR1.free s1 nf
  have s2 := s1.old (o := .lst []) hf0
  have hR2 := hR1.same (same_new (o := .lst []) nf)
  refine r_while (fun k σ' H' => ∃ l1 l2 : List Int, σ' = [some (.ref r), some (.int wide), some (.ref l0), some (.ref f0)] ∧ k = l1.length ∧ l1.length + l2.length = wide ∧ (l1 ++ l2).Perm (asc wide) ∧
    H' l0 = some (.lst (l1.map V.int)) ∧ H' f0 = some (.lst (l2.map V.int)) ∧ Sx r H H' ∧ Rng H' r (m + l2.length)) wide ?_ (fun k σ' H' p => ?_)
  · exact ⟨asc wide, [], rfl, (asc_length _).symm, by rw [asc_length]; rfl, by rw [List.append_nil], upd_old nf upd_same, upd_same, s2, hR2⟩
  · obtain ⟨l1, l2, rfl, rfl, hlen, hperm, h1, h2, s3, hR3⟩ := p
    walk_at "g"
    intro e0 ne
    have h1' : (upd H' e0 (.lst [])) l0 = some (.lst (l1.map V.int)) := upd_old ne h1
    have h2' : (upd H' e0 (.lst [])) f0 = some (.lst (l2.map V.int)) := upd_old ne h2
    have he0 : H e0 = none := hR3.free s3 ne
    have s4 := s3.old (o := .lst []) he0
    have hR4 := hR3.same (same_new (o := .lst []) ne)
    refine r_neL (ms := []) (sq h1') (sq upd_same) ?_
    walk_at "g"
    refine r_ndec (fun h => r_turn ?_) (fun h => ?_)
    · walk_at "g"
      have hpos : 0 < l1.length := List.length_pos_iff.mpr h
      refine ⟨r, _, m + l2.length, rfl, hR4, by omega, by rw [List.length_map]; omega, by rw [List.length_map]; omega, fun H5 d hd0 hd1 s5 hR5 => ?_⟩
      rw [List.length_map] at hd1
      obtain ⟨j, rfl⟩ := Int.eq_ofNat_of_zero_le hd0
      have hj : j < l1.length := by omega
      have h15 := s5 _ _ hlr h1'
      have h25 := s5 _ _ hfr h2'
      walk_at "g"
      refine r_popAt (k := j) h15 rfl (y := .int l1[j]) (by simp [hj]) (by omega) ?_
      have h26 : (upd H5 l0 (.lst ((l1.map V.int).eraseIdx j))) f0 = some (.lst (l2.map V.int)) := upd_to hfl h25
      walk_at "g"
      refine r_append h26 (by rw [List.length_map]; exact size_lt (by omega)) ?_
      rw [map_snoc]
      have h17 : (upd (upd H5 l0 (.lst ((l1.map V.int).eraseIdx j))) f0 (.lst ((l2 ++ [l1[j]]).map V.int))) l0 = some (.lst ((l1.eraseIdx j).map V.int)) := by
        rw [← erase_map]
        exact upd_to hfl.symm upd_same
      have hl : (l1.eraseIdx j).length = l1.length - 1 := List.length_eraseIdx_of_lt hj
      refine ⟨(l1.eraseIdx j).length, by omega, l1.eraseIdx j, l2 ++ [l1[j]], rfl, rfl, by rw [List.length_append, hl, List.length_singleton]; omega, ?_, h17, upd_same, ((s4.trans s5).old nl).old hf0, ?_⟩
      · refine List.Perm.trans ?_ hperm
        have e := erase_perm l1 j hj
        refine List.Perm.trans ?_ (e.append_right l2)
        rw [List.cons_append]
        refine List.Perm.trans (List.Perm.append_left _ (List.perm_append_comm)) ?_
        exact List.perm_middle
      · rw [List.length_append, List.length_singleton, ← Nat.add_assoc]
        exact (hR5.other hlr).other hfr
    · walk_at "g"
      have e : l1 = [] := h
      subst e
      exact q _ _ _ s4 hf0 (hR4.le (by simp at hlen; omega)) h2' hperm
def sp_law_near (K : PySem.W.Frag) : Sp := fun vs H Q _ => ∃ (r a : Addr) (ns : List Int) (m : Nat), vs = [.ref r, .ref a] ∧ Rng H r m ∧ m < 2 ^ 40 ∧ a ≠ r ∧ H a = some (.lst (ns.map V.int)) ∧ 1 ≤ ns.length ∧ ns.length ≤ 1000 ∧
  ∀ (H' : Hp) (p : Addr) (l : List Int), Sx r H H' → H p = none → Rng H' r (m + 50) → H' p = some (.lst (l.map V.int)) → l.Perm ns → Q (.ref p) H'
theorem ok_law_near (T : Txt K mg) : FnG P w K mg base CX0 2 T.law_near_a T.law_near_d ["rng", "line"] (sp_law_near K) := by
  refine okG T.law_near_F sc_law_near (fun vs H Q E h => ?_) (fun cdv A ou t H vs Q E hG hr h => ?_)
  · obtain ⟨_, _, _, _, rfl, _⟩ := h; rfl
  have nd := sc_law_near.nd
  obtain ⟨r, a, ns, m, rfl, hR, hm, har, hA, h1, hlen, q⟩ := h
  refine ⟨_, (pss_cons (ps_par (i := 2) (j := 3) (by rfl) nd rfl rfl (by decide) rfl rfl (pa_cons (pe_callTy (listK K) (by rfl) T.m_list (by decide +kernel) (pa_cons (pv 1) pa_nil)) (pa_cons (pe_callG (ok_law_draw T) hG (hr.mono (by decide)) (by rfl) T.law_draw_g T.law_draw_F.kp T.law_draw_b .nil pass0 (pa_cons (pv 0) (pa_cons pe_int pa_nil))) pa_nil)) (by rfl))
      (pss_cons (ps_for PassesOwn.never rfl (pi_range1 (by rfl) T.m_range (pa_cons (pe_ix (ix_listK K) (pe_lst (pa_cons pe_int (pa_cons pe_int (pa_cons pe_int (pa_cons pe_int pa_nil))))) (pv 3) (fun _ _ => rfl)) pa_nil)) (gset 4 nd)
        (pss_cons (sset 5 nd (pe_callG (ok_law_draw T) hG (hr.mono (by decide)) (by rfl) T.law_draw_g T.law_draw_F.kp T.law_draw_b .nil pass0 (pa_cons (pv 0) (pa_cons (pe_callB (lenK K) (by rfl) T.m_len PySem.boot_len (pa_cons (pv 1) pa_nil)) pa_nil))))
      (C8.pss_cut (sset 6 nd (pe_ifExp (pt_cmpR op_gt (pe_callG (ok_law_draw T) hG (hr.mono (by decide)) (by rfl) T.law_draw_g T.law_draw_F.kp T.law_draw_b .nil pass0 (pa_cons (pv 0) (pa_cons pe_int pa_nil))) pe_int (nomark _)) (pe_callB (call_min2 rfl) (by rfl) T.m_min (by decide +kernel) (pa_cons (pe_op op_sub (pe_callB (lenK K) (by rfl) T.m_len PySem.boot_len (pa_cons (pv 1) pa_nil)) pe_int) (pa_cons (pe_op op_add (pv 5) pe_int) pa_nil))) (pe_callG (ok_law_draw T) hG (hr.mono (by decide)) (by rfl) T.law_draw_g T.law_draw_F.kp T.law_draw_b .nil pass0 (pa_cons (pv 0) (pa_cons (pe_callB (lenK K) (by rfl) T.m_len PySem.boot_len (pa_cons (pv 1) pa_nil)) pa_nil)))))
      (pss_cons (ps_par (i := 7) (j := 8) (by rfl) nd rfl rfl (by decide) rfl rfl (pa_cons (pe_ix (ix_listK K) (pv 2) (pv 5) (fun _ _ => rfl)) (pa_cons (pe_ix (ix_listK K) (pv 2) (pv 6) (fun _ _ => rfl)) pa_nil)) (by rfl))
      (pss_one (ps_asg (pe_tup (pa_cons (pv 8) (pa_cons (pv 7) pa_nil))) (pg_tupK K 2 rfl (pgs_cons (pg_sub (pv 2) (pv 5) set_list) (pgs_cons (pg_sub (pv 2) (pv 6) set_list) pgs_nil)))))))))
      (pss_one (ps_ret (pv 2))))), ?_⟩
  walk_at "g"
  intro f0 nf
  walk_at "g"
  have hfr := hR.ne nf
  have hR1 := hR.same (same_new (o := .lst (ns.map V.int)) nf)
  have s1 := Sx.new (r := r) (o := .lst (ns.map V.int)) nf
  refine ⟨r, 4, m, rfl, hR1, by omega, by decide, by decide, fun H2 d hd0 hd1 s2 hR2 => ?_⟩
  have hA2 := s2 _ _ har (upd_old nf hA)
  have hF2 := s2 _ _ hfr upd_same
  have s3 := s1.trans s2
  walk_at "g"
  intro lx nx
  walk_at "g"
  have s4 := s3.same (same_new (o := .lst [.int 0, .int 1, .int 2, .int 12]) nx)
  have hR4 := hR2.same (same_new (o := .lst [.int 0, .int 1, .int 2, .int 12]) nx)
  have hA4 := upd_old (o := .lst [.int 0, .int 1, .int 2, .int 12]) nx hA2
  have hF4 := upd_old (o := .lst [.int 0, .int 1, .int 2, .int 12]) nx hF2
  obtain ⟨n, hat, hn⟩ : ∃ n : Nat, atI [V.int 0, V.int 1, V.int 2, V.int 12] d = some (.int n) ∧ n ≤ 12 := by
    have : d = 0 ∨ d = 1 ∨ d = 2 ∨ d = 3 := by omega
    rcases this with e | e | e | e <;> subst e
    · exact ⟨0, rfl, by decide⟩
    · exact ⟨1, rfl, by decide⟩
    · exact ⟨2, rfl, by decide⟩
    · exact ⟨12, rfl, by decide⟩
  refine r_ixL (sq upd_same) hat ?_
  walk_at "g"
  refine ⟨by omega, by omega, ?_⟩
  refine forF walk_range (fun i σ' H' => ∃ (l : List Int) (y4 y5 y6 y7 y8 : Option V), Sx r H H' ∧ σ' = [some (.ref r), some (.ref a), some (.ref f0), some (.int d), y4, y5, y6, y7, y8] ∧ H' a = some (.lst (ns.map V.int)) ∧ H' f0 = some (.lst (l.map V.int)) ∧ l.Perm ns ∧ Rng H' r (m + 1 + 3 * i))
    ⟨ns, none, none, none, none, none, s4, rfl, hA4, hF4, List.Perm.refl _, hR4⟩ (fun _ _ _ _ _ => trivial) (fun i σ' H' hi p => ?_) (fun σ' H' p => ?_)
  · obtain ⟨l, y4, y5, y6, y7, y8, s, rfl, hA', hF', hp, hRi⟩ := p
    have hll : l.length = ns.length := hp.length_eq
    walk_at "g"
    rw [List.length_map]
    refine ⟨r, _, _, rfl, hRi, by omega, by omega, by omega, fun H5 e0 he0 he1 s5 hR5 => ?_⟩
    obtain ⟨e, rfl⟩ := Int.eq_ofNat_of_zero_le he0
    have hA5 := s5 _ _ har hA'
    have hF5 := s5 _ _ hfr hF'
    walk_at "g"
    refine r_cut (fun σ' H7 => ∃ (f : Nat) (y7 y8 : Option V), σ' = [some (.ref r), some (.ref a), some (.ref f0), some (.int d), some (.int (0 + (i : Int))), some (.int (e : Int)), some (.int (f : Int)), y7, y8] ∧ f < ns.length ∧ Sx r H H7 ∧ Rng H7 r (m + 1 + 3 * (i + 1)) ∧ H7 a = some (.lst (ns.map V.int)) ∧ H7 f0 = some (.lst (l.map V.int))) ?_ (fun σ' H7 p => ?_)
    · walk_at "g"
      refine ⟨r, _, _, rfl, hR5, by omega, by decide, by decide, fun H6 g hg0 hg1 s6 hR6 => ?_⟩
      have hA6 := s6 _ _ har hA5
      have hF6 := s6 _ _ hfr hF5
      walk_at "g"
      refine r_dec (fun h => ?_) (fun h => ?_)
      · walk_at "g"
        rw [List.length_map]
        obtain ⟨f, hf, hfn⟩ : ∃ f : Nat, (if (e : Int) + 1 < ((ns.length : Nat) : Int) - 1 then (e : Int) + 1 else ((ns.length : Nat) : Int) - 1) = (f : Int) ∧ f < ns.length := by
          split
          · exact ⟨e + 1, by omega, by omega⟩
          · exact ⟨ns.length - 1, by omega, by omega⟩
        rw [hf]
        exact ⟨f, _, _, rfl, hfn, (s.trans s5).trans s6, hR6.le (by omega), hA6, hF6⟩
      · walk_at "g"
        rw [List.length_map]
        refine ⟨r, _, _, rfl, hR6, by omega, by omega, by omega, fun H7 f0' hf0 hf1 s7 hR7 => ?_⟩
        obtain ⟨f, rfl⟩ := Int.eq_ofNat_of_zero_le hf0
        walk_at "g"
        exact ⟨f, _, _, rfl, by omega, ((s.trans s5).trans s6).trans s7, hR7.le (by omega), s7 _ _ har hA6, s7 _ _ hfr hF6⟩
    · obtain ⟨f, y7, y8, rfl, hf, s7, hR7, hA7, hF7⟩ := p
      walk_at "g"
      refine r_ixL (sq hF7) (at_map (ns := l) (j := e) rfl (by omega)) ?_
      walk_at "g"
      refine r_ixL (sq hF7) (at_map (ns := l) (j := f) rfl (by omega)) ?_
      walk_at "g"
      intro T nT
      walk_at "g"
      have hF8 := upd_old (o := .tup [.int l[f], .int l[e]]) nT hF7
      refine r_setL hF8 (n := e) (ix_of rfl (by rw [List.length_map]; omega)) ?_
      walk_at "g"
      refine r_setL upd_same (n := f) (ix_of rfl (by rw [List.length_set, List.length_map]; omega)) ?_
      rw [map_set', map_set']
      have haf : a ≠ f0 := ne_of_none hA nf
      have hel : e < l.length := by omega
      have hfl : f < l.length := by omega
      walk_at "g"
      refine ⟨(l.set e l[f]).set f l[e], some (.int (0 + (i : Int))), some (.int (e : Int)), some (.int (f : Int)), some (.int l[e]), some (.int l[f]), ((s7.same (same_new nT)).old nf).old nf, rfl, upd_to haf (upd_to haf (upd_old nT hA7)), upd_same, (List.set_set_perm hel hfl).trans hp, ((hR7.same (same_new nT)).other hfr).other hfr⟩
  · obtain ⟨l, y4, y5, y6, y7, y8, s, rfl, hA', hF', hp, hRi⟩ := p
    rw [Int.toNat_natCast] at hRi
    walk_at "g"
    exact q _ f0 l s nf (hRi.le (by omega)) hF' hp
def sp_law_right (K : PySem.W.Frag) : Sp := fun vs H Q _ => ∃ (a b : Addr) (ns ms : List Int) (byn : Bool), vs = [.ref a, .ref b, .bl byn] ∧ H a = some (.lst (ns.map V.int)) ∧ H b = some (.lst (ms.map V.int)) ∧ IsArr ns ∧ IsArr ms ∧ ns.length = ms.length ∧ 1 ≤ ns.length ∧ ns.length ≤ 100 ∧ ∀ H', Same H H' → Q (.bl true) H'
theorem ok_law_right (T : Txt K mg) : FnG P w K mg base CX0 3 T.law_right_a T.law_right_d ["one", "other", "by_name"] (sp_law_right K) := by
  refine okG T.law_right_F sc_law_right (fun vs H Q E h => ?_) (fun cdv A ou t H vs Q E hG hr h => ?_)
  · obtain ⟨_, _, _, _, _, rfl, _⟩ := h; rfl
  have nd := sc_law_right.nd
  obtain ⟨a, b, ns, ms, byn, rfl, hA, hB, aA, aB, hl, h1, hlen, q⟩ := h
  refine ⟨_, (pss_cons (ps_par (i := 3) (j := 4) (by rfl) nd rfl rfl (by decide) rfl rfl (pa_cons (pe_callB (reprK K hG hr.units) (by rfl) T.m_repr (by decide +kernel) (pa_cons (pe_lst (pa_cons (pv 0) (pa_cons (pv 1) pa_nil))) pa_nil)) (pa_cons (pe_lst (pa_cons (pe_callG (ok_law_below T) hG (hr.mono (by decide)) (by rfl) T.law_below_g T.law_below_F.kp T.law_below_b .nil pass0 (pa_cons (pv 0) (pa_cons (pv 1) pa_nil))) (pa_cons (pe_callG (ok_law_below T) hG (hr.mono (by decide)) (by rfl) T.law_below_g T.law_below_F.kp T.law_below_b .nil pass0 (pa_cons (pv 1) (pa_cons (pv 0) pa_nil))) pa_nil))) pa_nil)) (by rfl))
      (pss_cons (sset 5 nd (pe_lst (pa_cons (pe_callG (ok_is_at_most T) hG (hr.mono (by decide)) (by rfl) T.is_at_most_g T.is_at_most_F.kp T.is_at_most_b .nil pass0 (pa_cons (pv 0) (pa_cons (pv 1) pa_nil))) (pa_cons (pe_callG (ok_is_at_most T) hG (hr.mono (by decide)) (by rfl) T.is_at_most_g T.is_at_most_F.kp T.is_at_most_b .nil pass0 (pa_cons (pv 1) (pa_cons (pv 0) pa_nil))) pa_nil))))
      (C8.pss_cut (ps_if (pt_val (pv 2))
        (pss_one (sset 5 nd (pe_lst (pa_cons (pe_callKG0 (ok_is_at_most T) hG (hr.mono (by decide)) (by rfl) T.is_at_most_g T.is_at_most_F.kp T.k_is_at_most_second_first pass0 (pk_cons (pv 1) (pk_cons (pv 0) pk_nil))) (pa_cons (pe_callKG0 (ok_is_at_most T) hG (hr.mono (by decide)) (by rfl) T.is_at_most_g T.is_at_most_F.kp T.k_is_at_most_first_second pass0 (pk_cons (pv 1) (pk_cons (pv 0) pk_nil))) pa_nil)))))
        pss_nil)
      (pss_one (ps_ret (pe_and (pe_cmpR op_eq (pe_callB (reprK K hG hr.units) (by rfl) T.m_repr (by decide +kernel) (pa_cons (pv 5) pa_nil)) (pe_callB (reprK K hG hr.units) (by rfl) T.m_repr (by decide +kernel) (pa_cons (pv 4) pa_nil)) (nomark _)) (pe_one (pe_cmpR op_eq (pe_callB (reprK K hG hr.units) (by rfl) T.m_repr (by decide +kernel) (pa_cons (pe_lst (pa_cons (pv 0) (pa_cons (pv 1) pa_nil))) pa_nil)) (pv 3) (nomark _))))))))), ?_⟩
  walk_at "g"
  intro p np
  walk_at "g"
  have h3 : ∀ l : List Int, (dI l).depth = 1 := fun l => by show PyData.depthAll (l.map PyData.int) + 1 = 1; rw [depth_ints]
  have dep : (PyData.list [dI ns, dI ms]).depth ≤ 60 := by
    show max (dI ns).depth (max (dI ms).depth 0) + 1 ≤ 60
    rw [h3, h3]; decide
  have shL : Sh (2 * (40000 + 2) + 2) (.list [dI ns, dI ms]) := Sh.list (b := 40000) fun d hd => by
    rcases List.mem_cons.mp hd with e | e
    · rw [e]; exact (Sh.ints (k := 31) (by decide) (by decide) fun i hi => by have := aA.2 i hi; exact Nat.lt_of_le_of_lt (show i.natAbs ≤ 100 by omega) (by decide)).mono (by omega)
    · rw [List.mem_singleton.mp e]; exact (Sh.ints (k := 31) (by decide) (by decide) fun i hi => by have := aB.2 i hi; exact Nat.lt_of_le_of_lt (show i.natAbs ≤ 100 by omega) (by decide)).mono (by omega)
  have dp0 : ∀ (H' : Hp) (q : Addr), H' a = some (.lst (ns.map V.int)) → H' b = some (.lst (ms.map V.int)) → H' q = some (.lst [.ref a, .ref b]) → Dp K H' (.ref q) (.list [dI ns, dI ms]) :=
    fun H' q h1 h2 h4 => .lst (sq h4) (.cons (dp_lst (sq h1)) (.cons (dp_lst (sq h2)) .nil))
  have s1 := same_new (o := .lst [.ref a, .ref b]) np
  refine r_repr (dp0 _ p (s1 _ _ hA) (s1 _ _ hB) upd_same) dep shL (by decide) ?_
  walk_at "g"
  refine ⟨a, b, ns, ms, rfl, sq (s1 _ _ hA), sq (s1 _ _ hB), aA, aB, hl, h1, by omega, fun H2 s2 => ?_⟩
  have s12 := s1.trans s2
  walk_at "g"
  refine ⟨b, a, ms, ns, rfl, sq (s12 _ _ hB), sq (s12 _ _ hA), aB, aA, hl.symm, by omega, by omega, fun H3 s3 => ?_⟩
  have s13 := s12.trans s3
  walk_at "g"
  intro p2 np2
  walk_at "g"
  have s14 := s13.trans (same_new (o := .lst [.bl (decide (AtMost ns ms)), .bl (decide (AtMost ms ns))]) np2)
  have hd2 := upd_same (H := H3) (a := p2) (o := .lst [.bl (decide (AtMost ns ms)), .bl (decide (AtMost ms ns))])
  refine ⟨a, b, ns, ms, rfl, sq (s14 _ _ hA), sq (s14 _ _ hB), aA, aB, hl, h1, by omega, fun H4 s4 => ?_⟩
  have s15 := s14.trans s4
  walk_at "g"
  refine ⟨b, a, ms, ns, rfl, sq (s15 _ _ hB), sq (s15 _ _ hA), aB, aA, hl.symm, by omega, by omega, fun H5 s5 => ?_⟩
  have s16 := s15.trans s5
  walk_at "g"
  intro p3 np3
  walk_at "g"
  have s17 := s16.trans (same_new (o := .lst [.bl (decide (AtMost ns ms)), .bl (decide (AtMost ms ns))]) np3)
  have hd7 := upd_old (o := .lst [.bl (decide (AtMost ns ms)), .bl (decide (AtMost ms ns))]) np3 ((s4.trans s5) _ _ hd2)
  refine r_cut (fun σ' H' => ∃ (q : Addr) (_u : Unit), σ' = [some (.ref a), some (.ref b), some (.bl byn), some (.str (PyData.list [dI ns, dI ms]).shown), some (.ref p2), some (.ref q)] ∧ Same H H' ∧ H' p2 = some (.lst [.bl (decide (AtMost ns ms)), .bl (decide (AtMost ms ns))]) ∧ H' q = some (.lst [.bl (decide (AtMost ns ms)), .bl (decide (AtMost ms ns))])) ?_ (fun σ' H' p => ?_)
  · cases byn with
    | false =>
      walk_at "g"
      exact ⟨p3, (), rfl, s17, hd7, upd_same⟩
    | true =>
      walk_at "g"
      refine ⟨a, b, ns, ms, rfl, sq (s17 _ _ hA), sq (s17 _ _ hB), aA, aB, hl, h1, by omega, fun H8 s8 => ?_⟩
      have s18 := s17.trans s8
      walk_at "g"
      refine ⟨b, a, ms, ns, rfl, sq (s18 _ _ hB), sq (s18 _ _ hA), aB, aA, hl.symm, by omega, by omega, fun H9 s9 => ?_⟩
      have s19 := s18.trans s9
      walk_at "g"
      intro p4 np4
      walk_at "g"
      exact ⟨p4, (), rfl, s19.trans (same_new np4), upd_old np4 ((s8.trans s9) _ _ hd7), upd_same⟩
  · obtain ⟨q', _, rfl, sH, h2, hq⟩ := p
    have shB : Sh (2 * (5 + 2) + 2) (.list [.bool (decide (AtMost ns ms)), .bool (decide (AtMost ms ns))]) := Sh.list (b := 5) fun d hd => by
      rcases List.mem_cons.mp hd with e | e
      · rw [e]; exact Sh.bool
      · rw [List.mem_singleton.mp e]; exact Sh.bool
    walk_at "g"
    refine r_repr (.lst (sq hq) (.cons (.bl _) (.cons (.bl _) .nil))) (by show (1 : Nat) ≤ 60; decide) shB (by decide) ?_
    walk_at "g"
    refine r_repr (.lst (sq h2) (.cons (.bl _) (.cons (.bl _) .nil))) (by show (1 : Nat) ≤ 60; decide) shB (by decide) ?_
    walk_at "g"
    refine r_itD rfl ?_
    walk_at "g"
    intro p4 n4
    walk_at "g"
    have sE := sH.trans (same_new (o := .lst [.ref a, .ref b]) n4)
    refine r_repr (dp0 _ p4 (sE _ _ hA) (sE _ _ hB) upd_same) dep shL (by decide) ?_
    walk_at "g"
    rw [decide_eq_true rfl]
    exact q _ sE
def sp_law (K : PySem.W.Frag) : Sp := fun vs H Q _ => ∃ (a : Addr) (ns : List Int), vs = [.ref a] ∧ SqL K H a (ns.map V.int) ∧ ns.length ≤ 63 ∧ ∀ H', Q (.bl true) H'
theorem ok_law (T : Txt K mg) : FnG P w K mg base CX0 4 T.law_a T.law_d ["script"] (sp_law K) := by
  refine okG T.law_F sc_law (fun vs H Q E h => ?_) (fun cdv A ou t H vs Q E hG hr h => ?_)
  · obtain ⟨_, _, rfl, _⟩ := h; rfl
  have nd := sc_law.nd
  obtain ⟨a, ns, rfl, hS, hlen, q⟩ := h
  refine ⟨_, (pss_cons (sset 1 nd (pe_callG (ok_law_rng T) hG (hr.mono (by decide)) (by rfl) T.law_rng_g T.law_rng_F.kp T.law_rng_b .nil pass0 (pa_cons (pv 0) pa_nil)))
      (pss_cons (ps_for PassesOwn.never rfl (pi_range2 (by rfl) T.m_range (pa_cons pe_int (pa_cons pe_int pa_nil))) (gset 2 nd)
        (pss_cons (sset 3 nd (pe_callG (ok_law_all T) hG (hr.mono (by decide)) (by rfl) T.law_all_g T.law_all_F.kp T.law_all_b .nil pass0 (pa_cons (pv 2) pa_nil)))
      (pss_one (ps_for PassesOwn.never rfl (pi_listK K (pv 3)) (gset 4 nd)
        (pss_one (ps_if (pt_cmpR (neDK K hr.units) (pe_lc (own := [("other", 9)]) (hc := rfl) (hN := nd) (hi := (pi_listK K (pv 3))) (ok := blkOk_by (by rfl)) (hg := fun _ _ _ _ _ => (gset 9 nd)) (ht := (fun _ _ _ _ _ => pts_one (pt_not (pt_val (pe_callG (ok_law_right T) hG (hr.mono (by decide)) (by rfl) T.law_right_g T.law_right_F.kp T.law_right_b .nil pass0 (pa_cons (pv 4) (pa_cons (pv 9) (pa_cons (pe_cmpR op_eq (pv 2) pe_int (nomark _)) pa_nil)))))))) (he := fun _ _ _ _ _ => (pv 9))) (pe_lst pa_nil) (nomark _))
        (pss_one (ps_ret pe_bl))
        pss_nil))))))
      (pss_cons (ps_for PassesOwn.never rfl (pi_range1 (by rfl) T.m_range (pa_cons (pe_op op_add pe_int (pe_callB (call_min2 rfl) (by rfl) T.m_min (by decide +kernel) (pa_cons pe_int (pa_cons (pe_callB (lenK K) (by rfl) T.m_len PySem.boot_len (pa_cons (pv 0) pa_nil)) pa_nil)))) pa_nil)) (gset 5 nd)
        (pss_cons (sset 2 nd (pe_op op_add pe_int (pe_callG (ok_law_draw T) hG (hr.mono (by decide)) (by rfl) T.law_draw_g T.law_draw_F.kp T.law_draw_b .nil pass0 (pa_cons (pv 1) (pa_cons (pe_ix (ix_listK K) (pe_lst (pa_cons pe_int (pa_cons pe_int pa_nil))) (pe_callG (ok_law_draw T) hG (hr.mono (by decide)) (by rfl) T.law_draw_g T.law_draw_F.kp T.law_draw_b .nil pass0 (pa_cons (pv 1) (pa_cons pe_int pa_nil))) (fun _ _ => rfl)) pa_nil)))))
      (pss_cons (ps_par (i := 6) (j := 7) (by rfl) nd rfl rfl (by decide) rfl rfl (pa_cons (pe_callG (ok_law_arranged T) hG (hr.mono (by decide)) (by rfl) T.law_arranged_g T.law_arranged_F.kp T.law_arranged_b .nil pass0 (pa_cons (pv 1) (pa_cons (pv 2) pa_nil))) (pa_cons (pe_listRg rfl (by rfl) T.m_list (prg_2 (by rfl) T.m_range pe_int (pe_op op_add (pv 2) pe_int))) pa_nil)) (by rfl))
      (pss_cons (sset 8 nd (pe_callG (ok_law_near T) hG (hr.mono (by decide)) (by rfl) T.law_near_g T.law_near_F.kp T.law_near_b .nil pass0 (pa_cons (pv 1) (pa_cons (pv 6) pa_nil))))
      (pss_cons (ps_for PassesOwn.never rfl (pi_listK K (pe_lst (pa_cons (pv 8) (pa_cons (pe_callG (ok_law_near T) hG (hr.mono (by decide)) (by rfl) T.law_near_g T.law_near_F.kp T.law_near_b .nil pass0 (pa_cons (pv 1) (pa_cons (pv 8) pa_nil))) (pa_cons (pe_callG (ok_law_arranged T) hG (hr.mono (by decide)) (by rfl) T.law_arranged_g T.law_arranged_F.kp T.law_arranged_b .nil pass0 (pa_cons (pv 1) (pa_cons (pv 2) pa_nil))) (pa_cons (pv 7) (pa_cons (pe_revLK K (pv 7)) (pa_cons (pe_callTy (listK K) (by rfl) T.m_list (by decide +kernel) (pa_cons (pv 6) pa_nil)) pa_nil)))))))) (gset 9 nd)
        (pss_one (ps_if (pt_not (pt_val (pe_callG (ok_law_right T) hG (hr.mono (by decide)) (by rfl) T.law_right_g T.law_right_F.kp T.law_right_b .nil pass0 (pa_cons (pv 6) (pa_cons (pv 9) (pa_cons (pe_cmpR op_eq (pe_callG (ok_law_draw T) hG (hr.mono (by decide)) (by rfl) T.law_draw_g T.law_draw_F.kp T.law_draw_b .nil pass0 (pa_cons (pv 1) (pa_cons pe_int pa_nil))) pe_int (nomark _)) pa_nil))))))
        (pss_one (ps_ret pe_bl))
        pss_nil)))
      (pss_one (ps_if (PW.pt (pw_or (pt_not (pt_val (pe_callG (ok_is_at_most T) hG (hr.mono (by decide)) (by rfl) T.is_at_most_g T.is_at_most_F.kp T.is_at_most_b .nil pass0 (pa_cons (pv 7) (pa_cons (pv 6) pa_nil))))) (pw_or1 (pt_not (pt_val (pe_callG (ok_is_at_most T) hG (hr.mono (by decide)) (by rfl) T.is_at_most_g T.is_at_most_F.kp T.is_at_most_b .nil pass0 (pa_cons (pv 6) (pa_cons (pe_revLK K (pv 7)) pa_nil))))))))
        (pss_one (ps_ret pe_bl))
        pss_nil)))))))
      (pss_one (ps_ret (pe_and (pe_callG (ok_is_at_most T) hG (hr.mono (by decide)) (by rfl) T.is_at_most_g T.is_at_most_F.kp T.is_at_most_b .nil pass0 (pa_cons (pe_lst (pa_cons pe_int (pa_cons pe_int (pa_cons pe_int pa_nil)))) (pa_cons (pe_lst (pa_cons pe_int (pa_cons pe_int (pa_cons pe_int pa_nil)))) pa_nil))) (pe_and (pe_not (pe_callG (ok_is_at_most T) hG (hr.mono (by decide)) (by rfl) T.is_at_most_g T.is_at_most_F.kp T.is_at_most_b .nil pass0 (pa_cons (pe_lst (pa_cons pe_int (pa_cons pe_int (pa_cons pe_int pa_nil)))) (pa_cons (pe_lst (pa_cons pe_int (pa_cons pe_int (pa_cons pe_int pa_nil)))) pa_nil)))) (pe_one (pe_callG (ok_is_at_most T) hG (hr.mono (by decide)) (by rfl) T.is_at_most_g T.is_at_most_F.kp T.is_at_most_b .nil pass0 (pa_cons (pe_lst (pa_cons pe_int pa_nil)) (pa_cons (pe_lst (pa_cons pe_int pa_nil)) pa_nil))))))))))), ?_⟩
  walk_at "g"
  refine ⟨a, ns, rfl, hS, hlen, fun H1 r s1 hr0 hR => ?_⟩
  have hS1 := s1.seq hS
  walk_at "g"
  refine ⟨⟨by decide, by decide, by decide, by decide⟩, ?_⟩
  refine forF walk_range (fun i σ' H' => ∃ (y2 y3 y4 y5 y6 y7 y8 y9 : Option V), Same H1 H' ∧ σ' = [some (.ref a), some (.ref r), y2, y3, y4, y5, y6, y7, y8, y9])
    ⟨none, none, none, none, none, none, none, none, Same.refl _, rfl⟩ (fun _ _ _ _ _ => trivial) (fun i σ' H' hi p => ?_) (fun σ' H' p => ?_)
  · obtain ⟨y2, y3, y4, y5, y6, y7, y8, y9, s, rfl⟩ := p
    have hi4 : i < 4 := hi
    have hwide : (1 + (i : Int)) = ((1 + i : Nat) : Int) := by omega
    rw [hwide]
    generalize hW : 1 + i = wide at hwide ⊢
    walk_at "g"
    refine ⟨wide, (), rfl, by omega, by omega, fun H2 ep ps ls s2 ne hE hL hA => ?_⟩
    have s02 := s.trans s2
    walk_at "g"
    refine forA (walk_list (xs := ps.map V.ref)) (fun j σ' H' => ∃ (y4 y5 y6 y7 y8 y9 : Option V), Same H2 H' ∧ σ' = [some (.ref a), some (.ref r), some (.int (wide : Int)), some (.ref ep), y4, y5, y6, y7, y8, y9])
      ⟨y4, y5, y6, y7, y8, y9, Same.refl _, rfl⟩ (fun j σ' H' _ p => ?_) (fun j σ' HA hj p => ?_) (fun σ' HA p => ?_)
    · obtain ⟨_, _, _, _, _, _, s, _⟩ := p; exact sq (s _ _ hE)
    · obtain ⟨y4, y5, y6, y7, y8, y9, sA, rfl⟩ := p
      have hLA := hL.same sA
      have hj' : j < ls.length := by rw [← hLA.len]; simpa using hj
      obtain ⟨p0, ep0, hp0⟩ := hLA.idx hj'
      have e1 : (ps.map V.ref)[j] = .ref p0 := by
        have : (ps.map V.ref)[j]? = some (.ref p0) := by rw [List.getElem?_map, ep0]; rfl
        rw [List.getElem?_eq_getElem hj] at this
        exact Option.some.inj this
      rw [e1]
      have hEA := sA _ _ hE
      walk_at "g"
      intro D nD
      refine lc_same (walk_list (xs := ps.map V.ref)) (fun _ => []) nD (Same.refl _) rfl (fun H s => sq (s _ _ hEA)) (fun t x Hh Hh' ht p y => ?_) (fun Hh sh hD => ?_)
      · obtain ⟨rfl, ey⟩ := y
        have hLh := hLA.same p.1
        have ht' : t < ls.length := by rw [← hLh.len]; simpa using ht
        obtain ⟨p1, ep1, hp1⟩ := hLh.idx ht'
        have e2 : x = .ref p1 := by
          rw [List.getElem?_map, ep1] at ey
          exact (Option.some.inj ey).symm
        subst e2
        have a1 := hA _ (List.getElem_mem hj')
        have a2 := hA _ (List.getElem_mem ht')
        walk_at "g"
        refine ⟨rfl, ?_⟩
        walk_at "g"
        refine ⟨p0, p1, ls[j], ls[t], _, rfl, p.1 _ _ hp0, hp1, a1.1, a2.1, by omega, by omega, by omega, fun H5 s5 => ?_⟩
        walk_at "g"
        exact lc_skip p s5 rfl
      · walk_at "g"
        intro E0 nE
        walk_at "g"
        refine r_neL (ns := []) (ms := []) (sq (upd_old nE hD)) (sq upd_same) ?_
        walk_at "g"
        refine r_itNF rfl ?_
        walk_at "g"
        exact ⟨_, _, _, _, _, _, (sA.trans sh).trans (same_new nE), rfl⟩
    · obtain ⟨y4, y5, y6, y7, y8, y9, sA, rfl⟩ := p
      walk_at "g"
      exact ⟨_, _, _, _, _, _, _, _, s02.trans sA, rfl⟩
  · obtain ⟨y2, y3, y4, y5, y6, y7, y8, y9, s, rfl⟩ := p
    walk_at "g"
    rw [List.length_map]
    obtain ⟨n, hn, hn2⟩ : ∃ n : Nat, (6 + (if ((ns.length : Nat) : Int) < 12 then ((ns.length : Nat) : Int) else 12)) = (n : Int) ∧ n ≤ 18 := by
      split
      · exact ⟨6 + ns.length, by omega, by omega⟩
      · exact ⟨18, by omega, by omega⟩
    rw [hn]
    refine ⟨by omega, by omega, ?_⟩
    refine forF walk_range (fun i σ' H' => ∃ y2 y3 y4 y5 y6 y7 y8 y9, σ' = [some (.ref a), some (.ref r), y2, y3, y4, y5, y6, y7, y8, y9] ∧ Rng H' r (400 * i))
      ⟨y2, y3, y4, y5, y6, y7, y8, y9, rfl, hR.same s⟩ (fun _ _ _ _ _ => trivial) (fun i σ' H' hi p => ?_) (fun σ' H' p => ?_)
    · obtain ⟨y2, y3, y4, y5, y6, y7, y8, y9, rfl, hR0⟩ := p
      walk_at "g"
      intro lx nx
      walk_at "g"
      have hlr := hR0.ne nx
      have hR1 := hR0.same (same_new (o := .lst [.int 7, .int 60]) nx)
      refine ⟨r, 2, 400 * i, rfl, hR1, by omega, by decide, by decide, fun H3 d hd0 hd1 s3 hR3 => ?_⟩
      obtain ⟨w, hat, hw1, hw2⟩ : ∃ w, atI [V.int 7, V.int 60] d = some (.int w) ∧ 0 < w ∧ w ≤ 60 := by
        have : d = 0 ∨ d = 1 := by omega
        rcases this with e | e <;> subst e
        · exact ⟨7, rfl, by decide, by decide⟩
        · exact ⟨60, rfl, by decide, by decide⟩
      walk_at "g"
      refine r_ixL (sq (s3 _ _ hlr upd_same)) hat ?_
      walk_at "g"
      refine ⟨r, w, _, rfl, hR3, by omega, hw1, by omega, fun H4 e he0 he1 s4 hR4 => ?_⟩
      walk_at "g"
      obtain ⟨e', rfl⟩ := Int.eq_ofNat_of_zero_le he0
      have hwide : (1 + (e' : Int)) = ((1 + e' : Nat) : Int) := by omega
      rw [hwide]
      generalize hW : 1 + e' = wide at hwide ⊢
      have hw60 : wide ≤ 60 := by omega
      walk_at "g"
      refine ⟨r, wide, _, rfl, hR4, by omega, by omega, fun H5 p l s5 hp5 hR5 hl hperm => ?_⟩
      walk_at "g"
      refine ⟨⟨by omega, by omega, by omega, by omega⟩, fun u nu => ?_⟩
      rw [rg_asc] at *
      have hpr : p ≠ r := hR4.ne hp5
      have hur : u ≠ r := hR5.ne nu
      have hlu := upd_old (o := .lst ((asc wide).map V.int)) nu hl
      have hRu := hR5.same (same_new (o := .lst ((asc wide).map V.int)) nu)
      have huu := upd_same (H := H5) (a := u) (o := .lst ((asc wide).map V.int))
      have hll : l.length = wide := by rw [hperm.length_eq, asc_length]
      walk_at "g"
      refine ⟨r, p, l, _, rfl, hRu, by omega, hpr, hlu, by omega, by omega, fun H6 v l1 s6 nv hR6 hv hp1 => ?_⟩
      have hl6 := s6 _ _ hpr hlu
      have hu6 := s6 _ _ hur huu
      have hvr : v ≠ r := hRu.ne nv
      have hl1 : l1.length = wide := by rw [hp1.length_eq, hll]
      walk_at "g"
      refine ⟨r, v, l1, _, rfl, hR6, by omega, hvr, hv, by omega, by omega, fun H7 v2 l2 s7 nv2 hR7 hv2 hp2 => ?_⟩
      have hl7 := s7 _ _ hpr hl6
      have hu7 := s7 _ _ hur hu6
      have hv7 := s7 _ _ hvr hv
      have hv2r : v2 ≠ r := hR6.ne nv2
      walk_at "g"
      refine ⟨r, wide, _, rfl, hR7, by omega, by omega, fun H8 p3 l3 s8 np3 hR8 hp3' hp3 => ?_⟩
      have hl8 := s8 _ _ hpr hl7
      have hu8 := s8 _ _ hur hu7
      have hv8 := s8 _ _ hvr hv7
      have hv28 := s8 _ _ hv2r hv2
      have hp3r : p3 ≠ r := hR7.ne np3
      walk_at "g"
      intro c1 n1
      rw [← List.map_reverse] at *
      walk_at "g"
      intro c2 n2
      walk_at "g"
      intro c3 n3
      have sB := ((same_new (o := .lst ((asc wide).reverse.map V.int)) n1).trans (same_new (o := .lst (l.map V.int)) n2))
      have sC := sB.trans (same_new (o := .lst ([v, v2, p3, u, c1, c2].map V.ref)) n3)
      have hc1r : c1 ≠ r := hR8.ne n1
      have hc2r : c2 ≠ r := (hR8.same (same_new n1)).ne n2
      have hc3r : c3 ≠ r := (hR8.same sB).ne n3
      have hl1' : (asc wide).length = wide := asc_length wide
      have hpl1 : l1.Perm (asc wide) := hp1.trans hperm
      have hpl2 : l2.Perm (asc wide) := hp2.trans hpl1
      have hrev : (asc wide).reverse.Perm (asc wide) := List.reverse_perm _
      have hLs : Ls (upd (upd (upd H8 c1 (.lst ((asc wide).reverse.map V.int))) c2 (.lst (l.map V.int))) c3 (.lst ([v, v2, p3, u, c1, c2].map V.ref))) [v, v2, p3, u, c1, c2] [l1, l2, l3, asc wide, (asc wide).reverse, l] :=
        (Ls.one (sC _ _ hv8)).app ((Ls.one (sC _ _ hv28)).app ((Ls.one (sC _ _ hp3')).app ((Ls.one (sC _ _ hu8)).app ((Ls.one (upd_old n3 (upd_old n2 upd_same))).app (Ls.one (upd_old n3 upd_same))))))
      have hnr : ∀ q ∈ [v, v2, p3, u, c1, c2], q ≠ r := fun q hq => by
        simp only [List.mem_cons, List.not_mem_nil, or_false] at hq
        rcases hq with e | e | e | e | e | e <;> (rw [e]; assumption)
      have hpe : ∀ m ∈ [l1, l2, l3, asc wide, (asc wide).reverse, l], m.Perm (asc wide) := fun q hq => by
        simp only [List.mem_cons, List.not_mem_nil, or_false] at hq
        rcases hq with e | e | e | e | e | e <;> rw [e] <;> first | assumption | exact List.Perm.refl _
      have hlC := sC _ _ hl8
      have huC := sC _ _ hu8
      have hRC := hR8.same sC
      have hCC := upd_same (H := upd (upd H8 c1 (.lst ((asc wide).reverse.map V.int))) c2 (.lst (l.map V.int))) (a := c3) (o := .lst ([v, v2, p3, u, c1, c2].map V.ref))
      generalize hHC : upd (upd (upd H8 c1 (.lst ((asc wide).reverse.map V.int))) c2 (.lst (l.map V.int))) c3 (.lst ([v, v2, p3, u, c1, c2].map V.ref)) = HC at hLs hlC huC hRC hCC
      have hHC' : upd (upd (upd H8 c1 (.lst ((asc wide).reverse.map V.int))) c2 (.lst (l.map V.int))) c3 (.lst [V.ref v, V.ref v2, V.ref p3, V.ref u, V.ref c1, V.ref c2]) = HC := hHC
      rw [hHC']
      refine ⟨c3, rfl, ⟨_, sq hCC⟩, ?_⟩
      refine forA (walk_list (xs := [v, v2, p3, u, c1, c2].map V.ref)) (fun j σ' H' => ∃ (y9 : Option V) (_u : Unit), σ' = [some (.ref a), some (.ref r), some (.int (wide : Int)), y3, y4, some (.int (0 + (i : Int))), some (.ref p), some (.ref u), some (.ref v), y9] ∧ Sx r HC H' ∧ Rng H' r (400 * i + 1 + 1 + wide + 50 + 50 + wide + j))
        ⟨y9, (), rfl, (fun _ _ _ h => h), hRC⟩ (fun j σ' H' _ p => ?_) (fun j σ' HA hj p => ?_) (fun σ' HA p => ?_)
      · obtain ⟨_, _, _, s, _⟩ := p; exact sq (s _ _ hc3r hCC)
      · obtain ⟨y9, _, rfl, sA, hRA⟩ := p
        have hLA := hLs.sx sA hnr
        have hj' : j < [l1, l2, l3, asc wide, (asc wide).reverse, l].length := by rw [← hLA.len]; simpa using hj
        obtain ⟨p0, ep0, hp0⟩ := hLA.idx hj'
        have e1 : ([v, v2, p3, u, c1, c2].map V.ref)[j] = .ref p0 := by
          have : ([v, v2, p3, u, c1, c2].map V.ref)[j]? = some (.ref p0) := by rw [List.getElem?_map, ep0]; rfl
          rw [List.getElem?_eq_getElem hj] at this
          exact Option.some.inj this
        rw [e1]
        have hp0r := hnr p0 (List.mem_of_getElem? ep0)
        have hpj := hpe _ (List.getElem_mem hj')
        have hj6 : j < 6 := hj'
        generalize [l1, l2, l3, asc wide, (asc wide).reverse, l][j] = lj at hp0 hpj
        have hlj : lj.length = wide := by rw [hpj.length_eq, asc_length]
        walk_at "g"
        refine ⟨r, 2, _, rfl, hRA, by omega, by decide, by decide, fun H9 d hd0 hd1 s9 hR9 => ?_⟩
        walk_at "g"
        refine ⟨p, p0, l, lj, _, rfl, s9 _ _ hpr (sA _ _ hpr hlC), s9 _ _ hp0r hp0, arr_asc hperm, arr_asc hpj, by omega, by omega, by omega, fun H10 s10 => ?_⟩
        walk_at "g"
        exact ⟨_, (), rfl, (sA.trans s9).same s10, hR9.same s10⟩
      · obtain ⟨y9, _, rfl, sA, hRA⟩ := p
        walk_at "g"
        refine ⟨u, p, asc wide, l, rfl, sq (sA _ _ hur huC), sq (sA _ _ hpr hlC), arr_asc (List.Perm.refl _), arr_asc hperm, by omega, by omega, by omega, fun H9 s9 => ?_⟩
        walk_at "g"
        refine r_itNF (asc_most hperm) ?_
        walk_at "g"
        intro c7 n7
        rw [← List.map_reverse] at *
        walk_at "g"
        have hl9 := s9 _ _ (sA _ _ hpr hlC)
        refine ⟨p, c7, l, (asc wide).reverse, rfl, sq (upd_old n7 hl9), sq upd_same, arr_asc hperm, arr_asc hrev, by rw [List.length_reverse]; omega, by omega, by omega, fun H10 s10 => ?_⟩
        walk_at "g"
        refine r_itNF (desc_most hperm) ?_
        walk_at "g"
        exact ⟨_, _, _, _, _, _, _, _, rfl, (((hRA.same s9).same (same_new n7)).same s10).le (by show _ + 6 ≤ _; omega)⟩
    · obtain ⟨y2, y3, y4, y5, y6, y7, y8, y9, rfl, hR0⟩ := p
      walk_at "g"
      intro c1 n1
      walk_at "g"
      intro c2 n2
      walk_at "g"
      have h12 := upd_old (o := .lst ([3, 1, 2].map V.int)) n2 (upd_same (H := H') (a := c1) (o := .lst ([1, 3, 2].map V.int)))
      have aA : IsArr [1, 3, 2] := ⟨by decide, by decide⟩
      have aB : IsArr [3, 1, 2] := ⟨by decide, by decide⟩
      have aC : IsArr [2, 3, 1] := ⟨by decide, by decide⟩
      have aD : IsArr [1] := ⟨by decide, by decide⟩
      refine ⟨c1, c2, [1, 3, 2], [3, 1, 2], rfl, sq h12, sq upd_same, aA, aB, rfl, by decide, by decide, fun H2 s2 => ?_⟩
      rw [decide_eq_true ((most_iff aA aB rfl).mpr (by decide))]
      walk_at "g"
      intro c3 n3
      walk_at "g"
      intro c4 n4
      walk_at "g"
      have h34 := upd_old (o := .lst ([3, 1, 2].map V.int)) n4 (upd_same (H := H2) (a := c3) (o := .lst ([2, 3, 1].map V.int)))
      refine ⟨c3, c4, [2, 3, 1], [3, 1, 2], rfl, sq h34, sq upd_same, aC, aB, rfl, by decide, by decide, fun H3 s3 => ?_⟩
      rw [decide_eq_false fun h => absurd (h 2 1) (by decide)]
      walk_at "g"
      intro c5 n5
      walk_at "g"
      intro c6 n6
      walk_at "g"
      have h56 := upd_old (o := .lst ([1].map V.int)) n6 (upd_same (H := H3) (a := c5) (o := .lst ([1].map V.int)))
      refine ⟨c5, c6, [1], [1], rfl, sq h56, sq upd_same, aD, aD, rfl, by decide, by decide, fun H4 s4 => ?_⟩
      rw [decide_eq_true ((most_iff aD aD rfl).mpr (by decide))]
      exact q _
end
theorem all_mk {w : World} {K : PySem.W.Frag} {h : Heap} {mg : Str → Option Value} {l : PySem.W.OpenLaw} {fa f_check_arrangement f_law_rng f_law_draw f_law_below f_law_all f_is_at_most f_law_arranged f_law_near f_law_right f_law : Addr} (X : K.In h) (G : h.Ns mainGlobals mg) (hfa : mg "law" = some (.ref fa))
    {od0 an0 od1 an1 od2 an2 od3 an3 od4 an4 od5 an5 od6 an6 od7 an7 od8 an8 od9 an9 : Option Addr} {sl0 sl1 sl2 sl3 sl4 sl5 sl6 sl7 sl8 sl9 : Array (Option Value)} {oc0 kV0 dc0 pm0 cd0 ct0 oc1 kV1 dc1 pm1 cd1 ct1 oc2 kV2 dc2 pm2 cd2 ct2 oc3 kV3 dc3 pm3 cd3 ct3 oc4 kV4 dc4 pm4 cd4 ct4 oc5 kV5 dc5 pm5 cd5 ct5 oc6 kV6 dc6 pm6 cd6 ct6 oc7 kV7 dc7 pm7 cd7 ct7 oc8 kV8 dc8 pm8 cd8 ct8 oc9 kV9 dc9 pm9 cd9 ct9 : Value}
    (a0 : PySem.W.nsIn K mainGlobals "check_arrangement" = some (some (.ref f_check_arrangement))) (l0 : K.lookup f_check_arrangement = some ⟨oc0, od0, .func (PySem.W.fnOf "check_arrangement" "check_arrangement" (defArgs s_check_arrangement) (defBody s_check_arrangement) (defScope s_check_arrangement) .none kV0 dc0 pm0 an0 cd0 ct0), sl0⟩) (c0 : PySem.W.codeIn K cd0 "check_arrangement" = true) (k0 : PySem.W.keepIn K (.ref f_check_arrangement) = true)
    (a1 : PySem.W.nsIn K mainGlobals "_law_rng" = some (some (.ref f_law_rng))) (l1 : K.lookup f_law_rng = some ⟨oc1, od1, .func (PySem.W.fnOf "_law_rng" "_law_rng" (defArgs s_law_rng) (defBody s_law_rng) (defScope s_law_rng) .none kV1 dc1 pm1 an1 cd1 ct1), sl1⟩) (c1 : PySem.W.codeIn K cd1 "_law_rng" = true) (k1 : PySem.W.keepIn K (.ref f_law_rng) = true)
    (a2 : PySem.W.nsIn K mainGlobals "_law_draw" = some (some (.ref f_law_draw))) (l2 : K.lookup f_law_draw = some ⟨oc2, od2, .func (PySem.W.fnOf "_law_draw" "_law_draw" (defArgs s_law_draw) (defBody s_law_draw) (defScope s_law_draw) .none kV2 dc2 pm2 an2 cd2 ct2), sl2⟩) (c2 : PySem.W.codeIn K cd2 "_law_draw" = true) (k2 : PySem.W.keepIn K (.ref f_law_draw) = true)
    (a3 : PySem.W.nsIn K mainGlobals "_law_below" = some (some (.ref f_law_below))) (l3 : K.lookup f_law_below = some ⟨oc3, od3, .func (PySem.W.fnOf "_law_below" "_law_below" (defArgs s_law_below) (defBody s_law_below) (defScope s_law_below) .none kV3 dc3 pm3 an3 cd3 ct3), sl3⟩) (c3 : PySem.W.codeIn K cd3 "_law_below" = true) (k3 : PySem.W.keepIn K (.ref f_law_below) = true)
    (a4 : PySem.W.nsIn K mainGlobals "_law_all" = some (some (.ref f_law_all))) (l4 : K.lookup f_law_all = some ⟨oc4, od4, .func (PySem.W.fnOf "_law_all" "_law_all" (defArgs s_law_all) (defBody s_law_all) (defScope s_law_all) .none kV4 dc4 pm4 an4 cd4 ct4), sl4⟩) (c4 : PySem.W.codeIn K cd4 "_law_all" = true) (k4 : PySem.W.keepIn K (.ref f_law_all) = true)
    (a5 : PySem.W.nsIn K mainGlobals "is_at_most" = some (some (.ref f_is_at_most))) (l5 : K.lookup f_is_at_most = some ⟨oc5, od5, .func (PySem.W.fnOf "is_at_most" "is_at_most" (defArgs s_is_at_most) (defBody s_is_at_most) (defScope s_is_at_most) .none kV5 dc5 pm5 an5 cd5 ct5), sl5⟩) (c5 : PySem.W.codeIn K cd5 "is_at_most" = true) (k5 : PySem.W.keepIn K (.ref f_is_at_most) = true)
    (a6 : PySem.W.nsIn K mainGlobals "_law_arranged" = some (some (.ref f_law_arranged))) (l6 : K.lookup f_law_arranged = some ⟨oc6, od6, .func (PySem.W.fnOf "_law_arranged" "_law_arranged" (defArgs s_law_arranged) (defBody s_law_arranged) (defScope s_law_arranged) .none kV6 dc6 pm6 an6 cd6 ct6), sl6⟩) (c6 : PySem.W.codeIn K cd6 "_law_arranged" = true) (k6 : PySem.W.keepIn K (.ref f_law_arranged) = true)
    (a7 : PySem.W.nsIn K mainGlobals "_law_near" = some (some (.ref f_law_near))) (l7 : K.lookup f_law_near = some ⟨oc7, od7, .func (PySem.W.fnOf "_law_near" "_law_near" (defArgs s_law_near) (defBody s_law_near) (defScope s_law_near) .none kV7 dc7 pm7 an7 cd7 ct7), sl7⟩) (c7 : PySem.W.codeIn K cd7 "_law_near" = true) (k7 : PySem.W.keepIn K (.ref f_law_near) = true)
    (a8 : PySem.W.nsIn K mainGlobals "_law_right" = some (some (.ref f_law_right))) (l8 : K.lookup f_law_right = some ⟨oc8, od8, .func (PySem.W.fnOf "_law_right" "_law_right" (defArgs s_law_right) (defBody s_law_right) (defScope s_law_right) .none kV8 dc8 pm8 an8 cd8 ct8), sl8⟩) (c8 : PySem.W.codeIn K cd8 "_law_right" = true) (k8 : PySem.W.keepIn K (.ref f_law_right) = true)
    (a9 : PySem.W.nsIn K mainGlobals "law" = some (some (.ref f_law))) (l9 : K.lookup f_law = some ⟨oc9, od9, .func (PySem.W.fnOf "law" "law" (defArgs s_law) (defBody s_law) (defScope s_law) .none kV9 dc9 pm9 an9 cd9 ct9), sl9⟩) (c9 : PySem.W.codeIn K cd9 "law" = true) (k9 : PySem.W.keepIn K (.ref f_law) = true)
    (z_abs : PySem.W.nsIn K mainGlobals "abs" = some none) (z_enumerate : PySem.W.nsIn K mainGlobals "enumerate" = some none) (z_int : PySem.W.nsIn K mainGlobals "int" = some none) (z_len : PySem.W.nsIn K mainGlobals "len" = some none) (z_list : PySem.W.nsIn K mainGlobals "list" = some none) (z_min : PySem.W.nsIn K mainGlobals "min" = some none) (z_range : PySem.W.nsIn K mainGlobals "range" = some none) (z_repr : PySem.W.nsIn K mainGlobals "repr" = some none) (z_set : PySem.W.nsIn K mainGlobals "set" = some none) (z_zip : PySem.W.nsIn K mainGlobals "zip" = some none) :
    ∃ fd : FuncData, (∀ (s : Shared) (v : Value), BindsTo s fd ⟨[v], []⟩ [("script", v)]) ∧ ∀ base : Heap, K.In base → base.Ns mainGlobals mg → FnG l.prog w K mg base CX0 4 fa fd ["script"] (sp_law K) := by
  have e := hfa.symm.trans (PySem.W.mg_of X G a9)
  cases e
  have F0 := fun_mk (st := s_check_arrangement) l0 c0 k0
  have b0 := F0.binds (ps := ["row"]) fun _ _ _ _ _ _ us hl => match us, hl with | [_], _ => rfl
  have F1 := fun_mk (st := s_law_rng) l1 c1 k1
  have b1 := F1.binds (ps := ["script"]) fun _ _ _ _ _ _ us hl => match us, hl with | [_], _ => rfl
  have F2 := fun_mk (st := s_law_draw) l2 c2 k2
  have b2 := F2.binds (ps := ["rng", "limit"]) fun _ _ _ _ _ _ us hl => match us, hl with | [_, _], _ => rfl
  have F3 := fun_mk (st := s_law_below) l3 c3 k3
  have b3 := F3.binds (ps := ["one", "other"]) fun _ _ _ _ _ _ us hl => match us, hl with | [_, _], _ => rfl
  have F4 := fun_mk (st := s_law_all) l4 c4 k4
  have b4 := F4.binds (ps := ["wide"]) fun _ _ _ _ _ _ us hl => match us, hl with | [_], _ => rfl
  have F5 := fun_mk (st := s_is_at_most) l5 c5 k5
  have b5 := F5.binds (ps := ["first", "second"]) fun _ _ _ _ _ _ us hl => match us, hl with | [_, _], _ => rfl
  have F6 := fun_mk (st := s_law_arranged) l6 c6 k6
  have b6 := F6.binds (ps := ["rng", "wide"]) fun _ _ _ _ _ _ us hl => match us, hl with | [_, _], _ => rfl
  have F7 := fun_mk (st := s_law_near) l7 c7 k7
  have b7 := F7.binds (ps := ["rng", "line"]) fun _ _ _ _ _ _ us hl => match us, hl with | [_, _], _ => rfl
  have F8 := fun_mk (st := s_law_right) l8 c8 k8
  have b8 := F8.binds (ps := ["one", "other", "by_name"]) fun _ _ _ _ _ _ us hl => match us, hl with | [_, _, _], _ => rfl
  have F9 := fun_mk (st := s_law) l9 c9 k9
  have b9 := F9.binds (ps := ["script"]) fun _ _ _ _ _ _ us hl => match us, hl with | [_], _ => rfl
  have kb_is_at_most_first_second : KBinds K (PySem.W.fnOf "is_at_most" "is_at_most" (defArgs s_is_at_most) (defBody s_is_at_most) (defScope s_is_at_most) .none kV5 dc5 pm5 an5 cd5 ct5) ["first", "second"] ["first", "second"] (fun (us ws : List Value) => match us, ws with | [], [w0, w1] => [w0, w1] | _, _ => []) (fun (us ws : List V) => match us, ws with | [], [w0, w1] => [w0, w1] | _, _ => []) := by
    refine ⟨fun s us ws _ hl => ?_, fun {vs us zs ws} h1 h2 => ?_⟩
    · revert hl; (try dsimp only); split
      · intro _; exact .of_eq rfl
      · intro hl; cases hl
    · rcases h1 with _ | ⟨p1, _ | ⟨p2, _ | ⟨p3, h1⟩⟩⟩ <;> rcases h2 with _ | ⟨q1, _ | ⟨q2, _ | ⟨q3, h2⟩⟩⟩ <;> ((try dsimp only); repeat (first | exact .nil | refine .cons (by assumption) ?_))
  have kb_is_at_most_second_first : KBinds K (PySem.W.fnOf "is_at_most" "is_at_most" (defArgs s_is_at_most) (defBody s_is_at_most) (defScope s_is_at_most) .none kV5 dc5 pm5 an5 cd5 ct5) ["first", "second"] ["second", "first"] (fun (us ws : List Value) => match us, ws with | [], [w0, w1] => [w1, w0] | _, _ => []) (fun (us ws : List V) => match us, ws with | [], [w0, w1] => [w1, w0] | _, _ => []) := by
    refine ⟨fun s us ws _ hl => ?_, fun {vs us zs ws} h1 h2 => ?_⟩
    · revert hl; (try dsimp only); split
      · intro _; exact .of_eq rfl
      · intro hl; cases hl
    · rcases h1 with _ | ⟨p1, _ | ⟨p2, _ | ⟨p3, h1⟩⟩⟩ <;> rcases h2 with _ | ⟨q1, _ | ⟨q2, _ | ⟨q3, h2⟩⟩⟩ <;> ((try dsimp only); repeat (first | exact .nil | refine .cons (by assumption) ?_))
  let T : Txt K mg := { check_arrangement_a := f_check_arrangement, check_arrangement_d := _, check_arrangement_F := F0, check_arrangement_b := b0, check_arrangement_g := PySem.W.mg_of X G a0, law_rng_a := f_law_rng, law_rng_d := _, law_rng_F := F1, law_rng_b := b1, law_rng_g := PySem.W.mg_of X G a1, law_draw_a := f_law_draw, law_draw_d := _, law_draw_F := F2, law_draw_b := b2, law_draw_g := PySem.W.mg_of X G a2, law_below_a := f_law_below, law_below_d := _, law_below_F := F3, law_below_b := b3, law_below_g := PySem.W.mg_of X G a3, law_all_a := f_law_all, law_all_d := _, law_all_F := F4, law_all_b := b4, law_all_g := PySem.W.mg_of X G a4, is_at_most_a := f_is_at_most, is_at_most_d := _, is_at_most_F := F5, is_at_most_b := b5, is_at_most_g := PySem.W.mg_of X G a5, law_arranged_a := f_law_arranged, law_arranged_d := _, law_arranged_F := F6, law_arranged_b := b6, law_arranged_g := PySem.W.mg_of X G a6, law_near_a := f_law_near, law_near_d := _, law_near_F := F7, law_near_b := b7, law_near_g := PySem.W.mg_of X G a7, law_right_a := f_law_right, law_right_d := _, law_right_F := F8, law_right_b := b8, law_right_g := PySem.W.mg_of X G a8, law_a := fa, law_d := _, law_F := F9, law_b := b9, law_g := PySem.W.mg_of X G a9, k_is_at_most_first_second := kb_is_at_most_first_second, k_is_at_most_second_first := kb_is_at_most_second_first, m_abs := PySem.W.mg_none_of X G z_abs, m_enumerate := PySem.W.mg_none_of X G z_enumerate, m_int := PySem.W.mg_none_of X G z_int, m_len := PySem.W.mg_none_of X G z_len, m_list := PySem.W.mg_none_of X G z_list, m_min := PySem.W.mg_none_of X G z_min, m_range := PySem.W.mg_none_of X G z_range, m_repr := PySem.W.mg_none_of X G z_repr, m_set := PySem.W.mg_none_of X G z_set, m_zip := PySem.W.mg_none_of X G z_zip }
  exact ⟨PySem.W.fnOf "law" "law" (defArgs s_law) (defBody s_law) (defScope s_law) .none kV9 dc9 pm9 an9 cd9 ct9, fun s v => .of_eq rfl, fun base _ _ => ok_law T⟩
end L03
open PySem PySem.W PyProof.Rows
set_option maxHeartbeats 0 in
theorem PySem.Challenge.cw_sortstretches_k03_arrangements_compared_holds : PySem.Challenge.rw_sortstretches_k03_arrangements_compared.Holds := by
  w_on; o_law; k_head; (case hw => w_witness2)
  k_fill
  refine Xk.walkG (l := PySem.Challenge.rw_sortstretches_k03_arrangements_compared) (m := 63) (n := 4) (x := "script") (CX := L2.CX0) (sp := L03.sp_law) rfl (by decide) rfl ⟨rfl, by decide, by decide⟩ (fun w h Y => PySem.W.kIn_of Y) ?F (fun K H a ns hl hO hS => ⟨a, ns, rfl, hS, hl, fun _ => rfl⟩) (fun _ _ _ _ h => h)
  case F =>
    intro w mg fa h KX G hmg
    refine' L03.all_mk KX G hmg ?a0 ?l0 ?c0 ?k0 ?a1 ?l1 ?c1 ?k1 ?a2 ?l2 ?c2 ?k2 ?a3 ?l3 ?c3 ?k3 ?a4 ?l4 ?c4 ?k4 ?a5 ?l5 ?c5 ?k5 ?a6 ?l6 ?c6 ?k6 ?a7 ?l7 ?c7 ?k7 ?a8 ?l8 ?c8 ?k8 ?a9 ?l9 ?c9 ?k9 ?z_abs ?z_enumerate ?z_int ?z_len ?z_list ?z_min ?z_range ?z_repr ?z_set ?z_zip
    (case a0 => k_is); (case l0 => k_is); (case c0 => k_is); (case k0 => k_is); (case a1 => k_is); (case l1 => k_is); (case c1 => k_is); (case k1 => k_is); (case a2 => k_is); (case l2 => k_is); (case c2 => k_is); (case k2 => k_is); (case a3 => k_is); (case l3 => k_is); (case c3 => k_is); (case k3 => k_is); (case a4 => k_is); (case l4 => k_is); (case c4 => k_is); (case k4 => k_is); (case a5 => k_is); (case l5 => k_is); (case c5 => k_is); (case k5 => k_is); (case a6 => k_is); (case l6 => k_is); (case c6 => k_is); (case k6 => k_is); (case a7 => k_is); (case l7 => k_is); (case c7 => k_is); (case k7 => k_is); (case a8 => k_is); (case l8 => k_is); (case c8 => k_is); (case k8 => k_is); (case a9 => k_is); (case l9 => k_is); (case c9 => k_is); (case k9 => k_is); (case z_abs => k_is); (case z_enumerate => k_is); (case z_int => k_is); (case z_len => k_is); (case z_list => k_is); (case z_min => k_is); (case z_range => k_is); (case z_repr => k_is); (case z_set => k_is); (case z_zip => k_is)
