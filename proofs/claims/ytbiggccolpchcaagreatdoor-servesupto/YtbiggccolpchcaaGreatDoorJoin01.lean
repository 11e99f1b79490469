/- Joined. -/
import Derived.Test.YtbiggccolpchcaaGreatDoorJoin00
import Derived.Laws.BytesArg
import Derived.Deep.RegionWith
set_option maxHeartbeats 1000000
namespace Go.Proofs.YtbiggccolpchcaaGreatDoor
open Go.RowKit _root_.Go.Proofs.Tryz
theorem Lr{j k:IntKind}{a b c d:Int}(h:a=b)(h':c=d):Ending.returned (.tuple #[.int j a,.int k c])=.returned (.tuple #[.int j b,.int k d]):=by rw[h,h']
theorem Qa(s:By)(base most:Int)(w:World)(hs:s.size<=maxLen)(hb:0<=base)(hb2:base<=16)(hm:most<=9):
  Calls prog 179 #[.string s,.int .i64 base,.int .i64 most] w λe w'=>e=.returned (.tuple #[.int .i64 (Pm.a3h base most s.data.toList),.int .i64 (Pm.a3e base most s.data.toList)])/\w'=w:=by
 unfold maxLen at hs;have hlen:(s.data.toList.length:Int)=s.size:=by simp
 have HL:Hid ((s.data.toList.length:Int)=s.size):=hlen;clear hlen;by_cases h1:(s.size:Int)<1\/most<s.size
 ·have h2:Pm.a3i base most s.data.toList=false:=Pm.a3j (by rw[HL.out];exact h1);have H2:Hid (Pm.a3i base most s.data.toList=false):=h2;clear h2;by_cases h3:(s.size:Int)<1
  all_goals
   go_enter func179,ntmps179;go_wp2
   go_ret2
   exact⟨Lr (by unfold Pm.a3h;rw[H2.out];rfl) (by unfold Pm.a3e;rw[H2.out];rfl),rfl⟩
 ·have h3:¬(s.size:Int)<1:=by omega
  have h4:¬most<(s.size:Int):=by omega
  clear h1;go_enter func179,ntmps179;go_wp2
  go_loop [8,9,10,22] (λn _ _ i=>∃k:Nat,k<=s.size/\i=.int .i64 k/\n=.int .i64 (Pm.a3o base (s.data.toList.take k))/\Hid (Pm.digsB base (s.data.toList.take k)=true)) (λ_ _ _ i=>s.size-(intOf i).toNat)
  case atStart=>exact⟨0,Ah _,rfl,rfl,rfl⟩
  case round=>
   obtain⟨k,hk,rfl,rfl,H⟩:=hrel;by_cases hlt:k<s.size
   ·have hbd:=Pm.a3p base (s.data.toList.take k) hb hb2 H.out (by simp;omega);have hmul1:0<=Pm.a3o base (s.data.toList.take k)*base:=Int.mul_nonneg hbd.1 hb;have hmul2:Pm.a3o base (s.data.toList.take k)*base<=68719476736*16:=Int.le_trans (Int.mul_le_mul_of_nonneg_left hb2 hbd.1) (Int.mul_le_mul_of_nonneg_right (by omega) (by omega));have hdv:=Pm.a1c s[k];have HS:Hid (Pm.digsB base (s.data.toList.take (k+1))=(Pm.digsB base (s.data.toList.take k)&&decide (Pm.dval s[k]<base))):=by rw[Pm.take_snoc s k hlt,Pm.a0y];exact rfl
    have HN:Hid (Pm.a3o base (s.data.toList.take (k+1))=Pm.a3o base (s.data.toList.take k)*base+Pm.dval s[k]):=by rw[Pm.take_snoc s k hlt,Pm.a3q];exact rfl
    by_cases hb3:Pm.dval s[k]<base
    ·go_wp2_with (go_at_call 238;refine(Vo _ _).mono ?_;rintro e w' ⟨rfl,rfl⟩)
     go_round
     case rel=>exact⟨k+1,by omega,by go_num,by rw[HN.out],by unfold Hid;rw[HS.out,H.out];simpa using hb3⟩
     case measure=>simp[intOf];omega
    ·go_wp2_with (go_at_call 238;refine(Vo _ _).mono ?_;rintro e w' ⟨rfl,rfl⟩);have h5:=HS.out;rw[Ao (p:=Pm.dval s[k]<base) (by omega),C7z]at h5;have h6:Pm.a3i base most s.data.toList=false:=Pm.a3k (Pm.a0z h5)
     go_ret2
     exact⟨Lr (by unfold Pm.a3h;rw[h6];rfl) (by unfold Pm.a3e;rw[h6];rfl),rfl⟩
   ·go_wp2;have h5:=H.out;rw[Aq (by simp;omega)]at h5;have h6:Pm.a3i base most s.data.toList=true:=Pm.a3m (by rw[HL.out];omega) (by rw[HL.out];omega) h5
    go_ret2
    exact⟨Lr (by unfold Pm.a3h;rw[h6,if_pos rfl,Aq (by simp;omega)]) (by unfold Pm.a3e;rw[h6];rfl),rfl⟩
theorem Hg(s:By)(w:World)(hs:s.size<=maxLen):
  Calls prog 129 #[.string s] w λe w'=>e=.returned (.tuple #[.int .i64 (Pm.a3h 10 9 s.data.toList),.int .i64 (Pm.a3e 10 9 s.data.toList)])/\w'=w:=by
 go_enter func129,ntmps129;go_wp2_with (go_at_call 179;refine(Qa _ _ _ _ hs (by omega) (by omega) (by omega)).mono ?_;rintro e w' ⟨rfl,rfl⟩)
 go_ret2
 exact⟨rfl,rfl⟩
theorem Zq(s:By)(w:World)(hs:s.size<=maxLen):
  Calls prog 131 #[.string s] w λe w'=>e=.returned (.tuple #[.int .i64 (Pm.a3h 16 8 s.data.toList),.int .i64 (Pm.a3e 16 8 s.data.toList)])/\w'=w:=by
 go_enter func131,ntmps131;go_wp2_with (go_at_call 179;refine(Qa _ _ _ _ hs (by omega) (by omega) (by omega)).mono ?_;rintro e w' ⟨rfl,rfl⟩)
 go_ret2
 exact⟨rfl,rfl⟩
theorem c1Y{base:Int}(hb:base=10\/base=16)(d:By)(hd:d.data.toList=Pm.a0x.take base.toNat)(c:UInt8):
  Lib.indexByte d.data.toList (Pm.small c)=if Pm.dval c<base then Pm.dval c else -1:=by
 rw[hd];rcases hb with rfl|rfl
 ·exact Pm.a0v c
 ·exact Pm.a0w c
theorem Gx(s:By)(base most:Int)(w:World)(hs:s.size<=maxLen)(hb:base=10\/base=16)(hm:most<=9):
  Calls prog 130 #[.string s,.int .i64 base,.int .i64 most] w λe w'=>e=.returned (.int .i64 (Pm.a3f base most s.data.toList))/\Bw w w':=by
 unfold maxLen at hs;have hlen:(s.data.toList.length:Int)=s.size:=by simp
 have HL:Hid ((s.data.toList.length:Int)=s.size):=hlen;clear hlen;by_cases h1:(s.size:Int)<1\/most<s.size
 ·have h2:Pm.a3i base most s.data.toList=false:=Pm.a3j (by rw[HL.out];exact h1);have H2:Hid (Pm.a3i base most s.data.toList=false):=h2;clear h2;by_cases h3:(s.size:Int)<1
  all_goals
   go_enter func130,ntmps130;go_wp2;go_ret;exact⟨Gf (by unfold Pm.a3f;rw[H2.out];rfl),Ad _ _⟩
 ·have h3:¬(s.size:Int)<1:=by omega
  have h4:¬most<(s.size:Int):=by omega
  clear h1;have HB:Hid (base=10\/base=16):=hb;have hb0:0<=base:=by omega
  have hb2:base<=16:=by omega
  clear hb;go_enter func130,ntmps130;go_wp2
  go_loopw [7,8,9,10] (λn i _ _ wr=>∃k:Nat,k<=s.size/\i=.int .i64 k/\n=.int .i64 (Pm.a3o base (s.data.toList.take k))/\Hid (Pm.digsB base (s.data.toList.take k)=true)/\Bw w wr) (λ_ i _ _ _=>s.size-(intOf i).toNat)
  case atStart=>exact⟨0,Ah _,rfl,rfl,rfl,Ad _ _⟩
  case round=>
   obtain⟨k,hk,rfl,rfl,H,hbw⟩:=hrel;by_cases hlt:k<s.size
   ·have hbd:=Pm.a3p _ (s.data.toList.take k) hb0 hb2 H.out (by simp;omega);go_wp2_with (go_at_call 180;refine(a4U _ s[k] _ (by rw[Lib.extract_data];exact Pm.a3z s k hlt)).mono ?_;rintro e w' ⟨rfl,rfl⟩)
    go_quiet ((go_at_call 178;exact Calls.quiet_of_same (Hf _ _ _ (by unfold maxLen;simp;omega))))
    generalize hg:Lib.indexByte (ByteArray.extract _ 0 base.toNat).data.toList _=g;have hg2:g=if Pm.dval s[k]<base then Pm.dval s[k]else -1:=by
     rw[<-hg];exact c1Y HB.out _ (by rw[Lib.extract_data,D6z,Nat.sub_zero];rfl) s[k]
    clear hg;generalize ByteArray.extract _ 0 base.toNat=dd;have hmul1:0<=Pm.a3o base (s.data.toList.take k)*base:=Int.mul_nonneg hbd.1 hb0;have hmul2:Pm.a3o base (s.data.toList.take k)*base<=68719476736*16:=Int.le_trans (Int.mul_le_mul_of_nonneg_left hb2 hbd.1) (Int.mul_le_mul_of_nonneg_right (by omega) (by omega));have hdv:=Pm.a1c s[k];have HS:Hid (Pm.digsB base (s.data.toList.take (k+1))=(Pm.digsB base (s.data.toList.take k)&&decide (Pm.dval s[k]<base))):=by rw[Pm.take_snoc s k hlt,Pm.a0y];exact rfl
    have HN:Hid (Pm.a3o base (s.data.toList.take (k+1))=Pm.a3o base (s.data.toList.take k)*base+Pm.dval s[k]):=by rw[Pm.take_snoc s k hlt,Pm.a3q];exact rfl
    by_cases hb3:Pm.dval s[k]<base
    ·rw[if_pos hb3]at hg2;subst hg2;go_wp2
     go_roundw
     case rel=>exact⟨k+1,by omega,by go_num,by rw[HN.out],by unfold Hid;rw[HS.out,H.out];simpa using hb3,hbw.trans (below_drewN (Ad _ _) _)⟩
     case measure=>simp[intOf];omega
    ·rw[if_neg hb3]at hg2;subst hg2;go_wp2;have h5:=HS.out;rw[Ao (p:=Pm.dval s[k]<base) (by omega),C7z]at h5;have h6:Pm.a3i base most s.data.toList=false:=Pm.a3k (Pm.a0z h5);go_ret;exact⟨Gf (by unfold Pm.a3f;rw[h6];rfl),hbw.trans (below_drewN (Ad _ _) _)⟩
   ·go_wp2;have h5:=H.out;rw[Aq (by simp;omega)]at h5;have h6:Pm.a3i base most s.data.toList=true:=Pm.a3m (by rw[HL.out];omega) (by rw[HL.out];omega) h5;go_ret;exact⟨Gf (by unfold Pm.a3f;rw[h6,if_pos rfl,Aq (by simp;omega)]),hbw⟩
theorem hid{p:Prop}(h:p):Hid p:=h
theorem Cn{k:IntKind}{a b:By}{c d:Int}(h:a=b)(h':c=d):Ending.returned (.tuple #[.string a,.int k c])=.returned (.tuple #[.string b,.int k d]):=by rw[h,h']
theorem Rz{a:By}{l:L8}(h:a.data.toList=l):a=⟨l.toArray⟩:=by
 obtain⟨⟨m⟩⟩:=a;simp at h;subst h;rfl
theorem Dn{a:By}{l:L8}(h:a.data.toList=l):a.size=l.length:=by
 rw[<-h];simp
theorem Fv(s:By)(c:UInt8)(w:World)(hs:s.size<=maxLen):
  Calls prog 133 #[.string s,.int .u8 c.toNat] w λe w'=>(∃a b:By,e=.returned (.tuple #[.string a,.string b])/\a.data.toList=Pm.ahead c s.data.toList/\b.data.toList=Pm.behind c s.data.toList)/\Bw w w':=by
 have hl:s.data.toList.length=s.size:=by simp
 rcases Pm.a0r c s.data.toList with h|⟨r,h⟩
 ·obtain⟨h1,h2⟩:=Pm.a1s h;have H:Hid (Pm.behind c s.data.toList=[]):=h;have H2:Hid (Pm.ahead c s.data.toList=s.data.toList):=h2;clear h h2 hl;go_enter func133,ntmps133;go_wp2_with (go_at_call 178;refine(Hf _ _ _ hs).mono ?_;rintro e w' ⟨rfl,rfl⟩)
  go_ret2
  exact⟨⟨s,⟨#[]⟩,rfl,H2.out.symm,H.out.symm⟩,Ad _ _⟩
 ·have h1:=Pm.a1u h;have h3:(Pm.ahead c s.data.toList).length<=s.size:=by
   have:=congrArg List.length (Pm.a0c c s.data.toList);rw[A0z,hl]at this;omega
  have HT:Hid ((s.data.toList).take (Pm.ahead c s.data.toList).length=Pm.ahead c s.data.toList):=Pm.a4o c _;have HD:Hid ((s.data.toList).drop (Pm.ahead c s.data.toList).length=Pm.behind c s.data.toList):=Pm.a1a c _;have HL:Hid (s.data.toList.length=s.size):=hl;clear h hl;generalize Pm.ahead c s.data.toList=A at *
  generalize hn:A.length=n at *
  clear hn;unfold maxLen at hs;have h0:(0:Int)<=(n:Int):=by omega
  go_enter func133,ntmps133;go_wp2_with (go_at_call 178;refine(Hf _ _ _ (by unfold maxLen;exact hs)).mono ?_;rintro e w' ⟨rfl,rfl⟩)
  go_quiet (fail)
  go_wp2
  go_ret2
  refine⟨⟨_,_,rfl,?_,?_⟩,below_drewN (Ad _ _) _⟩
  ·rw[Lib.extract_data,<-HT.out];simp
  ·rw[Lib.extract_data,<-HD.out,Aq (by rw[A6z,HL.out];omega)]
theorem Qb(t:By)(x y:UInt8)(w:World)(h:t.data.toList=[x,y]):
  Calls prog 130 #[.string t,.int .i64 16,.int .i64 2] w λe w'=>e=.returned (.int .i64 (Pm.a3f 16 2 [x,y]))/\Bw w w':=by
 have h1:=Dn h;have h2:=Gx t 16 2 w (by rw[h1];show 2<=maxLen;unfold maxLen;omega) (by omega) (by omega);rw[h]at h2;exact h2
theorem b3Z(v:Int)(W:World):(convert 211 9 (.slice (some ⟨W.heap.size,0,none⟩) 1 1)).run prog (W.alloc (.cells #[.int .u8 v] 5))=.ok (.string (strOfNums [v])) (W.alloc (.cells #[.int .u8 v] 5)):=by
 refine run_convert_bytes_arg (W.alloc (.cells #[.int .u8 v] 5)) 211 5 underlying211 underlying5 W.heap.size 0 1 1 [v] rfl ?_ 9 underlying9;intro i hi;obtain rfl:i=0:=by omega
 simp
theorem b0F(v:Int):(strOfNums [v]).data.toList=[v.toNat.toUInt8]:=rfl
theorem Sa(v:Int):(strOfNums [v]).size=1:=rfl
def lenOf(v:Value):Nat:=match v with | .string s=>s.size|_=>0
theorem Mn(s:By)(w:World)(hs:s.size<=maxLen):
  Calls prog 76 #[.string s] w λe w'=>e=.returned (.tuple #[.string (Pm.unT s.data.toList),.int .i64 (Pm.unE s.data.toList)])/\Bw w w':=by
 unfold maxLen at hs;go_enter func76,ntmps76;go_wp2
 go_loopw [0,4,5,6,7] (λr o _ _ _ wr=>∃(q p:By),r=.string q/\o=.string p/\p.size+q.size<=s.size/\Hid (Pm.a0b s.data.toList p.data.toList q.data.toList)/\Bw w wr) (λr _ _ _ _ _=>lenOf r)
 case atStart=>exact⟨s,⟨#[]⟩,rfl,rfl,by show 0+s.size<=s.size;omega,Pm.a0b.start _,Ad _ _⟩
 case round=>
  obtain⟨q,p,rfl,rfl,hsz,H,hbw⟩:=hrel;go_wp2_with fail;refine(Fv _ 37 _ (by unfold maxLen;omega)).mono ?_;rintro e w' ⟨⟨a,b,rfl,ha,hb⟩,hb1⟩;have hb2:=hbw.trans (hb1.mono hbw.size);have hab:a.size+b.size=q.size:=by
   rw[Dn ha,Dn hb,<-A0z,Pm.a0c];simp
  have hab1:a.size+b.size<=q.size:=by omega
  have HR:Hid (Pm.a0b s.data.toList (p++a).data.toList b.data.toList):=by
   have:=H.out.ahead;rw[<-ha,<-hb]at this;rw[C8z,D7z];exact this
  have hbs:=Dn hb;have hcs:=Pm.a0r 37 q.data.toList;rw[<-hb]at hcs hbs;clear hab ha hb hbs;clear hb1 hbw H;rcases hcs with h|⟨r,h⟩
  ·have he:b.toList.isEmpty=true:=by rw[A1z,h];rfl
   have HF:Hid (Pm.unesc s.data.toList=some (p++a).data.toList):=by have:=HR.out;rw[h]at this;exact this.done
   clear h;go_wp2
   go_ret2
   exact⟨Cn (by rw[Pm.a5a HF.out]) (Pm.a4y HF.out).symm,hb2⟩
  ·have he:b.toList.isEmpty=false:=by rw[A1z,h];rfl
   have hbs:=Dn h;rw[A9z]at hbs;by_cases hr:r.length<2
   ·have HF:Hid (Pm.unesc s.data.toList=none):=by have:=HR.out;rw[h]at this;exact this.short hr
    have hb3:b.size<3:=by omega
    clear h hbs;go_wp2
    go_ret2
    exact⟨Cn (Pm.a4z HF.out).symm (Pm.a4x HF.out).symm,hb2⟩
   ·obtain⟨x,y,r',rfl⟩:∃x y r',r=x::y::r':=by
     match r,hr with
     |[],hr=>exact absurd (by simp) hr
     |[_],hr=>exact absurd (by simp) hr
     |x::y::r',_=>exact⟨x,y,r',rfl⟩
    have hb3:3<=b.size:=by rw[hbs];simp
    have HX:Hid (b.data.toList=37::x::y::r'):=h;have HE:Hid ((b.extract 1 3).data.toList=[x,y]):=by rw[Lib.extract_data,h];exact rfl
    clear h hbs hr
    cases hd:Pm.digsB 16 [x,y]
    ·have HF:Hid (Pm.unesc s.data.toList=none):=by have:=HR.out;rw[HX.out]at this;exact this.bad hd
     have hv:Pm.a3f 16 2 [x,y]=-1:=by unfold Pm.a3f;rw[Pm.a3l 2 x y (by omega),hd];rfl
     clear hd;go_wp2_with (go_at_call 130;refine(Qb _ x y _ HE.out).mono ?_;rintro e w2 ⟨rfl,hb4⟩)
     go_ret2
     exact⟨Cn (Pm.a4z HF.out).symm (Pm.a4x HF.out).symm,hb2.trans (hb4.mono hb2.size)⟩
    ·have HR2:Hid (Pm.a0b s.data.toList ((p++a).data.toList++[(Pm.a3o 16 [x,y]).toNat.toUInt8]) r'):=by have:=HR.out;rw[HX.out]at this;exact this.esc hd
     have hv:Pm.a3f 16 2 [x,y]=Pm.a3o 16 [x,y]:=by unfold Pm.a3f;rw[Pm.a3l 2 x y (by omega),hd];rfl
     have hbd:=Pm.a3r x y hd;clear hd;generalize Pm.a3o 16 [x,y]=v at *
     have hcv:=b3Z v;have hcs:(strOfNums [v]).size<=1:=by rw[Sa];omega
     go_wp2_with (go_at_call 130;refine(Qb _ x y _ HE.out).mono ?_;rintro e w2 ⟨rfl,hb4⟩);refine⟨⟨_,_,rfl,rfl,?_,?_,?_⟩,?_⟩
     ·simp[Sa];omega
     ·unfold Hid;rw[C8z,D7z,b0F,Lib.extract_data,HX.out];have:=HR2.out;rw[Aq (by have:=Dn HX.out;simp at this ⊢;omega)];exact this
     ·exact hb2.trans ((hb4.alloc hb4.size _).mono hb2.size)
     ·simp[lenOf];omega
theorem Zr(t:By)(x y:UInt8)(w:World)(h:t.data.toList=[x,y]):
  Calls prog 131 #[.string t] w λe w'=>e=.returned (.tuple #[.int .i64 (Pm.a3h 16 8 [x,y]),.int .i64 (Pm.a3e 16 8 [x,y])])/\w'=w:=by
 have h1:=Dn h;have h2:=Zq t w (by rw[h1];show 2<=maxLen;unfold maxLen;omega);rw[h]at h2;exact h2
theorem Sb(o:L8)(c:UInt8):Lib.byteCells o++[.int .u8 c.toNat]=Lib.byteCells (o++[c]):=by simp[Lib.byteCells]
theorem Zu(o:L8)(v:Int)(h0:0<=v)(h1:v<=255):Lib.byteCells o++[.int .u8 v]=Lib.byteCells (o++[v.toNat.toUInt8]):=by
 rw[<-Sb];have:((v.toNat.toUInt8).toNat:Int)=v:=by
  have h2:v.toNat<256:=by omega
  have h3:(v.toNat.toUInt8).toNat=v.toNat:=by simp[Nat.mod_eq_of_lt h2]
  rw[h3];omega
 rw[this]
theorem Ls(o:L8):(Lib.byteCells o).length=o.length:=by simp[Lib.byteCells]
theorem Mo(s:By)(w:World)(hs:s.size<=140737488355328):
  Calls prog 132 #[.string s] w λe w'=>e=.returned (.tuple #[.string (Pm.unT s.data.toList),.int .i64 (Pm.unE s.data.toList)])/\Bw w w':=by
 go_enter func132,ntmps132;go_wp2
 go_loopw [5,6,7] (λi _ _ wr=>∃(k:Nat) (o:L8),k<=s.size/\i=.int .i64 k/\o.length<=k/\Hid (Pm.a0b s.data.toList o (s.data.toList.drop k))/\Lib.IsBuilder 265 5 w.heap.size w.heap.size (Lib.byteCells o) wr/\Bw w wr) (λi _ _ _=>s.size-(intOf i).toNat)
 case atStart=>exact⟨0,[],Ah _,rfl,Ac _,Pm.a0b.start _,Lib.fresh_isBuilder _ _ w,bA _ _⟩
 case round=>
  obtain⟨k,o,hk,rfl,ho,H,hbu,hbw⟩:=hrel;have hsz:=hbw.size;by_cases hlt:k<s.size
  ·have HD:=Pm.a1b s k hlt;have H1:Hid (Pm.a0b s.data.toList o (s[k]::s.data.toList.drop (k+1))):=by rw[<-HD];exact H.out
   clear HD H;by_cases hc:s[k]=37
   ·have hc2:((s[k].toNat:Int) != 37)=false:=by rw[hc];rfl
    rw[hc]at H1;clear hc;by_cases h3:(s.size:Int)-k<3
    ·have HF:Hid (Pm.unesc s.data.toList=none):=H1.out.short (by simp;omega);go_wp2
     go_ret2
     exact⟨Cn (Pm.a4z HF.out).symm (Pm.a4x HF.out).symm,hbw⟩
    ·have h4:k+2<s.size:=by omega
     have HE:Hid ((s.extract (k+1) (k+3)).data.toList=[s[k+1],s[k+2]]):=Pm.a4v s k h4;have HD2:Hid (s.data.toList.drop (k+1)=s[k+1]::s[k+2]::s.data.toList.drop (k+3)):=by
      unfold Hid;rw[Pm.a1b s (k+1) (by omega),Pm.a1b s (k+2) h4]
     have H2:Hid (Pm.a0b s.data.toList o (37::s[k+1]::s[k+2]::s.data.toList.drop (k+3))):=by have:=H1.out;rw[HD2.out]at this;exact this
     clear H1 HD2;generalize s[k+1]=x at *
     generalize s[k+2]=y at *
     cases hd:Pm.digsB 16 [x,y]
     ·have HF:Hid (Pm.unesc s.data.toList=none):=H2.out.bad hd;have hv:Pm.a3h 16 8 [x,y]=0:=by unfold Pm.a3h;rw[Pm.a3l 8 x y (by omega),hd];rfl
      have hv2:Pm.a3e 16 8 [x,y]=1:=by unfold Pm.a3e;rw[Pm.a3l 8 x y (by omega),hd];rfl
      clear hd;go_wp2_with (go_at_call 131;refine(Zr _ x y _ HE.out).mono ?_;rintro e w2 ⟨rfl,rfl⟩)
      go_ret2
      exact⟨Cn (Pm.a4z HF.out).symm (Pm.a4x HF.out).symm,hbw⟩
     ·have H3:Hid (Pm.a0b s.data.toList (o++[(Pm.a3o 16 [x,y]).toNat.toUInt8]) (s.data.toList.drop (k+3))):=H2.out.esc hd;have hv:Pm.a3h 16 8 [x,y]=Pm.a3o 16 [x,y]:=by unfold Pm.a3h;rw[Pm.a3l 8 x y (by omega),hd];rfl
      have hv2:Pm.a3e 16 8 [x,y]=0:=by unfold Pm.a3e;rw[Pm.a3l 8 x y (by omega),hd];rfl
      have hbd:=Pm.a3r x y hd;clear hd H2;generalize Pm.a3o 16 [x,y]=v at *
      go_wp2_with (first|(go_at_call 131;refine(Zr _ x y _ HE.out).mono ?_;rintro e w2 ⟨rfl,rfl⟩)|(go_at_call 181;refine(Tryz.Builder_WriteByte _ _ _ _ _ hbu (by rw[Ls];omega) hsz).mono ?_;rintro e w2 ⟨rfl,hbu2,hbw2⟩));rw[Zu o v hbd.1 hbd.2]at hbu2
      go_roundw
      case rel=>exact⟨k+3,_,by omega,by go_num,by simp;omega,H3,.inr hbu2,hbw.trans hbw2⟩
      case measure=>simp[intOf];omega
   ·have hc2:((s[k].toNat:Int) != 37)=true:=by
     rw[bne_iff_ne];intro h;exact hc (UInt8.toNat_inj.1 (by show s[k].toNat=37;omega))
    have H3:Hid (Pm.a0b s.data.toList (o++[s[k]]) (s.data.toList.drop (k+1))):=H1.out.plain hc;clear hc H1;go_wp2_with (go_at_call 181;refine(Tryz.Builder_WriteByte _ _ _ _ _ hbu (by rw[Ls];omega) hsz).mono ?_;rintro e w2 ⟨rfl,hbu2,hbw2⟩);rw[Sb]at hbu2
    go_roundw
    case rel=>exact⟨k+1,_,by omega,by go_num,by simp;omega,H3,.inr hbu2,hbw.trans hbw2⟩
    case measure=>simp[intOf];omega
  ·have HF:Hid (Pm.unesc s.data.toList=some o):=by
    have:=H.out;rw[Az (by simp;omega)]at this;exact this.done
   go_wp2_with (go_at_call 182;refine(Tryz.Builder_String_any _ _ _ _ hbu hsz).mono ?_;rintro e w2 ⟨rfl,hbw2⟩)
   go_ret2
   exact⟨Cn (Pm.a5a HF.out).symm (Pm.a4y HF.out).symm,hbw.trans hbw2⟩
theorem Iz(c:UInt8)(w:World):
  Calls prog 252 #[.int .u8 c.toNat] w λe w'=>e=.returned (.bool (Pm.a4q c))/\w'=w:=by
 have h0:=c.toNat_lt;rcases(show(c.toNat:Int)<33\/(c.toNat:Int)=35\/126<(c.toNat:Int)\/(33<=(c.toNat:Int)/\(c.toNat:Int)<=126/\¬(c.toNat:Int)=35)from by omega)with h|h|h|h
 ·go_enter func252,ntmps252;go_wp2;go_ret;exact⟨Bd (by simp[Pm.a4q];omega),rfl⟩
 ·have hc:c=35:=UInt8.toNat_inj.1 (by show c.toNat=35;omega);subst hc;clear h h0;go_enter func252,ntmps252;go_wp2;go_ret;exact⟨Bd (by decide),rfl⟩
 ·have h2:((c.toNat:Int) != 35)=true:=by rw[bne_iff_ne];omega
  go_enter func252,ntmps252;go_wp2;go_ret;exact⟨Bd (by simp[Pm.a4q];omega),rfl⟩
 ·have h2:((c.toNat:Int) != 35)=true:=by rw[bne_iff_ne];omega
  obtain⟨h3,h4,h5⟩:=h;have H5:Hid (¬(c.toNat:Int)=35):=h5;clear h5;go_enter func252,ntmps252;go_wp2;go_ret;exact⟨Bd (by have:=H5.out;simp[Pm.a4q];omega),rfl⟩
theorem Kj(c:UInt8)(w:World):
  Calls prog 301 #[.int .u8 c.toNat] w λe w'=>e=.returned (.bool (Pm.a5d c))/\w'=w:=by
 have h0:=c.toNat_lt;rcases(show(c.toNat:Int)=9\/(c.toNat:Int)=127\/(¬(c.toNat:Int)=9/\(c.toNat:Int)<32)\/(32<=(c.toNat:Int)/\¬(c.toNat:Int)=127)from by omega)with h|h|h|h
 ·have hc:c=9:=UInt8.toNat_inj.1 (by show c.toNat=9;omega);subst hc;clear h h0;go_enter func301,ntmps301;go_wp2;go_ret;exact⟨Bd (by decide),rfl⟩
 ·have hc:c=127:=UInt8.toNat_inj.1 (by show c.toNat=127;omega);subst hc;clear h h0;go_enter func301,ntmps301;go_wp2;go_ret;exact⟨Bd (by decide),rfl⟩
 ·obtain⟨h1,h2⟩:=h;have h3:((c.toNat:Int)==9)=false:=by rw[Ar];exact h1
  have H1:Hid (¬(c.toNat:Int)=9):=h1;clear h1;go_enter func301,ntmps301;go_wp2;go_ret;exact⟨Bd (by have:=H1.out;simp[Pm.a5d];omega),rfl⟩
 ·obtain⟨h1,h2⟩:=h;have h3:((c.toNat:Int)==9)=false:=by rw[Ar];omega
  have h4:((c.toNat:Int) != 127)=true:=by rw[bne_iff_ne];exact h2
  have H1:Hid (¬(c.toNat:Int)=127):=h2;clear h2;go_enter func301,ntmps301;go_wp2;go_ret;exact⟨Bd (by have:=H1.out;simp[Pm.a5d];omega),rfl⟩
theorem a4X(s:By)(w:World)(hs:s.size<=maxLen):
  Calls prog 176 #[.string s,.func (.func 252) #[] #[]] w λe w'=>e=.returned (.bool (Pm.a0h Pm.a4q s.data.toList))/\w'=w:=by
 unfold maxLen at hs;go_enter func176,ntmps176;go_wp2_with fail
 go_loop [5,8] (λ_ i=>∃k:Nat,k<=s.size/\i=.int .i64 k/\Hid (Pm.a0h Pm.a4q (s.data.toList.take k)=true)) (λ_ i=>s.size-(intOf i).toNat)
 case atStart=>exact⟨0,Ah _,rfl,rfl⟩
 case round=>
  obtain⟨k,hk,rfl,H⟩:=hrel;by_cases hlt:k<s.size
  ·have HS:Hid (Pm.a0h Pm.a4q (s.data.toList.take (k+1))=(Pm.a0h Pm.a4q (s.data.toList.take k)&&Pm.a4q s[k])):=by rw[Pm.take_snoc s k hlt,Pm.a0i];exact rfl
   cases hb:Pm.a4q s[k]
   ·go_wp2_with (go_at_call 252;refine(Iz _ _).mono ?_;rintro e w' ⟨rfl,rfl⟩);go_ret;refine⟨Bd ?_,rfl⟩;have h1:=HS.out;rw[hb,C7z]at h1;exact(Pm.a0j h1).symm
   ·go_wp2_with (go_at_call 252;refine(Iz _ _).mono ?_;rintro e w' ⟨rfl,rfl⟩)
    go_round
    case rel=>exact⟨k+1,by omega,by go_num,by rw[HS.out,hb,H.out];exact rfl⟩
    case measure=>simp[intOf];omega
  ·go_wp2;go_ret;refine⟨Bd ?_,rfl⟩;have h1:=H.out;rw[Aq (by simp;omega)]at h1;exact h1.symm
theorem Sc(s:By)(w:World)(hs:s.size<=maxLen):
  Calls prog 176 #[.string s,.func (.func 301) #[] #[]] w λe w'=>e=.returned (.bool (Pm.a0h Pm.a5d s.data.toList))/\w'=w:=by
 unfold maxLen at hs;go_enter func176,ntmps176;go_wp2_with fail
 go_loop [5,8] (λ_ i=>∃k:Nat,k<=s.size/\i=.int .i64 k/\Hid (Pm.a0h Pm.a5d (s.data.toList.take k)=true)) (λ_ i=>s.size-(intOf i).toNat)
 case atStart=>exact⟨0,Ah _,rfl,rfl⟩
 case round=>
  obtain⟨k,hk,rfl,H⟩:=hrel;by_cases hlt:k<s.size
  ·have HS:Hid (Pm.a0h Pm.a5d (s.data.toList.take (k+1))=(Pm.a0h Pm.a5d (s.data.toList.take k)&&Pm.a5d s[k])):=by rw[Pm.take_snoc s k hlt,Pm.a0i];exact rfl
   cases hb:Pm.a5d s[k]
   ·go_wp2_with (go_at_call 301;refine(Kj _ _).mono ?_;rintro e w' ⟨rfl,rfl⟩);go_ret;refine⟨Bd ?_,rfl⟩;have h1:=HS.out;rw[hb,C7z]at h1;exact(Pm.a0j h1).symm
   ·go_wp2_with (go_at_call 301;refine(Kj _ _).mono ?_;rintro e w' ⟨rfl,rfl⟩)
    go_round
    case rel=>exact⟨k+1,by omega,by go_num,by rw[HS.out,hb,H.out];exact rfl⟩
    case measure=>simp[intOf];omega
  ·go_wp2;go_ret;refine⟨Bd ?_,rfl⟩;have h1:=H.out;rw[Aq (by simp;omega)]at h1;exact h1.symm
theorem Ct(s:By)(w:World)(hs:s.size<=maxLen):
  Calls prog 151 #[.string s] w λe w'=>e=.returned (.bool (Pm.a1x s.data.toList))/\w'=w:=by
 have hl:s.data.toList.length=s.size:=by simp
 have HL:Hid (s.data.toList.length=s.size):=hl;clear hl;have hs2:=hs;unfold maxLen at hs2;by_cases h:(s.size:Int)<=16
 all_goals
  go_enter func151,ntmps151;go_wp2_with (go_at_call 127;refine(Fg _ _ hs).mono ?_;rintro e w' ⟨rfl,rfl⟩);go_ret
 ·exact⟨Bd (by unfold Pm.a1x;rw[HL.out,Ak (by omega)];simp),rfl⟩
 ·exact⟨Bd (by unfold Pm.a1x;rw[HL.out,Ao (by omega)];simp),rfl⟩
theorem b0G(s:By)(c:UInt8)(w:World)(hs:s.size<=maxLen):
  Calls prog 272 #[.string s,.string ⟨#[c]⟩] w λe w'=>(∃a b:By,e=.returned (.tuple #[.string a,.string b,.bool (!(Pm.behind c s.data.toList).isEmpty)])/\a.data.toList=Pm.ahead c s.data.toList/\b.data.toList=(Pm.behind c s.data.toList).drop 1)/\∃n,w'=w.drewN n:=by
 have hl:s.data.toList.length=s.size:=by simp
 rcases Pm.a0r c s.data.toList with h|⟨r,h⟩
 ·obtain⟨h1,h2⟩:=Pm.a1s h;have H:Hid (Pm.behind c s.data.toList=[]):=h;have H2:Hid (Pm.ahead c s.data.toList=s.data.toList):=h2;clear h h2 hl;go_enter func272,ntmps272;go_wp2_with (go_at_call 321;refine(Tryz.stringslite_Index_one _ _ _).mono ?_;rintro e w' ⟨rfl,rfl⟩)
  go_ret3
  exact⟨⟨s,⟨#[]⟩,by rw[H.out];rfl,H2.out.symm,by rw[H.out];rfl⟩,0,rfl⟩
 ·have h1:=Pm.a1u h;have h3:(Pm.ahead c s.data.toList).length<s.size:=by
   have:=congrArg List.length (Pm.a0c c s.data.toList);rw[A0z,hl,h,A9z]at this;omega
  have HT:Hid ((s.data.toList).take (Pm.ahead c s.data.toList).length=Pm.ahead c s.data.toList):=Pm.a4o c _;have HD:Hid ((s.data.toList).drop (Pm.ahead c s.data.toList).length=Pm.behind c s.data.toList):=Pm.a1a c _;have HL:Hid (s.data.toList.length=s.size):=hl;have HB:Hid (Pm.behind c s.data.toList=c::r):=h;clear h hl;generalize Pm.ahead c s.data.toList=A at *
  generalize hn:A.length=n at *
  clear hn;unfold maxLen at hs;have h0:(0:Int)<=(n:Int):=by omega
  go_enter func272,ntmps272;go_wp2_with (go_at_call 321;refine(Tryz.stringslite_Index_one _ _ _).mono ?_;rintro e w' ⟨rfl,rfl⟩)
  go_quiet (fail)
  go_wp2
  go_ret3
  refine⟨⟨_,_,by rw[HB.out];rfl,?_,?_⟩,_,rfl⟩
  ·rw[Lib.extract_data,<-HT.out];simp
  ·rw[Lib.extract_data,<-HD.out,Aq (by rw[A6z,HL.out];omega),E2z]
theorem Sd(s:By)(c:UInt8)(w:World)(hs:s.size<=maxLen):
  Calls prog 225 #[.string s,.string ⟨#[c]⟩] w λe w'=>(∃a b:By,e=.returned (.tuple #[.string a,.string b,.bool (!(Pm.behind c s.data.toList).isEmpty)])/\a.data.toList=Pm.ahead c s.data.toList/\b.data.toList=(Pm.behind c s.data.toList).drop 1)/\∃n,w'=w.drewN n:=by
 go_enter func225,ntmps225;go_wp2_with fail;refine(b0G s c _ hs).mono ?_;rintro e w' ⟨⟨a,b,rfl,ha,hb⟩,n,rfl⟩;have HA:=(show Hid (a.data.toList=_)from ha);have HB:=(show Hid (b.data.toList=_)from hb);clear ha hb;go_wp2
 go_ret3
 exact⟨⟨a,b,rfl,HA.out,HB.out⟩,n,rfl⟩
theorem Ik(s:By)(w:World)(hs:s.size<=140737488355328):
  Calls prog 160 #[.string s] w λe w'=>e=.returned (.bool (Pm.a1z s.data.toList))/\Bw w w':=by
 have HT:Hid (Pm.a1z s.data.toList=(decide (Pm.unE s.data.toList=0)&&Lib.hasPrefix s.data.toList [47])):=by
  unfold Hid Pm.a1z;rw[Pm.a4w]
 go_enter func160,ntmps160;go_wp2_with fail;refine(Mo _ _ hs).mono ?_;rintro e w2 ⟨rfl,hb2⟩;by_cases h:Pm.unE s.data.toList=0
 ·rw[Ak h,D4z]at HT;rw[h];go_wp2_with (go_at_call 219;refine(Tryz.strings_HasPrefix _ _ _).mono ?_;rintro e w' ⟨rfl,rfl⟩);go_ret;exact⟨Bd HT.out.symm,hb2⟩
 ·rw[Ao h,C9z]at HT;have h3:(Pm.unE s.data.toList==0)=false:=by rw[Ar];exact h
  go_wp2;go_ret;exact⟨Bd HT.out.symm,hb2⟩
theorem Kk(s:By)(w:World)(hs:s.size<=maxLen):
  Calls prog 202 #[.string s] w λe w'=>(∃a b:By,e=.returned (.tuple #[.string a,.string b])/\a.data.toList=Pm.ahead 63 s.data.toList/\b.data.toList=Pm.behind 63 s.data.toList)/\Bw w w':=by
 unfold maxLen at hs;go_enter func202,ntmps202;go_wp2_with fail;refine(Sd s 63 _ hs).mono ?_;rintro e w1 ⟨⟨a,b,rfl,ha,hb⟩,n,rfl⟩;have hal:a.size<=s.size:=by
  have h3:=congrArg List.length (Pm.a0c 63 s.data.toList);rw[A0z,<-ha]at h3;simp at h3;omega
 have HA:=(show Hid (a.data.toList=_)from ha);have HX:Hid ((s.extract a.size s.size).data.toList=Pm.behind 63 s.data.toList):=by
  unfold Hid;rw[Lib.extract_data,Aq (by simp),<-Pm.a1a 63,<-ha];simp
 clear ha hb;generalize (!(Pm.behind 63 s.data.toList).isEmpty)=f at *
 have h0:(0:Int)<=(a.size:Int):=by omega
 go_wp2
 go_quiet (fail)
 go_wp2
 first|go_ret2|go_ret3
 exact⟨⟨a,_,rfl,HA.out,HX.out⟩,below_drewN (below_drewN (Ad _ _) n) _⟩
theorem Eo(s:By)(w:World)(hs:s.size<=140737488355328):
  Calls prog 201 #[.string s] w λe w'=>e=.returned (.bool (Pm.a2a s.data.toList))/\Bw w w':=by
 have hs2:s.size<=maxLen:=by unfold maxLen;omega
 have HT:Hid (Pm.a2a s.data.toList=(Pm.a1z (Pm.ahead 63 s.data.toList)&&Pm.a0h Pm.a4q s.data.toList)):=Pm.a2b _;go_enter func201,ntmps201;go_wp2_with fail;refine(Kk s _ hs2).mono ?_;rintro e w1 ⟨⟨a,b,rfl,ha,hb⟩,hbS⟩;have has:a.size<=140737488355328:=by
  have h3:=congrArg List.length (Pm.a0c 63 s.data.toList);rw[A0z,<-ha]at h3;simp at h3;omega
 rw[<-ha]at HT;clear ha hb
 cases h1:Pm.a1z a.data.toList
 ·rw[h1,C9z]at HT;go_wp2_with (go_at_call 160;refine(Ik _ _ has).mono ?_;rintro e w2 ⟨rfl,hb2⟩);go_ret;exact⟨Bd HT.out.symm,hbS.trans (hb2.mono hbS.size)⟩
 ·rw[h1,D4z]at HT;go_wp2_with (first|(go_at_call 160;refine(Ik _ _ has).mono ?_;rintro e w2 ⟨rfl,hb2⟩)|(go_at_call 176;refine(a4X _ _ hs2).mono ?_;rintro e w' ⟨rfl,rfl⟩));go_ret;exact⟨Bd HT.out.symm,hbS.trans (hb2.mono hbS.size)⟩
theorem b9A{x y z:UInt8}(h1:Pm.a0u x=true)(h2:(y.toNat:Int)=46):Pm.a0u z=Pm.a5e [x,y,z]:=by
 have hy:y=46:=UInt8.toNat_inj.1 (by show y.toNat=46;omega);simp[Pm.a5e,h1,hy]
theorem b9B{x y z:UInt8}(h1:¬Pm.a0u x=true):false=Pm.a5e [x,y,z]:=by
 simp[Pm.a5e,h1]
theorem b9C{x y z:UInt8}(h2:¬(y.toNat:Int)=46):false=Pm.a5e [x,y,z]:=by
 have hy:¬y=46:=λh=>h2 (by rw[h];rfl);simp[Pm.a5e,hy]
theorem Ht(s:By)(w:World):
  Calls prog 336 #[.string s] w λe w'=>e=.returned (.bool (Pm.a2e s.data.toList))/\w'=w:=by
 cases h1:Lib.hasPrefix s.data.toList [72,84,84,80,47]
 ·have HV:Hid (Pm.a2e s.data.toList=false):=by unfold Hid Pm.a2e Pm.a1p;rw[h1];rfl
  go_enter func336,ntmps336;go_wp2_with (go_at_call 269;refine(Tryz.strings_CutPrefix _ _ _).mono ?_;rintro e w' ⟨rfl,rfl⟩);go_ret;exact⟨Bd HV.out.symm,rfl⟩
 ·have HV:Hid (Pm.a2e s.data.toList=Pm.a5e (Lib.trimPrefix s.data.toList [72,84,84,80,47])):=by unfold Hid Pm.a2e Pm.a1p;rw[h1];rfl
  go_enter func336,ntmps336;go_wp2_with fail;refine(Tryz.strings_CutPrefix _ _ _).mono ?_;rintro e w' ⟨rfl,rfl⟩;rw[show(⟨#[72,84,84,80,47]⟩:By).data.toList=[72,84,84,80,47]from rfl,h1];clear h1;generalize Lib.trimPrefix s.data.toList [72,84,84,80,47]=d at *
  by_cases hl:d.length=3
  ·match d,hl with
   |[x,y,z],_=>
    go_wp2_with (go_at_call 236;refine(Ey _ _).mono ?_;rintro e w2 ⟨rfl,rfl⟩)
    all_goals
     go_ret;refine⟨Bd ?_,rfl⟩;rw[HV.out]
     first
      |exact b9A (x:=x) (y:=y) (z:=z) (by assumption) (by assumption)
      |exact b9B (x:=x) (y:=y) (z:=z) (by assumption)
      |exact b9C (x:=x) (y:=y) (z:=z) (by assumption)
  ·have hl2:(((⟨d.toArray⟩:By).size:Int)==3)=false:=by
    rw[Ar];intro h;exact hl (by have h':((d.toArray.size:Nat):Int)=3:=h;simp at h';omega)
   have HF:Hid (Pm.a5e d=false):=by
    unfold Hid
    match d,hl with
    |[],_=>rfl
    |[_],_=>rfl
    |[_,_],_=>rfl
    |[_,_,_],h=>exact absurd rfl h
    |_::_::_::_::_,_=>rfl
   clear hl;generalize (⟨d.toArray⟩:By)=dd at *
   go_wp2;go_ret;exact⟨Bd (by rw[HV.out,HF.out]),rfl⟩
theorem b0H(c:UInt8)(w:World):
  Calls prog 303 #[.int .u8 c.toNat] w λe w'=>e=.returned (.int .u8 (Pm.low c).toNat)/\w'=w:=by
 have h0:=c.toNat_lt;have hl:=Pm.a2r c;have HL:Hid ((Pm.low c).toNat=if 65<=c.toNat/\c.toNat<=90 then c.toNat+32 else c.toNat):=hl;clear hl;rcases(show(c.toNat:Int)<65\/90<(c.toNat:Int)\/(65<=(c.toNat:Int)/\(c.toNat:Int)<=90)from by omega)with h|h|h
 ·go_enter func303,ntmps303;go_wp2;go_ret;exact⟨Gf (by rw[HL.out,if_neg (by omega)]),rfl⟩
 ·go_enter func303,ntmps303;go_wp2;go_ret;exact⟨Gf (by rw[HL.out,if_neg (by omega)]),rfl⟩
 ·obtain⟨h1,h2⟩:=h;go_enter func303,ntmps303;go_wp2;go_ret;exact⟨Gf (by rw[HL.out,if_pos (by omega)];omega),rfl⟩
theorem Ek(a b:By)(w:World)(ha:a.size<=maxLen):
  Calls prog 246 #[.string a,.string b] w λe w'=>e=.returned (.bool (Pm.a0d a.data.toList b.data.toList))/\Bw w w':=by
 have hla:a.data.toList.length=a.size:=by simp
 have hlb:b.data.toList.length=b.size:=by simp
 have HA:Hid (a.data.toList.length=a.size):=hla;have HB:Hid (b.data.toList.length=b.size):=hlb;clear hla hlb;unfold maxLen at ha;by_cases hl:a.size=b.size
 ·have hl2:((a.size:Int) != (b.size:Int))=false:=by rw[hl];simp
  have HE:Hid (a.size=b.size):=hl;clear hl;go_enter func246,ntmps246;go_wp2
  go_loopw [5,13] (λ_ i wr=>∃k:Nat,k<=a.size/\i=.int .i64 k/\Hid ((a.data.toList.take k).map Pm.low=(b.data.toList.take k).map Pm.low)/\Bw w wr) (λ_ i _=>a.size-(intOf i).toNat)
  case atStart=>exact⟨0,Ah _,rfl,rfl,Ad _ _⟩
  case round=>
   obtain⟨k,hk,rfl,H,hbw⟩:=hrel;by_cases hlt:k<a.size
   ·have hlt2:k<b.size:=by rw[<-HE.out];exact hlt
    go_wp2
    go_quiet ((go_at_call 303;exact Calls.quiet_of_same (b0H _ _)))
    by_cases he:Pm.low a[k]=Pm.low b[k]
    ·have h2:(((Pm.low a[k]).toNat:Int) != ((Pm.low b[k]).toNat:Int))=false:=by rw[he];simp
     have HS:=(show Hid _ from Pm.a2s hlt hlt2 he H.out);clear he;go_wp2
     go_roundw
     case rel=>exact⟨k+1,by omega,by go_num,HS,below_drewN hbw _⟩
     case measure=>simp[intOf];omega
    ·have h2:(((Pm.low a[k]).toNat:Int) != ((Pm.low b[k]).toNat:Int))=true:=by
      rw[bne_iff_ne];intro h;exact he (UInt8.toNat_inj.1 (by omega))
     have HF:=(show Hid _ from Pm.a0e hlt hlt2 he);clear he;go_wp2;go_ret;exact⟨Bd HF.out.symm,below_drewN hbw _⟩
   ·go_wp2;go_ret;exact⟨Bd (Pm.a4p (by rw[HA.out,HB.out];exact HE.out) (by rw[HA.out];omega) H.out).symm,hbw⟩
 ·have hl2:((a.size:Int) != (b.size:Int))=true:=by rw[bne_iff_ne];omega
  have HF:Hid (Pm.a0d a.data.toList b.data.toList=false):=Pm.a0f (by rw[HA.out,HB.out];exact hl);clear hl;go_enter func246,ntmps246;go_wp2;go_ret;exact⟨Bd HF.out.symm,Ad _ _⟩
theorem Ov(s al:By)(w:World)(hs:s.size<=maxLen)(hal:al.size<=maxLen):
  Calls prog 128 #[.string s,.string al] w λe w'=>e=.returned (.bool (Pm.a0h (Pm.inB al.data.toList) s.data.toList))/\w'=w:=by
 unfold maxLen at hs;go_enter func128,ntmps128;go_wp2
 go_loop [5,6] (λi _=>∃k:Nat,k<=s.size/\i=.int .i64 k/\Hid (Pm.a0h (Pm.inB al.data.toList) (s.data.toList.take k)=true)) (λi _=>s.size-(intOf i).toNat)
 case atStart=>exact⟨0,Ah _,rfl,rfl⟩
 case round=>
  obtain⟨k,hk,rfl,H⟩:=hrel;by_cases hlt:k<s.size
  ·have HS:Hid (Pm.a0h (Pm.inB al.data.toList) (s.data.toList.take (k+1))=(Pm.a0h (Pm.inB al.data.toList) (s.data.toList.take k)&&decide (0<=Lib.indexByte al.data.toList s[k]))):=by rw[Pm.take_snoc s k hlt,Pm.a0i];exact rfl
   by_cases hb:Lib.indexByte al.data.toList s[k]<0
   ·go_wp2_with (go_at_call 178;refine(Hf _ _ _ hal).mono ?_;rintro e w' ⟨rfl,rfl⟩);have h1:=HS.out;rw[Ao (by omega),C7z]at h1;go_ret;exact⟨Bd (Pm.a0j h1).symm,rfl⟩
   ·go_wp2_with (go_at_call 178;refine(Hf _ _ _ hal).mono ?_;rintro e w' ⟨rfl,rfl⟩)
    go_round
    case rel=>exact⟨k+1,by omega,by go_num,by unfold Hid;rw[HS.out,Ak (by omega),H.out];rfl⟩
    case measure=>simp[intOf];omega
  ·go_wp2;go_ret;refine⟨Bd ?_,rfl⟩;have h1:=H.out;rw[Aq (by simp;omega)]at h1;exact h1.symm
theorem Mp(s:By)(w:World)(hs:s.size<=maxLen):
  Calls prog 103 #[.string s] w λe w'=>e=.returned (.bool (Pm.a1x s.data.toList))/\w'=w:=by
 have HL:Hid (s.data.toList.length=s.size):=by show s.data.toList.length=s.size;simp
 have hs2:=hs;unfold maxLen at hs2
 cases h:Pm.a2c s.data.toList
 ·go_enter func103,ntmps103;go_wp2_with (go_at_call 70;refine(Gg _ _ hs).mono ?_;rintro e w' ⟨rfl,rfl⟩);go_ret;exact⟨Bd (by unfold Pm.a1x;rw[h,C7z]),rfl⟩
 ·go_enter func103,ntmps103;go_wp2_with (go_at_call 70;refine(Gg _ _ hs).mono ?_;rintro e w' ⟨rfl,rfl⟩);go_ret;exact⟨Bd (by unfold Pm.a1x;rw[h,Bool.and_true,HL.out];simp;omega),rfl⟩
theorem Vp{s:By}(h:¬0<s.size):Lib.hasPrefix s.data.toList [47]=false:=by
 obtain⟨⟨l⟩⟩:=s
 cases l with
 |nil=>rfl
 |cons a r=>exact absurd (by simp[ByteArray.size]) h
theorem a8L{s:By}(h:0<s.size):Lib.hasPrefix s.data.toList [47]=((s[0].toNat:Int)==47):=by
 obtain⟨⟨l⟩⟩:=s
 cases l with
 |nil=>exact absurd h (by simp[ByteArray.size])
 |cons a r=>
  show([47]:L8).isPrefixOf (a::r)=((a.toNat:Int)==47);have h2:([47]:L8).isPrefixOf (a::r)=(47==a):=by simp[List.isPrefixOf]
  rw[h2];have:=Pm.a0g (p:=λa=>((47:UInt8)==a)==((a.toNat:Int)==47)) (by decide +kernel) a;simpa using this
theorem Il(s:By)(w:World)(hs:s.size<=maxLen):
  Calls prog 107 #[.string s] w λe w'=>e=.returned (.bool (Pm.a1z s.data.toList))/\Bw w w':=by
 have HT:Hid (Pm.a1z s.data.toList=(decide (Pm.unE s.data.toList=0)&&Lib.hasPrefix s.data.toList [47])):=by
  unfold Hid Pm.a1z;rw[Pm.a4w]
 go_enter func107,ntmps107;go_wp2_with fail;refine(Mn _ _ hs).mono ?_;rintro e w2 ⟨rfl,hb2⟩;unfold maxLen at hs;by_cases h:Pm.unE s.data.toList=0
 ·rw[Ak h,D4z]at HT;rw[h];by_cases h0:0<s.size
  ·have HP:=hid (a8L h0);go_wp2;go_ret;exact⟨Bd (by rw[HT.out,HP.out]),hb2⟩
  ·have HP:=hid (Vp h0);go_wp2;go_ret;exact⟨Bd (by rw[HT.out,HP.out]),hb2⟩
 ·rw[Ao h,C9z]at HT;have h3:(Pm.unE s.data.toList==0)=false:=by rw[Ar];exact h
  go_wp2;go_ret;exact⟨Bd HT.out.symm,hb2⟩
theorem Us(s:By)(w:World)(hs:s.size<=maxLen):
  Calls prog 146 #[.string s] w λe w'=>e=.returned (.bool (Pm.a2a s.data.toList))/\Bw w w':=by
 have HT:Hid (Pm.a2a s.data.toList=(Pm.a1z (Pm.ahead 63 s.data.toList)&&Pm.a0h Pm.a4q s.data.toList)):=Pm.a2b _;have HS0:Hid (s.size<=maxLen):=hs;unfold maxLen at hs;go_enter func146,ntmps146;go_wp2_with fail
 go_loop [3] (λi=>∃k:Nat,k<=s.size/\i=.int .i64 k/\Hid (Pm.a0h Pm.a4q (s.data.toList.take k)=true)) (λi=>s.size-(intOf i).toNat)
 case atStart=>exact⟨0,Ah _,rfl,rfl⟩
 case round=>
  obtain⟨k,hk,rfl,H⟩:=hrel;by_cases hlt:k<s.size
  ·have HS:Hid (Pm.a0h Pm.a4q (s.data.toList.take (k+1))=(Pm.a0h Pm.a4q (s.data.toList.take k)&&Pm.a4q s[k])):=by rw[Pm.take_snoc s k hlt,Pm.a0i];exact rfl
   have hc0:=s[k].toNat_lt;have bad:Pm.a4q s[k]=false->Pm.a2a s.data.toList=false:=by
    intro hb;have h1:=HS.out;rw[hb,C7z]at h1;rw[HT.out,Pm.a0j h1,C7z]
   have BAD:=hid bad;clear bad;rcases(show(s[k].toNat:Int)<33\/(s[k].toNat:Int)=35\/126<(s[k].toNat:Int)\/(33<=(s[k].toNat:Int)/\(s[k].toNat:Int)<=126/\¬(s[k].toNat:Int)=35)from by omega)with h|h|h|h
   ·have HB:=hid (show Pm.a4q s[k]=false by simp[Pm.a4q];omega);go_wp2;go_ret;exact⟨Bd (BAD.out HB.out).symm,Ad _ _⟩
   ·have HB:=hid (show Pm.a4q s[k]=false by simp[Pm.a4q];omega);have h1:((s[k].toNat:Int)==35)=true:=by rw[beq_iff_eq];exact h
    go_wp2;go_ret;exact⟨Bd (BAD.out HB.out).symm,Ad _ _⟩
   ·have HB:=hid (show Pm.a4q s[k]=false by simp[Pm.a4q];omega);go_wp2;go_ret;exact⟨Bd (BAD.out HB.out).symm,Ad _ _⟩
   ·obtain⟨h2,h3,h4⟩:=h;have HB:=hid (show Pm.a4q s[k]=true by simp[Pm.a4q];omega);have h1:((s[k].toNat:Int)==35)=false:=by rw[Ar];exact h4
    clear h4;go_wp2
    go_round
    case rel=>exact⟨k+1,by omega,by go_num,by unfold Hid;rw[HS.out,HB.out,H.out];exact rfl⟩
    case measure=>simp[intOf];omega
  ·have HA:Hid (Pm.a0h Pm.a4q s.data.toList=true):=by
    have h1:=H.out;rw[Aq (by simp;omega)]at h1;exact h1
   go_wp2_with fail;refine(Fv s 63 _ HS0.out).mono ?_;rintro e w1 ⟨⟨a,b,rfl,ha,hb⟩,hb1⟩;have has:a.size<=maxLen:=by
    have h3:=congrArg List.length (Pm.a0c 63 s.data.toList);rw[A0z,<-ha]at h3;have h4:=HS0.out;simp at h3;omega
   have HR:=HT.out;rw[<-ha,HA.out,Bool.and_true]at HR;have HR2:=hid HR;clear HR ha hb;go_wp2_with (go_at_call 107;refine(Il _ _ has).mono ?_;rintro e w2 ⟨rfl,hb2⟩);go_ret;exact⟨Bd HR2.out.symm,hb1.trans (hb2.mono hb1.size)⟩
theorem b4A{c:UInt8}(h:((c.toNat:Int)==32)=true):Pm.a1v c=true:=by simp at h;simp[Pm.a1v,h]
theorem c1O{c:UInt8}(h:((c.toNat:Int)==9)=true):Pm.a1v c=true:=by simp at h;simp[Pm.a1v,h]
theorem c4O{c:UInt8}(h:((c.toNat:Int)==32)=false)(h':((c.toNat:Int)==9)=false):Pm.a1v c=false:=by
 rw[Ar]at h h';simp[Pm.a1v];omega
theorem b4B(n:Nat):∀(s:By) (w:World),s.size<=n->s.size<=maxLen ->
  Calls prog 244 #[.string s] w λe w'=>(∃o:By,e=.returned (.string o)/\o.data.toList=Lib.trimS s.data.toList Pm.a0s)/\Bw w w':=by
 induction n with
 |zero=>
  intro s w hn hs;have h0:¬0<s.size:=by omega
  have HR:=hid (Pm.a0p s (λh=>absurd h h0) (λh=>absurd h h0));unfold maxLen at hs;go_enter func244,ntmps244;go_wp2;go_ret;exact⟨⟨s,rfl,HR.out.symm⟩,Ad _ _⟩
 |succ n ih=>
  intro s w hn hs;have IH:=hid ih;clear ih;unfold maxLen at hs;by_cases h0:0<s.size
  ·have HF:=hid (Pm.a0q s h0);have HB:=hid (Pm.a0o s h0);have HD:=hid (Pm.a0p s);have hz1:(s.extract 1 s.size).size<=n:=by simp;omega
   have hz2:(s.extract 0 (s.size-1)).size<=n:=by simp;omega
   have hy1:(s.extract 1 s.size).size<=maxLen:=by unfold maxLen;simp;omega
   have hy2:(s.extract 0 (s.size-1)).size<=maxLen:=by unfold maxLen;simp;omega
   cases ha:((s[0].toNat:Int)==32)
   ·cases hb:((s[0].toNat:Int)==9)
    ·cases hc:((s[s.size-1].toNat:Int)==32)
     ·cases hd:((s[s.size-1].toNat:Int)==9)
      ·have HR:=hid (HD.out (λ_=>c4O ha hb) (λ_=>c4O hc hd));go_enter func244,ntmps244;go_wp2;go_ret;exact⟨⟨s,rfl,HR.out.symm⟩,Ad _ _⟩
      ·have HR:=hid (HB.out (c1O hd));go_enter func244,ntmps244;go_wp2_with (go_at_call 244;refine(IH.out _ _ hz2 hy2).mono ?_;rintro e w' ⟨⟨o,rfl,ho⟩,hb1⟩);go_ret;exact⟨⟨o,rfl,by rw[ho,HR.out]⟩,hb1⟩
     ·have HR:=hid (HB.out (b4A hc));go_enter func244,ntmps244;go_wp2_with (go_at_call 244;refine(IH.out _ _ hz2 hy2).mono ?_;rintro e w' ⟨⟨o,rfl,ho⟩,hb1⟩);go_ret;exact⟨⟨o,rfl,by rw[ho,HR.out]⟩,hb1⟩
    ·have HR:=hid (HF.out (c1O hb));go_enter func244,ntmps244;go_wp2_with (go_at_call 244;refine(IH.out _ _ hz1 hy1).mono ?_;rintro e w' ⟨⟨o,rfl,ho⟩,hb1⟩);go_ret;exact⟨⟨o,rfl,by rw[ho,HR.out]⟩,hb1⟩
   ·have HR:=hid (HF.out (b4A ha));go_enter func244,ntmps244;go_wp2_with (go_at_call 244;refine(IH.out _ _ hz1 hy1).mono ?_;rintro e w' ⟨⟨o,rfl,ho⟩,hb1⟩);go_ret;exact⟨⟨o,rfl,by rw[ho,HR.out]⟩,hb1⟩
  ·have HR:=hid (Pm.a0p s (λh=>absurd h h0) (λh=>absurd h h0));go_enter func244,ntmps244;go_wp2;go_ret;exact⟨⟨s,rfl,HR.out.symm⟩,Ad _ _⟩
theorem Vq(s:By)(w:World)(hs:s.size<=maxLen):
  Calls prog 244 #[.string s] w λe w'=>(∃o:By,e=.returned (.string o)/\o.data.toList=Lib.trimS s.data.toList Pm.a0s)/\Bw w w':=b4B s.size s w (Ac _) hs
theorem Xc(s:By)(w:World)(hs:s.size<=maxLen):
  Calls prog 197 #[.string s] w λe w'=>e=.returned (.bool (Pm.a2d s.data.toList))/\Bw w w':=by
 have HS0:Hid (s.size<=maxLen):=hs;unfold maxLen at hs;go_enter func197,ntmps197;go_wp2_with fail
 go_loop [3] (λi=>∃k:Nat,k<=s.size/\i=.int .i64 k/\Hid (Pm.a0h Pm.a5d (s.data.toList.take k)=true)) (λi=>s.size-(intOf i).toNat)
 case atStart=>exact⟨0,Ah _,rfl,rfl⟩
 case round=>
  obtain⟨k,hk,rfl,H⟩:=hrel;by_cases hlt:k<s.size
  ·have HS:Hid (Pm.a0h Pm.a5d (s.data.toList.take (k+1))=(Pm.a0h Pm.a5d (s.data.toList.take k)&&Pm.a5d s[k])):=by rw[Pm.take_snoc s k hlt,Pm.a0i];exact rfl
   have hc0:=s[k].toNat_lt;have BAD:Hid (Pm.a5d s[k]=false->Pm.a2d s.data.toList=false):=by
    intro hb;have h1:=HS.out;rw[hb,C7z]at h1;unfold Pm.a2d;rw[Pm.a0j h1,C9z]
   have next:Pm.a5d s[k]=true->Hid (Pm.a0h Pm.a5d (s.data.toList.take (k+1))=true):=λh=>by unfold Hid;rw[HS.out,h,H.out];exact rfl
   have NEXT:=hid next
   clear next
   rcases(show(s[k].toNat:Int)=9\/(s[k].toNat:Int)=127\/(¬(s[k].toNat:Int)=9/\(s[k].toNat:Int)<32)\/(32<=(s[k].toNat:Int)/\¬(s[k].toNat:Int)=127)from by omega)with h|h|h|h
   ·have HB:=hid (show Pm.a5d s[k]=true by simp[Pm.a5d];omega);have h1:((s[k].toNat:Int) != 9)=false:=by rw[h];rfl
    go_wp2
    go_round
    case rel=>exact⟨k+1,by omega,by go_num,NEXT.out HB.out⟩
    case measure=>simp[intOf];omega
   ·have HB:=hid (show Pm.a5d s[k]=false by simp[Pm.a5d];omega);have h1:((s[k].toNat:Int) != 9)=true:=by rw[h];rfl
    have h2:((s[k].toNat:Int)==127)=true:=by rw[h];rfl
    go_wp2;go_ret;exact⟨Bd (BAD.out HB.out).symm,Ad _ _⟩
   ·obtain⟨h2,h3⟩:=h;have HB:=hid (show Pm.a5d s[k]=false by simp[Pm.a5d];omega);have h1:((s[k].toNat:Int) != 9)=true:=by rw[bne_iff_ne];exact h2
    clear h2;go_wp2;go_ret;exact⟨Bd (BAD.out HB.out).symm,Ad _ _⟩
   ·obtain⟨h2,h3⟩:=h;have HB:=hid (show Pm.a5d s[k]=true by simp[Pm.a5d];omega);have h1:((s[k].toNat:Int) != 9)=true:=by rw[bne_iff_ne];omega
    have h4:((s[k].toNat:Int)==127)=false:=by rw[Ar];exact h3
    clear h3;go_wp2
    go_round
    case rel=>exact⟨k+1,by omega,by go_num,NEXT.out HB.out⟩
    case measure=>simp[intOf];omega
  ·have HA:Hid (Pm.a2d s.data.toList=(Lib.trimS s.data.toList Pm.a0s==s.data.toList)):=by
    have h1:=H.out;rw[Aq (by simp;omega)]at h1;unfold Hid Pm.a2d;rw[h1,D4z]
   go_wp2_with (go_at_call 244;refine(Vq _ _ HS0.out).mono ?_;rintro e w' ⟨⟨o,rfl,ho⟩,hb1⟩);go_ret;exact⟨Bd (by rw[HA.out,<-ho,A1z,A1z]),hb1⟩
theorem Ds(a b:By)(w:World)(ha:a.size<=maxLen)(hb:b.size<=maxLen):
  Calls prog 189 #[.string a,.string b] w λe w'=>e=.returned (.bool (Pm.a0d a.data.toList b.data.toList))/\w'=w:=by
 go_enter func189,ntmps189;go_wp2_with fail;refine(Ms a _ ha).mono ?_;rintro e w' ⟨⟨o,rfl,ho⟩,rfl⟩;go_wp2_with fail;refine(Ms b _ hb).mono ?_;rintro e w' ⟨⟨p,rfl,hp⟩,rfl⟩;have HO:=hid ho;have HP:=hid hp;clear ho hp;go_wp2;go_ret;refine⟨Bd ?_,rfl⟩;unfold Pm.a0d;rw[A1z,A1z,HO.out,HP.out,Pm.a2t,Pm.a2t]
end Go.Proofs.YtbiggccolpchcaaGreatDoor
