/- Joined. -/
import Derived.Test.YtbiggccolpchcaaGreatDoorJoin28
namespace Go.Proofs.YtbiggccolpchcaaGreatDoor
open Go.RowKit _root_.Go.Proofs.Tryz
def Bi(l:L8)(hd bd:Int):Ed:=if 32<=hd/\hd<=500/\0<=bd/\bd<=200 then Cc l hd.toNat bd else Kt 1
theorem a2J(l:L8)(hd:Nat)(bd:Int):(Cc l hd bd).2.2.2.1.length<=hd:=by
 unfold Cc;have hf:=Jq (hd+1) true l hd [] [] [] 0;generalize Pm.a1o (hd+1) true l hd [] [] [] 0=H at *
 simp only
 split
 ·exact Ah _
 ·rename_i h1
  split
  ·exact Ah _
  ·split
   ·exact Ah _
   ·have:=(hf (by simpa using h1)).1;simpa using this
def c2P(FR:Ed)(B:Nat)(r:Ending)(w':World):Prop:=
 ∃v,r=.returned (.tuple #[.agg #[.string ⟨FR.2.1.toArray⟩,.string ⟨FR.2.2.1.toArray⟩,v,.string ⟨FR.2.2.2.2.1.toArray⟩],.int .i64 FR.2.2.2.2.2,.int .i64 FR.1])/\w'.ownsRow B 131 2 v FR.2.2.2.1.length (Ih FR.2.2.2.1)
theorem a2K(hd bd:Int)(s:By)(w:World)(hs:s.size<=281474976710656):
  Calls prog 80 #[.agg #[.int .i64 hd,.int .i64 bd],.string s] w λr w'=>c2P (Bi s.data.toList hd bd) w.heap.size r w'/\Bw w w':=by
 unfold Bi;by_cases h:32<=hd/\hd<=500/\0<=bd/\bd<=200
 ·rw[if_pos h];obtain⟨n,rfl⟩:∃n:Nat,hd=n:=⟨hd.toNat,by omega⟩;rw[Int.toNat_natCast];exact a6U n bd s w hs (by omega) (by omega) (by omega) (by omega)
 ·rw[if_neg h];refine(a6V hd bd s w h).mono ?_;rintro e w' ⟨rfl,hb⟩;exact⟨⟨.slice none 0 0,rfl,Am _ _ _ _⟩,hb⟩
end Go.Proofs.YtbiggccolpchcaaGreatDoor
