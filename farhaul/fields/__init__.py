"""Binary polynomials and finite fields."""
