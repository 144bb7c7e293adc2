"""Links: data that are sent in frames, in the words of a root code and the rows of a shift register."""
