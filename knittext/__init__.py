"""The shortest text of a row: texts of knitting rows read, weighed, told and proved."""
